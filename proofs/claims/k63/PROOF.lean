import PyProof.Rows.All
import Wide.All
import OpenK.AllK
import Wide.FinOn
import Lean
import PyProof.EqAt
import PyProof.EqKinds
import PyProof.TupleCall
import PyProof.TupleKey
import PyProof.DictRoadsH
import PyProof.StationsW
import PyProof.DictWalks
import PyProof.DictItemsLoops
import KE.KPairComp
import KE.KDictList
import PyProof.StrWalks
import PyProof.ConsumeWalk
import PySem.SetOps
import KE.KSortTup
import PyProof.DictUpdate
import PyProof.ExcClass2
import PyProof.ExcClass3
import PyProof.ExcArgsOwn
import PyProof.ExcAttrAll.ValueError
import PyProof.InstStoreFacts
import PyProof.StrLawsRepr
import PyProof.ReprStr
import PyProof.NsDelKeeps
import PyProof.RulesAs
import KE.KIsAll
import KE.KRevIter
import PyProof.EnumMake
import PyProof.MeetsSeq
import PySem.Challenge.RW_twinrounds_k63_hands_refused
set_option genInjectivity false
set_option compiler.extract_closed false
set_option genSizeOf false
set_option Elab.async false
set_option linter.all false
set_option maxRecDepth 100000
set_option maxHeartbeats 4000000
open Array renaming length_toList->hJ,getElem?_eq_some_iff->wx,forIn_toList->xB,replicate->A4,mk->AL,toList->D9,mem_toList_iff->DE,toList_inj->ES,getElem?_toList->Fu,getElem?_eq_getElem->FX,toList_map->LD,perm_iff_toList_perm->ML,getD_eq_getD_getElem?->MM,getElem?_eq_none->N0,getElem?_setIfInBounds_ne->Nc
open Bool renaming false_ne_true->dP,and_eq_true->eW,false_eq_true->ff,eq_iff_iff->kL,not_true->lx,true_and->CI,false_and->Da,and_true->EM,eq_false_iff->Fn,not_false->Iq,false_or->KF,or_eq_true_iff->LZ,or_true->Nw,and_eq_true_iff->OC
open Classical renaming byContradiction->BQ
open False renaming elim->gv
open ForInStep renaming yield->wv
open Function renaming comp_def->fN
open Int renaming toNat_natCast->ip,emod_nonneg->xo,emod_lt_of_pos->xp,le_refl->CL,toNat_of_nonneg->Fs,fdiv_eq_ediv_of_nonneg->IS,ediv_one->K2
open List renaming length_map->aI,map_cons->bn,range->br,mem_map->bv,mem_cons->bX,lookup->ce,map_map->cp,length_cons->cq,lookup_cons->cr,size_toArray->cS,mem_cons_of_mem->da,getElem?_map->db,mem_range->de,getElem?_eq_getElem->dQ,mem_cons_self->eD,length_append->eI,mem_append->eR,length->eS,map_append->f6,set_cons_zero->fq,set_cons_succ->fw,all_eq_true->fI,nodup_append->fR,append_nil->gg,getElem?_set_ne->gi,map_nil->gy,getElem_mem->gX,length_take->i6,pairwise_map->iO,getElem?_eq_some_iff->jp,mem_singleton->ke,getElem?_cons_zero->kg,nil_append->ko,getElem?_append_right->ku,getElem?_cons_succ->kz,mem_append_right->kK,getElem?_append_left->kR,pairwise_cons->lj,nodup_cons->mo,length_nil->mB,Nodup->mN,getElem?_set_self->nh,mem_filter->nX,length_range->oy,length_eq_zero_iff->qv,getElem?_eq_none->qA,length_set->qB,replicate->si,mem_of_getElem?->sk,length_drop->sq,any_cons->sD,find?_cons->sK,map_congr_left->tf,mem_iff_getElem->tm,map_take->tq,getD_eq_getElem?_getD->tJ,replicate_succ->ub,replicate_zero->uk,cons_append->uu,mem_append_left->vk,all_cons->wf,drop_eq_getElem_cons->x5,pairwise_iff_getElem->xa,mem_of_mem_take->xb,length_replicate->yk,length_singleton->yT,nodup_range->zD,mem_iff_getElem?->zI,getElem?_zip_eq_some->zS,map_drop->A9,zip_cons_cons->AI,drop_length->Bi,append_assoc->Bz,eq_nil_of_length_eq_zero->BE,getElem_of_mem->BF,mem_erase_of_ne->BM,length_erase_of_mem->BN,length_pos_of_mem->BO,take_append_drop->BS,mem_of_find?_eq_some->BU,getElem?_range->BY,foldr_cons->C9,filterMap_cons->D5,mem_filterMap->DD,of_mem_zip->DU,getElem?_replicate->DV,getElem?_take_of_lt->DZ,take_sublist->E1,filterMap_map->Ee,getElem?_drop->EG,take_of_length_le->EI,range_succ->EJ,set_append_right->EN,length_pos_iff->EV,getD->F4,any_map->F5,getElem?_inj->Fa,mem_of_mem_drop->Fc,find?_some->Fh,find?_eq_none->Fk,perm_middle->FH,take_succ->HC,take_length->HE,length_filter_le->HI,getElem_map->HL,any_eq_false->IT,nodup_nil->KW,drop_zero->L9,ext_getElem?->Lc,range_succ_eq_map->Ll,not_mem_nil->Lm,any_eq_true->LJ,drop_of_length_le->LN,getElem_take->LW,pairwise_append->LX,pairwise_lt_range->M1,ext_getElem->Md,find?_isSome->MD,toArray->MO,not_lt->MU,length_eraseIdx->MV,contains_cons->Nn,getElem?_set->NA,idxOf_lt_length_iff->NM,getElem_idxOf->NO,filter_cons->NR,filter_sublist->NS,findSome?_cons->NY,findSome?_eq_none_iff->Of,eraseIdx_eq_take_drop_succ->On
open List.Nodup renaming sublist->HA
open List.Pairwise renaming imp_of_mem->ra,nil->BG,imp->HG
open List.Perm renaming refl->A8,cons->C6,swap->MG
open List.cons renaming injEq->xC
open Nat renaming le_refl->aS,ne_of_lt->bS,le_trans->dA,lt_of_lt_of_le->fE,zero_le->gL,le_succ->kr,lt_irrefl->kG,not_lt->mE,lt_succ_of_lt->ny,zero_add->nE,ne_of_gt->pw,lt_of_le_of_lt->sN,sub_self->sQ,reduceAdd->u7,reduceSub->ua,le_of_lt->vj,lt_succ_self->y9,lt_or_ge->zt,le_of_lt_succ->A3,add_assoc->AH,le_of_eq->AV,le_succ_of_le->Bn,lt_trichotomy->BI,mod_lt->C0,mul_comm->CH,min_self->EL,le_zero->HK,lt_trans->KL,succ_ne_self->L7,min_eq_left->LL,min_eq_right->LM,lt_or_eq_of_le->LS,add_zero->LY,succ_pos->M0,pos_of_ne_zero->MB,mul_add_div->NU,div_eq_of_lt->NV,mul_add_mod->NW,mod_eq_of_lt->NX,exists_eq_succ_of_ne_zero->Os,le_total->Oy,le_one_iff_eq_zero_or_eq_one->OB
open Nat.succ renaming inj->xl
open Ne renaming symm->cf
open Option renaming bind_some->cw,map_some->iq,map_eq_some_iff->kD,isNone_iff_eq_none->x8,isSome_map->zd,bind_eq_some_iff->A5,isSome_iff_exists->AW,getD->C5,getD_none->Kk,none->L6,bind_eq_bind->M2
open Option.some renaming inj->dc,injEq->F3
open Or renaming inr->d6,inl->eP
open Prod renaming ext->so
open Prod.mk renaming injEq->rl,inj->Iy
open PyProof.Rows renaming envOfC->io,AllBare->nc,seqObj->rd,IntsAre->sB,isTrue_and->vv,subscriptTail->B0,StrsAre->Cc,isTrue_and_nil->D7,isTrue_not->D8,callWith_type1->DC,slot_tuple_getitem->EA,Subscript_->EB,listUpdate_at->FL,seqEpoch_at->FR,entry_proto_collect'->FY,entry_list_iadd'->G0,kind_sorted->Gc,plain_sorted->GA,entry_sorted->GB,args_sorted1->GE,slot_list_sort->GH,entry_list_sort->GI,args_list_sort->GL,sortedHeap_at->GM,sortedHeap_old->GN,arrOf->GO,subscriptTail_builtinR->Ki,wpAny_notIn_heap->MC,risingS->N3,listItems_at->ND
open PyProof.Rows.F renaming plain_set_update_loop->MI
open PyProof.Rows.IsTup renaming new->EC
open PyProof.Rows.SortSt renaming mk'->MQ
open PySem renaming Value->ac,wpAny_bind->ag,wpAny->ah,model->ai,Shared->av,wpAny_pure->aw,starEach->aE,Around->aT,cLine->bP,World->cb,Program->cE,bootBuiltins->df,backTo->dE,rawInt->dL,compareOp->dS,mainGlobals->eB,Builtin->eC,atKey->eK,codeAny->fA,behindInMarks->gu,wpAny_mono->gE,swapsWith->gI,intItems->gT,pyNext->hU,sizeLine_eq->hV,attributeBase->hZ,sysModules->ic,binaryOp->ii,wpAny_newObj_type->iF,argBest->iL,wpAny_call_entry->ja,execs->jv,assignEach->jI,keywordEach->jS,numAt->kf,wpAny_execs_nil->kq,wpAny_truthy_bool->kB,CmpOp->kH,codeAny_mono->kQ,codeAny_builtin->kU,Scope->lI,wpAny_execs_cons->lP,holding->lS,FuncData->ma,backToKw->md,NameKind->mh,Paired->n9,Result->nv,IsEnum->nI,wpAny_specialOf->nL,wpAny_seqItems->nN,standAt->o0,getItem->oj,relabel->ol,wpAny_setField->om,argsOk->oB,Walks->oC,wpAny_setState_of->oP,isInstance->oS,isTrue->pj,pyIter->pE,foldedSetIterable->pS,getMethod->pV,wpAny_call->qc,wpAny_Call_Name_kw->qf,Keyword->qh,bindL->qo,bindC->qq,IsPart->qr,plainId_quiet->qE,isSubtype_type->qS,setNext->rb,pickOrder->rc,field->rh,Value->ri,wpAny_forIn_list->rj,wpAny_passesOwn->rX,callWith->se,wpAny_standAt->sg,wpAny_callSpecial?_slot->sA,sliceBounds->sC,valueAt->sL,callerA->sM,setFlight->t5,wpAny_letGo->tj,collect->tz,wpAny_rule->uS,wpAny_isInstance->vc,wpAny_Name->vn,wpAny_isTrue_Compare1->vt,assign->vx,PassesOwn->vE,getAttr->w4,bindArgs->w9,typeLookup->wb,wpAny_askSetting->x9,codeAny_call_builtin->xh,wpAny_newList->xi,Str->xv,tupleKeyHash->xw,treeTable->xD,tupleKind->xI,wpAny_If->xL,wpAny_load->xS,wpAny_pyIter_tuple->y0,BindsTo->ya,mem_of_lookup->yi,wpAny_typeOf->yn,subscripted->yA,storedH->yY,DictEntry->ze,noteFrame->zh,entryFor->zi,seqItems?->zk,wpAny_tryCatch->zn,wpAny_updateSeq->zo,checkBuiltinCall->zC,wpAny_attempt->As,newTuple->Au,wpAny_setField_rec->AD,Addr->AE,IsTupleKey->AF,eqIsQuiet->AK,wpAny_Return_some->AQ,letOwnedTupleGo->AR,wpAny_pyIter_list->AS,concat_meets->AX,tupleKind_room_in1->B1,wpAny_Assign_Subscript->B2,lookup_relabel_local->B3,setField->B6,wpAny_getItem_str_slice->B8,post_val_or_str->B9,updateSeq->BA,wpAny_of_eq->BB,isSubtype->BH,ofAClassStatement->C3,hashByValue->C4,wpAny_runValue->C7,firstArgMember->C8,setsByText->Cb,reduceHash->CM,wpAny_tupleItemsOf->CO,isSubtype_tuple_tuple->CS,carriedByValue->CU,wpAny_eqBool_int->D0,entryOfKey->D1,Within->D2,builtinsNs->D4,wpAny_Constant_int->D6,wpAny_loadPart->DJ,noFill_tuple_add->E4,seq_tuple_add->E5,typeIs_str->ED,wpAny_Dict_empty->EF,sliceRange->EH,builtinKind->EQ,intItems_at->ER,call->F8,codeAny_of_tree->F9,setSearchFrom->FB,unsupported->FC,wpAny_setEntries_of->FU,checkCount->GG,excClassObj->GS,wpAny_isSubtype_exc->GT,Shared->HM,Expr->HP,Stmt->HU,wpAny_pyHash_tuple->HZ,wpAny_eqBool_tuple->Ic,wpAny_loadName_local->IG,wpAny_loadName_cell->IH,wpAny_loadName_free->II,wpAny_assign_Name->IN,wpAny_pyNext_list_item->IP,wpAny_pyNext_list_end->IQ,wpAny_lookBehind->Jn,pastItsLine_dict->JA,plainObj_wpAny_Assign_Attribute->JJ,slot_list_getitem->Kj,wpAny_getItem_heap->KO,wpAny_setItem_heap->KP,getitemInPython_of_ne->KS,wpAny_letTemporaryGo->KU,wpAny_Call_method->LG,searchCouldBeSeen->Mo,wpAny_eqIsQuiet_tuple->MA,Slot->MR,builtinLookup_eq_fast->MS,wpAny_pyIter_slot->MX,wpAny_check_init_subT->Nd,wpAny_pyIter_enum->NL
open PySem.Around renaming under_plainId->ti,under->DO
open PySem.AutoSeq1 renaming wpAny_loadPart'->CF
open PySem.Builtin renaming bitAnd->vS,max->LA
open PySem.Builtin.BaseException renaming bexcPut->Nl
open PySem.Builtin.Builtins renaming bindParams->LB
open PySem.Builtin.Int renaming intBits->i8
open PySem.Builtin.List renaming listExtendWith->AB,listLengthHint->MY,listSameRef->N1
open PySem.Builtin.Range renaming rangeSize->IR
open PySem.Builtin.Slice renaming slicePlaces->AY,sliceAdjust->E9,sliceApplied->Kb
open PySem.Builtin.SmallTypes renaming nextOf->CB,ownedTupleIsFree->NG,ownedTupleHandOut->NH
open PySem.Builtin.Str renaming occurrences->pT
open PySem.Builtin.Tuple renaming tupleHashOf->AG,tupleExact->AZ,tupleItemsOf->HV
open PySem.Calls renaming call_function_entry->G1,Constant_str->IJ,Name_function_global->IL,spliced_nil->JU,spliced_cons->JY,callWith_builtin->KA,evalArgs_plain->KB
open PySem.Challenge renaming pw_twinrounds_k63_hands_refused->OE,rw_twinrounds_k63_hands_refused->OF
open PySem.CmpOp renaming NotIn->IM
open PySem.Code renaming quiet_builtin->zw,isFrame->DS,frames->JO
open PySem.Data renaming fields->DA,cell->DB
open PySem.EntryCells renaming newEntry->L8
open PySem.F renaming slot_tuple_hash->xy,slot_tuple_eq->AJ,attr_ValueError->Cf,slot_enumerate_next->CC,slot_tuple_iterator_next->CD,slot_tuple_add->E6,entry_tuple_add->E7,args_tuple_add_2->E8,slot_dict_getitem->EW,excBase_ValueError->GV,plainAttrs_list->LF,slot_dict_items->LH,plain_set_new->LP,slot_set_iter->MZ,plain_list_iadd->N4,args_bexc_ga->N9,entry_bexc_ga->Na,entry_enumerate_next->NE,args_enumerate_next_1->NF,entry_tuple_iterator_next->NI,args_tuple_iterator_next_1->NJ,slot_list_index->NN
open PySem.Heap renaming get?_push_of_some->bo,lt_size->bE,get?_push_size->ci,SameBut->g9,size_push->iE,get?_update_other->ka,get?_update_self->mI,ExtBut->BD,get?_push_cases->F0
open PySem.Heap.Ns1 renaming of_empty->JI
open PySem.Heap.SameBut renaming update->A7,refl->EZ
open PySem.NameKind renaming free->wq
open PySem.Obj renaming mapSeq->kS,mapFields->sR,data_mapFields->sT,isFreed_of_fields->B4,cls_mapFields->B5
open PySem.Paired renaming length->AO,snoc->KG
open PySem.PassesOwn renaming never->iA,leaving->H0
open PySem.SeqAt renaming EqAt->nw,in_listAt->Kn,notIn_listAt->Kt
open PySem.SeqAt.EqAt renaming same->EE,of_refs->EK,int_str->IC,str_int->ID
open PySem.SeqAt.RcAt renaming lists->Lo,lists_lengths->Lu,tuples->Lv
open PySem.SetTable renaming runEnd->fh,bits->i9,leap->kX,turns->lh,below->AA,sizeAbove->FD,fresh->FK,slot->LU,has->LV,layClean->Mb,laid->Mc,fits->Me,fill->Mn,grown->ME,tooFull->MH
open PySem.SetTable.layClean renaming free->A2
open PySem.SetTable.probe renaming go->qV
open PySem.Str renaming ofString->eJ,empty->kN,length->yB
open PySem.Txt renaming slice->B7
open PySem.Value renaming ref->bg,none->eA,type->ly,builtin->mS,int->nV,bool->rS,str->vi,isInt->IA,isStrOf->IB,bytes->IE,float->IF
open PySem.W renaming Frag->ay,findIn->dn,keepIn->fF,fnOf->i7,kitAny->ib,mg_none_of->kA,mg_of->mP,boot_heap->mT,isFn->nk,emptyDict->oa,codeIn->og,nsIn->oQ,instObj->pd,findIn->rf,SharedT->ve,hasDictIn->vT,callWith_K->wa,plainGet->y6,kas_rev->Ap,looks_findIn->AC,boot_drawn->AM,boot_toks->AN,lookIn->AT,InstAt->AU,notCls->Co,mroIn->Ct,specialIn->CA,methodObj->D3,plainGet_of->DF,plainOver->DH,takerIn->DI,makesIn->DL,looks_findIn->DM,methodCall_KW->DT,clsIn->GU,readsIn->GW,findCls->GY,handedIn->IU,findObj_own->IY,any_some->IZ,bind_fn->JE,cellsFrom_some->K0,kdl_dict->LI,kia_one->NC
open PySem.W.WData renaming int->wl,weightAll->F6,weight->F7,layable->LO
open PySem.W.WShape renaming has->L5
open PySem.Walks renaming list->BC
open PySem.pickOrder renaming go->FV
open Sum renaming inl->rq,inr->rL
open Sum.inl renaming inj->xE
open Sum.inr renaming inj->CY,injEq->OA
open True renaming intro->kP
open Option renaming some->O0,none->W1
open Bool renaming true->E3,false->ZA
set_option compiler.extract_closed false
set_option hygiene false
def zzL0(s t:String)(l:Array Lean.Syntax):Lean.Syntax.TSepArray [`Lean.Parser.Tactic.simpStar,`Lean.Parser.Tactic.simpErase,`Lean.Parser.Tactic.simpLemma] ",":=let f:=λ(x:String)=>(((x.splitOn " ").filter (·≠"")).toArray.map λx=>Lean.mkNode `Lean.Parser.Tactic.simpLemma #[Lean.mkNullNode,Lean.mkNullNode,Lean.mkIdent x.toName]);.ofElems ((f s++l++f t).map (⟨·⟩))
local macro_rules
|`(.(0))=>`((by first|assumption|omega))
|`(.(1))=>`((by simp))
|`(.(2))=>`((by decide))
|`(.(3))=>`((ai X.prog X.w))
def ZN:=@if_pos
def OO:=@if_neg
def QO:=@absurd
def RO:=@decide_eq_false
def SO:=@decide_eq_true
def UO:=@congrArg
def VO:=@of_decide_eq_true
def WO:=@beq_iff_eq
def XO:=@if_true
def YO:=@if_false
def ZO:=@decide_eq_true_eq
def OP:=@beq_self_eq_true
abbrev zFr:=PySem.W.Frag
abbrev zQ0:=PySem.Value->PySem.Shared->Prop
abbrev QP:=List (PySem.Addr×PySem.Obj)
variable {h h':PySem.Heap}{vs us its:List ri}{o:PySem.Obj}{s s':HM}{a b it p C L q:AE}{Q E:ri->HM->Prop}{u doc pm cdv ct oc:ri}{P prog:PySem.Program}{w:PySem.World}{t' i n j m ep x1 k':Nat}{ch A fp B A0:List AE}{e tg:HP}{pins' π:List (AE×PySem.Obj)}{N ps loose ws:List xv}{M:PySem.Model}{pos pos' xpos apos spos tp p1 p2 p3 p4 p5 p6 p7 p8 p9 p10 p11 p12 p13 pos2:PySem.Pos}{c f qual cn z:xv}{es:Array (Int×ri)}{body s1:List HU}{l:List Nat}{ns:List Int}{kw:List (xv×ri)}{env:PySem.Env}{mg:xv->Option ri}{fd:PySem.FuncData}{outer:List PySem.Env}{sc scope:PySem.Scope}{an od tb:Option AE}{osl:Array (Option ri)}{st:HU}{elts:List HP}{ow:Array (Option Nat)}
def nq{d:Sort _}(a:d):a=a:=of_eq_true (eq_self a)
namespace PV
open PySem
section
variable {K:Type} [DecidableEq K] (kd:KeyKind prog w K)
inductive NkI (h:Heap):List (List K)->List ac->Prop
 |nil:NkI h [] []
 |cons {k:List K}{b:Addr}{ks:List (List K)}{vs:List ac}:AF kd h k b->NkI h ks vs->NkI h (k::ks) (.ref b::vs)
def Ta(h:Heap)(ks:List (List K))(a:Addr):Prop:=∃o xs n,h.get? a=O0 o/\o.cls=.type "tuple"/\o.data=.seq xs n/\NkI kd h ks xs.toList
variable {kd}
theorem NkI.inj{h:Heap}{x y:List (List K)}{vs:List ac}(p:NkI kd h x vs):NkI kd h y vs->x=y:=by
 induction p generalizing y with
 |nil=>intro q;cases q;rfl
 |cons a _ d=>intro q;cases q with | cons b t=>rw[a.inj b,d t]
def NkI.kept{g:Heap}{d:Addr}{es ep}(v:h.get? d=O0 o)(y:o.data=.dict es ep)(hs:g9 d h g){x:List (List K)}{vs:List ac}(p:NkI kd h x vs):NkI kd g x vs:=by
 induction p with
 |nil=>exact .nil
 |cons a _ r=>exact .cons (a.keeps v y hs) r
theorem Ta.ty{ks:List (List K)}(x:Ta kd s.heap ks a):s.TypeIs (.ref a) "tuple":=let ⟨o,_,_,g,c,_⟩:=x;⟨o,g,c⟩
theorem Ta.inj{h:Heap}{a:Addr}{x y:List (List K)}(p:Ta kd h x a)(q:Ta kd h y a):x=y:=by
 obtain⟨o,H,n,g,_,d,i⟩:=p;obtain⟨I,G,m,v,_,F,r⟩:=q;cases g.symm.trans v;cases d.symm.trans F;exact i.inj r
theorem Ta.kept{h g:Heap}{ks:List (List K)}{a d:Addr}{o:Obj}{es ep}(x:Ta kd h ks a)(v:h.get? d=O0 o)(y:o.data=.dict es ep)(hs:g9 d h g):Ta kd g ks a:=by
 obtain⟨I,H,n,r,c,F,i⟩:=x;refine⟨I,H,n,(hs.2 a λz=>?_).trans r,c,F,i.kept v y hs⟩;subst z;cases v.symm.trans r;cases y.symm.trans F
def iG(d:KeyKind prog w K)(ks:List (List K)):Int:=CM (AG (ks.map (xw d)))
def ZJ(ks:List (List K)):Nat:=(ks.map λk=>k.length+1).sum+1
variable {A:aT}
def eO{ks:List (List K)}{Q:Int->av->Prop}(T:A.units+1<bP)(I:Ta kd s.heap ks a)(k:Q (iG kd ks) { s with toks:=s.toks+ZJ ks }):ah (ai prog w) A (pyHash (.ref a)) Q E s:=by
 have ty:=I.ty;obtain⟨o,U,n,g,_,d,i⟩:=I;unfold pyHash pyHashByItsType;refine ag (wpAny_cRoomFor_or (.inr .(0)) ?_);refine ag (nL ty xy.lookup ?_);show ah _ _ (if (O0 (mS "tuple.__hash__")==O0 eA)=E3 then _ else _) Q E s;rw[OO (by rw[beq_builtin_none];exact dP)];refine ag (nL ty xy.lookup ?_);show ah _ _ (callSpecialIfBoundUnlessNone? (.ref a) "__hash__" _ >>= _) Q E s;refine ag (wpAny_callSpecialIfBoundUnlessNone?_slot ty xy (ja xy ty F.entry_tuple_hash ?_ (F.args_tuple_hash_1 _)));show ah _ _ (HV (.ref a) >>= _) _ _ s;refine ag (CO g d ?_);refine ag ?_;rw[<-xB];refine rj _ (λr (b:Array Int) z=>∃p q,ks=p++q/\NkI kd s.heap q r/\b.toList=p.map (xw kd)/\z={ s with toks:=s.toks+(p.map λk=>k.length+1).sum }) _ ?_ ?_ _ _ ⟨[],ks,rfl,i,rfl,rfl⟩
 .rintro x r b z ⟨p,q,rfl,G,H,rfl⟩;cases G with
  | @cons m c J _ O v=>
   refine ag (HZ (s:={ s with toks:=s.toks+(p.map λk=>k.length+1).sum }) (show A.in1.units<bP from T) O ?_);exact aw ⟨p++[m],J,by simp,v,by simp[H],by simp[AH]⟩
 .rintro b z ⟨p,q,rfl,G,H,rfl⟩;cases G;rw[gg] at k;show ah _ _ (retInt (AG b.toList)) _ _ _;rw[H];refine wpAny_ret_mkInt ?_;generalize S:AG (p.map (xw kd))=y;unfold iG CM ZJ at k;rw[S] at k;show ah _ _ (if (decide (-(2:Int)^63<=y)&&decide (y<2^63))=E3 then _ else _) Q E _
  by_cases c:(decide (-(2:Int)^63<=y)&&decide (y<2^63))=E3
  .rw[ZN c] at k ⊢;exact aw (by simpa [AH] using k)
  .rw[OO c] at k ⊢;exact ag (uS (aw (by simpa [AH] using k)))
def qw{x y:List (List K)}{P:Fin->av->Prop}(hu:A.units<bP)(hx:Ta kd s.heap x a)(hy:Ta kd s.heap y b)(k:P (.done (.ret (.bool (decide (x=y))))) s):ah (ai prog w) A (eC.«tuple.__eq__» ⟨[.ref a,.ref b],[]⟩) P E s:=by
 have ty:=hy.ty;obtain⟨o,U,n,g,_,d,i⟩:=hx;obtain⟨o2,T,m,g2,_,d2,i2⟩:=hy;show ah _ _ (oS (.ref b) (.type "tuple") >>= _) _ _ s;refine ag (vc ty CS ?_);simp only[lx,ff,YO];refine ag (CO g d (ag (CO g2 d2 (ag ?_))));refine rj _ (λr q z=>q.1=W1/\z=s/\∃O J G F,r=List.zip G F/\NkI kd s.heap O G/\NkI kd s.heap J F/\decide (O=J)=decide (x=y)/\(G.length==F.length)=(U.size==T.size)) _ ?_ ?_ _ _ ⟨rfl,rfl,x,y,U.toList,T.toList,rfl,i,i2,rfl,by simp⟩
 .rintro⟨u,v⟩ r q z ⟨e,rfl,O,J,G,F,S,I,H,W,Z⟩;cases I with
  |nil=>simp at S
  | @cons k1 b1 x2 Y h1 t1=>
   cases H with
   |nil=>simp at S
   | @cons k2 b2 y2 X h2 t2=>
    simp only[AI,xC,rl] at S;obtain⟨⟨rfl,rfl⟩,rfl⟩:=S;refine ag (Ic hu h1 h2 ?_)
    by_cases c:k1=k2
    .subst c;rw[SO rfl];simp only[lx,ff,YO];refine aw ⟨rfl,rfl,x2,y2,Y,X,rfl,t1,t2,?_,by simpa using Z⟩;rw[<-W]
     by_cases c2:x2=y2<;>simp[c2]
    .rw[RO c];simp only[Iq,XO];have f:decide (x=y)=ZA:=by rw[<-W];simp[c]
     rw[f] at k;exact ag (aw (aw (aw k)))
 .rintro⟨q1,q2⟩ z ⟨e,rfl,O,J,G,F,S,I,H,W,Z⟩;simp only at e;subst e;refine aw ?_;have f:(U.size==T.size)=decide (x=y):=by
   rw[<-W,<-Z];cases I with
   |nil=>cases H<;>simp
   |cons _ _=>
    cases H with
    |nil=>simp
    |cons _ _=>simp at S
  show P (.done (.ret (.bool (U.size==T.size)))) z;rw[f];exact k
def qy{x y:List (List K)}{Q:Bool->av->Prop}(T:A.units+1<bP)(d:Ta kd s.heap x a)(g:Ta kd s.heap y b)(k:Q (decide (x=y)) s):ah (ai prog w) A (eqBool (.ref a) (.ref b)) Q E s:=by
 unfold eqBool;refine wpAny_holding ?_;show ah _ _ (if (bg a==bg b)=E3 then _ else _) Q E s
 by_cases c:(bg a==bg b)=E3
 .rw[ZN c];have e:a=b:=by have:=eq_of_beq c;injection this
  subst e;cases d.inj g;exact ag (uS (aw (by simpa using k)))
 .rw[OO c];exact ag (wpAny_richCompare_same_room (op:=.Eq) d.ty g.ty AJ (ja AJ d.ty F.entry_tuple_eq (qw (show A.in1.units<bP from T) d g ⟨_,rfl,(λe=>nomatch e),kB k⟩) (F.args_tuple_eq_2 _ _)) .(0))
def iH(n:Nat){ks:List K}{a:Addr}{Q:Bool->av->Prop}(I:AF kd s.heap ks a)(k:Q E3 s):ah (ai prog w) A (AK (n+1) (.ref a)) Q E s:=by
 have ty:=I.typeIs;obtain⟨o,H,m,g,_,d,i⟩:=I;unfold AK;refine ag (nL ty AJ.lookup ?_);show ah _ _ (oS (.ref a) (.type "tuple") >>= _) _ _ s;refine ag (vc ty CS ?_);simp only[lx,ff,YO];refine ag (nN g d (ag ?_));show ah _ _ (forIn H _ _) _ _ s;rw[<-xB];refine rj _ (λr q z=>q.1=W1/\z=s/\∀v∈r,CU v=E3) _ ?_ ?_ _ _ ⟨rfl,rfl,i.byValue⟩
 .rintro v r q z ⟨e,rfl,y⟩;rw[eqIsQuiet_byValue _ (y v .(1))];refine ag (aw ?_);simp only[lx,ff,YO];exact aw ⟨rfl,rfl,λu T=>y u (by simp[T])⟩
 .rintro⟨q1,q2⟩ z ⟨e,rfl,_⟩;simp only at e;subst e;exact aw k
def ZK(n:Nat){ks:List (List K)}{a:Addr}{Q:Bool->av->Prop}(I:Ta kd s.heap ks a)(k:Q E3 s):ah (ai prog w) A (AK (n+2) (.ref a)) Q E s:=by
 have ty:=I.ty;obtain⟨o,H,m,g,_,d,i⟩:=I;unfold AK;refine ag (nL ty AJ.lookup ?_);show ah _ _ (oS (.ref a) (.type "tuple") >>= _) _ _ s;refine ag (vc ty CS ?_);simp only[lx,ff,YO];refine ag (nN g d (ag ?_));show ah _ _ (forIn H _ _) _ _ s;rw[<-xB];refine rj _ (λr q z=>q.1=W1/\z=s/\∃y,NkI kd s.heap y r) _ ?_ ?_ _ _ ⟨rfl,rfl,_,i⟩
 .rintro v r q z ⟨e,rfl,y,G⟩;cases G with
  |cons O G=>
   refine ag (iH n O ?_);simp only[lx,ff,YO];exact aw ⟨rfl,rfl,_,G⟩
 .rintro⟨q1,q2⟩ z ⟨e,rfl,_⟩;simp only at e;subst e;exact aw k
end
def Ss{prog:cE}{w:cb}{K:Type}[DecidableEq K](d:KeyKind prog w K):HeapKind prog w (List (List K)) where
 is:=Ta d
 hash:=iG d
 draws:=ZJ
 room:=λA=>A.units+1<bP
 inj:=λp q=>p.inj q
 keeps:=λx v y hs=>x.kept v y hs
 pyHash:=λT I k=>eO T I k
 eqBool:=λT r g k=>qy T r g k
 quiet:=λI k=>ZK 6 I k
end PV
section
open PySem PySem.W PyProof.Rows
def L2.viewAt(p:cE)(ks:List Nat):cE:={ p with main:={ p.main with body:=ks.filterMap λi=>p.main.body[i]? } }
abbrev K63.R:=PySem.Challenge.rw_twinrounds_k63_hands_refused.row
def K63.vw:cE:=L2.viewAt OE [0,2,3,4,5,6,7,8,9,11,12,13,14,15,16,17,18,19,20,21,23,24,25,26,27,28,29,31,32,33,35,36,37,38,39,40,41,42,44,45,46,47,48,49,50,51,52,53,54,55,56]
namespace L2T
def runG(st:ve->Thread->Option (ve×Thread))(ok:Thread->Bool):Nat->ve->Thread->Option ve
 |0,_,_=>W1
 |n+1,s,t=>match through t with
  |true=>O0 s
  |false=>match ok t with
   |false=>W1
   |true=>match st s t with
    |some (d,t')=>runG st ok n d t'
    |none=>W1
theorem aU{tb:String->Option eC}{p:cE}{w:cb}{d:Nat}{ann:Option ac}:∀{n:Nat}{s s':ve}{t:Thread},runG (stepT (denote tb) p w) (stepOk d ann) n s t=O0 s'->topRun tb p w d ann n s.abs t=O0 s'.abs
 |0,_,_,_,h=>by cases h
 |n+1,s,s',t,h=>by
  unfold runG at h;unfold topRun;cases y:through t with
  |true=>rw[y] at h;cases h;rfl
  |false=>
   rw[y] at h;cases I:stepOk d ann t with
   |false=>rw[I] at h;cases h
   |true=>
    rw[I] at h;cases hs:stepT (denote tb) p w s t with
    |none=>rw[hs] at h;cases h
    |some r=>obtain⟨v,g⟩:=r;rw[hs] at h;rw[stepT_spec hs];exact aU h
def treeOf(l:List Obj):BT:=(l.foldl (λ(a:BT×Nat) o=>(a.1.ins a.2 o,a.2+1)) (BT.nil,0)).1
noncomputable abbrev boot (w:cb) (os:OsState):ve:=⟨treeOf (mT w.params).objs.toList,11,(mT w.params).life,AL [],AM,AN,os⟩
set_option maxHeartbeats 0 in
def boot_abs(w:cb)(d:OsState):(boot w d).abs=⟨mT w.params,AL [],AM,AN,d⟩:=by kernel_rfl
set_option maxHeartbeats 0 in
def eQ(w:cb):((mT w.params).isNs eB,(mT w.params).objs.size)=(E3,11):=by kernel_rfl
noncomputable abbrev ann (w:cb):Option ac:=(mT w.params).nsMap eB "__annotations__"
noncomputable def fits(p:cE)(w:cb)(s:av):Bool:=staticsOk (importedModules p.main.body) (mT w.params) s.heap&&namesBound p s.heap&&gensDone s&&laidKept (mT w.params) s.heap
def left{p:cE}{N:Nat}{F:Type}{f:av->F}{v:cb->F}(H:opening p=plainProg p.main.scope.names)(G:∀s,fenceModules? p s=O0 s)(I:Nat.ble 600 N=E3)(h:∀(w:cb) (os:OsState),(runG (Fast.tw10156331382660048174 (Fast.tw11892475500146522536 Fast.tw14364793385576792824) p w) (Fast.tw6613529449190102663 11 (ann w)) N (boot w os) (topStub p)).map (λs=>(fits p w s.abs,f s.abs))=O0 (E3,v w))(w:cb):(openEnds xD p w N).map f=O0 (v w):=by
 obtain⟨⟨J,O,d,k,os⟩,e,S⟩:=kD.mp (boot_open H I G w);obtain⟨rfl,rfl,rfl,rfl⟩:J=mT w.params/\O=AL []/\d=AM/\k=AN:=by simpa using S
 have h:=h w os;rw[<-Fast.te10156331382660048174,<-Fast.te11892475500146522536,<-Fast.te14364793385576792824,<-Fast.te6613529449190102663] at h;obtain⟨y,r,q⟩:=kD.mp h;obtain⟨q1,q2⟩:=Iy q;have t:=aU r;rw[boot_abs] at t;obtain⟨b1,b2⟩:=Iy (eQ w);have g:topFrom xD p w N ⟨mT w.params,AL [],AM,AN,os⟩=O0 y.abs:=by
  unfold topFrom;dsimp only;rw[b1,b2];show (topRun xD p w 11 (ann w) N _ (topStub p)).bind _=_;rw[t];show (match fits p w y.abs with | true=>O0 y.abs | false=>W1)=_;rw[q1]
 unfold openEnds;rw[e];show (topFrom xD p w N _).map f=_;rw[g];exact UO O0 q2
end L2T
section
local macro_rules | `(tactic| o_head $H) => `(tactic| exact ‹∀P : Prop, P› _)
set_option maxHeartbeats 0 in
def K63.side(d:∀P:Prop,P):K63.R.Holds:=by
 k_head
end
def K63.as:List Addr:=[2,3,15,17,18,20,21,22,29,30,31,32,35,42,44,45,47,48,49,50,51,54,61,63,64,66,67,68,69,70,73,80,82,83,85,86,87,88,89,92,99,101,102,104,105,106,107,108,111,118,120,121,123,124,125,126,127,130,137,138,139,142,149,150,151,154,155,158,159,160,162,163,165,166,167,169,170,172,173,174,176,177,179,180,181,183,184,186,187,195,197,198,200,201,202,204,205,207,208,209,211,212,214,215,216,218,219,221,222,223,225,226,228,229,230,231,232,233,234,237,239,240,242,243,244,246,247,249,250,251,253,254,256,257,258,260,261,263,264,265,267,268,270,271,272,275,276,277,280,281,282,285,286,294,296,297,299,300,301,303,304,306,307,308,310,311,313,314,315,317,318,320,321,322,325,326,327,330,331,332,334,335,337,338,339,341,342,344,345,346,347,348,349,350,353,355,356,358,359,360,362,363,365,366,367,369,370,372,373,374,377,378,379,382,383,384,386,387,389,390,391,393,394,396,397,398,400,401,403,404,405,407,408,410,411,412,414,415,417,418,419,422,423,424,426,427,429,430,431,434,435,436,439,440,441,443,444,446,447,448,450,451,453,454,455,457,458,460,461,462,464,465,467,468,469,471,472,474,475,476,478,479,481,482,483,485,486,488,489,490,493,494]
set_option maxHeartbeats 0 in
def K63.as_ok:∀P,K63.as=(K63.side.heap_1 P).map (·.1):=λ_=>by kernel_rfl
noncomputable def K63.hook:Hook:=kHook K63.side.heap_1 K63.as K63.as_ok
set_option maxHeartbeats 0 in
theorem K63.look:LeftO K63.R.prog K63.vw [] (λs=>xlAt K63.vw [] s&&recOk K63.R.records s) K63.hook.obs K63.hook.val 6000:=by
 rw[show LeftO K63.R.prog K63.vw [] (λs=>xlAt K63.vw [] s&&recOk K63.R.records s) K63.hook.obs K63.hook.val 6000=∀w,(openEnds xD K63.R.prog w 6000).map (λs=>(openSeen K63.vw [] (importedModules K63.R.prog.main.body) (λs=>xlAt K63.vw [] s&&recOk K63.R.records s) E3 s,K63.hook.obs s))=O0 (openGood K63.vw [],K63.hook.val w) from rfl,Fast.te4187177175401517315];exact L2T.left (by kernel_rfl) (λ_=>by kernel_rfl) rfl (λw d=>by kernel_rfl)
end
open Lean.Parser.Command in
local macro_rules | `(def $i:declId $s:optDeclSig $v:declVal)=>`(noncomputable def $i:declId $s:optDeclSig $v:declVal) | `(abbrev $i:declId $s:optDeclSig $v:declVal)=>`(noncomputable abbrev $i:declId $s:optDeclSig $v:declVal)
namespace L2
open PySem PySem.Spec PyProof.Rows
abbrev Key:=Sum Int Str
def RQ:Key->ac->Bool
 |.inl k,v=>IA k v
 |.inr x,v=>IB x v
def keyH(w:cb):Key->Int
 |.inl k=>hashInt k
 |.inr x=>hashStr w x
def CG:∀{k:Key}{v:ac},RQ k v=E3->(∃i t,k=rq i/\v=nV i t)∨(∃x t,k=rL x/\v=vi x t)
 |.inl i,v,h=>by
  obtain⟨t,e⟩:=Value.isInt_shape (k:=i) (v:=v) h;exact .inl ⟨i,t,rfl,e⟩
 |.inr x,v,h=>by
  obtain⟨t,e⟩:=Value.isStrOf_shape (x:=x) (v:=v) h;exact .inr ⟨x,t,rfl,e⟩
def eU(i:Int)(t:Tok):RQ (.inl i) (.int i t)=E3:=by simp[RQ,IA]
def eX(x:Str)(t:Tok):RQ (.inr x) (.str x t)=E3:=by simp[RQ,IB]
def xj(a b:Int):decide ((rq a:Key)=rq b)=(a==b):=by
 by_cases e:a=b
 .subst e;simp
 .have h:¬ (rq a:Key)=rq b:=λq=>e (xE q);rw[RO h];exact (beq_eq_false_iff_ne.mpr e).symm
def xm(a b:Str):decide ((rL a:Key)=rL b)=decide (a=b):=by
 by_cases e:a=b
 .subst e;simp
 .have h:¬ (rL a:Key)=rL b:=λq=>e (CY q);rw[RO h,RO e]
def xq(a:Int)(b:Str):decide ((rq a:Key)=rL b)=ZA:=RO (λq=>nomatch q)
def xr(a:Str)(b:Int):decide ((rL a:Key)=rq b)=ZA:=RO (λq=>nomatch q)
def BJ(prog:cE)(w:cb):PySem.KeyKind prog w Key where
 is:=RQ
 hash:=keyH w
 inj:=λv a b r H=>by
  rcases CG r with ⟨i,t,rfl,rfl⟩ | ⟨x,t,rfl,rfl⟩
  .rcases CG H with ⟨j,u,rfl,e⟩ | ⟨y,u,rfl,e⟩
   .injection e with d _;rw[d]
   .exact nomatch e
  .rcases CG H with ⟨j,u,rfl,e⟩ | ⟨y,u,rfl,e⟩
   .exact nomatch e
   .injection e with d _;rw[d]
 byValue:=λk v h=>by
  rcases CG h with ⟨i,t,rfl,rfl⟩ | ⟨x,t,rfl,rfl⟩<;>rfl
 pyHash:=λg h=>by
  rcases CG g with ⟨i,t,rfl,rfl⟩ | ⟨x,t,rfl,rfl⟩
  .exact wpAny_pyHash_int h
  .exact wpAny_pyHash_str h
 eqBool:=λT g h=>by
  rcases CG T with ⟨i,t,rfl,rfl⟩ | ⟨x,t,rfl,rfl⟩
  .rcases CG g with ⟨j,u,rfl,rfl⟩ | ⟨y,u,rfl,rfl⟩
   .rw[xj] at h;exact D0 h
   .rw[xq] at h;exact IC i t y u _ _ _ _ h
  .rcases CG g with ⟨j,u,rfl,rfl⟩ | ⟨y,u,rfl,rfl⟩
   .rw[xr] at h;exact ID x t j u _ _ _ _ h
   .rw[xm] at h;exact wpAny_eqBool_str h
 «strs»:=λk x t v h=>by
  rcases CG h with ⟨i,u,rfl,e⟩ | ⟨y,u,rfl,e⟩
  .exact nomatch e
  .injection e with d _
   subst d;cases v<;>rfl
def Xe(prog:cE)(w:cb)(i:Int)(t:Tok):(BJ prog w).is (.inl i) (.int i t)=E3:=eU i t
def Xf(prog:cE)(w:cb)(x:Str)(t:Tok):(BJ prog w).is (.inr x) (.str x t)=E3:=eX x t
set_option genInjectivity true in
inductive V where
 |non | bl (b:Bool) | int (i:Int) | str (x:Str) | byt (b:Array UInt8) | flt (b:UInt64) | ref (a:Addr) | ty (n:String)
 deriving DecidableEq
def fx:V->ac->Prop
 |.non,u=>u=eA
 |.bl b,u=>u=rS b
 |.int i,u=>∃t,u=nV i t
 |.str x,u=>∃t,u=vi x t
 |.byt b,u=>∃t,u=IE b t
 |.flt b,u=>∃t,u=IF b t
 |.ref a,u=>u=bg a
 |.ty n,u=>u=ly n
abbrev gn:List V->List ac->Prop:=n9 fx
theorem gn.length{xs:List V}{us:List ac}(r:gn xs us):xs.length=us.length:=AO r
theorem gn.get:∀{xs:List V}{us:List ac}{i:Nat}{x:V},gn xs us->xs[i]?=O0 x->∃u,us[i]?=O0 u/\fx x u
 |_,_,_,_,.nil,e=>by simp at e
 |_,_,0,_,.cons r _,e=>by simp at e;subst e;exact⟨_,rfl,r⟩
 |_,_,i+1,x,.cons _ t,e=>by
  obtain⟨u,g,d⟩:=gn.get (i:=i) (x:=x) t (by simpa using e);exact⟨u,by simpa using g,d⟩
theorem gn.append:∀{xs d:List V}{us ws:List ac},gn xs us->gn d ws->gn (xs++d) (us++ws)
 |_,_,_,_,.nil,s=>s
 |_,_,_,_,.cons r t,s=>.cons r (gn.append t s)
theorem gn.take:∀{xs:List V}{us:List ac}(n:Nat),gn xs us->gn (xs.take n) (us.take n)
 |_,_,0,_=>.nil
 |_,_,_+1,.nil=>.nil
 |_,_,n+1,.cons r t=>.cons r (gn.take n t)
theorem gn.drop:∀{xs:List V}{us:List ac}(n:Nat),gn xs us->gn (xs.drop n) (us.drop n)
 |_,_,0,r=>r
 |_,_,_+1,.nil=>.nil
 |_,_,n+1,.cons _ t=>gn.drop n t
def Se:Option V->Option ac->Prop
 |some v,O0 u=>fx v u
 |none,W1=>True
 |_,_=>False
def KV{d:Type}:List (d×V)->List (d×ac)->Prop:=n9 λ(p:d×V) (q:d×ac)=>p.1=q.1/\fx p.2 q.2
def kV:Key->V
 |.inl i=>.int i
 |.inr x=>.str x
set_option genInjectivity true in
inductive HO where
 |lst (xs:List V)
 |tup (xs:List V)
 |dK (kvs:List (Key×V)) | dT (kvs:List (List Key×V))
 |set (S:Int->Bool) (n:Nat)
 |ins (C dx:Addr) (fs:List (Str×V))
 |own (x:Addr)
 |xd (fs:List (Str×V))
 |met (f x:Addr)
 |rng (lo hi:Int)
 |frz (o:Obj) (u:HO)
 |tbl (ps:Array ac)
 |ext (φ:Heap->Prop)
 |mem (F:List (List Key)->Int) (K:ay)
abbrev Hp:=Addr->Option HO
def mf(H:Hp)(a:Addr)(o:HO):Hp:=λb=>if b=a then O0 o else H b
def Ah{H:Hp}{o:HO}:mf H a o a=O0 o:=by unfold mf;rw[ZN rfl]
def Aj{H:Hp}{o:HO}(h:b≠a):mf H a o b=H b:=by unfold mf;rw[OO h]
def v4{H:Hp}{o u:HO}(h:H a=O0 o)(h':H b=O0 u)(d:o≠u):a≠b:=by
 intro e;subst e;rw[h] at h';exact d (dc h')
def BZ{H:Hp}{o:HO}(h:H a=O0 o)(h':H b=W1):a≠b:=by
 intro e;subst e;rw[h] at h';cases h'
def Sa(K:ay)(H:Hp)(a:Addr)(xs:List V):Prop:=(H a=O0 (.tup xs)∨∃o,H a=O0 (.frz o (.tup xs))) ∨
 ∃(o:Obj) (d:Array ac) (n:Nat),K.lookup a=O0 o/\o.cls=.type "tuple"/\o.data=.seq d n/\d.size<=sizeLine/\gn xs d.toList
def PR(K:ay)(H:Hp)(ks:List (List Key))(b:Addr):Prop:=∃bs:List Addr,Sa K H b (bs.map V.ref)/\n9 (λk c=>Sa K H c (k.map kV)) ks bs
def Kin(ks:List (List Key)):Prop:=∃ps:List (Nat×Nat),ks=ps.map (λp=>[.inl (p.1:Int),.inl (p.2:Int)])/\ps.length<=5/\∀p∈ps,p.1<5/\p.2<5
def Tu:HO->Prop
 |.tup _=>True
 |.frz _ (.tup _)=>True
 |_=>False
section
variable (P:cE) (w:cb)
def Bp(H:Hp)(h:Heap)(a:Addr):HO->Prop
  |.mem F K=>(a==ic)=ZA/\∃xs:List (List (List Key)×Addr×ac),(∀q∈xs,PR K H q.1 q.2.1/\Kin q.1/\fx (.int (F q.1)) q.2.2) ∧
      ∃o es ep,h.get? a=O0 o/\o.ExactDict/\o.data=.dict es ep/\es.toList=xs.map (D1 (PV.Ss (BJ P w)))/\(xs.map (·.1)).Nodup
  |.lst xs=>xs.length<=sizeLine/\∃(d:List ac) (n:Nat),gn xs d/\h.get? a=O0 { cls:=.type "list",data:=.seq d.toArray n }
  |.tup xs=>xs.length<=sizeLine/\∃d:List ac,gn xs d/\IsTup h a d.toArray
  |.dK kvs=>kvs.length<=sizeLine/\(a==ic)=ZA/\∃vs,KV kvs vs/\h.DictOf (BJ P w) a vs
  |.dT kvs=>kvs.length<=sizeLine/\(a==ic)=ZA/\∃xs:List (List Key×Addr×ac),
      n9 (λ(p:List Key×V) (q:List Key×Addr×ac)=>p.1=q.1/\H q.2.1=O0 (.tup (p.1.map kV))/\fx p.2 q.2.2) kvs xs ∧
      ∃o es ep,h.get? a=O0 o/\o.ExactDict/\o.data=.dict es ep/\es.toList=xs.map (D1 (xI (BJ P w)))/\(xs.map (·.1)).Nodup
  |.set S n=>h.SetOf (intKind P w) a S n
  |.ins C dx fs=>H dx=O0 (.own a)/\fs.length<=1000/\dx≠a/\h.get? a=O0 (pd C dx) ∧
      ∃mA,h.Ns1 dx mA/\(∀f,Se (fs.lookup f) (mA f))/\D2 mA (fs.map (·.1))
  |.own _=>∃o,h.get? a=O0 o
  |.xd fs=>∃mA,h.Ns1 a mA/\∀f,Se (fs.lookup f) (mA f)
  |.rng r y=>∃t u v,h.get? a=O0 { cls:=.type "range",data:=.fields #[.int r t,.int y u,.int 1 v] }
  |.frz o u=>h.get? a=O0 o/\Bp H h a u
  |.tbl ps=>h.get? a=O0 { cls:=.none,data:=.fields ps }
  |.met f x=>h.get? a=O0 (D3 (.ref f) (.ref x))
  |.ext φ=>φ h/\(∃o,h.get? a=O0 o)/\∀h1 g:Heap,φ h1->(∀o,h1.get? a=O0 o->g.get? a=O0 o)->φ g
def Ts(H:Hp)(h:Heap):Prop:=∀a o,H a=O0 o->Bp P w H h a o
end
section
variable {H H':Hp}{o:HO}
theorem Bp.lt(x:Bp P w H h a o):a<h.objs.size:=by
 cases o with
 |mem F K=>obtain⟨_,_,_,o,_,_,e,_⟩:=x;exact bE e
 |lst g=>obtain⟨_,_,_,_,e⟩:=x;exact bE e
 |tup g=>obtain⟨_,_,_,p⟩:=x;exact p.lt
 |dK d=>obtain⟨_,_,_,_,o,_,_,e,_⟩:=x;exact bE e
 |dT d=>obtain⟨_,_,_,_,o,_,_,e,_⟩:=x;exact bE e
 |set S n=>obtain⟨o,_,_,_,e,_⟩:=x;exact bE e
 |ins C dx fs=>obtain⟨_,_,_,e,_⟩:=x;exact bE e
 |own y=>obtain⟨_,e⟩:=x;exact bE e
 |xd fs=>obtain⟨_,⟨_,_,_,e,_⟩,_⟩:=x;exact bE e
 |rng v G=>obtain⟨_,_,_,e⟩:=x;exact bE e
 |frz ob u=>obtain⟨e,_⟩:=x;exact bE e
 |tbl r=>exact bE (show h.get? a=O0 _ from x)
 |met f y=>exact bE (show h.get? a=O0 _ from x)
 |ext φ=>obtain⟨_,⟨_,e⟩,_⟩:=x;exact bE e
theorem Paired.mapP{y v:Type}{F G:y->v->Prop}:∀{g:List y}{d:List v},n9 F g d->(∀a b,F a b->G a b)->n9 G g d
 |_,_,.nil,_=>.nil
 |_,_,.cons r t,f=>.cons (f _ _ r) (Paired.mapP t f)
def Bp.stay(x:Bp P w H h a o)(k:∀b u,(b=a∨H b=O0 (.own a))->h.get? b=O0 u->h'.get? b=O0 u)(ho:∀b,H b=O0 (.own a)->H' b=O0 (.own a))(T:∀b o,Tu o->H b=O0 o->H' b=O0 o):Bp P w H' h' a o:=by
 have U:∀{K:ay}{b:Addr}{xs:List V},Sa K H b xs->Sa K H' b xs:=λ{K b xs} z=>by
  rcases z with (z | ⟨o,z⟩) | z
  .exact .inl (.inl (T b _ trivial z))
  .exact .inl (.inr ⟨o,T b _ trivial z⟩)
  .exact .inr z
 induction o with
 |mem F K=>
  obtain⟨y,xs,al,ob,g,G,e,c⟩:=x;exact⟨y,xs,λq hq=>by
   obtain⟨⟨bs,z1,Z⟩,Y⟩:=al q hq;exact⟨⟨bs,U z1,Paired.mapP Z λ_ _ z=>U z⟩,Y⟩,ob,g,G,k _ _ (.inl rfl) e,c⟩
 |lst xs=>obtain⟨z,I,n,r,e⟩:=x;exact⟨z,I,n,r,k _ _ (.inl rfl) e⟩
 |tup xs=>obtain⟨z,I,r,ob,e,c⟩:=x;exact⟨z,I,r,ob,k _ _ (.inl rfl) e,c⟩
 |dK O=>obtain⟨z,y,vs,r,ob,g,G,e,c⟩:=x;exact⟨z,y,vs,r,ob,g,G,k _ _ (.inl rfl) e,c⟩
 |dT O=>
  obtain⟨z,y,xs,r,ob,g,G,e,c⟩:=x;exact⟨z,y,xs,Paired.mapP r λp q z=>⟨z.1,T _ _ trivial z.2.1,z.2.2⟩,ob,g,G,k _ _ (.inl rfl) e,c⟩
 |set S n=>obtain⟨ob,g,G,t,e,c⟩:=x;exact⟨ob,g,G,t,k _ _ (.inl rfl) e,c⟩
 |ins C dx fs=>
  obtain⟨d,z,ne,e,mA,⟨J,g,G,e2,c⟩,r⟩:=x;exact⟨ho _ d,z,ne,k _ _ (.inl rfl) e,mA,⟨J,g,G,k _ _ (.inr d) e2,c⟩,r⟩
 |own y=>obtain⟨ob,e⟩:=x;exact⟨ob,k _ _ (.inl rfl) e⟩
 |xd fs=>obtain⟨mA,⟨J,g,G,e,c⟩,r⟩:=x;exact⟨mA,⟨J,g,G,k _ _ (.inl rfl) e,c⟩,r⟩
 |rng lo hi=>obtain⟨t,u,v,e⟩:=x;exact⟨t,u,v,k _ _ (.inl rfl) e⟩
 |frz ob u ih=>obtain⟨e,q⟩:=x;exact⟨k _ _ (.inl rfl) e,ih q⟩
 |tbl X=>
  have e:h.get? a=O0 { cls:=.none,data:=.fields X }:=x;show h'.get? a=O0 { cls:=.none,data:=.fields X };exact k a _ (.inl rfl) e
 |met f y=>
  have e:h.get? a=O0 (D3 (.ref f) (.ref y)):=x;show h'.get? a=O0 (D3 (.ref f) (.ref y));exact k a _ (.inl rfl) e
 |ext φ=>obtain⟨p,⟨o,e⟩,W⟩:=x;exact⟨W _ _ p λo q=>k _ _ (.inl rfl) q,⟨o,k _ _ (.inl rfl) e⟩,W⟩
theorem Ts.lt(x:Ts P w H h)(e:H a=O0 o):a<h.objs.size:=(x a o e).lt
def Ts.fresh(x:Ts P w H h)(e:h.objs.size<=a):H a=W1:=by
 cases q:H a with
 |none=>rfl
 |some u=>exact QO (fE (x.lt q) e) (kG _)
def Ts.kept(x:Ts P w H h)(k:∀b u,h.get? b=O0 u->h'.get? b=O0 u):Ts P w H h':=λa o e=>
 (x a o e).stay (λb u _ q=>k b u q) (λ_ q=>q) λ_ _ _ q=>q
def Ts.laid(x:Ts P w H h)(k:∀b u,h.get? b=O0 u->h'.get? b=O0 u)(y:h.objs.size<=a)(d:Bp P w (mf H a o) h' a o):Ts P w (mf H a o) h':=λb u e=>by
 have g:=x.fresh y
 by_cases r:b=a
 .subst r;rw[Ah] at e;cases e;exact d
 .rw[Aj r] at e;exact (x b u e).stay (λc v _ q=>k c v q) (λc q=>by rw[Aj (BZ q g)];exact q) λc F _ q=>by rw[Aj (BZ q g)];exact q
end
def Rd(H:Hp)(a:Addr)(u:HO):Prop:=H a=O0 u∨∃o,H a=O0 (.frz o u)
def Rd.of{H:Hp}{u:HO}(h:H a=O0 u):Rd H a u:=.inl h
def Rd.ok{H:Hp}{u:HO}(r:Rd H a u)(x:Ts P w H h):Bp P w H h a u:=by
 rcases r with r | ⟨o,r⟩
 .exact x a u r
 .obtain⟨_,q⟩:=x a _ r;exact q
def Mut:Option HO->Prop
 |some (.lst _)=>True
 |some (.dK _)=>True
 |some (.dT _)=>True
 |some (.set _ _)=>True
 |some (.ins _ _ _)=>True
 |some (.ext _)=>True
 |some (.mem _ _)=>True
 |_=>False
section
variable {H:Hp}{x e:Addr}{o':HO}
def Ts.write(ok:Ts P w H h)(G:Mut (H x))(X:e=x∨H e=O0 (.own x))(k:∀b u,b≠e->h.get? b=O0 u->h'.get? b=O0 u)(T:∃u,h'.get? e=O0 u)(S:Bp P w (mf H x o') h' x o'):Ts P w (mf H x o') h':=λb u q=>by
 have g:∀c y,H c=O0 (.own y)->c≠x:=λc y r z=>by subst z;rw[r] at G;exact G
 have F:∀c o,Tu o->H c=O0 o->c≠x:=λc o O r z=>by
  subst z;rw[r] at G;cases o with
  |tup U=>exact G
  |frz p u=>exact G
  |_=>exact O
 by_cases J:b=x
 .subst J;rw[Ah] at q;cases q;exact S
 .rw[Aj J] at q
  by_cases d:b=e
  .have W:H b=O0 (.own x):=by
    rcases X with z | z
    .exact QO (d.trans z) J
    .rw[d];exact z
   rw[q] at W;cases W;obtain⟨v,Y⟩:=T;exact⟨v,by rw[d];exact Y⟩
  .refine (ok b u q).stay (λc v I r=>k c v ?_ r) (λc r=>by rw[Aj (g c b r)];exact r) λc U O r=>by rw[Aj (F c U O r)];exact r
   rcases I with rfl | I
   .exact d
   .rintro rfl
    rcases X with z | z
    .exact g c b I z
    .rw[I] at z;cases z;exact J rfl
end
structure Un (fs ex:List Addr) (H H':Hp) (h h':Heap):Prop where
 keep:∀b o,h.get? b=O0 o->H b=W1->b∉fs->b∉ex->h'.get? b=O0 o
 slot:∀b o,h.get? b=O0 o->H b=W1->b∈fs->b∉ex->∃sl,h'.get? b=O0 { o with slots:=sl }
 free:∀b o,h.get? b=O0 o->H b=W1->b∉ex->H' b=W1
 there:∀b o,h.get? b=O0 o->b∉ex->∃o',h'.get? b=O0 o'
 tups:∀b xs,H b=O0 (.tup xs)->H' b=O0 (.tup xs)
 frzs:∀b o u,H b=O0 (.frz o u)->H' b=O0 (.frz o u)
 tbls:∀b ps,H b=O0 (.tbl ps)->∃more,H' b=O0 (.tbl (ps++more))
section
variable {fs fs' ex ex':List Addr}{H H1 H2:Hp}{h1 h2:Heap}{x e:Addr}{o:HO}
def Un.any(u:Un fs ex H H1 h h1){b:Addr}{ob:Obj}(q:h.get? b=O0 ob)(n:H b=W1)(d:b∉ex):∃sl,h1.get? b=O0 { ob with slots:=sl }:=by
 by_cases g:b∈fs
 .exact u.slot b ob q n g d
 .exact⟨ob.slots,u.keep b ob q n g d⟩
def Un.kept(k:∀b u,h.get? b=O0 u->h'.get? b=O0 u):Un fs ex H H h h':=
 ⟨λb ob q _ _ _=>k b ob q,λb ob q _ _ _=>⟨ob.slots,k b ob q⟩,λ_ _ _ n _=>n,λb ob q _=>⟨ob,k b ob q⟩,λ_ _ q=>q,λ_ _ _ q=>q,λ_ r q=>⟨#[],by rw[q];simp⟩⟩
def Un.refl:Un fs ex H H h h:=Un.kept λ_ _ q=>q
def Un.laid(k:∀b u,h.get? b=O0 u->h'.get? b=O0 u)(y:h.objs.size<=a)(g:H a=W1):Un fs ex H (mf H a o) h h' where
 keep:=λb u q _ _ _=>k b u q
 slot:=λb u q _ _ _=>⟨u.slots,k b u q⟩
 free:=λb u q n _=>by rw[Aj (bS (fE (bE q) y))];exact n
 there:=λb u q _=>⟨u,k b u q⟩
 tups:=λb d q=>by rw[Aj (BZ q g)];exact q
 frzs:=λb u d q=>by rw[Aj (BZ q g)];exact q
 tbls:=λb r q=>⟨#[],by rw[Aj (BZ q g),q];simp⟩
def Un.write(G:Mut (H x))(J:e=x∨H e=O0 (.own x))(k:∀b u,b≠e->h.get? b=O0 u->h'.get? b=O0 u)(T:∃u,h'.get? e=O0 u):Un fs ex H (mf H x o) h h':=by
 have v:∀b,H b=W1->b≠x:=λb n z=>by subst z;rw[n] at G;exact G
 have y:∀b,H b=W1->b≠e:=λb n z=>by
  subst z
  rcases J with r | r
  .exact v b n r
  .rw[n] at r;cases r
 have g:∀b u,H b=O0 u->¬ Mut (O0 u)->b≠x:=λb u q I z=>by subst z;rw[q] at G;exact I G
 refine⟨λb u q n _ _=>k b u (y b n) q,λb u q n _ _=>⟨u.slots,k b u (y b n) q⟩,λb u q n _=>by rw[Aj (v b n)];exact n,λb u q _=>?_,
  λb F q=>by rw[Aj (g b _ q λz=>z)];exact q,λb u F q=>by rw[Aj (g b _ q λz=>z)];exact q,λb O q=>⟨#[],by rw[Aj (g b _ q λz=>z),q];simp⟩⟩
 by_cases d:b=e
 .subst d;exact T
 .exact⟨u,k b u d q⟩
end
def trk(h:Heap)(H:Hp):List Addr:=(br h.objs.size).filter λa=>(H a).isSome
def hidT(h:Heap)(H:Hp):Heap:=PySem.W.hideAll h (trk h H)
def eY(h:Heap)(H:Hp):(hidT h H).objs.size=h.objs.size:=PySem.W.hideAll_size _ _
def iJ{H:Hp}(e:h.get? b=O0 o)(n:H b=W1):(hidT h H).get? b=O0 o:=
 PySem.W.hideAll_get _ e λg=>by
  have q:(H b).isSome=E3:=(nX.mp g).2;rw[n] at q;simp at q
def qz{H:Hp}(e:(hidT h H).get? b=O0 o):h.get? b=O0 o/\H b=W1:=by
 have S:h.get? b=O0 o:=PySem.W.of_hideAll (trk h H) e;refine⟨S,?_⟩;cases q:H b with
 |none=>rfl
 |some x=>
  have g:b∈trk h H:=nX.mpr ⟨de.mpr (bE S),by simp[q]⟩;have z:(hidT h H).get? b=W1:=PySem.W.hideAll_none (trk h H) g;rw[z] at e;cases e
def q8(g h:Heap)(L:Addr):List (Addr×Obj):=(br h.objs.size).filterMap λa=>if a=L∨(g.get? a).isSome=E3 then W1 else (h.get? a).map λo=>(a,o)
def rest(g h:Heap)(L d:Addr):List (Addr×Obj):=(q8 g h L).filter λp=>decide (p.1≠d)
structure Mod (K:ay) (mg:Str->Option ac) (base:Heap):Prop where
 kin:K.In base
 glob:base.Ns eB mg
 blt:∃mb,base.Ns D4 mb/\∀x:Str,x≠"__name__"->mb x=df x
 nolimit:base.NoLimit
set_option genInjectivity true in
structure Cx where
 prog:cE
 w:cb
 K:ay
 mg:Str->Option ac
 base:Heap
 A:aT
 N:List Str
 s₀:av
 H₀:Hp
 env:Env
 outer:List Env
 stack:List Env
 ex:List Addr
 fn:Str->Bool
 calm:Bool
 pn:List (Addr×Obj)
 xe:ac->av->Prop
def frs(l:List Env):List Addr:=l.filterMap (·.frame)
abbrev Cx.fs (X:Cx):List Addr:=frs X.outer
def Vis(sc:lI)(x:Str):Prop:=sc.names.lookup x=O0 .local ∨sc.names.lookup x=O0 .cell ∨sc.names.lookup x=O0 .free
def Loc(sc:lI)(x:Str):Prop:=sc.names.lookup x=O0 .local ∨sc.names.lookup x=O0 .cell
def Look(env:Env)(h:Heap)(m:Str->Option ac)(x:Str)(u:ac):Prop:=
 (env.kindOf x=O0 .local /\m x=O0 u)∨((env.kindOf x=O0 .cell ∨env.kindOf x=O0 .free)/\∃c,env.cells.lookup x=O0 c/\h.IsCell c (O0 u))
structure Cx.Ok (X:Cx):Prop where
 mod:Mod X.K X.mg X.base
 kind:X.env.scope.kind=.function
 glob:X.env.globals=eB
 blt:X.env.builtins=D4
 above:X.s₀.heap.objs.size<=X.env.locals
 inj:∀x y c,X.env.cells.lookup x=O0 c->X.env.cells.lookup y=O0 c->x=y
 has:∀x,(X.env.kindOf x=O0 .cell ∨X.env.kindOf x=O0 .free)->∃c,X.env.cells.lookup x=O0 c
 cab:∀x c,X.fn x=E3->X.env.cells.lookup x=O0 c->X.s₀.heap.objs.size<=c
 hd:X.calm=E3->X.A.handled=W1
 frames:X.A.frames=O0 X.stack
 stk:X.stack=X.outer∨(X.stack=X.env::X.outer/\X.env.frame=O0 X.env.locals)
 exf:∀b∈X.ex,b≠X.env.locals/\∀x c,X.env.cells.lookup x=O0 c->c≠b
 bs:∀b o,X.base.get? b=O0 o->X.s₀.heap.get? b=O0 o/\X.H₀ b=W1
 bsz:X.base.objs.size<=X.s₀.heap.objs.size
 noex:∀b o,X.base.get? b=O0 o->b∉X.ex
 exfs:∀b∈X.ex,b∉X.fs
 funs:X.s₀.heap.FunFrames X.base X.outer
 frf:∀b∈X.fs,X.H₀ b=W1
structure Inv (X:Cx) (π:QP) (σ:List (Option V)) (H:Hp) (s:av):Prop where
 ok:X.Ok
 os:s.os=X.s₀.os
 bare:nc s.gens
 base:Un X.fs X.ex X.H₀ H X.s₀.heap s.heap
 loc:∃m,s.heap.Ns X.env.locals m/\∀(i:Nat) (x:Str) (v:V),X.N[i]?=O0 x->σ[i]?=O0 (O0 v)->Vis X.env.scope x->∃u,fx v u/\Look X.env s.heap m x u
 cell:∀x c,X.env.cells.lookup x=O0 c->∃v,s.heap.IsCell c v
 free:H X.env.locals=W1
 freeC:∀x c,X.env.cells.lookup x=O0 c->H c=W1
 pin:∀p∈X.pn++π,s.heap.get? p.1=O0 p.2/\H p.1=W1/\p.1≠X.env.locals/\p.1∉X.fs/\∀v,p.2.data≠.cell v
 hok:Ts X.prog X.w H s.heap
 len:σ.length=X.N.length
section
variable {X:Cx}{H H':Hp}
def Cx.Ok.nofr(ok:X.Ok){b:Addr}{o:Obj}(e:X.base.get? b=O0 o):b∉X.fs:=λd=>by
 have:=(ok.funs.mem d).1;rw[e] at this;cases this
theorem Inv.bs(I:Inv X π σ H s):∀b o,X.base.get? b=O0 o->s.heap.get? b=O0 o/\H b=W1:=λb o e=>
 ⟨I.base.keep b o (I.ok.bs b o e).1 (I.ok.bs b o e).2 (I.ok.nofr e) (I.ok.noex b o e),I.base.free b o (I.ok.bs b o e).1 (I.ok.bs b o e).2 (I.ok.noex b o e)⟩
def Inv.bk(I:Inv X π σ H s):∀b o,X.base.get? b=O0 o->s.heap.get? b=O0 o:=λb o e=>(I.bs b o e).1
theorem Inv.mod(I:Inv X π σ H s):Mod X.K X.mg X.base:=I.ok.mod
def Inv.kIn(I:Inv X π σ H s):X.K.In s.heap:=I.ok.mod.kin.keeps I.bk
theorem Inv.lt(I:Inv X π σ H s):X.env.locals<s.heap.objs.size:=let ⟨_,hn,_⟩:=I.loc;hn.lt
def Inv.sz(I:Inv X π σ H s):X.s₀.heap.objs.size<=s.heap.objs.size:=dA I.ok.above (vj I.lt)
def Inv.nofs(I:Inv X π σ H s){a:Addr}(h:s.heap.objs.size<=a):a∉X.fs:=λd=>by
 obtain⟨_,o,v,_⟩:=I.ok.funs.mem d;exact QO (fE (bE v) (dA I.sz h)) (kG _)
def Inv.cne(I:Inv X π σ H s):∀x c,X.env.cells.lookup x=O0 c->c≠X.env.locals:=λx c e z=>by
 obtain⟨v,o,r,y⟩:=I.cell x c e;obtain⟨m,⟨F,G,J,d,g,_⟩,_⟩:=I.loc;rw[z,d] at r;cases r;rw[g] at y;cases y
theorem Inv.funs(I:Inv X π σ H s):s.heap.FunFrames X.base X.outer:=by
 have all:∀(l:List Env),(∀b∈frs l,b∈X.fs)->X.s₀.heap.FunFrames X.base l->s.heap.FunFrames X.base l:=by
  intro l
  induction l with
  |nil=>intro _ _;trivial
  |cons T r v=>
   intro hs Z;obtain⟨O,⟨L,o,G,J,F,S⟩,y⟩:=Z;have g:L∈X.fs:=hs L (by unfold frs;rw[D5,G];exact eD);obtain⟨U,e⟩:=I.base.slot L o F (I.ok.frf L g) g λz=>I.ok.exfs L z g;exact⟨O,⟨L,_,G,J,e,S⟩,v (λb d=>hs b (by unfold frs;rw[D5,G];exact da _ d)) y⟩
 exact all X.outer (λ_ d=>d) I.ok.funs
theorem Inv.stack(I:Inv X π σ H s):s.heap.FunFrames X.base X.stack:=by
 rcases I.ok.stk with e | ⟨e,G⟩
 .rw[e];exact I.funs
 .rw[e];obtain⟨m,g,_⟩:=I.loc;refine .cons (by rw[I.ok.kind];decide) G g ?_ I.funs;exact Heap.get?_none_of_le (dA I.ok.bsz I.ok.above)
def Inv.stkSub(I:Inv X π σ H s):∀b∈frs X.stack,b∈X.env.locals::X.fs:=λb d=>by
 rcases I.ok.stk with e | ⟨e,G⟩
 .rw[e] at d;exact da _ d
 .rw[e] at d;unfold frs at d;rw[D5,G] at d;exact d
def Inv.stkFree(I:Inv X π σ H s):∀b∈frs X.stack,H b=W1:=λb d=>by
 rcases bX.mp (I.stkSub b d) with e | d
 .rw[e];exact I.free
 .obtain⟨_,o,v,_⟩:=I.ok.funs.mem d;exact I.base.free b o v (I.ok.frf b d) λz=>I.ok.exfs b z d
def Inv.step{g':Array GenState}{d':Drawn}(I:Inv X π σ H s)(F:∀b∈ch,(b∈X.ex∨X.s₀.heap.objs.size<=b)/\b≠X.env.locals/\(∀x c,X.env.cells.lookup x=O0 c->c≠b)/\∀p∈X.pn++π,p.1≠b)(keep:∀b o,b≠X.env.locals->b∉X.fs->b∉ch->s.heap.get? b=O0 o->H b=W1->h'.get? b=O0 o)(S:∀b o,b≠X.env.locals->b∈X.fs->b∉ch->s.heap.get? b=O0 o->H b=W1->∃sl,h'.get? b=O0 { o with slots:=sl })(free:∀b o,b∉ch->s.heap.get? b=O0 o->H b=W1->H' b=W1)(T:∀b o,b∉ch->s.heap.get? b=O0 o->∃o',h'.get? b=O0 o')(Y:∀b xs,H b=O0 (.tup xs)->H' b=O0 (.tup xs))(X0:∀b o u,H b=O0 (.frz o u)->H' b=O0 (.frz o u))(Z:∀b ps,H b=O0 (.tbl ps)->∃S0,H' b=O0 (.tbl (ps++S0)))(ns:∀m,s.heap.Ns X.env.locals m->h'.Ns X.env.locals m)(S1:Ts X.prog X.w H' h')(hg:nc g'):
  Inv X π σ H' { s with heap:=h',gens:=g',drawn:=d',toks:=t' }:=by
 have r0:∀b o,X.s₀.heap.get? b=O0 o->b≠X.env.locals:=λb o e=>bS (fE (bE e) I.ok.above);have J:∀b o,X.s₀.heap.get? b=O0 o->b∉X.ex->b∉ch:=λb o e g U=>by
  rcases (F b U).1 with z | z
  .exact g z
  .exact QO (fE (bE e) z) (kG _)
 have G:∀x c,X.env.cells.lookup x=O0 c->∀v,s.heap.IsCell c v->h'.IsCell c v:=by
  rintro x c e v ⟨o,W,hd⟩
  have y:c∉ch:=λz=>(F c z).2.2.1 x c e rfl
  by_cases hc:c∈X.fs
  .obtain⟨sl,q⟩:=S c o (I.cne x c e) hc y W (I.freeC x c e);exact⟨_,q,hd⟩
  .exact⟨o,keep c o (I.cne x c e) hc y W (I.freeC x c e),hd⟩
 refine⟨I.ok,I.os,hg,⟨λb o e n U g=>?_,λb o e n U g=>?_,λb o e n g=>?_,λb o e g=>?_,λb xs e=>Y b xs (I.base.tups b xs e),λb o xs e=>X0 b o xs (I.base.frzs b o xs e),λb ps e=>?_⟩,?_,λx c e=>?_,?_,λx c e=>?_,λp hp=>?_,S1,I.len⟩
 .exact keep b o (r0 b o e) U (J b o e g) (I.base.keep b o e n U g) (I.base.free b o e n g)
 .obtain⟨sl,O⟩:=I.base.slot b o e n U g;obtain⟨P1,e2⟩:=S b _ (r0 b o e) U (J b o e g) O (I.base.free b o e n g);exact⟨P1,e2⟩
 .obtain⟨o',O⟩:=I.base.there b o e g;exact free b o' (J b o e g) O (I.base.free b o e n g)
 .obtain⟨o',O⟩:=I.base.there b o e g;exact T b o' (J b o e g) O
 .obtain⟨m1,O⟩:=I.base.tbls b ps e;obtain⟨m2,e2⟩:=Z b _ O;exact⟨m1++m2,by rw[e2,Array.append_assoc]⟩
 .obtain⟨m,hn,hl⟩:=I.loc;refine⟨m,ns m hn,λi x v O e2 e3=>?_⟩;obtain⟨u,r,l⟩:=hl i x v O e2 e3;refine⟨u,r,?_⟩
  rcases l with l | ⟨k,c,e,z⟩
  .exact .inl l
  .exact .inr ⟨k,c,e,G x c e _ z⟩
 .obtain⟨v,z⟩:=I.cell x c e;exact⟨v,G x c e v z⟩
 .obtain⟨m,⟨o,_,_,W,_⟩,_⟩:=I.loc;exact free _ o (λz=>(F _ z).2.1 rfl) W I.free
 .obtain⟨v,o,W,hd⟩:=I.cell x c e;exact free c o (λz=>(F c z).2.2.1 x c e rfl) W (I.freeC x c e)
 .obtain⟨e,n,ne,nf,d⟩:=I.pin p hp;have y:p.1∉ch:=λz=>(F p.1 z).2.2.2 p hp rfl;exact⟨keep p.1 p.2 ne nf y e n,free p.1 p.2 y e n,ne,nf,d⟩
theorem Inv.un(I:Inv X π σ H s)(u:Un X.fs [] H H' s.heap h')(g:Ts X.prog X.w H' h'):Inv X π σ H' { s with heap:=h',toks:=t' }:=by
 obtain⟨m,⟨o,Y,Z,G,r⟩,_⟩:=id I.loc;obtain⟨U,S⟩:=u.any G I.free .(1);exact I.step (g':=s.gens) (d':=s.drawn) (ch:=[]) (λ_ z=>nomatch z) (λb o _ v _ e n=>u.keep b o e n v .(1)) (λb o _ v _ e n=>u.slot b o e n v .(1)) (λb o _ e n=>u.free b o e n .(1)) (λb o _ e=>u.there b o e .(1)) u.tups u.frzs u.tbls (λW O=>by
  obtain⟨T,y,F,d,J⟩:=O;rw[G] at d;cases d;exact⟨_,y,F,S,J⟩) g I.bare
def Inv.call{g':Array GenState}{d':Drawn}(I:Inv X π σ H s)(u:Un (frs X.stack) ch H H' s.heap h')(v:Ts X.prog X.w H' h')(U:nc g')(F:∀b∈ch,(b∈X.ex∨X.s₀.heap.objs.size<=b)/\b≠X.env.locals/\(∀x c,X.env.cells.lookup x=O0 c->c≠b)/\∀p∈X.pn++π,p.1≠b):
  Inv X π σ H' { s with heap:=h',gens:=g',drawn:=d',toks:=t' }:=by
 obtain⟨m,⟨o,es,ep,O,r⟩,_⟩:=id I.loc;obtain⟨Y,y⟩:=u.any O I.free λz=>(F _ z).2.1 rfl;exact I.step (ch:=ch) F (λb o y W d e n=>u.keep b o e n (λz=>(bX.mp (I.stkSub b z)).elim y W) d) (λb o _ _ d e n=>u.any e n d) (λb o d e n=>u.free b o e n d) (λb o d e=>u.there b o e d) u.tups u.frzs u.tbls (λm' T=>by
  obtain⟨Z,G,J,g,S⟩:=T;rw[O] at g;cases g;exact⟨_,G,J,y,S⟩) v U
theorem Inv.turned(I:Inv X π σ H s)(k:∀b o,b≠it->s.heap.get? b=O0 o->h'.get? b=O0 o)(G:H it=W1)(y:it≠X.env.locals)(h1:it∈X.ex∨X.s₀.heap.objs.size<=it)(T:∀x c,X.env.cells.lookup x=O0 c->c≠it)(S:∀p∈X.pn++π,p.1≠it):Inv X π σ H { s with heap:=h',toks:=t' }:=by
 have g:∀b u,H b=O0 u->b≠it:=λb u e z=>by rw[z,G] at e;cases e
 refine I.step (g':=s.gens) (d':=s.drawn) (ch:=[it]) (λb O=>?_) (λb o _ _ d e _=>k b o (λz=>d (by simp[z])) e) (λb o _ _ d e _=>⟨o.slots,k b o (λz=>d (by simp[z])) e⟩) (λ_ _ _ _ n=>n)
  (λb o d e=>⟨o,k b o (λz=>d (by simp[z])) e⟩) (λ_ _ e=>e) (λ_ _ _ e=>e) (λb Y e=>⟨#[],by rw[e];simp⟩) (λm J=>?_) (λb u e=>?_) I.bare
 .have e:b=it:=by simpa using O
  subst e;exact⟨h1,y,T,S⟩
 .obtain⟨o,U,W,F,r⟩:=J;exact⟨o,U,W,k _ o (cf y) F,r⟩
 .refine (I.hok b u e).stay (λc v d q=>k c v ?_ q) (λ_ q=>q) λ_ _ _ q=>q
  rcases d with z | z
  .rw[z];exact g b u e
  .exact g c _ z
theorem Inv.tok(I:Inv X π σ H s)(t:Nat):Inv X π σ H { s with toks:=t }:=I.un (h':=s.heap) (t':=t) Un.refl I.hok
theorem Inv.kept{t':Nat}(I:Inv X π σ H s)(k:∀b u,s.heap.get? b=O0 u->h'.get? b=O0 u):Inv X π σ H { s with heap:=h',toks:=t' }:=I.un (Un.kept k) (I.hok.kept k)
theorem Inv.laid{a:Addr}{o:HO}{t':Nat}(I:Inv X π σ H s)(k:∀b u,s.heap.get? b=O0 u->h'.get? b=O0 u)(y:s.heap.objs.size<=a)(d:Bp X.prog X.w (mf H a o) h' a o):
  Inv X π σ (mf H a o) { s with heap:=h',toks:=t' }:=I.un (Un.laid k y (I.hok.fresh y)) (I.hok.laid k y d)
theorem Inv.write{x e:Addr}{o:HO}{t':Nat}(I:Inv X π σ H s)(G:Mut (H x))(y:e=x∨H e=O0 (.own x))(k:∀b u,b≠e->s.heap.get? b=O0 u->h'.get? b=O0 u)(T:∃u,h'.get? e=O0 u)(d:Bp X.prog X.w (mf H x o) h' x o):Inv X π σ (mf H x o) { s with heap:=h',toks:=t' }:=I.un (Un.write G y k T) (I.hok.write G y k T d)
def Inv.pins_of(I:Inv X π σ H s)(h:∀p∈pins',s.heap.get? p.1=O0 p.2/\H p.1=W1/\p.1≠X.env.locals/\p.1∉X.fs/\∀v,p.2.data≠.cell v):Inv X pins' σ H s:=
 ⟨I.ok,I.os,I.bare,I.base,I.loc,I.cell,I.free,I.freeC,λp y=>(eR.mp y).elim (λz=>I.pin p (vk _ z)) (h p),I.hok,I.len⟩
def Ld(I:N.Nodup){i j:Nat}{x:Str}(a:N[i]?=O0 x)(b:N[j]?=O0 x):i=j:=by
 obtain⟨v,g⟩:=jp.mp a;obtain⟨r,d⟩:=jp.mp b;exact (List.getElem_inj I).mp (g.trans d.symm)
def Uq(N:List Str)(x:Str):Prop:=∀i j:Nat,N[i]?=O0 x->N[j]?=O0 x->i=j
def AAl{x:Str}(I:N.Nodup):Uq N x:=λ_ _ a b=>Ld I a b
theorem Su{A:aT}{x:Str}{v:V}{Q:Unit->av->Prop}(I:Inv X π σ H s)(hN:Uq X.N x)(hi:X.N[i]?=O0 x)(J:Loc X.env.scope x)(r:fx v u)(h:∀s',Inv X π (σ.set i (O0 v)) H s'->(∃a,g9 a s.heap s'.heap/\(a=X.env.locals∨X.env.cells.lookup x=O0 a))->Q () s')(hf:X.fn x=E3∨X.env.scope.names.lookup x=O0 .local :=by first | exact .inl rfl | exact .inr rfl | assumption):ah M A (storeName X.env x u) Q E s:=by
 obtain⟨m,hn,hl⟩:=id I.loc;have X0:(X.env.scope.kind==.class||(X.env.scope.kind==.module&&X.env.locals != X.env.globals))=ZA:=by rw[I.ok.kind];rfl
 have U:i<σ.length:=by rw[I.len];exact (jp.mp hi).1
 have cne:=I.cne;have g:∀{a:Addr}{h':Heap},(∃o,s.heap.get? a=O0 o/\H a=W1)->g9 a s.heap h'->Ts X.prog X.w H h':=λ{a h'} ha hs b ob e=>by
  obtain⟨_,_,O⟩:=ha;refine (I.hok b ob e).stay (λc w' G q=>(hs.2 c ?_).trans q) (λ_ q=>q) λ_ _ _ q=>q;rintro rfl
  rcases G with rfl | G
  .rw[O] at e;cases e
  .rw[O] at G;cases G
 rcases J with T | T
 .refine wpAny_storeName_local T hn (λh' X1 hs=>?_) X0;obtain⟨oL,_,_,U1,_⟩:=id hn;refine h _ ⟨I.ok,I.os,I.bare,⟨λb o e n Z J=>?_,λb o e n Z J=>?_,I.base.free,λb o e J=>?_,I.base.tups,I.base.frzs,I.base.tbls⟩,⟨_,X1,λj y v' F S e3=>?_⟩,λy c e=>?_,I.free,I.freeC,λp hp=>?_,g ⟨oL,U1,I.free⟩ hs,by simpa using I.len⟩ ⟨_,hs,.inl rfl⟩
  .exact (hs.2 b (bS (fE (bE e) I.ok.above))).trans (I.base.keep b o e n Z J)
  .obtain⟨sl,F⟩:=I.base.slot b o e n Z J;exact⟨sl,(hs.2 b (bS (fE (bE e) I.ok.above))).trans F⟩
  .obtain⟨o',F⟩:=I.base.there b o e J;exact⟨o',(hs.2 b (bS (fE (bE e) I.ok.above))).trans F⟩
  .by_cases W:j=i
   .subst W;rw[hi] at F;cases F;rw[nh U] at S;cases S;exact⟨u,r,.inl ⟨T,by simp⟩⟩
   .rw[gi (cf W)] at S;obtain⟨u',r',q⟩:=hl j y v' F S e3;refine⟨u',r',?_⟩
    rcases q with ⟨k,e⟩ | ⟨k,c,e,z⟩
    .refine .inl ⟨k,?_⟩;have:y≠x:=λe=>W (hN _ _ (e▸F) hi);simp[this,e]
    .exact .inr ⟨k,c,e,z.sameBut hs (cne y c e)⟩
  .obtain⟨w',z⟩:=I.cell y c e;exact⟨w',z.sameBut hs (cne y c e)⟩
  .obtain⟨e,n,ne,nf,d⟩:=I.pin p hp;exact⟨(hs.2 p.1 ne).trans e,n,ne,nf,d⟩
 .have Y:X.fn x=E3:=by
   rcases hf with z | z
   .exact z
   .rw[z] at T;cases T
  obtain⟨c,G⟩:=I.ok.has x (.inl T);obtain⟨w',z⟩:=I.cell x c G;refine wpAny_storeName_cell I.ok.kind T G z (λh' S1 hs=>?_);obtain⟨oc,S0,r0⟩:=id z;refine h { s with heap:=h' } ⟨I.ok,I.os,I.bare,⟨λb o e n Z J=>?_,λb o e n Z J=>?_,I.base.free,λb o e J=>?_,I.base.tups,I.base.frzs,I.base.tbls⟩,⟨m,hn.sameBut hs (cf (cne x c G)),λj y v' F S e3=>?_⟩,λy c' e=>?_,I.free,I.freeC,λp hp=>?_,g ⟨oc,S0,I.freeC x c G⟩ hs,by simpa using I.len⟩ ⟨c,hs,.inr G⟩
  .exact (hs.2 b (bS (fE (bE e) (I.ok.cab x c Y G)))).trans (I.base.keep b o e n Z J)
  .obtain⟨sl,F⟩:=I.base.slot b o e n Z J;exact⟨sl,(hs.2 b (bS (fE (bE e) (I.ok.cab x c Y G)))).trans F⟩
  .obtain⟨o',F⟩:=I.base.there b o e J;exact⟨o',(hs.2 b (bS (fE (bE e) (I.ok.cab x c Y G)))).trans F⟩
  .by_cases W:j=i
   .subst W;rw[hi] at F;cases F;rw[nh U] at S;cases S;exact⟨u,r,.inr ⟨.inl T,c,G,S1⟩⟩
   .rw[gi (cf W)] at S;obtain⟨u',r',q⟩:=hl j y v' F S e3;refine⟨u',r',?_⟩
    rcases q with q | ⟨k,c',e,z'⟩
    .exact .inl q
    .refine .inr ⟨k,c',e,z'.sameBut hs ?_⟩;rintro rfl;exact W (hN _ _ (I.ok.inj _ _ _ e G▸F) hi)
  .by_cases P1:c'=c
   .subst P1;exact⟨_,S1⟩
   .obtain⟨w2,z2⟩:=I.cell y c' e;exact⟨w2,z2.sameBut hs P1⟩
  .obtain⟨e,n,ne,nf,d⟩:=I.pin p hp;refine⟨(hs.2 p.1 ?_).trans e,n,ne,nf,d⟩;intro q;rw[q,S0] at e;have q':oc=p.2:=dc e;exact d w' (by rw[<-q'];exact r0)
def eZ{A:aT}{x:Str}{v:V}{Q:Unit->av->Prop}(I:Inv X π σ H s)(g:X.N.Nodup)(y:X.N[i]?=O0 x)(d:Loc X.env.scope x)(r:fx v u)(h:∀s',Inv X π (σ.set i (O0 v)) H s'->(∃a,g9 a s.heap s'.heap/\(a=X.env.locals∨X.env.cells.lookup x=O0 a))->Q () s')(G:X.fn x=E3∨X.env.scope.names.lookup x=O0 .local :=by first | exact .inl rfl | exact .inr rfl | assumption):ah M A (storeName X.env x u) Q E s:=Su I (AAl g) y d r h G
def Sv{A:aT}{x:Str}{v:V}{Q:Unit->av->Prop}(I:Inv X π σ H s)(g:X.N.Nodup)(y:X.N[i]?=O0 x)(d:Loc X.env.scope x)(r:fx v u)(h:∀s',Inv X π (σ.set i (O0 v)) H s'->Q () s')(G:X.fn x=E3∨X.env.scope.names.lookup x=O0 .local :=by first | exact .inl rfl | exact .inr rfl | assumption):ah M A (storeName X.env x u) Q E s:=
 eZ I g y d r (λs' F _=>h s' F) G
theorem Inv.call'(I:Inv X π σ H s)(G:s'.os=s.os)(u:Un (frs X.stack) ch H H' s.heap s'.heap)(g:Ts X.prog X.w H' s'.heap)(U:nc s'.gens)(F:∀b∈ch,(b∈X.ex∨X.s₀.heap.objs.size<=b)/\b≠X.env.locals/\(∀x c,X.env.cells.lookup x=O0 c->c≠b)/\∀p∈X.pn++π,p.1≠b):Inv X π σ H' s':=by
 obtain⟨J,r,v,d,y⟩:=s';have e:y=s.os:=G;subst e;exact I.call (g':=r) (t':=d) (d':=v) u g U F
end
abbrev XK:=ac->Option Addr->Hp->Prop
abbrev St:=List (Option V)
abbrev VK:=V->Hp->Prop
abbrev TE:=St->Hp->VK->Prop
abbrev TT:=St->Hp->(Bool->Hp->Prop)->Prop
abbrev TA:=St->Hp->(List V->Hp->Prop)->Prop
structure Ends where
 nx:St->Hp->Prop
 rt:VK
 bk:St->Hp->Prop:=λ_ _=>False
 ct:St->Hp->Prop:=λ_ _=>False
abbrev TS:=Ends->St->Hp->Prop
def EP(X:Cx)(r:QP)(g:St)(Q:VK)(u:ac)(y:av):Prop:=∃v d,Inv X r g d y/\fx v u/\Q v d
def TP(X:Cx)(r:QP)(g:St)(Q:Bool->Hp->Prop)(b:Bool)(v:av):Prop:=∃d,Inv X r g d v/\Q b d
def AP(X:Cx)(r:QP)(g:St)(Q:List V->Hp->Prop)(us:List ac)(v:av):Prop:=∃vs d,Inv X r g d v/\gn vs us/\Q vs d
def SP(X:Cx)(r:QP)(D:Ends)(f:Flow)(y:av):Prop:=
 match f with
 |.next=>∃d g,Inv X r d g y/\D.nx d g
 |.brk=>∃d g,Inv X r d g y/\D.bk d g
 |.cont=>∃d g,Inv X r d g y/\D.ct d g
 |.ret u=>∃v d g,Inv X r d g y/\fx v u/\D.rt v g
def PE(X:Cx)(e:Expr)(t:TE):Prop:=
 ∀(r:QP) (s:av) (g:St) (H:Hp) (Q:VK),Inv X r g H s->t g H Q->ah .(3) X.A (eval e X.env) (EP X r g Q) X.xe s
def PT(X:Cx)(e:Expr)(t:TT):Prop:=
 ∀(r:QP) (s:av) (g:St) (H:Hp) (Q:Bool->Hp->Prop),Inv X r g H s->t g H Q->ah .(3) X.A (pj e X.env (eval e X.env)) (TP X r g Q) X.xe s
def PW(X:Cx)(e:Expr)(t:TT):Prop:=
 ∀(whole:Sem ac) (r:QP) (s:av) (g:St) (H:Hp) (Q:Bool->Hp->Prop),Inv X r g H s->t g H Q->ah .(3) X.A (pj e X.env whole) (TP X r g Q) X.xe s
def PW.pt{X:Cx}{t:TT}(h:PW X e t):PT X e t:=h _
def PA(X:Cx)(es:List Expr)(t:TA):Prop:=
 ∀(d:Pos) (r:QP) (s:av) (g:St) (H:Hp) (Q:List V->Hp->Prop),Inv X r g H s->t g H Q->ah .(3) X.A (spliced (dE d (aE es X.env))) (AP X r g Q) X.xe s
def PS(X:Cx)(st:Stmt)(t:TS):Prop:=
 ∀(r:QP) (s:av) (g:St) (H:Hp) (D:Ends),Inv X r g H s->t D g H->ah .(3) X.A (exec st X.env) (SP X r D) X.xe s
def PSs(X:Cx)(st:List Stmt)(t:TS):Prop:=
 ∀(r:QP) (s:av) (g:St) (H:Hp) (D:Ends),Inv X r g H s->t D g H->ah .(3) X.A (jv st X.env) (SP X r D) X.xe s
def py{d:Type}{t:Sem d}{Q g:d->av->Prop}{A:aT}(h:ah M A t Q E s)(r:∀a s,Q a s->g a s):ah M A t g E s:=gE h r λ_ _ x=>x
section
variable {X:Cx}
def TR(i:Nat):TE:=λg H Q=>∃v,g[i]?=O0 (O0 v)/\Q v H
def tC(v:V):TE:=λ_ H Q=>Q v H
def ZL{x:Str}(Y:X.N[i]?=O0 x)(T:Vis X.env.scope x)(F:(x==("__debug__":Str))=ZA:=by decide)(G:(x==("__classdict__":Str))=ZA:=by decide):PE X (.Name x pos) (TR i):=by
 intro S s O H Q I h;obtain⟨v,e,h⟩:=h;obtain⟨m,U,Z⟩:=I.loc;obtain⟨u,r,l⟩:=Z i x v Y e T;have y:EP X S O Q u s:=⟨v,H,I,r,h⟩
 rcases l with ⟨g,W⟩ | ⟨g,c,J,d⟩
 .exact vn (IG I.ok.kind g U W y) F
 .rcases g with g | g
  .exact vn (IH I.ok.kind g J d y) F
  .exact vn (II I.ok.kind g J d y G) F
def xu{i j pos}:PE X (.Constant (.int i) j pos) (tC (.int i)):=λ_ _ _ H _ I h=>D6 ⟨.int i,H,I.tok _,⟨_,rfl⟩,h⟩
def AAm{b j pos}:PE X (.Constant (.bool b) j pos) (tC (.bl b)):=λ_ _ _ H _ I h=>Constant_bool ⟨.bl b,H,I,rfl,h⟩
def xx{j pos}:PE X (.Constant .none j pos) (tC .non):=λ_ _ _ H _ I h=>Constant_none ⟨.non,H,I,rfl,h⟩
def x_{x j pos}:PE X (.Constant (.str x) j pos) (tC (.str x)):=λ_ _ _ H _ I h=>IJ ⟨.str x,H,I.tok _,⟨_,rfl⟩,h⟩
def Gl(X:Cx)(x:Str):Prop:=X.env.kindOf x=O0 .globalImplicit
def Jg{g:St}{H:Hp}{x:Str}(I:Inv X π g H s)(U:Gl X x)(d:X.mg x=O0 u)(h:Q u s)(y:(x==("__debug__":Str))=ZA:=by decide):ah .(3) X.A (eval (.Name x pos) X.env) Q E s:=
 IL I.ok.kind U (Calls.loadGlobal_global (by rw[I.ok.glob];exact I.mod.glob.keeps I.bk) d h) y
def QX{g:St}{H:Hp}{x:Str}(I:Inv X π g H s)(U:Gl X x)(v:X.mg x=W1)(d:df x=O0 u)(h:Q u s)(r:x≠"__name__":=by decide)(y:(x==("__debug__":Str))=ZA:=by decide):ah .(3) X.A (eval (.Name x pos) X.env) Q E s:=by
 obtain⟨J,G,F⟩:=I.mod.blt;exact IL I.ok.kind U (Calls.loadGlobal_builtin (by rw[I.ok.glob];exact I.mod.glob.keeps I.bk) v (by rw[I.ok.blt];exact G.keeps I.bk) ((F x r).trans d) h) y
def Jh{x:Str}{v:V}(U:Gl X x)(g:X.mg x=O0 u)(r:fx v u)(y:(x==("__debug__":Str))=ZA:=by decide):PE X (.Name x pos) (tC v):=
 λ_ _ _ H _ I h=>Jg I U g ⟨v,H,I,r,h⟩ y
def q9{x:Str}{v:V}(U:Gl X x)(y:X.mg x=W1)(g:df x=O0 u)(r:fx v u)(d:x≠"__name__":=by decide)(F:(x==("__debug__":Str))=ZA:=by decide):PE X (.Name x pos) (tC v):=
 λ_ _ _ H _ I h=>QX I U y g ⟨v,H,I,r,h⟩ d F
def t2I(d tb:TE)(k:Int->Int->Hp->Prop):St->Hp->Prop:=λg H=>d g H λx v=>tb g v λy r=>∃i j,x=.int i/\y=.int j/\k i j r
variable {a b:Expr}{ta tb:TE}
def PC(X:Cx)(op:kH)(a b:Expr)(t:TE):Prop:=
 ∀(y:QP) (s:av) (r:St) (H:Hp) (Q:VK),Inv X y r H s->t r H Q ->
  ah .(3) X.A (eval a X.env) (λv g=>ah .(3) X.A (eval b X.env) (λu d=>ah .(3) X.A (dS op v u) (EP X y r Q) X.xe d) X.xe g) X.xe s
def Xg(b:Expr){op:kH}(h:op≠.In)(d:op≠.NotIn):gu op b=ZA:=by
 have r:(op==CmpOp.In)=ZA:=by cases op<;>first | rfl | exact QO rfl h
 have g:(op==IM)=ZA:=by cases op<;>first | rfl | exact QO rfl d
 cases b<;>simp[gu,r,g]
def tCmp(p:Int->Int->Bool)(d tb:TE):TE:=λg H Q=>t2I d tb (λi j r=>Q (.bl (p i j)) r) g H
abbrev tLt:TE->TE->TE:=tCmp λi j=>decide (i<j)
abbrev tGt:TE->TE->TE:=tCmp λi j=>decide (j<i)
abbrev tGe:TE->TE->TE:=tCmp λi j=>decide (j<=i)
def tIsN(d:TE):TE:=λg H Q=>d g H λx v=>Q (.bl (decide (x=.non))) v
def fx.none_iff{x:V}{v:ac}(r:fx x v):(v==eA)=decide (x=.non):=by
 cases x with
 |non=>cases r;rfl
 |bl _=>cases r;rfl
 |int _=>obtain⟨t,rfl⟩:=r;rfl
 |str _=>obtain⟨t,rfl⟩:=r;rfl
 |byt _=>obtain⟨t,rfl⟩:=r;rfl
 |flt _=>obtain⟨t,rfl⟩:=r;rfl
 |ref _=>cases r;rfl
 |ty _=>cases r;rfl
def iK{j pos'}(y:PE X a ta):PC X .Is a (.Constant .none j pos') (tIsN ta):=by
 intro r s g H Q I h;refine py (y r s g H _ I h) λv J q0=>?_;obtain⟨x,G,F,d,q1⟩:=q0;exact Constant_none (is_none_gen ⟨.bl _,G,F,by rw[d.none_iff];rfl,q1⟩)
def tB(t:TE):TT:=λg H Q=>t g H λx v=>∃c,x=.bl c/\Q c v
def yC{op:kH}{t:TE}(h:PC X op a b t)(h1:gu op b=ZA:=by first | exact Xg _ .(2) .(2) | rfl):PE X (.Compare a [op] [b] pos) t:=λr s g H Q I d=>wpAny_Compare1 (h r s g H Q I d) h1
def yD{op:kH}{t:TE}(h:PC X op a b t)(h1:gu op b=ZA:=by first | exact Xg _ .(2) .(2) | rfl):PT X (.Compare a [op] [b] pos) (tB t):=by
 intro r s g H Q I F;refine vt (py (h r s g H _ I F) λv U h1=>py h1 λu T G=>py G λc S p0=>?_) h1;obtain⟨x,O,J,y,q1⟩:=p0;obtain⟨d,rfl,q⟩:=q1;cases y;exact kB ⟨O,J,q⟩
variable {tA tB':TT}{rest:List Expr}
def tAnd(t u:TT):TT:=λg H Q=>t g H λc v=>if c=E3 then u g v Q else Q ZA v
def tOr(t u:TT):TT:=λg H Q=>t g H λc v=>if c=E3 then Q E3 v else u g v Q
def tNot(t:TT):TT:=λg H Q=>t g H λc v=>Q (!c) v
def q_(d:PT X a tA):PW X (.BoolOp .And [a] pos) tA:=by
 intro v r s g H Q I h;refine vv (py (d r s g H Q I h) λc y e=>?_);cases c with
 |true=>exact D7 e
 |false=>exact e
def iM(d:PT X a tA):PW X (.BoolOp .Or [a] pos) tA:=by
 intro v r s g H Q I h;refine isTrue_or (py (d r s g H Q I h) λc y e=>?_);cases c with
 |false=>exact isTrue_or_nil e
 |true=>exact e
def yE(J:PT X a tA)(G:PW X (.BoolOp .And (b::rest) pos) tB'):PW X (.BoolOp .And (a::b::rest) pos) (tAnd tA tB'):=by
 intro d r s g H Q I h;refine vv (py (J r s g H _ I h) λc y p9=>?_);obtain⟨v,F,q1⟩:=p9;cases c with
 |true=>exact G d r y g v Q F q1
 |false=>exact⟨v,F,q1⟩
def v5(J:PT X a tA)(G:PW X (.BoolOp .Or (b::rest) pos) tB'):PW X (.BoolOp .Or (a::b::rest) pos) (tOr tA tB'):=by
 intro d r s g H Q I h;refine isTrue_or (py (J r s g H _ I h) λc y g0=>?_);obtain⟨v,F,q1⟩:=g0;cases c with
 |true=>exact⟨v,F,q1⟩
 |false=>exact G d r y g v Q F q1
def yF(d:PT X a tA):PT X (.UnaryOp .Not a pos) (tNot tA):=by
 intro r s g H Q I h;exact D8 (d r s g H (λc v=>Q (!c) v) I h)
def AAn(d tb:TE):TE:=λg H Q=>d g H λx v=>∃c,x=.bl c/\if c=E3 then tb g v Q else Q (.bl ZA) v
def tOrV(d tb:TE):TE:=λg H Q=>d g H λx v=>∃c,x=.bl c/\if c=E3 then Q (.bl E3) v else tb g v Q
def yG{op}{t:TE}(h:PE X a t):PE X (.BoolOp op [a] pos) t:=λr s g H Q I d=>BoolOp_one (h r s g H Q I d)
def yH(O:PE X a ta)(J:PE X (.BoolOp .And (b::rest) pos) tb):PE X (.BoolOp .And (a::b::rest) pos) (AAn ta tb):=by
 intro r s g H Q I h;refine BoolOp_and (py (O r s g H _ I h) λv y g9=>?_);obtain⟨x,d,F,G,q1⟩:=g9;obtain⟨c,rfl,q1⟩:=q1;cases G;refine kB ?_;cases c with
 |true=>exact J r y g d Q F q1
 |false=>exact⟨.bl ZA,d,F,rfl,q1⟩
def AAo(O:PE X a ta)(J:PE X (.BoolOp .Or (b::rest) pos) tb):PE X (.BoolOp .Or (a::b::rest) pos) (tOrV ta tb):=by
 intro r s g H Q I h;refine BoolOp_or (py (O r s g H _ I h) λv y q9=>?_);obtain⟨x,d,F,G,q1⟩:=q9;obtain⟨c,rfl,q1⟩:=q1;cases G;refine kB ?_;cases c with
 |false=>exact J r y g d Q F q1
 |true=>exact⟨.bl E3,d,F,rfl,q1⟩
def tIf(t:TT)(d tb:TE):TE:=λg H Q=>t g H λc v=>if c=E3 then d g v Q else tb g v Q
def iQ{c:Expr}(G:PT X c tA)(O:PE X a ta)(J:PE X b tb):PE X (.IfExp c a b pos) (tIf tA ta tb):=by
 intro r s g H Q I h;refine wpAny_IfExp (py (G r s g H _ I h) λd y u0=>?_);obtain⟨v,F,q1⟩:=u0;cases d with
 |true=>exact O r y g v Q F q1
 |false=>exact J r y g v Q F q1
end
def Qr(K:ay)(H:Hp)(a:Addr)(xs:List V):Prop:=
 Rd H a (.lst xs) ∨
  ∃(o:Obj) (d:Array ac) (n:Nat),K.lookup a=O0 o/\o.cls=.type "list"/\o.dict=W1/\o.data=.seq d n/\d.size<=sizeLine/\gn xs d.toList
def Qb(K:ay)(H:Hp)(a:Addr)(xs:List V):Prop:=
 Rd H a (.tup xs) ∨
  ∃(o:Obj) (d:Array ac) (n:Nat),K.lookup a=O0 o/\o.cls=.type "tuple"/\o.data=.seq d n/\d.size<=sizeLine/\gn xs d.toList
def absV:ac->Option V
 |.none=>O0 .non
 |.bool b=>O0 (.bl b)
 |.int i _=>O0 (.int i)
 |.str x _=>O0 (.str x)
 |.bytes b _=>O0 (.byt b)
 |.float b _=>O0 (.flt b)
 |.ref a=>O0 (.ref a)
 |.type n=>O0 (.ty n)
 |_=>W1
def fx.abs{x:V}(r:fx x u):absV u=O0 x:=by
 cases x with
 |non=>cases r;rfl
 |bl _=>cases r;rfl
 |int _=>obtain⟨t,rfl⟩:=r;rfl
 |str _=>obtain⟨t,rfl⟩:=r;rfl
 |byt _=>obtain⟨t,rfl⟩:=r;rfl
 |flt _=>obtain⟨t,rfl⟩:=r;rfl
 |ref _=>cases r;rfl
 |ty _=>cases r;rfl
def fx.inj{x y:V}{u:ac}(r:fx x u)(q:fx y u):x=y:=dc (r.abs.symm.trans q.abs)
theorem gn.inj:∀{xs d:List V}{us:List ac},gn xs us->gn d us->xs=d
 |_,_,_,.nil,.nil=>rfl
 |_,_,_,.cons r t,.cons J g=>by rw[r.inj J,gn.inj t g]
section
variable {X:Cx}{H:Hp}{xs ys:List V}
def Qr.of{K:ay}(h:H a=O0 (.lst xs)):Qr K H a xs:=.inl (.inl h)
def Qb.of{K:ay}(h:H a=O0 (.tup xs)):Qb K H a xs:=.inl (.inl h)
def Inv.list(I:Inv X π σ H s)(h:Qr X.K H a xs):∃its:List ac,gn xs its/\PlainL s.heap a its.toArray/\xs.length<=sizeLine:=by
 rcases h with h | ⟨o,its,n,d,g,y,hs,S,r⟩
 .obtain⟨z,its,n,r,e⟩:=h.ok I.hok;exact⟨its,r,⟨_,n,e,rfl,rfl,rfl⟩,z⟩
 .refine⟨its.toList,r,⟨o,n,I.kIn a o d,g,y,by simpa using hs⟩,?_⟩;have e:=r.length;simp only[hJ] at e;omega
def Inv.tuple(I:Inv X π σ H s)(h:Qb X.K H a xs):∃its:List ac,gn xs its/\IsTup s.heap a its.toArray/\xs.length<=sizeLine:=by
 rcases h with h | ⟨o,its,n,d,g,hs,S,r⟩
 .obtain⟨z,its,r,p⟩:=h.ok I.hok;exact⟨its,r,p,z⟩
 .refine⟨its.toList,r,⟨o,I.kIn a o d,g,n,by simpa using hs⟩,?_⟩;have e:=r.length;simp only[hJ] at e;omega
def Inv.list_inj(I:Inv X π σ H s)(h:Qr X.K H a xs)(h':Qr X.K H a ys):xs=ys:=by
 obtain⟨g,r,⟨o,n,e,_,_,d⟩,_⟩:=I.list h;obtain⟨its',J,⟨F,G,S,_,_,v⟩,_⟩:=I.list h';rw[e] at S;cases S;rw[d] at v;injection v with y _
 have:g=its':=by simpa using UO D9 y
 subst this;exact r.inj J
def Inv.tuple_inj(I:Inv X π σ H s)(h:Qb X.K H a xs)(h':Qb X.K H a ys):xs=ys:=by
 obtain⟨g,r,⟨o,e,_,n,d⟩,_⟩:=I.tuple h;obtain⟨its',J,⟨F,S,_,G,v⟩,_⟩:=I.tuple h';rw[e] at S;cases S;rw[d] at v;injection v with y _
 have:g=its':=by simpa using UO D9 y
 subst this;exact r.inj J
end
abbrev Cx.wish (X:Cx) (E:ac->av->Prop):Cx:={ X with xe:=E }
abbrev Cx.nox (X:Cx):Cx:=X.wish λ_ _=>False
theorem Cx.Ok.wish{X:Cx}(ok:X.Ok)(E:ac->av->Prop):(X.wish E).Ok:=
 ⟨ok.mod,ok.kind,ok.glob,ok.blt,ok.above,ok.inj,ok.has,ok.cab,ok.hd,ok.frames,ok.stk,ok.exf,ok.bs,ok.bsz,ok.noex,ok.exfs,ok.funs,ok.frf⟩
def Cx.Ok.unwish{X:Cx}(ok:(X.wish E).Ok):X.Ok:=
 ⟨ok.mod,ok.kind,ok.glob,ok.blt,ok.above,ok.inj,ok.has,ok.cab,ok.hd,ok.frames,ok.stk,ok.exf,ok.bs,ok.bsz,ok.noex,ok.exfs,ok.funs,ok.frf⟩
section
variable {X:Cx}{H:Hp}
theorem Inv.wish(I:Inv X π σ H s)(E:ac->av->Prop):Inv (X.wish E) π σ H s:=⟨I.ok.wish E,I.os,I.bare,I.base,I.loc,I.cell,I.free,I.freeC,I.pin,I.hok,I.len⟩
theorem Inv.unwish(I:Inv (X.wish E) π σ H s):Inv X π σ H s:=⟨I.ok.unwish,I.os,I.bare,I.base,I.loc,I.cell,I.free,I.freeC,I.pin,I.hok,I.len⟩
theorem SP.unwish{D:Ends}{f:Flow}{s':av}(h:SP (X.wish E) π D f s'):SP X π D f s':=by
 cases f with
 |next=>obtain⟨d,g,I,q⟩:=h;exact⟨d,g,I.unwish,q⟩
 |brk=>obtain⟨d,g,I,q⟩:=h;exact⟨d,g,I.unwish,q⟩
 |cont=>obtain⟨d,g,I,q⟩:=h;exact⟨d,g,I.unwish,q⟩
 |ret u=>obtain⟨v,d,g,I,r,q⟩:=h;exact⟨v,d,g,I.unwish,r,q⟩
theorem PSs.nox{st:List Stmt}{t:TS}(h:PSs X.nox st t):PSs X st t:=λr s g H D I d=>
 gE (h r s g H D (I.wish _) d) (λ_ _ q=>q.unwish) λ_ _ z=>gv z
end
section
variable {X:Cx}{rest:List Stmt}{t u:TS}{te:TE}
def AAp:TS:=λD g H=>D.nx g H
def tSeq(t u:TS):TS:=λD g H=>t { D with nx:=u D } g H
def M4:PSs X [] AAp:=λ_ _ g H _ I h=>kq ⟨g,H,I,h⟩
def Le(h1:PS X st t)(F:PSs X rest u):PSs X (st::rest) (tSeq t u):=by
 intro r s g H D I h;refine lP (py (h1 r s g H { D with nx:=u D } I h) λf y q=>?_);cases f with
 |next=>
  obtain⟨d,J,G,q⟩:=q;exact F r y d J D G q
 |ret v=>exact q
 |brk=>exact q
 |cont=>exact q
def R1(h1:PS X st t):PSs X [st] t:=by
 intro r s g H D I h;refine lP (py (h1 r s g H D I h) λf y q=>?_);cases f with
 |next=>exact kq q
 |ret v=>exact q
 |brk=>exact q
 |cont=>exact q
def Inv.quiet{g:St}{H:Hp}(I:Inv X π g H s):interactive X.env=ZA:=by simp[interactive,I.ok.kind]
def v6(te:TE):TS:=λD g H=>te g H λ_ v=>D.nx g v
def R3(y:PE X e te)(hs:gI e W1 pos.line X.env=pure ZA:=by rfl):PS X (.Expr e pos) (v6 te):=by
 intro r s g H D I h;exact wpAny_Expr_any (py (y r s g H _ I h) (by rintro v G ⟨x,d,F,J,q1⟩;exact ⟨g,d,F,q1⟩)) I.quiet hs
def tRet(te:TE):TS:=λD g H=>te g H D.rt
def iR(y:PE X e te):PS X (.Return (O0 e) pos) (tRet te):=by
 intro r s g H D I h;exact AQ (py (y r s g H _ I h) (by rintro v J ⟨x,G,F,d,q1⟩;exact ⟨x,g,G,F,d,q1⟩))
def tIfS(c:TT)(t u:TS):TS:=λD g H=>c g H λb v=>if b=E3 then t D g v else u D g v
def iT{c:Expr}{a b:List Stmt}{tc:TT}(G:PT X c tc)(O:PSs X a t)(J:PSs X b u):PS X (.If c a b pos) (tIfS tc t u):=by
 intro r s g H D I h;refine xL (py (G r s g H _ I h) λd y q0=>?_);obtain⟨v,F,q1⟩:=q0;cases d with
 |true=>exact O r y g v D F q1
 |false=>exact J r y g v D F q1
end
abbrev TG:=V->St->Hp->(St->Hp->Prop)->Prop
abbrev TGs:=List V->St->Hp->(St->Hp->Prop)->Prop
def PG(X:Cx)(d:Expr)(t:TG):Prop:=
 ∀(y:QP) (s:av) (r:St) (H:Hp) (v:V) (u:ac) (Q:St->Hp->Prop),Inv X y r H s->fx v u->t v r H Q ->
  ah .(3) X.A (vx d X.env u) (λ_ G=>∃g F,Inv X y g F G/\Q g F) X.xe s
def PGs(X:Cx)(y:List Expr)(t:TGs):Prop:=
 ∀(r:QP) (s:av) (g:St) (H:Hp) (vs:List V) (us:List ac) (Q:St->Hp->Prop),Inv X r g H s->gn vs us->t vs g H Q ->
  ah .(3) X.A (assignInOrder ((jI y X.env).map (·.2)) us) (λ_ F=>∃d v,Inv X r d v F/\Q d v) X.xe s
section
variable {X:Cx}
def Hq(i:Nat):TG:=λv g H Q=>Q (g.set i (O0 v)) H
def rB{x:Str}(g:X.N.Nodup)(y:X.N[i]?=O0 x)(d:Loc X.env.scope x)(G:X.fn x=E3∨X.env.scope.names.lookup x=O0 .local :=by first | exact .inl rfl | exact .inr rfl | assumption):PG X (.Name x pos) (Hq i):=by
 intro O s J H v u Q I r h;exact IN (Sv I g y d r (λS F=>⟨_,H,F,h⟩) G)
def gNil:TGs:=λvs g H Q=>vs=[]/\Q g H
def Xh(t:TG)(u:TGs):TGs:=λvs g H Q=>∃v r,vs=v::r/\t v g H λd y=>u r d y Q
def aV:PGs X [] gNil:=by
 intro d s g H G v Q I r h;obtain⟨e,h⟩:=h;subst e;cases r;exact assignInOrder_nil ⟨g,H,I,h⟩
def Sw{es:List Expr}{t:TG}{u:TGs}(h1:PG X e t)(J:PGs X es u)(hs:(jI (e::es) X.env).map (·.2)=vx e X.env::(jI es X.env).map (·.2):=by rfl):PGs X (e::es) (Xh t u):=by
 intro g s y H U W Q I r h;obtain⟨v,vr,O,h⟩:=h;subst O;cases r with
 |cons r G=>
  rw[hs];refine assignInOrder_cons (py (h1 g s y H _ _ _ I r h) λ_ F q9=>?_);obtain⟨d,T,S,q1⟩:=q9;exact J g F d T _ _ Q S G q1
def gTup(K:ay)(n:Nat)(t:TGs):TG:=λv g H Q=>∃a xs,v=.ref a/\Qb K H a xs/\xs.length=n/\t xs g H Q
theorem iU{es:List Expr}{k:Nat}{t:TGs}(Y:X.calm=E3)(h:PGs X es t)(W:(jI es X.env).length=n:=by rfl)(g:(jI es X.env).findIdx? (·.1)=W1:=by rfl):PG X (.Tuple es k pos) (gTup X.K n t):=by
 intro F s y H v u Q I r d;obtain⟨a,J,e1,U,Z,d⟩:=d;subst e1;cases r;obtain⟨O,G,T,hz⟩:=I.tuple U;refine assign_Tuple_tuple (I.ok.hd Y) T (by simp[W,<-Z,G.length]) g λh' S=>?_;have I1:Inv X F y H { s with heap:=h' }:=I.kept (t':=s.toks) λb o e=>S b o (bS (bE e)) e;exact h F _ y H J _ Q I1 (by simpa using G) d
def tAsg(te:TE)(g:TG):TS:=λD d H=>te d H λx v=>g x d v D.nx
def yI{te:TE}{g:TG}(J:PE X e te)(U:PG X tg g)(hs:swapsWithSole [tg] e pos.line X.env=pure ZA:=by rfl)(G:swappedStores [tg] e X.env=pure W1:=by rfl)(h1:(jI [tg] X.env).map (·.2)=[vx tg X.env]:=by rfl):PS X (.Assign [tg] e pos) (tAsg te g):=by
 intro r s d H D I h;refine wpAny_Assign_stores (py (J r s d H _ I h) λv y p0=>?_) hs G;obtain⟨x,S,O,F,q1⟩:=p0;rw[h1];exact py (U r y d S x v _ O F q1) λ_ T q=>q
def iV{x:Str}{te:TE}(S:X.N.Nodup)(G:X.N[i]?=O0 x)(F:Loc X.env.scope x)(O:PE X e te)(hs:gI e (O0 (.Name x pos')) pos.line X.env=pure ZA:=by rfl)(J:X.fn x=E3∨X.env.scope.names.lookup x=O0 .local :=by first | exact .inl rfl | exact .inr rfl | assumption):
  PS X (.Assign [.Name x pos'] e pos) (tAsg te (Hq i)):=by
 intro r s g H D I h;refine wpAny_Assign_Name (py (O r s g H _ I h) λv Z p9=>?_) hs;obtain⟨y,W,U,d,q1⟩:=p9;exact Sv U S G F d (λY T=>⟨_,W,T,q1⟩) J
end
section
variable {X:Cx}
def yJ(c:TT)(tb:TS):TS:=λD g H=>∃W:Nat->St->Hp->Prop,(∃m,W m g H)/\∀m g H,W m g H ->
 c g H λb v=>if b=E3 then ∃N:St->Hp->Prop,(∀d y,N d y->∃r,r<m/\W r d y)/\tb { D with nx:=N,ct:=N,bk:=D.nx } g v else D.nx g v
def iW{c:Expr}{tc:TT}{tb:TS}(U:vE .(3) X.A X.env X.xe)(hc:PT X c tc)(hb:PSs X body tb):PS X (.While c body [] pos) (yJ tc tb):=by
 intro G s σ H D I h;obtain⟨W,⟨m0,w0⟩,y⟩:=h;refine wpAny_While (codeAny_whileLoop (λn s'=>∃r H',Inv X G r H' s'/\W n r H') ?_ m0 ⟨σ,H,I,w0⟩);rintro n s1 ⟨g,H1,I1,w1⟩;refine rX U (py (hc G s1 g H1 _ I1 (y n g H1 w1)) λb s2 g0=>?_);obtain⟨H2,Z,q2⟩:=g0;cases b with
 |true=>
  obtain⟨N,Y,q2⟩:=q2;rw[ZN rfl];refine rX U (py (hb G s2 g H2 _ Z q2) λf s3 q3=>?_);cases f with
  |next=>
   obtain⟨d,F,T,n3⟩:=q3;obtain⟨O,S,J⟩:=Y d F n3;exact⟨O,S,d,F,T,J⟩
  |cont=>
   obtain⟨d,F,T,n3⟩:=q3;obtain⟨O,S,J⟩:=Y d F n3;exact⟨O,S,d,F,T,J⟩
  |brk=>exact q3
  |ret v=>exact q3
 |false=>
  rw[OO dP];exact kq ⟨g,H2,Z,q2⟩
end
structure It where
 go:Nat->Hp->Prop
 yld:Nat->Hp->V->Hp->Prop
 stop:Nat->Hp->Prop
def FpOk(X:Cx)(r:QP)(H:Hp)(b:Addr):Prop:=
 H b=W1/\b≠X.env.locals/\b∉X.fs/\(b∈X.ex∨X.s₀.heap.objs.size<=b)/\(∀x c,X.env.cells.lookup x=O0 c->c≠b)/\∀p∈X.pn++r,p.1≠b
def Inv.fpOk{X:Cx}{r:St}{H g:Hp}(I:Inv X π r H s)(d:s.heap.objs.size<=b)(F:g b=W1):FpOk X π g b:=by
 refine⟨F,pw (fE I.lt d),I.nofs d,.inr (dA I.sz d),λx c e z=>?_,λp y z=>?_⟩
 .obtain⟨v,q⟩:=I.cell x c e;exact QO (fE q.lt (by rw[z];exact d)) (kG _)
 .exact QO (fE (bE (I.pin p y).1) (by rw[z];exact d)) (kG _)
structure Turn (P:cE) (w:cb) (K:ay) (tg:Expr) (J:It) (fp:List Addr) (it:Addr) (tn:Nat->Heap->Prop):Prop where
 mem:it∈fp
 obj:∀i h,tn i h->∀b∈fp,∃o,h.get? b=O0 o/\∀v,o.data≠.cell v
 keep:∀i h h',tn i h->(∀b∈fp,∀o,h.get? b=O0 o->h'.get? b=O0 o)->tn i h'
 item:∀(X:Cx),X.prog=P->X.w=w->X.K=K->X.calm=E3->∀(i:Nat) (π:QP) (s:av) (σ:St) (H:Hp) (E:ac->av->Prop),Inv X π σ H s->(∀b∈fp,FpOk X π H b)->tn i s.heap->J.go i H ->
  ah (ai P w) X.A (hU (.ref it)) (λr s1=>∃u,r=O0 u ∧
   ah (ai P w) X.A (AR tg (.ref it) u) (λ_ s2=>∃x H',Inv X π σ H' s2/\fx x u/\J.yld i H x H'/\tn (i+1) s2.heap/\∀b∈fp,H' b=W1) E s1) E s
 done:∀(X:Cx),X.prog=P->X.w=w->X.K=K->X.calm=E3->∀(i:Nat) (π:QP) (s:av) (σ:St) (H:Hp) (E:ac->av->Prop),Inv X π σ H s->(∀b∈fp,FpOk X π H b)->tn i s.heap->J.stop i H ->
  ah (ai P w) X.A (hU (.ref it)) (λr s1=>r=W1/\Inv X π σ H s1) E s
 self:∀(A:aT) (i:Nat) (s:av) (Q:ac->av->Prop) (E:ac->av->Prop),tn i s.heap->Q (.ref it) s->ah (ai P w) A (pE (.ref it)) Q E s
abbrev TI:=St->Hp->(It->Hp->Prop)->Prop
def PIE(X:Cx)(r:QP)(y:St)(tg:Expr)(R:It->Hp->Prop)(d:ac)(T:av):Prop:=
 ∃(it:Addr) (fp:List Addr) (v:Nat->Heap->Prop) (J:It) (g:Hp),d=.ref it/\Inv X r y g T/\Turn X.prog X.w X.K tg J fp it v/\v 0 T.heap/\(∀b∈fp,FpOk X r g b)/\R J g
def PI(X:Cx)(tg d:Expr)(y:TI):Prop:=
 ∀(r:QP) (s:av) (g:St) (H:Hp) (R:It->Hp->Prop),Inv X r g H s->y g H R ->
  ah .(3) X.A (eval d X.env) (λv F=>ah .(3) X.A (pE v) (PIE X r g tg R) X.xe F) X.xe s
def Xi{A:aT}{n:String}{vs:Array ac}{Q:Unit->av->Prop}(v:s.heap.get? it=O0 o)(I:o.cls=.type n)(y:o.data=.fields vs)(g:["enumerate","zip","dict_itemiterator","dict_reverseitemiterator","odict_iterator","itertools.zip_longest","itertools.pairwise"].contains n=ZA)(r:Q () s):ah M A (AR tg (.ref it) u) Q E s:=by
  unfold AR;cases tg<;>first
    |exact aw r
    | (cases u<;>first
        |exact aw r
        | (refine ag (xS v ?_)
           rw[I,y];show ah M A (if (["enumerate","zip","dict_itemiterator","dict_reverseitemiterator","odict_iterator","itertools.zip_longest","itertools.pairwise"].contains n&&vs[0]?==O0 (dL _))=E3 then _ else _) Q E s;rw[OO (by intro h;rw[g,Da] at h;cases h)];exact aw r))
def Itl(K:ay)(a:Addr):It:=
 ⟨λi H=>∃xs x,Qr K H a xs/\xs[i]?=O0 x,λi H x d=>d=H/\∀xs,Qr K H a xs->xs[i]?=O0 x,λi H=>∃xs,Qr K H a xs/\xs.length<=i⟩
def Itt(K:ay)(a:Addr):It:=
 ⟨λi H=>∃xs x,Qb K H a xs/\xs[i]?=O0 x,λi H x d=>d=H/\∀xs,Qb K H a xs->xs[i]?=O0 x,λi H=>∃xs,Qb K H a xs/\xs.length<=i⟩
def Itr(r:Int)(n:Nat):It:=⟨λi _=>i<n,λi H x d=>d=H/\x=.int (r+i),λi _=>n<=i⟩
theorem e_{K:ay}(a it:Addr):Turn P w K tg (Itl K a) [it] it (λi h=>h.IsListIter it a i) where
 mem:=by simp
 obj:=λi h W b g=>by
  have e:b=it:=by simpa using g
  subst e;obtain⟨o,e,c,d⟩:=W;exact⟨o,e,λv z=>by rw[d] at z;cases z⟩
 keep:=λi h J W k=>W.at λo e=>k it .(1) o e
 item:=by
  intro X hP S Y hc i π s σ H E I G W T;subst hP S Y;obtain⟨xs,x,U,O⟩:=T;obtain⟨F,y,p,hz⟩:=I.list U;obtain⟨u,hu,ru⟩:=y.get O;obtain⟨f0,f1,f2,f3,f4,Z⟩:=G it .(1);refine IP W p.isList (x:=u) (by simpa using hu) λJ r sb=>?_;have I1:Inv X π σ H { s with heap:=J }:=I.turned (t':=s.toks) (λb o g e=>(sb.2 b g).trans e) f0 f1 f3 f4 Z;obtain⟨o,e,c,d⟩:=id r;exact⟨u,rfl,Xi (s:={ s with heap:=J }) e c d .(2) ⟨x,H,I1,ru,⟨rfl,λys hy=>by rw[I.list_inj hy U];exact O⟩,r,λb g=>(G b g).1⟩⟩
 done:=by
  intro X hP S Y hc i π s σ H E I G W T;subst hP S Y;obtain⟨xs,U,O⟩:=T;obtain⟨F,y,p,hz⟩:=I.list U;obtain⟨f0,f1,f2,f3,f4,Z⟩:=G it .(1);have hl:=y.length;exact IQ (I.ok.hd hc) W p.isList (by simp;omega) λJ eb=>⟨rfl,I.turned (t':=s.toks) (λb o g e=>eb b o g e) f0 f1 f3 f4 Z⟩
 self:=λ_ _ _ _ _ W h=>wpAny_pyIter_listiter W h
theorem ZM{K:ay}(a it:Addr):Turn P w K tg (Itt K a) [it] it (λi h=>h.IsTupleIter it a i) where
 mem:=by simp
 obj:=λi h W b r=>by
  have e:b=it:=by simpa using r
  subst e;obtain⟨o,e,c,d⟩:=W;exact⟨o,e,λv z=>by rw[d] at z;cases z⟩
 keep:=λi h J W k=>W.at λo e=>k it .(1) o e
 item:=by
  intro X hP S Y hc i π s σ H E I G W T;subst hP S Y;obtain⟨xs,x,U,O⟩:=T;obtain⟨g,F,p,hz⟩:=I.tuple U;obtain⟨u,hu,ru⟩:=F.get O;obtain⟨f0,f1,f2,f3,f4,Z⟩:=G it .(1);refine wpAny_pyNext_tuple_item W (show s.heap.IsTuple a g.toArray from p) (x:=u) (by simpa using hu) λJ y sb=>?_;have I1:Inv X π σ H { s with heap:=J }:=I.turned (t':=s.toks) (λb o r e=>(sb.2 b r).trans e) f0 f1 f3 f4 Z;obtain⟨o,e,c,d⟩:=id y;exact⟨u,rfl,Xi (s:={ s with heap:=J }) e c d .(2) ⟨x,H,I1,ru,⟨rfl,λys hy=>by rw[I.tuple_inj hy U];exact O⟩,y,λb r=>(G b r).1⟩⟩
 done:=by
  intro X hP S Y hc i π s σ H E I G W T;subst hP S Y;obtain⟨xs,U,O⟩:=T;obtain⟨g,F,p,hz⟩:=I.tuple U;obtain⟨f0,f1,f2,f3,f4,Z⟩:=G it .(1);have hl:=F.length;exact wpAny_pyNext_tuple_end (I.ok.hd hc) W (show s.heap.IsTuple a g.toArray from p) (by simp;omega) λJ eb=>⟨rfl,I.turned (t':=s.toks) (λb o r e=>eb b o r e) f0 f1 f3 f4 Z⟩
 self:=λ_ _ _ _ _ W h=>wpAny_pyIter_tupleiter W h
theorem ZP{K:ay}(it:Addr)(y:Int)(n:Nat):Turn P w K tg (Itr y n) [it] it (λi h=>IsRangeIter h it (y+(i:Nat)*1) ((n:Int)-(i:Nat)) 1) where
 mem:=by simp
 obj:=λi h d b g=>by
  have e:b=it:=by simpa using g
  subst e;exact⟨_,d,λv z=>by
   have z':DA _=DB v:=z;cases z'⟩
 keep:=λi h J d k=>k it .(1) _ d
 item:=by
  intro X hP F Y O i π s σ H E I G d U;subst hP F Y;obtain⟨f0,f1,f2,T,S,Z⟩:=G it .(1);have W:=Walks.range (prog:=X.prog) (w:=X.w) (I.ok.hd O) it y 1 n;refine W.item i s _ _ U d λv J tk hv r kk=>?_;obtain⟨t,rfl⟩:=hv;have I1:Inv X π σ H { s with heap:=J,toks:=tk }:=I.turned (λb o g e=>kk b o (by simpa using g) e) f0 f1 T S Z;refine⟨_,rfl,Xi (s:={ s with heap:=J,toks:=tk }) (n:="range_iterator") r rfl rfl .(2) ⟨.int (y+i),H,I1,⟨t,?_⟩,⟨rfl,rfl⟩,r,λb g=>(G b g).1⟩⟩;rw[Int.mul_one]
 done:=by
  intro X hP F Y O i π s σ H E I G d U;subst hP F Y;obtain⟨f0,f1,f2,T,S,Z⟩:=G it .(1);exact wpAny_pyNext_range_end (I.ok.hd O) d (by have:n<=i:=U;omega) λJ eb=>⟨rfl,I.turned (t':=s.toks) (λb o g e=>eb b o g e) f0 f1 T S Z⟩
 self:=λ_ _ _ _ _ d h=>wpAny_pyIter_rangeiter d h
section
variable {X:Cx}
def AAq(K:ay)(d:TE):TI:=λg H R=>d g H λx v=>∃a,x=.ref a/\(∃xs,Qr K v a xs)/\R (Itl K a) v
def iTup(K:ay)(d:TE):TI:=λg H R=>d g H λx v=>∃a,x=.ref a/\(∃xs,Qb K v a xs)/\R (Itt K a) v
theorem rC{l:Expr}{d:TE}(Z:PE X l d):PI X tg l (AAq X.K d):=by
 intro r s g H R I h;refine py (Z r s g H _ I h) λv y q0=>?_;obtain⟨x,S,F,G,q1⟩:=q0;obtain⟨a,e,⟨T,U⟩,q⟩:=q1;subst e;cases G;obtain⟨J,W,p,Y⟩:=F.list U;refine AS p.isList ?_;refine⟨y.heap.objs.size,[y.heap.objs.size],_,_,S,rfl,F.kept (t':=y.toks) λb o e=>bo _ e,e_ a _,⟨_,ci _ rfl,rfl,rfl⟩,λb O=>?_,q⟩;have e:b=y.heap.objs.size:=by simpa using O
 subst e;exact F.fpOk (aS _) (F.hok.fresh (aS _))
theorem yK{l:Expr}{g:TE}(Z:PE X l g):PI X tg l (iTup X.K g):=by
 intro G s r H R I h;refine py (Z G s r H _ I h) λv y q9=>?_;obtain⟨x,S,F,J,q1⟩:=q9;obtain⟨a,e,⟨T,U⟩,q⟩:=q1;subst e;cases J;obtain⟨d,W,p,Y⟩:=F.tuple U;refine y0 (show y.heap.IsTuple a d.toArray from p) ?_;refine⟨y.heap.objs.size,[y.heap.objs.size],_,_,S,rfl,F.kept (t':=y.toks) λb o e=>bo _ e,ZM a _,⟨_,ci _ rfl,rfl,rfl⟩,λb O=>?_,q⟩;have e:b=y.heap.objs.size:=by simpa using O
 subst e;exact F.fpOk (aS _) (F.hok.fresh (aS _))
theorem iY{g:St}{H:Hp}{R:It->Hp->Prop}{lo y:Int}{t u v:Tok}{tk:Nat}(I:Inv X π g H s)(h1 : -(2^62)<=lo)(G:lo<2^62)(S : -(2^62)<=y)(r:y<2^62)(q:R (Itr lo (y-lo).toNat) H):ah .(3) X.A (pE (.ref s.heap.objs.size)) (PIE X π g tg R) E { s with heap:=s.heap.push { cls:=.type "range",data:=.fields #[.int lo t,.int y u,.int 1 v] },toks:=tk }:=by
 refine wpAny_pyIter_range (IsRange.new ..) (small_one h1 G S r) ?_;have F:Inv X π g H { s with heap:=s.heap.push { cls:=.type "range",data:=.fields #[.int lo t,.int y u,.int 1 v] },toks:=tk }:=I.kept λb o e=>bo _ e;refine⟨(s.heap.push { cls:=.type "range",data:=.fields #[.int lo t,.int y u,.int 1 v] }).objs.size,[(s.heap.push { cls:=.type "range",data:=.fields #[.int lo t,.int y u,.int 1 v] }).objs.size],_,_,H,rfl,
  F.kept (t':=tk) λb o e=>bo _ e,ZP _ lo (y-lo).toNat,?_,λb d=>?_,q⟩
 .have O:lo+((0:Nat):Int)*1=lo:=by simp
  have J:(((y-lo).toNat:Nat):Int)-((0:Nat):Int)=IR lo y 1:=by rw[rangeSize_one];split<;>omega
  show IsRangeIter _ _ (lo+((0:Nat):Int)*1) ((((y-lo).toNat:Nat):Int)-((0:Nat):Int)) 1;rw[O,J];exact ci _ rfl
 .have e:b=(s.heap.push { cls:=.type "range",data:=.fields #[.int lo t,.int y u,.int 1 v] }).objs.size:=by simpa using d
  subst e;exact F.fpOk (aS _) (F.hok.fresh (aS _))
def AAr(d:TA):TI:=λg H R=>d g H λvs v=>∃j:Int,vs=[.int j]/\-(2^62)<=j/\j<2^62/\R (Itr 0 j.toNat) v
def fB{a:Expr}{d:TA}{p:Pos}(U:Gl X "range")(F:X.mg "range"=W1)(J:PA X [a] d)(hs:aE [a] X.env=[(ZA,eval a X.env)]:=by rfl):PI X tg (.Call (.Name "range" p) [a] [] pos) (AAr d):=by
 intro v s g H R I h;refine Call_ (QX I U F boot_range (DC (py (J pos v s g H _ I h) λT W p0=>?_) hs rfl));obtain⟨S,Y,O,y,q1⟩:=p0;obtain⟨j,e,q1,q2,q⟩:=q1;subst e;cases y with
 |cons r G=>
  cases G;obtain⟨t,rfl⟩:=r;exact call_range_1 (iY O .(0) .(0) q1 q2 (by simpa using q))
def tFor(G:TI)(g:TG)(tb:TS):TS:=λD d H=>G d H λJ O=>∃W:Nat->Nat->St->Hp->Prop,(∃m,W 0 m d O)/\∀i m d H,W i m d H ->
 (J.stop i H/\D.nx d H)∨(J.go i H/\∃N:St->Hp->Prop,(∀r v,N r v->∃F,F<m/\W (i+1) F r v)/\∀x v,J.yld i H x v->g x d v λy I=>tb { D with nx:=N,ct:=N,bk:=D.nx } y I)
def Sy(fp:List Addr)(h:Heap):List (Addr×Obj):=fp.filterMap λb=>(h.get? b).map λo=>(b,o)
def Kh(H:b∈fp)(e:h.get? b=O0 o):(b,o)∈Sy fp h:=DD.mpr ⟨b,H,by rw[e];rfl⟩
def fC{p:Addr×Obj}(y:p∈Sy fp h):p.1∈fp/\h.get? p.1=O0 p.2:=by
 obtain⟨b,H,e⟩:=DD.mp y;cases q:h.get? b with
 |none=>rw[q] at e;cases e
 |some o=>
  rw[q] at e;have S:(b,o)=p:=dc e;subst S;exact⟨H,q⟩
def Inv.pinned{g:St}{H:Hp}(I:Inv X π g H s)(G:∀b∈fp,FpOk X π H b)(F:∀b∈fp,∃o,s.heap.get? b=O0 o/\∀v,o.data≠.cell v):Inv X (π++Sy fp s.heap) g H s:=
 I.pins_of λp y=>(eR.mp y).elim (λz=>I.pin p (kK _ z)) λz=>by
  obtain⟨r,e⟩:=fC z;obtain⟨T,O,J,_⟩:=G p.1 r;obtain⟨o,S,d⟩:=F p.1 r;rw[e] at S;cases S;exact⟨e,T,O,J,d⟩
def Inv.unpinned{pl:QP}{g:St}{H:Hp}(I:Inv X (π++pl) g H s):Inv X π g H s:=I.pins_of λp y=>I.pin p (kK _ (vk _ y))
def ZQ{S:Expr}{wi:TI}{g:TG}{tb:TS}(hp:vE .(3) X.A X.env X.xe)(hc:X.calm=E3)(hi:PI X tg S wi)(hg:PG X tg g)(U:PSs X body tb)(hs:∀x,pS S X.env x=pure x:=by intro _;rfl):PS X (.For tg S body [] pos) (tFor wi g tb):=by
 intro π s σ H D I h;refine wpAny_For (py (hi π s σ H _ I h) λv s1 h1=>py h1 λS2 s2 h2=>?_) hs;obtain⟨it,fp,tn,J,H2,e,I2,T,X1,f2,W,⟨m0,w0⟩,S0⟩:=h2;subst e;have O:∀{H':Hp},(∀b∈fp,H' b=W1)->∀b∈fp,FpOk X π H' b:=λhn b U=>⟨hn b U,(f2 b U).2⟩;refine codeAny_forLoop_any (λn s'=>∃i G H',Inv X π G H' s'/\tn i s'.heap/\(∀b∈fp,H' b=W1)/\W i n G H') ?_ m0 ⟨0,σ,H2,I2,X1,λb U=>(f2 b U).1,w0⟩;rintro n s3 ⟨i,F,H3,I3,P1,S1,w3⟩
 rcases S0 i n F H3 w3 with ⟨X0,qn⟩ | ⟨go,N,hN,step⟩
 .refine rX hp (py (T.done X rfl rfl rfl hc i π s3 F H3 X.xe I3 (O S1) P1 X0) λr s4 p9=>?_);obtain⟨hr,I4⟩:=p9;subst hr;exact kq ⟨F,H3,I4,qn⟩
 .refine rX hp (py (T.item X rfl rfl rfl hc i π s3 F H3 X.xe I3 (O S1) P1 go) λr s4 g0=>?_);obtain⟨u,hr,h4⟩:=g0;subst hr;refine rX hp (py h4 λ_ s5 g9=>?_);obtain⟨x,H5,I5,r5,y5,r0,Y1⟩:=g9;have Q2:=I5.pinned (O Y1) (T.obj _ _ r0);refine rX hp (py (hg _ s5 F H5 x u _ Q2 r5 (step x H5 y5)) λ_ s6 u0=>?_);obtain⟨U1,H6,I6,q6⟩:=u0;refine rX hp (py (U _ s6 U1 H6 _ I6 q6) λf s7 q7=>?_);have Y:∀{y:St}{H7:Hp},Inv X (π++Sy fp s5.heap) y H7 s7->N y H7->∃m,m<n/\∃i G H',Inv X π G H' s7/\tn i s7.heap/\(∀b∈fp,H' b=W1)/\W i m G H':=λ{y H7} Z n7=>by
   obtain⟨m',hm,w7⟩:=hN y H7 n7;refine⟨m',hm,i+1,y,H7,Z.unpinned,T.keep _ _ _ r0 λb U o e=>(Z.pin (b,o) (kK _ (kK _ (Kh U e)))).1,λb U=>?_,w7⟩;obtain⟨o,e,d⟩:=T.obj _ _ r0 b U;exact (Z.pin (b,o) (kK _ (kK _ (Kh U e)))).2.1
  cases f with
  |next=>obtain⟨y,H7,Z,n7⟩:=q7;exact Y Z n7
  |cont=>obtain⟨y,H7,Z,n7⟩:=q7;exact Y Z n7
  |brk=>obtain⟨y,H7,Z,q7⟩:=q7;exact⟨y,H7,Z.unpinned,q7⟩
  |ret v=>obtain⟨x7,y,H7,Z,r7,q7⟩:=q7;exact⟨x7,y,H7,Z.unpinned,r7,q7⟩
end
abbrev R2:=V->V->Hp->VK->Prop
def PZ(X:Cx)(f:ac->ac->Sem ac)(r:R2):Prop:=
 ∀(d:QP) (s:av) (g:St) (H:Hp) (x y:V) (v u:ac) (Q:VK),Inv X d g H s->fx x v->fx y u->r x y H Q ->
  ah .(3) X.A (f v u) (EP X d g Q) X.xe s
def UnR(X:Cx)(f:ac->Sem ac)(r:V->Hp->VK->Prop):Prop:=
 ∀(d:QP) (s:av) (g:St) (H:Hp) (x:V) (v:ac) (Q:VK),Inv X d g H s->fx x v->r x H Q ->
  ah .(3) X.A (f v) (EP X d g Q) X.xe s
def Dy(X:Cx)(f:ac)(r:List V->Hp->VK->Prop):Prop:=
 ∀(d:QP) (s:av) (g:St) (H:Hp) (xs:List V) (us:List ac) (Q:VK),Inv X d g H s->gn xs us->r xs H Q ->
  ah .(3) X.A (call f us) (EP X d g Q) X.xe s
def TruR(X:Cx)(r:V->Hp->(Bool->Hp->Prop)->Prop):Prop:=
 ∀(d:QP) (s:av) (g:St) (H:Hp) (x:V) (v:ac) (Q:Bool->Hp->Prop),Inv X d g H s->fx x v->r x H Q ->
  ah .(3) X.A (truthy v) (TP X d g Q) X.xe s
def tOp(r:R2)(d tb:TE):TE:=λg H Q=>d g H λx F=>tb g F λy v=>r x y v Q
def tUn(r:V->Hp->VK->Prop)(d:TE):TE:=λg H Q=>d g H λx v=>r x v Q
def rI(C:Int->Int->Prop)(g:Int->Int->V):R2:=λx y H Q=>∃i j,x=.int i/\y=.int j/\C i j/\Q (g i j) H
def rI0(g:Int->Int->V):R2:=λx y H Q=>∃i j,x=.int i/\y=.int j/\Q (g i j) H
def rU(g:Int->V):V->Hp->VK->Prop:=λx H Q=>∃i,x=.int i/\Q (g i) H
section
variable {X:Cx}{a b:Expr}{ta tb:TE}
def binT(Z:PE X a ta)(Y:PE X b tb){G:QP}{s:av}{g:St}{H:Hp}{R:V->V->Hp->Prop}(I:Inv X G g H s)(h:ta g H λx J=>tb g J λy r=>R x y r){Q:ac->av->Prop}{f:ac->ac->Sem ac}(W:∀v u T x y r,Inv X G g r T->fx x v->fx y u->R x y r->ah .(3) X.A (f v u) Q X.xe T):
  ah .(3) X.A (eval a X.env) (λv F=>ah .(3) X.A (eval b X.env) (λu d=>ah .(3) X.A (f v u) Q X.xe d) X.xe F) X.xe s:=by
 refine py (Z G s g H _ I h) λv O q0=>?_;obtain⟨x,J,I1,U,q1⟩:=q0;refine py (Y G O g J _ I1 q1) λu T q9=>?_;obtain⟨y,r,I2,S,q2⟩:=q9;exact W v u T x y r I2 U S q2
def v7{op:Operator}{r:R2}(G:PZ X (ii op) r)(O:PE X a ta)(J:PE X b tb):PE X (.BinOp a op b pos) (tOp r ta tb):=by
 intro d s g H Q I h;exact wpAny_BinOp (binT O J I h λv u T x y U S rx F q=>G d T g U x y v u Q S rx F q)
def AAs{op:UnaryOp}{r:V->Hp->VK->Prop}(G:UnR X (unaryOp op) r)(J:PE X a ta):PE X (.UnaryOp op a pos) (tUn r ta):=by
 intro d s g H Q I h;exact UnaryOp_ (py (J d s g H _ I h) (by rintro v y ⟨x,S,O,F,q1⟩;exact G d y g S x v Q O F q1))
def opI{f:ac->ac->Sem ac}{C:Int->Int->Prop}{g:Int->Int->Int}(d:∀(i j:Int) (t u:Tok) (s:av) (Q:ac->av->Prop) (E:ac->av->Prop),C i j->Q (.int (g i j) s.toks) { s with toks:=s.toks+1 }->ah .(3) X.A (f (.int i t) (.int j u)) Q E s):
  PZ X f (rI C λi j=>.int (g i j)):=by
 intro O s J H x y v u Q I rx F h;obtain⟨i,j,rfl,rfl,G,q⟩:=h;obtain⟨t,rfl⟩:=rx;obtain⟨r,rfl⟩:=F;exact d i j t r s _ _ G ⟨.int (g i j),H,I.tok _,⟨_,rfl⟩,q⟩
def opI0{f:ac->ac->Sem ac}{g:Int->Int->Int}(d:∀(i j:Int) (t u:Tok) (s:av) (Q:ac->av->Prop) (E:ac->av->Prop),Q (.int (g i j) s.toks) { s with toks:=s.toks+1 }->ah .(3) X.A (f (.int i t) (.int j u)) Q E s):
  PZ X f (rI0 λi j=>.int (g i j)):=by
 intro J s G H x y v u Q I rx F h;obtain⟨i,j,rfl,rfl,q⟩:=h;obtain⟨t,rfl⟩:=rx;obtain⟨r,rfl⟩:=F;exact d i j t r s _ _ ⟨.int (g i j),H,I.tok _,⟨_,rfl⟩,q⟩
def opB0{f:ac->ac->Sem ac}{g:Int->Int->Bool}(d:∀(i j:Int) (t u:Tok) (s:av) (Q:ac->av->Prop) (E:ac->av->Prop),Q (.bool (g i j)) s->ah .(3) X.A (f (.int i t) (.int j u)) Q E s):
  PZ X f (rI0 λi j=>.bl (g i j)):=by
 intro J s G H x y v u Q I rx F h;obtain⟨i,j,rfl,rfl,q⟩:=h;obtain⟨t,rfl⟩:=rx;obtain⟨r,rfl⟩:=F;exact d i j t r s _ _ ⟨.bl (g i j),H,I,rfl,q⟩
def CDiv(i j:Int):Prop:=0<j/\j<1073741824
def CPow(i j:Int):Prop:=0<=j/\j<=1000000/\i.natAbs<2^64
def CMul(i j:Int):Prop:=(-(2^64)<i/\i<2^64)∨(-(2^64)<j/\j<2^64)
def CMul.ok{i j:Int}(h:CMul i j):IntMulOk i j:=by
 rcases h with ⟨g,d⟩ | ⟨g,d⟩
 .exact .of_left (intBits_le_64 g d)
 .exact .of_right (intBits_le_64 g d)
def ZR(k:Nat):(0:Int)<=2^k:=by
 rw[two_pow_cast];exact Int.natCast_nonneg _
def yL:PZ X (ii .Add) (rI0 λi j=>.int (i+j)):=opI0 λ_ _ _ _ _ _ _ q=>add_int q
def yM:PZ X (ii .Sub) (rI0 λi j=>.int (i-j)):=opI0 λ_ _ _ _ _ _ _ q=>sub_int q
def rD:PZ X (ii .FloorDiv) (rI CDiv λi j=>.int (i/j)):=opI λi j _ _ _ _ _ I q=>by
 have g:(0:Int)<j:=I.1;have d:j<1073741824:=I.2;exact floordiv_int .(0) (by rw[IS i .(0)];exact q) (.inl (PyProof.noPylong_small .(0)))
def yN:PZ X (ii .Mod) (rI (λ_ j=>0<j) λi j=>.int (i%j)):=opI λi j _ _ _ _ _ I q=>by
 have g:(0:Int)<j:=I;exact mod_int' .(0) (by rw[Int.fmod_eq_emod_of_nonneg i .(0)];exact q)
def iZ:PZ X (ii .Pow) (rI CPow λi j=>.int (i^j.toNat)):=opI λ_ _ _ _ _ _ _ I q=>pow_int_small I.1 I.2.1 I.2.2 q
def ie:PZ X (ii .RShift) (rI (λ_ j=>0<=j) λi j=>.int (i/2^j.toNat)):=opI λi j _ _ _ _ _ I q=>
 rshift_int I (by rw[IS i (ZR _)];exact q)
def ig:PZ X (ii .BitAnd) (rI0 λi j=>.int (vS i j)):=opI0 λ_ _ _ _ _ _ _ q=>and_int q
def unI{f:ac->Sem ac}{g:Int->Int}(d:∀(i:Int) (t:Tok) (s:av) (Q:ac->av->Prop) (E:ac->av->Prop),Q (.int (g i) s.toks) { s with toks:=s.toks+1 }->ah .(3) X.A (f (.int i t)) Q E s):
  UnR X f (rU λi=>.int (g i)):=by
 intro y s r H x v Q I rx h;obtain⟨i,rfl,q⟩:=h;obtain⟨t,rfl⟩:=rx;exact d i t s _ _ ⟨.int (g i),H,I.tok _,⟨_,rfl⟩,q⟩
def yO:UnR X (unaryOp .USub) (rU λi=>.int (-i)):=unI λ_ _ _ _ _ q=>neg_int q
end
def scal:V->V->Bool
 |.non,.non=>E3 | .non,.int _=>E3 | .int _,.non=>E3 | .non,.bl _=>E3 | .bl _,.non=>E3 | .non,.str _=>E3 | .str _,.non=>E3
 |.int _,.int _=>E3 | .bl _,.bl _=>E3 | .str _,.str _=>E3 | .byt _,.byt _=>E3
 |.int _,.str _=>E3 | .str _,.int _=>E3 | .bl _,.str _=>E3 | .str _,.bl _=>E3
 |_,_=>ZA
def rEq:R2:=λx y H Q=>scal x y=E3/\Q (.bl (decide (x=y))) H
def rNe:R2:=λx y H Q=>scal x y=E3/\Q (.bl (!decide (x=y))) H
def aW{i j:Int}:decide (V.int i=V.int j)=(i==j):=by
 rw[kL];simp
def ik{i j:Bool}:decide (V.bl i=V.bl j)=(i==j):=by
 rw[kL];simp
def aX{i j:Str}:decide (V.str i=V.str j)=(i==j):=by
 rw[kL];simp
def aZ{i j:Array UInt8}:decide (V.byt i=V.byt j)=(i.toList==j.toList):=by
 rw[kL];cases i;cases j;simp
section
variable {X:Cx}{a b c:Expr}{ta tb tc:TE}
def Bj{g:St}{H:Hp}{Q:VK}{k d:Bool}(I:Inv X π g H s)(q:Q (.bl k) H)(e:k=d):EP X π g Q (.bool d) s:=by
 subst e;exact⟨.bl k,H,I,rfl,q⟩
def AAt:PZ X (dS .Eq) rEq:=by
 intro r s g H x y v u Q I rx F h;obtain⟨hs,q⟩:=h;cases x with
 |non=>
  cases rx;cases y with
  |non=>cases F;exact PySem.EqNone.eq_none_none (Bj I q .(1))
  |bl j=>cases F;exact PySem.EqNone.eq_none_bool (Bj I q .(1))
  |int j=>obtain⟨d,rfl⟩:=F;exact PySem.EqNone.eq_none_int (Bj I q .(1))
  |str j=>obtain⟨d,rfl⟩:=F;exact PySem.EqNone.eq_none_str (Bj I q .(1))
  |_=>exact QO (show ZA=E3 from hs) dP
 |bl i=>
  cases rx;cases y with
  |non=>cases F;exact PySem.EqNone.eq_bool_none (Bj I q .(1))
  |bl j=>cases F;exact eq_bool (Bj I q ik)
  |str j=>obtain⟨d,rfl⟩:=F;exact PySem.EqMixed.eq_bool_str (Bj I q .(1))
  |_=>exact QO (show ZA=E3 from hs) dP
 |int i=>
  obtain⟨t,rfl⟩:=rx;cases y with
  |non=>cases F;exact PySem.EqNone.eq_int_none (Bj I q .(1))
  |int j=>obtain⟨d,rfl⟩:=F;exact eq_int (Bj I q aW)
  |str j=>obtain⟨d,rfl⟩:=F;exact PySem.EqMixed.eq_int_str (Bj I q .(1))
  |_=>exact QO (show ZA=E3 from hs) dP
 |str i=>
  obtain⟨t,rfl⟩:=rx;cases y with
  |non=>cases F;exact PySem.EqNone.eq_str_none (Bj I q .(1))
  |bl j=>cases F;exact PySem.EqMixed.eq_str_bool (Bj I q .(1))
  |int j=>obtain⟨d,rfl⟩:=F;exact PySem.EqMixed.eq_str_int (Bj I q .(1))
  |str j=>obtain⟨d,rfl⟩:=F;exact eq_str (Bj I q aX)
  |_=>exact QO (show ZA=E3 from hs) dP
 |byt i=>
  obtain⟨t,rfl⟩:=rx;cases y with
  |byt j=>obtain⟨d,rfl⟩:=F;exact PySem.W.eq_bytes (Bj I q aZ)
  |_=>exact QO (show ZA=E3 from hs) dP
 |_=>cases y<;>exact QO (show ZA=E3 from hs) dP
def AAu:PZ X (dS .NotEq) rNe:=by
 intro r s g H x y v u Q I rx F h;obtain⟨hs,q⟩:=h;cases x with
 |non=>
  cases rx;cases y with
  |non=>cases F;exact PySem.EqNone.ne_none_none (Bj I q .(1))
  |bl j=>cases F;exact PySem.EqNone.ne_none_bool (Bj I q .(1))
  |int j=>obtain⟨d,rfl⟩:=F;exact PySem.EqNone.ne_none_int (Bj I q .(1))
  |str j=>obtain⟨d,rfl⟩:=F;exact PySem.EqNone.ne_none_str (Bj I q .(1))
  |_=>exact QO (show ZA=E3 from hs) dP
 |bl i=>
  cases rx;cases y with
  |non=>cases F;exact PySem.EqNone.ne_bool_none (Bj I q .(1))
  |bl j=>cases F;exact ne_bool (Bj I q (UO not ik))
  |str j=>obtain⟨d,rfl⟩:=F;exact PySem.EqMixed.ne_bool_str (Bj I q .(1))
  |_=>exact QO (show ZA=E3 from hs) dP
 |int i=>
  obtain⟨t,rfl⟩:=rx;cases y with
  |non=>cases F;exact PySem.EqNone.ne_int_none (Bj I q .(1))
  |int j=>obtain⟨d,rfl⟩:=F;exact ne_int (Bj I q (UO not aW))
  |str j=>obtain⟨d,rfl⟩:=F;exact PySem.EqMixed.ne_int_str (Bj I q .(1))
  |_=>exact QO (show ZA=E3 from hs) dP
 |str i=>
  obtain⟨t,rfl⟩:=rx;cases y with
  |non=>cases F;exact PySem.EqNone.ne_str_none (Bj I q .(1))
  |bl j=>cases F;exact PySem.EqMixed.ne_str_bool (Bj I q .(1))
  |int j=>obtain⟨d,rfl⟩:=F;exact PySem.EqMixed.ne_str_int (Bj I q .(1))
  |str j=>obtain⟨d,rfl⟩:=F;exact ne_str (Bj I q (UO not aX))
  |_=>exact QO (show ZA=E3 from hs) dP
 |byt i=>
  obtain⟨t,rfl⟩:=rx;cases y with
  |byt j=>obtain⟨d,rfl⟩:=F;exact PySem.W.ne_bytes (Bj I q (UO not aZ))
  |_=>exact QO (show ZA=E3 from hs) dP
 |_=>cases y<;>exact QO (show ZA=E3 from hs) dP
def AAv:PZ X (dS .Lt) (rI0 λi j=>.bl (decide (i<j))):=opB0 λ_ _ _ _ _ _ _ q=>lt_int q
def AAw:PZ X (dS .Gt) (rI0 λi j=>.bl (decide (j<i))):=opB0 λ_ _ _ _ _ _ _ q=>gt_int q
def AAx:PZ X (dS .GtE) (rI0 λi j=>.bl (decide (j<=i))):=opB0 λ_ _ _ _ _ _ _ q=>ge_int q
def fD:PZ X (dS .In) (λx y H Q=>∃i j,x=.str i/\y=.str j/\Q (.bl (!(pT j i 0 j.length 1).isEmpty)) H):=by
 intro r s g H x y v u Q I rx F h;obtain⟨i,j,rfl,rfl,q⟩:=h;obtain⟨t,rfl⟩:=rx;obtain⟨d,rfl⟩:=F;exact in_str (Bj I q rfl)
def V2:PZ X (dS .NotIn) (λx y H Q=>∃i j,x=.str i/\y=.str j/\Q (.bl (!(!(pT j i 0 j.length 1).isEmpty))) H):=by
 intro r s g H x y v u Q I rx F h;obtain⟨i,j,rfl,rfl,q⟩:=h;obtain⟨t,rfl⟩:=rx;obtain⟨d,rfl⟩:=F;exact notIn_str (Bj I q rfl)
def PZ.or{f:ac->ac->Sem ac}{r J:R2}(h:PZ X f r)(h':PZ X f J):PZ X f (λx y H Q=>r x y H Q∨J x y H Q):=by
 intro d s g H x y v u Q I rx F q
 rcases q with q | q
 .exact h d s g H x y v u Q I rx F q
 .exact h' d s g H x y v u Q I rx F q
def Oa(b:Expr){op:kH}(h:op≠.In:=by decide)(d:op≠.NotIn:=by decide):gu op b=ZA:=by
 have r:(op==CmpOp.In)=ZA:=by cases op<;>first | rfl | exact QO rfl h
 have g:(op==IM)=ZA:=by cases op<;>first | rfl | exact QO rfl d
 cases b<;>simp[gu,r,g]
def aa{op:kH}{r:R2}(G:PZ X (dS op) r)(S:PE X a ta)(O:PE X b tb)(J:gu op b=ZA):PE X (.Compare a [op] [b] pos) (tOp r ta tb):=by
 intro d s g H Q I h;exact wpAny_Compare1 (binT S O I h λv u T x y W U rx F q=>G d T g W x y v u Q U rx F q) J
def AAy(t:TE):TT:=λg H Q=>t g H λx d=>∃k,x=.bl k/\Q k d
def aj{op:kH}{r:R2}(O:PZ X (dS op) r)(Y:PE X a ta)(W:PE X b tb)(U:gu op b=ZA):PT X (.Compare a [op] [b] pos) (AAy (tOp r ta tb)):=by
 intro d s g H Q I h;refine vt (py (Y d s g H _ I h) λv F ⟨x,H1,I1,J,q1⟩=>py (W d F g H1 _ I1 q1) λu T ⟨y,H2,I2,S,q2⟩=>
  py (O d T g H2 x y v u _ I2 J S q2) λc s3 ⟨z,H3,Z,G,k,e,q3⟩=>?_) U
 subst e;cases G;exact kB ⟨H3,Z,q3⟩
def TruV(K:ay)(x:V)(H:Hp)(k:Bool):Prop:=
 match x with
 |.non=>k=ZA
 |.bl b=>k=b
 |.int i=>k=(i != 0)
 |.str y=>y.length<=sizeLine/\k=((y.length:Int) != 0)
 |.byt y=>y.size<=sizeLine/\k=((y.size:Int) != 0)
 |.ref p=>(∃xs,Qr K H p xs/\k=!xs.isEmpty)∨(∃xs,Qb K H p xs/\k=!xs.isEmpty)∨∃kvs,H p=O0 (.dK kvs)/\k=!kvs.isEmpty
 |_=>False
def ZS{d:Type}{kvs:List (d×V)}{vs:List (d×ac)}(r:KV kvs vs):(!vs.isEmpty)=!kvs.isEmpty:=by
 cases r<;>rfl
def S5{xs:List V}(r:gn xs its):(!its.toArray.isEmpty)=!xs.isEmpty:=by
 cases r<;>simp
def S6:(sizeLine:Nat)<2^63:=by rw[hV];decide
theorem yP:TruR X (λx H Q=>∃k,TruV X.K x H k/\Q k H):=by
 intro π s Z H x v Q I rx h;obtain⟨k,e,q⟩:=h;have hl:=S6;have hs:sizeLine=16777216:=hV;cases x with
 |non=>
  cases rx;have S:k=ZA:=e;subst S;exact truthy_none ⟨H,I,q⟩
 |bl b=>
  cases rx;have S:k=b:=e;subst S;exact kB ⟨H,I,q⟩
 |int i=>
  obtain⟨t,rfl⟩:=rx;have S:k=(i != 0):=e;subst S;exact PySem.P.truthy_int ⟨H,I,q⟩
 |str y=>
  obtain⟨t,rfl⟩:=rx;obtain⟨U,S⟩:y.length<=sizeLine/\k=((y.length:Int) != 0):=e;subst S;exact PySem.P.truthy_str .(0) ⟨H,I.tok _,q⟩
 |byt y=>
  obtain⟨t,rfl⟩:=rx;obtain⟨U,S⟩:y.size<=sizeLine/\k=((y.size:Int) != 0):=e;subst S;exact PySem.W.truthy_bytes .(0) ⟨H,I.tok _,q⟩
 |ref p=>
  cases rx;have S:(∃F,Qr X.K H p F/\k=!F.isEmpty)∨(∃F,Qb X.K H p F/\k=!F.isEmpty)∨∃d,H p=O0 (.dK d)/\k=!d.isEmpty:=e
  rcases S with ⟨F,G,S⟩ | ⟨F,G,S⟩ | ⟨d,G,S⟩
  .subst S;obtain⟨O,r,J,T⟩:=I.list G;have g:=r.length;exact wpAny_truthy_list J.isList (by simp only[cS];omega) ⟨H,I.tok _,by rw[S5 r];exact q⟩
  .subst S;obtain⟨O,r,J,T⟩:=I.tuple G;have g:=r.length;exact truthy_tuple J (by simp only[cS];omega) ⟨H,I.tok _,by rw[S5 r];exact q⟩
  .subst S;obtain⟨T,Y,vs,r,m⟩:d.length<=sizeLine/\(p==ic)=ZA/\∃vs,KV d vs/\s.heap.DictOf (BJ X.prog X.w) p vs:=I.hok p _ G;have g:d.length=vs.length:=AO r;exact wpAny_truthy_dict Y m .(0) ⟨H,I.tok _,by rw[ZS r];exact q⟩
 |_=>exact (show False from e).elim
def ir(J:PE X a ta)(G:∀whole,pj a X.env whole=(do let v <-whole;o0 a.pos;lS [v] (truthy v))):
  PT X a (λg H Q=>ta g H λx d=>∃k,TruV X.K x d k/\Q k d):=by
 intro r s g H Q I h;exact isTrue_plain (py (J r s g H _ I h) (by rintro v y ⟨x,S,O,F,q1⟩;exact yP r y g S x v Q O F q1)) (G _)
def ZV:PZ X (ii .Add) (λx y H Q=>∃i j,x=.str i/\y=.str j/\i.length+j.length<=sizeLine/\Q (.str (i++j)) H):=by
 intro r s g H x y v u Q I rx F h;obtain⟨i,j,rfl,rfl,S,q⟩:=h;obtain⟨t,rfl⟩:=rx;obtain⟨d,rfl⟩:=F;exact add_str (λd tk=>⟨.str (i++j),H,I.tok _,⟨_,rfl⟩,q⟩) S
def Xt{x:V}(r:gn [x] us):∃u,us=[u]/\fx x u:=by
 cases r with
 |cons d S=>cases S;exact⟨_,rfl,d⟩
def vals2{x y:V}(r:gn [x,y] us):∃u w',us=[u,w']/\fx x u/\fx y w':=by
 cases r with
 |cons g S=>
  cases S with
  |cons G d=>cases d;exact⟨_,_,rfl,g,G⟩
def J9(d:X.calm=E3):Dy X (.builtin "max") (λxs H Q=>∃i j,xs=[.int i,.int j]/\Q (.int (if j > i then j else i)) H):=by
 intro v s g H xs F Q I r h;obtain⟨i,j,rfl,q⟩:=h;obtain⟨u,y,rfl,⟨t,rfl⟩,⟨G,rfl⟩⟩:=vals2 r;refine max_two_ints (I.ok.hd d) λJ tk k=>⟨_,H,I.kept k,?_,q⟩
 by_cases W:j > i
 .rw[ZN W,ZN W];exact⟨_,rfl⟩
 .rw[OO W,OO W];exact⟨_,rfl⟩
def VL(d:X.calm=E3):Dy X (.builtin "min") (λxs H Q=>∃i j,xs=[.int i,.int j]/\Q (.int (if j<i then j else i)) H):=by
 intro v s g H xs F Q I r h;obtain⟨i,j,rfl,q⟩:=h;obtain⟨u,y,rfl,⟨t,rfl⟩,⟨G,rfl⟩⟩:=vals2 r;refine min_two_ints (I.ok.hd d) λJ tk k=>⟨_,H,I.kept k,?_,q⟩
 by_cases W:j<i
 .rw[ZN W,ZN W];exact⟨_,rfl⟩
 .rw[OO W,OO W];exact⟨_,rfl⟩
def LenV(K:ay)(x:V)(H:Hp)(n:Nat):Prop:=
 match x with
 |.str y=>y.length<=sizeLine/\n=y.length
 |.byt y=>y.size<=sizeLine/\n=y.size
 |.ref p=>(∃xs,Qr K H p xs/\n=xs.length)∨∃xs,Qb K H p xs/\n=xs.length
 |_=>False
def iu:Dy X (.builtin "len") (λxs H Q=>∃x n,xs=[x]/\LenV X.K x H n/\Q (.int n) H):=by
 intro U s T H xs Y Q I r h;obtain⟨x,n,rfl,e,q⟩:=h;obtain⟨u,rfl,rx⟩:=Xt r;have Z:=S6;have hs:sizeLine=16777216:=hV;cases x with
 |str y=>
  obtain⟨t,rfl⟩:=rx;obtain⟨O,S⟩:y.length<=sizeLine/\n=y.length:=e;subst S;exact len_str .(0) ⟨.int _,H,I.tok _,⟨_,rfl⟩,q⟩
 |byt y=>
  obtain⟨t,rfl⟩:=rx;obtain⟨O,S⟩:y.size<=sizeLine/\n=y.size:=e;subst S;exact PySem.W.len_bytes .(0) ⟨.int _,H,I.tok _,⟨_,rfl⟩,q⟩
 |ref p=>
  cases rx;have S:(∃xs,Qr X.K H p xs/\n=xs.length)∨∃xs,Qb X.K H p xs/\n=xs.length:=e
  rcases S with ⟨xs,F,S⟩ | ⟨xs,F,S⟩
  .subst S;obtain⟨v,J,d,G⟩:=I.list F;have g:=J.length;exact Calls.call_len_list d.isList (by simp only[cS];omega) ⟨.int xs.length,H,I.tok _,⟨_,by simp only[cS];rw[g]⟩,q⟩
  .subst S;obtain⟨v,J,d,G⟩:=I.tuple F;have g:=J.length;exact len_tuple d (by simp only[cS];omega) ⟨.int xs.length,H,I.tok _,⟨_,by simp only[cS];rw[g]⟩,q⟩
 |_=>exact (show False from e).elim
end
structure ObjM (h:Heap) (x dx C:Addr) (mA:Str->Option ac):Prop where
 obj:h.get? x=O0 (pd C dx)
 ns:h.Ns1 dx mA
 ne:dx≠x
def QZ{dx:Addr}{mA:Str->Option ac}(n:h.Ns1 dx mA):∃od,h.get? dx=O0 od/\∀name,AT name od=O0 (mA name):=by
 obtain⟨o,g,J,v,G,I,_,F⟩:=n;refine⟨o,v,λname=>?_⟩;have e:=F name;unfold nsFind findBy at e;rw[<-Array.find?_toList] at e;unfold AT;rw[G];dsimp only;split
 .rename_i y q;rw[q] at e;exact UO O0 e
 .rename_i q;rw[q] at e;have a:g.toList.any (·.refKey)=ZA:=by
   rw[IT];intro y r;obtain⟨z,t,d⟩:=I y (DE.mp r);simp[DictEntry.refKey,d]
  have H:¬ g.toList.any (·.refKey)=E3:=by rw[a];exact dP
  rw[OO H];exact UO O0 e
theorem ObjM.look{x dx:Addr}{mA:Str->Option ac}(I:ObjM h x dx C mA):∃od,AU h x (pd C dx) C (O0 od)/\∀name,AT name od=O0 (mA name):=
 let ⟨od,ho,hl⟩:=QZ I.ns
 ⟨od,⟨I.obj,rfl,rfl,ho⟩,hl⟩
section
variable {A:aT}{K:ay}{x dx f:Addr}{mA:Str->Option ac}{name:Str}{v:ac}
def V4{d:Bool}(X:K.In s.heap)(I:ObjM s.heap x dx C mA)(U:y6 K C name=E3)(y:vT K C=E3)(F:dn K (.ref C) name=O0 W1)(r:mA name=O0 v)(g:IU v=E3)(h:Q v { s with toks:=s.toks+1 }):
  ah (ai prog w) A (w4 (.ref x) name d) Q E s:=by
 obtain⟨G,J,Z⟩:=I.look;exact PySem.W.get_value X J (DF U).1 (IY y F rfl (by rw[Z,r])) g h
def iw{pl:Sem Bool}{Q:ac×List ac->av->Prop}(X:K.In s.heap)(I:ObjM s.heap x dx C mA)(U:y6 K C name=E3)(G:dn K (.ref C) name=O0 (O0 (.ref f)))(T:nk K (.ref f)=E3)(g:mA name=W1)(h:Q (.ref f,[.ref x]) s):
  ah (ai prog w) A (pV (.ref x) name pl) Q E s:=by
 obtain⟨d,J,Z⟩:=I.look;exact PySem.W.method_fn X J (DF U).1 (DF U).2 G (beq_iff_eq.mp T) (by show (AT name d).map (·.isSome)=O0 ZA;rw[Z,g];rfl) h
theorem rF{S:List Str}{Q:Unit->av->Prop}(X:K.In s.heap)(I:ObjM s.heap x dx C mA)(hs:dn K (.ref C) "__setattr__"=O0 (O0 (.builtin "object.__setattr__")))(Z:DH K C=E3)(Y:DI K C name=O0 W1)(hh:vT K C=E3)(U:D2 mA S)(hsz:S.length<=sizeLine)(h:∀h',ObjM h' x dx C (λy=>if y=name then O0 v else mA y)->g9 dx s.heap h'->Q () { s with heap:=h',toks:=s.toks+2 }):
  ah (ai prog w) A (setAttr (.ref x) name v) Q E s:=by
 obtain⟨od,J,hl⟩:=I.look;refine PySem.W.set_plain X J hs (PySem.W.osa_open (s:={ s with toks:=s.toks+1 }) (r:=W1) X J Z Y λb=>?_);obtain⟨cd,hc,H⟩:=IZ hh;have T:s.heap.get? x=O0 ⟨.ref C,O0 dx,.plain,#[]⟩:=I.obj;refine ag (aw (ag (ag (DJ T (ag (PySem.W.Looks.here (s:={ s with toks:=s.toks+1 }) (PySem.W.looks_clsIn X hc) ?_))))));rw[H];refine aw (a:=O0 dx) (ag (aw (ag ?_)));refine wpAny_nsSet1 (s:={ s with toks:=s.toks+1 }) I.ns λh' g d=>?_;obtain⟨oD,r0,S0,F,G,O⟩:=g.count (PySem.Within.cons name v U);refine ag (Jn F (by rw[G];exact JA (dA O (by rw[cq];omega))) ?_);exact aw (h _ ⟨(d.2 _ (cf I.ne)).trans I.obj,g,I.ne⟩ d)
def iz{R:nv->av->Prop}(X:K.In s.heap)(y:DL K C=E3)(F:dn K (.ref C) "__init__"=O0 (O0 (.ref f)))(G:PySem.W.typeIn K (.ref f)=O0 (.type "function"))(h:fA (ai prog w) (A.under (.builtin "type.__call__" ⟨.ref C::vs,kw⟩)) (.call (.ref f) ⟨.ref (s.heap.objs.size+1)::vs,kw⟩) (PySem.W.InitBack (s.heap.objs.size+1) R)
   { s with heap:=(s.heap.push oa).push (pd C s.heap.objs.size) }):
  fA (ai prog w) A (.call (.ref C) ⟨vs,kw⟩) R s:=by
 obtain⟨I,g,d,t,H⟩:=s;exact PySem.W.make_core (PySem.W.makes_of X y) (DM X F) (λr=>JE X r G) (.inl rfl) h
end
def putF(f:Str)(v:V):List (Str×V)->List (Str×V)
 |[]=>[(f,v)]
 | (g,x)::r=>if g=f then (g,v)::r else (g,x)::putF f v r
theorem RT(f g:Str)(v:V):∀fs:List (Str×V),(putF f v fs).lookup g=if g=f then O0 v else fs.lookup g
 |[]=>by
  show ce g [(f,v)]=_
  by_cases h:g=f
  .have H:(g==f)=E3:=beq_iff_eq.mpr h;simp only[ce,H,ZN h]
  .have H:(g==f)=ZA:=beq_eq_false_iff_ne.mpr h;simp only[ce,H,OO h]
 | (k,x)::r=>by
  have d:=RT f g v r;rw[show putF f v ((k,x)::r)=(if k=f then (k,v)::r else (k,x)::putF f v r) from rfl]
  by_cases I:k=f
  .rw[ZN I]
   by_cases h:g=k
   .have H:(g==k)=E3:=beq_iff_eq.mpr h;simp only[ce,H,ZN (h.trans I)]
   .have H:(g==k)=ZA:=beq_eq_false_iff_ne.mpr h;simp only[ce,H,OO (λe:g=f=>h (e.trans I.symm))]
  .rw[OO I]
   by_cases h:g=k
   .have H:(g==k)=E3:=beq_iff_eq.mpr h;simp only[ce,H,OO (λe:g=f=>I (h.symm.trans e))]
   .have H:(g==k)=ZA:=beq_eq_false_iff_ne.mpr h;simp only[ce,H];exact d
theorem Qa(f:Str)(v:V):∀fs:List (Str×V),f∈(putF f v fs).map (·.1)/\∀g,g∈fs.map (·.1)->g∈(putF f v fs).map (·.1)
 |[]=>⟨by simp[putF],λg h=>by simp at h⟩
 | (k,x)::r=>by
  obtain⟨y,d⟩:=Qa f v r;rw[show putF f v ((k,x)::r)=(if k=f then (k,v)::r else (k,x)::putF f v r) from rfl]
  by_cases I:k=f
  .rw[ZN I];subst I;exact⟨by simp,λg h=>by simpa using h⟩
  .rw[OO I];refine⟨?_,λg h=>?_⟩
   .rw[bn];exact da _ y
   .rw[bn] at h ⊢
    rcases bX.mp h with e | e
    .exact bX.mpr (.inl e)
    .exact da _ (d g e)
theorem RV(f:Str)(v:V):∀fs:List (Str×V),(putF f v fs).length<=fs.length+1
 |[]=>by simp[putF]
 | (k,x)::r=>by
  have d:=RV f v r;rw[show putF f v ((k,x)::r)=(if k=f then (k,v)::r else (k,x)::putF f v r) from rfl]
  by_cases I:k=f
  .rw[ZN I,cq,cq];omega
  .rw[OO I,cq,cq];omega
def Se.some_of{v:V}{o:Option ac}(r:Se (O0 v) o):∃u,o=O0 u/\fx v u:=by
 cases o with
 |none=>exact (show False from r).elim
 |some u=>exact⟨u,rfl,r⟩
def Se.none_of{o:Option ac}(r:Se W1 o):o=W1:=by
 cases o with
 |none=>rfl
 |some u=>exact (show False from r).elim
def M5{v:V}(r:fx v u):IU u=E3:=by
 cases v with
 |non=>cases (show u=eA from r);rfl
 |bl b=>cases (show u=rS b from r);rfl
 |int i=>obtain⟨t,e⟩:=(show ∃t,u=nV i t from r);cases e;rfl
 |str x=>obtain⟨t,e⟩:=(show ∃t,u=vi x t from r);cases e;rfl
 |byt b=>obtain⟨t,e⟩:=(show ∃t,u=IE b t from r);cases e;rfl
 |flt b=>obtain⟨t,e⟩:=(show ∃t,u=IF b t from r);cases e;rfl
 |ref a=>cases (show u=bg a from r);rfl
 |ty n=>cases (show u=ly n from r);rfl
section
variable {H:Hp}{dx:Addr}{fs:List (Str×V)}
def O7(g:Ts P w H h)(e:H a=O0 (.ins C dx fs)):∃mA,ObjM h a dx C mA/\(∀f,Se (fs.lookup f) (mA f))/\D2 mA (fs.map (·.1))/\fs.length<=1000/\H dx=O0 (.own a):=by
 obtain⟨d,z,ne,ob,mA,n,r,q⟩:=(show Bp P w H h a (.ins C dx fs) from g a _ e);exact⟨mA,⟨ob,n,ne⟩,r,q,z,d⟩
end
structure Sn (K:ay) (C:Addr):Prop where
 pg:y6 K C kN=E3
 hd:vT K C=E3
 po:DH K C=E3
 sa:dn K (.ref C) "__setattr__"=O0 (O0 (.builtin "object.__setattr__"))
def Sn.get{K:ay}(c:Sn K C)(f:Str):y6 K C f=E3:=c.pg
def BL(K:ay)(C:Addr)(f:Str):Prop:=dn K (.ref C) f=O0 W1
def BL.taker{K:ay}(n:BL K C f):DI K C f=O0 W1:=by
 unfold DI;rw[show dn K (.ref C) f=O0 W1 from n];rfl
structure Meth (K:ay) (C:Addr) (m:Str) (f:Addr):Prop where
 at_:dn K (.ref C) m=O0 (O0 (.ref f))
 fn:nk K (.ref f)=E3
 kp:fF K (.ref f)=E3
section
variable {X:Cx}{H:Hp}{dx:Addr}{fs:List (Str×V)}{v:V}{A:aT}
theorem ZW{b:Bool}(I:Inv X π σ H s)(e:H a=O0 (.ins C dx fs))(c:Sn X.K C)(n:BL X.K C f)(l:fs.lookup f=O0 v)(h:∀u s',Inv X π σ H s'->fx v u->Q u s'):ah .(3) A (w4 (.ref a) f b) Q E s:=by
 obtain⟨mA,O,r,_,_,_⟩:=O7 I.hok e;obtain⟨u,T,d⟩:=Se.some_of (v:=v) (o:=mA f) (by rw[<-l];exact r f);exact V4 I.kIn O (c.get f) c.hd n T (M5 d) (h u _ (I.tok _) d)
def S7{m:Str}{g:Addr}{pl:Sem Bool}{Q:ac×List ac->av->Prop}(I:Inv X π σ H s)(e:H a=O0 (.ins C dx fs))(c:Sn X.K C)(k:Meth X.K C m g)(l:fs.lookup m=W1)(h:Q (.ref g,[.ref a]) s):ah .(3) A (pV (.ref a) m pl) Q E s:=by
 obtain⟨mA,O,r,_,_,_⟩:=O7 I.hok e;have d:mA m=W1:=Se.none_of (by rw[<-l];exact r m);exact iw I.kIn O (c.get m) k.at_ k.fn d h
theorem ZX{y:V}{Q:Unit->av->Prop}(I:Inv X π σ H s)(e:H a=O0 (.ins C dx fs))(c:Sn X.K C)(n:BL X.K C f)(hl:fs.length<1000)(S:fx y u)(h:∀s',Inv X π σ (mf H a (.ins C dx (putF f y fs))) s'->Q () s'):ah .(3) A (setAttr (.ref a) f u) Q E s:=by
 obtain⟨mA,O,r,F,_,G⟩:=O7 I.hok e;have T:(fs.map (·.1)).length<=sizeLine:=by rw[aI,hV];omega
 refine rF I.kIn O c.sa c.po n.taker c.hd F T λZ d J=>h _ ?_;have W:∃o,Z.get? dx=O0 o:=let ⟨o,_,_,e',_⟩:=d.ns;⟨o,e'⟩;refine I.write (x:=a) (e:=dx) (by rw[e];exact kP) (.inr G) (λb q Y z=>(J.2 b Y).trans z) W ?_;refine⟨by rw[Aj O.ne];exact G,?_,O.ne,d.obj,_,d.ns,λg=>?_,λg U=>?_⟩
 .have:=RV f y fs;omega
 .show Se ((putF f y fs).lookup g) (if g=f then O0 u else mA g);rw[RT]
  by_cases q:g=f
  .rw[ZN q,ZN q];exact S
  .rw[OO q,OO q];exact r g
 .by_cases q:g=f
  .rw[q];exact (Qa f y fs).1
  .refine (Qa f y fs).2 g (F g λz=>U ?_);show (if g=f then O0 u else mA g)=W1;rw[OO q];exact z
theorem Inv.made(I:Inv X π σ H s):Inv X π σ (mf (mf H s.heap.objs.size (.own (s.heap.objs.size+1))) (s.heap.objs.size+1) (.ins C s.heap.objs.size []))
  { s with heap:=(s.heap.push oa).push (pd C s.heap.objs.size) }:=by
 have d:(s.heap.push oa).get? s.heap.objs.size=O0 oa:=ci s.heap rfl;have G:((s.heap.push oa).push (pd C s.heap.objs.size)).get? (s.heap.objs.size+1)=O0 (pd C s.heap.objs.size):=by
  have:=ci (s.heap.push oa) (o:=pd C s.heap.objs.size) rfl
  rwa [iE] at this
 have F:(s.heap.push oa).Ns s.heap.objs.size (λ_=>W1):=⟨oa,#[],_,d,rfl,(λe r=>QO r .(1)),λ_=>rfl⟩;have J:=I.laid (a:=s.heap.objs.size) (o:=.own (s.heap.objs.size+1)) (h':=s.heap.push oa) (t':=s.toks) (λb u q=>bo _ q) (aS _) ⟨_,d⟩;refine J.laid (a:=s.heap.objs.size+1) (o:=.ins C s.heap.objs.size []) (t':=s.toks) (λb u q=>bo _ q) (AV (iE _ _)) ?_;have ne:s.heap.objs.size≠s.heap.objs.size+1:=bS (y9 _);refine⟨by rw[Aj ne,Ah],gL _,ne,G,λ_=>W1,(JI F).at λo q=>bo _ q,λ_=>kP,λy g=>QO rfl g⟩
def R4(d:hZ e f env (eval e env)=eval e env)(h:ah (ai prog w) A (eval e env) (λo g=>ah (ai prog w) A (w4 o f E3) Q E g) E s):ah (ai prog w) A (eval (.Attribute e f pos) env) Q E s:=
 Attribute_any_ h (by rw[arm_eval_Attribute,d])
end
def tFld(K:ay)(r:TE)(f:Str):TE:=λg H Q=>r g H λx d=>∃a C dx fs v,x=.ref a/\d a=O0 (.ins C dx fs)/\Sn K C/\BL K C f/\fs.lookup f=O0 v/\Q v d
def sFld(K:ay)(v d:TE)(f:Str):TS:=λD g H=>d g H λy F=>v g F λx r=>∃a C dx fs,x=.ref a/\r a=O0 (.ins C dx fs)/\Sn K C/\BL K C f/\fs.length<1000 ∧
 D.nx g (mf r a (.ins C dx (putF f y fs)))
section
variable {X:Cx}{o value:Expr}{tpos:Pos}{ta tv:TE}
def ZZ(y:PE X e ta)(F:hZ e f X.env (eval e X.env)=eval e X.env):PE X (.Attribute e f pos) (tFld X.K ta f):=by
 intro r s g H Q I h;refine R4 F (py (y r s g H _ I h) λu Y q0=>?_);obtain⟨x,S,O,rx,a,C,dx,fs,v,G,J,c,n,l,q⟩:=q0;subst G;obtain rfl:u=bg a:=rx;exact ZW O J c n l λU W T d=>⟨v,S,T,d,q⟩
def i_(J:PE X o ta)(G:PE X value tv)(hs:gI value (O0 (.Attribute o f pos')) pos.line X.env=pure ZA):PS X (.Assign [.Attribute o f pos'] value pos) (sFld X.K ta tv f):=by
 intro r s g H D I h;refine JJ (py (G r s g H _ I h) λu d ⟨y,Y,W,F,q⟩=>py (J r d g Y _ W q) λv s2 q9=>?_) hs;obtain⟨x,H2,U,rx,a,C,dx,fs,O,S,c,n,l,q2⟩:=q9;subst O;obtain rfl:v=bg a:=rx;exact ZX U S c n l F λZ T=>⟨g,_,T,q2⟩
def rAdd:V->V->Hp->VK->Prop:=λx y H Q=>∃i j,x=.int i/\y=.int j/\Q (.int (i+j)) H
end
structure Room (k:Nat) (A:aT):Prop where
 hd:A.handled=W1
 dp:A.depth+3*k+5<recursionLimit
 un:A.units+16*k+200<bP
def Room.mono{k:Nat}{A:aT}(r:Room k A)(h:j<=k):Room j A:=⟨r.hd,by have:=r.dp;omega,by have:=r.un;omega⟩
theorem Room.deeper{k:Nat}{A:aT}(r:Room (k+1) A)(env:Env):Room k (A.deeper env):=
 ⟨r.hd,by have:=r.dp;show A.depth+1+3*k+5<_;omega,by have:=r.un;show A.units+3+16*k+200<_;omega⟩
def Za{A:aT}:(A.under (.builtin "type.__call__" ⟨.ref C::us,kw⟩)).depth=A.depth+1:=by
 first | rfl | simp[DO,Code.weight,Code.isCreation,Code.isGuard,Code.isCaller,JO,DS,guardIds]
def Zb{A:aT}:(A.under (.builtin "type.__call__" ⟨.ref C::us,kw⟩)).units=A.units+1:=by
 first | rfl | simp[DO,Code.cUnits,JO,DS]
def Room.make{k:Nat}{A:aT}(r:Room (k+1) A)(C:Addr)(us:List ac)(d:List (Str×ac)):Room k (A.under (.builtin "type.__call__" ⟨.ref C::us,d⟩)):=
 ⟨r.hd,by have:=r.dp;rw[Za];omega,by have:=r.un;rw[Zb];omega⟩
theorem Room.depth{k:Nat}{A:aT}(r:Room k A):A.depth<recursionLimit:=by have:=r.dp;omega
theorem Room.units{k:Nat}{A:aT}(r:Room k A):A.units+64<bP:=by have:=r.un;omega
def tNil:TA:=λ_ H Q=>Q [] H
def S8(d:TE)(tr:TA):TA:=λg H Q=>d g H λx v=>tr g v λxs r=>Q (x::xs) r
section
variable {X:Cx}{es:List Expr}{te:TE}{t:TA}
def DK:PA X [] tNil:=λ_ _ _ _ H Q I h=>JU ⟨[],H,I,.nil,h⟩
def Bl(J:PE X e te)(G:PA X es t)(hs:aE (e::es) X.env=(ZA,eval e X.env)::aE es X.env:=by rfl):PA X (e::es) (S8 te t):=by
 intro d r s g H Q I h;rw[hs];show ah _ _ (spliced ((ZA,eval e X.env)::dE d (aE es X.env))) _ _ s;refine JY (py (J r s g H _ I h) λu y p0=>?_);obtain⟨x,W,O,F,q1⟩:=p0;exact py (G d r y g W _ O q1) (by rintro Y Z ⟨v,U,T,S,q2⟩;exact ⟨x::v,U,T,.cons F S,q2⟩)
def tTup(t:TA):TE:=λg H Q=>t g H λxs v=>xs.length<=sizeLine/\∀p,v p=W1->Q (.ref p) (mf v p (.tup xs))
def tLst(t:TA):TE:=λg H Q=>t g H λxs v=>xs.length<=sizeLine/\∀p,v p=W1->Q (.ref p) (mf v p (.lst xs))
theorem V5{x1}(h:PA X es t):PE X (.Tuple es x1 pos) (tTup t):=by
 intro d s g H Q I U;refine wpAny_Tuple_spliced (py (h pos d s g H _ I U) λJ y ⟨G,v,F,r,z,q⟩=>⟨by rw[<-r.length];exact z,?_⟩);have O:v y.heap.objs.size=W1:=F.hok.fresh (aS _);refine⟨.ref y.heap.objs.size,mf v y.heap.objs.size (.tup G),F.laid (t':=y.toks) (λb u e=>bo _ e) (aS _) ?_,rfl,q _ O⟩;exact⟨z,J,r,⟨_,ci _ rfl,rfl,_,rfl⟩⟩
theorem jA(h:PA X es t):PE X (.List es pos) (tLst t):=by
 intro d s g H Q I U;refine wpAny_List_spliced (py (h pos d s g H _ I U) λJ y ⟨G,v,F,r,z,q⟩=>⟨by rw[<-r.length];exact z,?_⟩);have O:v y.heap.objs.size=W1:=F.hok.fresh (aS _);refine⟨.ref y.heap.objs.size,mf v y.heap.objs.size (.lst G),F.laid (t':=y.toks) (λb u e=>bo _ e) (aS _) ?_,rfl,q _ O⟩;exact⟨z,J,0,r,ci _ rfl⟩
end
abbrev Sp:=List V->Hp->VK->XK->Prop
abbrev CXT:=List Env->Hp->av->XK->ac->av->Prop
structure Env0 (P:cE) (w:cb) (K:ay) (mg:Str->Option ac) (base:Heap) (A:aT) (outer:List Env) (s:av) (H:Hp):Prop where
 frames:A.frames=O0 outer
 mod:Mod K mg base
 bs:∀b o,base.get? b=O0 o->s.heap.get? b=O0 o/\H b=W1
 bsz:base.objs.size<=s.heap.objs.size
 funs:s.heap.FunFrames base outer
 frf:∀b∈frs outer,H b=W1
 hok:Ts P w H s.heap
 bare:nc s.gens
def CE(outer:List Env)(P:cE)(w:cb)(H:Hp)(s:av)(Q:VK)(u:ac)(d:av):Prop:=
 ∃v g,d.os=s.os/\nc d.gens/\Un (frs outer) [] H g s.heap d.heap/\Ts P w g d.heap/\fx v u/\Q v g
def CR(CX:CXT)(outer:List Env)(P:cE)(w:cb)(H:Hp)(s:av)(Q:VK)(E:XK)(r:nv)(d:av):Prop:=
 match r with
 |.ok (.ret u)=>CE outer P w H s Q u d
 |.ok _=>False
 |.error e=>CX outer H s E e d
structure mu (P:cE) (w:cb) (K:ay) (mg:Str->Option ac) (base:Heap) (CX:CXT) (k:Nat) (f:Addr) (fd:ma) (ps:List Str) (sp:Sp):Prop where
 len:∀vs H Q E,sp vs H Q E->vs.length=ps.length
 run:∀(A:aT) (outer:List Env) (s:av) (H:Hp) (args:Args) (us:List ac) (vs:List V) (Q:VK) (E:XK),Room k A->Env0 P w K mg base A outer s H->ya s fd args (ps.zip us)->gn vs us->sp vs H Q E ->
  fA (ai P w) A (.call (.ref f) args) (CR CX outer P w H s Q E) s
theorem mu.mono{P:cE}{w:cb}{K:ay}{r:Str->Option ac}{base:Heap}{CX:CXT}{j k:Nat}{f:Addr}{v:ma}{ps:List Str}{sp:Sp}(F:mu P w K r base CX j f v ps sp)(h:j<=k):
  mu P w K r base CX k f v ps sp:=⟨F.len,λA d s H g y G Q E I=>F.run A d s H g y G Q E (I.mono h)⟩
def mu.imp{K:ay}{base:Heap}{CX:CXT}{k:Nat}{f:Addr}{sp sp':Sp}(F:mu P w K mg base CX k f fd ps sp)(h:∀vs H Q E,sp' vs H Q E->sp vs H Q E):mu P w K mg base CX k f fd ps sp':=
 ⟨λvs H Q E q=>F.len vs H Q E (h _ _ _ _ q),λA d s H g r vs Q E y G I v hs=>F.run A d s H g r vs Q E y G I v (h _ _ _ _ hs)⟩
def Env0.make{K:ay}{base:Heap}{A:aT}{H:Hp}(e:Env0 P w K mg base A outer s H)(C:Addr)(us:List ac)(d:List (Str×ac)):
  Env0 P w K mg base (A.under (.builtin "type.__call__" ⟨.ref C::us,d⟩)) outer s H:=⟨by first | exact e.frames | (simpa [DO,Code.envs,DS,pushEnvs] using e.frames),e.mod,e.bs,e.bsz,e.funs,e.frf,e.hok,e.bare⟩
section
variable {X:Cx}{H:Hp}
def Inv.env0(I:Inv X π σ H s):Env0 X.prog X.w X.K X.mg X.base X.A X.stack s H:=
 ⟨I.ok.frames,I.ok.mod,I.bs,dA I.ok.bsz I.sz,I.stack,I.stkFree,I.hok,I.bare⟩
theorem Inv.after{Q:VK}(I:Inv X π σ H s)(h:CE X.stack X.prog X.w H s Q u s'):EP X π σ Q u s':=by
 obtain⟨v,O,os,y,un,G,r,q⟩:=h;obtain⟨J,g,d,t,F⟩:=s';obtain rfl:F=s.os:=os;exact⟨v,O,I.call (h':=J) (g':=g) (d':=d) (t':=t) (ch:=[]) un G y (λb z=>QO z .(1)),r,q⟩
end
def AAz(sp:Sp)(d:List V)(E:XK)(t:TA):TE:=λg H Q=>t g H λvs v=>sp (vs++d) v Q E
def v8(C:Addr)(m:Str)(sp:Sp)(d:List V)(E:XK)(r:TE)(t:TA):TE:=λg H Q=>r g H λx v=>∃a dx fs,x=.ref a/\v a=O0 (.ins C dx fs)/\fs.lookup m=W1 ∧
 t g v λvs y=>sp (x::(vs++d)) y Q E
def AA_(C:Addr)(sp:Sp)(d:List V)(E:XK)(t:TA):TE:=λr H Q=>t r H λvs g=>∀x dx,g x=W1->g dx=W1->dx≠x ->
 sp (.ref x::(vs++d)) (mf (mf g dx (.own x)) x (.ins C dx [])) (λv y=>v=.non/\Q (.ref x) y) E
def OX(K:ay)(v:ma)(ps:List Str)(ds:List ac):Prop:=
 ∀(s:av) (us:List ac),K.In s.heap->(us++ds).length=ps.length->ya s v ⟨us,[]⟩ (ps.zip (us++ds))
def OX.all{K:ay}(h:∀us:List ac,us.length=ps.length->w9 fd ⟨us,[]⟩=pure (ps.zip us)):OX K fd ps []:=λs us _ Z=>by
 rw[gg] at Z ⊢;exact .of_eq (h us Z)
def Ob(CX:CXT)(X:Cx)(E:XK):Prop:=∀(r:QP) (g:St) (H:Hp) (s:av) (e:ac) (d:av),Inv X r g H s->CX X.stack H s E e d->X.xe e d
section
variable {X:Cx}{CX:CXT}{k:Nat}{f:Addr}{sp:Sp}{dvs:List V}{ds:List ac}{E:XK}{x m:Str}{p:Pos}{o:Expr}{es:List Expr}{ta:TE}{t:TA}
def Zc{g:St}{H:Hp}{Q:VK}{vs:List V}(F:mu X.prog X.w X.K X.mg X.base CX k f fd ps sp)(y:Room k X.A)(J:OX X.K fd ps ds)(G:gn dvs ds)(v:Ob CX X E)(I:Inv X π g H s)(r:gn vs us)(h:sp (vs++dvs) H Q E):ah .(3) X.A (call (.ref f) us) (EP X π g Q) X.xe s:=by
 have S:gn (vs++dvs) (us++ds):=r.append G;have Z:(us++ds).length=ps.length:=by rw[<-S.length];exact F.len _ _ _ _ h
 refine qc (kQ (F.run X.A X.stack s H ⟨us,[]⟩ (us++ds) (vs++dvs) Q E y I.env0 (J s us I.kIn Z) S h) λr d U=>?_);cases r with
 |error e=>exact v π g H s e d I U
 |ok O=>
  cases O with
  |ret u=>exact I.after U
  |next=>exact gv U
  |brk=>exact gv U
  |cont=>exact gv U
def rG(F:mu X.prog X.w X.K X.mg X.base CX k f fd ps sp)(O:Room k X.A)(U:Gl X x)(S:X.mg x=O0 (.ref f))(T:fF X.K (.ref f)=E3)(Z:OX X.K fd ps ds)(Y:gn dvs ds)(J:Ob CX X E)(ha:PA X (e::es) t)(g:(x==("__debug__":Str))=ZA:=by decide)(W:aE (e::es) X.env=(ZA,eval e X.env)::aE es X.env:=by rfl)(d:(dE pos (aE es X.env)).any (·.1)=ZA:=by rfl):
  PE X (.Call (.Name x p) (e::es) [] pos) (AAz sp dvs E t):=by
 intro G s y H Q I h;refine qf (Jg I U S ?_ g);refine wa (h₀:=X.base) I.ok.mod.kin T (py (ha pos G s y H _ I h) λus s1 ⟨vs,H1,v,r,q⟩=>⟨v.kIn,?_⟩) W d;exact Zc F O Z Y J v r q
theorem ak{pl:Sem Bool}(he:PE X o ta)(c:Sn X.K C)(O:Meth X.K C m f)(F:mu X.prog X.w X.K X.mg X.base CX k f fd ps sp)(Z:Room k X.A)(hb:OX X.K fd ps ds)(hd:gn dvs ds)(W:Ob CX X E)(ha:PA X (e::es) t)(g:aE (e::es) X.env=(ZA,eval e X.env)::aE es X.env:=by rfl)(d:(dE pos (aE es X.env)).any (·.1)=ZA:=by rfl)(Y:eval (.Call (.Attribute o m apos) (e::es) [] pos) X.env=(do
   let ov <-eval o X.env
   o0 apos.atName
   let (f,first) <-lS [ov] (pV ov m pl)
   se pos f first (dE pos (aE (e::es) X.env)) (md pos (jS [] X.env))):=by rfl):
  PE X (.Call (.Attribute o m apos) (e::es) [] pos) (v8 C m sp dvs E ta t):=by
 intro y s v H Q I h;refine DT (pl:=pl) (py (he y s v H _ I h) λu U q0=>?_) Y;obtain⟨x,H1,S,rx,a,dx,fs,ex,ea,l,q⟩:=q0;subst ex;obtain rfl:u=bg a:=rx;refine S7 S ea c O l ?_;refine wa (first:=[.ref a]) (h₀:=X.base) I.ok.mod.kin O.kp (py (ha pos y U v H1 _ S q) λJ s2 ⟨G,H2,T,r,q2⟩=>⟨T.kIn,?_⟩) g d;exact Zc (us:=.ref a::J) (vs:=.ref a::G) F Z hb hd W T (.cons rfl r) q2
theorem jB{pl:Sem Bool}(J:PE X o ta)(c:Sn X.K C)(g:Meth X.K C m f)(F:mu X.prog X.w X.K X.mg X.base CX k f fd ps sp)(G:Room k X.A)(S:OX X.K fd ps ds)(O:gn dvs ds)(y:Ob CX X E)(T:eval (.Call (.Attribute o m apos) [] [] pos) X.env=(do
   let ov <-eval o X.env
   o0 apos.atName
   let (f,first) <-lS [ov] (pV ov m pl)
   se pos f first (dE pos (aE [] X.env)) (md pos (jS [] X.env))):=by rfl):
  PE X (.Call (.Attribute o m apos) [] [] pos) (v8 C m sp dvs E ta tNil):=by
 intro v s r H Q I h;refine DT (pl:=pl) (py (J v s r H _ I h) λu Z q9=>?_) T;obtain⟨x,H1,d,rx,a,dx,fs,U,Y,l,q⟩:=q9;subst U;obtain rfl:u=bg a:=rx;refine S7 d Y c g l ?_;exact PySem.W.callWith_K0 (first:=[.ref a]) d.kIn g.kp (Zc (us:=[.ref a]) (vs:=[.ref a]) F G S O y d (.cons rfl .nil) q)
structure Mk (K:ay) (C f:Addr):Prop where
 makes:DL K C=E3
 init:dn K (.ref C) "__init__"=O0 (O0 (.ref f))
 fn:nk K (.ref f)=E3
 kp:fF K (.ref C)=E3
def jC{g:St}{H:Hp}{Q:VK}{vs:List V}(M:Mk X.K C f)(F:mu X.prog X.w X.K X.mg X.base CX k f fd ps sp)(O:Room (k+1) X.A)(Y:OX X.K fd ps ds)(W:gn dvs ds)(J:Ob CX X E)(I:Inv X π g H s)(r:gn vs us)(h:∀x dx,H x=W1->H dx=W1->dx≠x->sp (.ref x::(vs++dvs)) (mf (mf H dx (.own x)) x (.ins C dx [])) (λv H2=>v=.non/\Q (.ref x) H2) E):
  ah .(3) X.A (call (.ref C) us) (EP X π g Q) X.xe s:=by
 have U:=h (s.heap.objs.size+1) s.heap.objs.size (I.hok.fresh (kr _)) (I.hok.fresh (aS _)) (bS (y9 _));have T:=Inv.made (C:=C) I;have S:gn (V.ref (s.heap.objs.size+1)::(vs++dvs)) (bg (s.heap.objs.size+1)::(us++ds)):=.cons rfl (r.append W);have Z:(bg (s.heap.objs.size+1)::us++ds).length=ps.length:=by
  have e:=S.length;rw[F.len _ _ _ _ U] at e;exact e.symm
 refine qc (iz (f:=f) I.kIn M.makes M.init (beq_iff_eq.mp M.fn) (kQ (F.run _ X.stack _ _ ⟨bg (s.heap.objs.size+1)::us,[]⟩ (bg (s.heap.objs.size+1)::(us++ds)) _ _ E (O.make C us [])
  (T.env0.make C us []) (Y _ (bg (s.heap.objs.size+1)::us) T.kIn Z) S U) λr y d=>?_))
 cases r with
 |error e=>exact J π g _ _ e y T d
 |ok fl=>
  cases fl with
  |ret u=>
   obtain⟨v,H',I3,G,ev,q3⟩:=T.after d;subst ev;exact⟨G,⟨V.ref (s.heap.objs.size+1),H',I3,rfl,q3⟩⟩
  |next=>exact gv d
  |brk=>exact gv d
  |cont=>exact gv d
def rH(M:Mk X.K C f)(F:mu X.prog X.w X.K X.mg X.base CX k f fd ps sp)(O:Room (k+1) X.A)(U:Gl X x)(S:X.mg x=O0 (.ref C))(Y:OX X.K fd ps ds)(W:gn dvs ds)(J:Ob CX X E)(Z:PA X (e::es) t)(g:(x==("__debug__":Str))=ZA:=by decide)(T:aE (e::es) X.env=(ZA,eval e X.env)::aE es X.env:=by rfl)(d:(dE pos (aE es X.env)).any (·.1)=ZA:=by rfl):
  PE X (.Call (.Name x p) (e::es) [] pos) (AA_ C sp dvs E t):=by
 intro G s y H Q I h;refine qf (Jg I U S ?_ g);refine wa (h₀:=X.base) I.ok.mod.kin M.kp (py (Z pos G s y H _ I h) λus s1 ⟨vs,H1,v,r,q⟩=>⟨v.kIn,?_⟩) T d;exact jC M F O Y W J v r q
end
def PK(X:Cx)(r:List qh)(t:TA):Prop:=
 ∀(d:Pos) (v:QP) (s:av) (g:St) (H:Hp) (Q:List V->Hp->Prop),Inv X v g H s->t g H Q->ah .(3) X.A (evalAll ((md d (jS r X.env)).map (·.2))) (AP X v g Q) X.xe s
section
variable {X:Cx}{CX:CXT}{k:Nat}{f:Addr}{ks:List Str}{sp:Sp}{E:XK}{x:Str}{p kpos:Pos}{es:List Expr}{kws:List qh}{te:TE}{t tk:TA}{nm:Option Str}
def yQ:PK X [] tNil:=λ_ _ _ _ H Q I h=>wpAny_evalAll_nil ⟨[],H,I,.nil,h⟩
theorem rJ(O:PE X e te)(J:PK X kws t):PK X (⟨nm,e,kpos⟩::kws) (S8 te t):=by
 intro d r s g H Q I h;show ah _ _ (evalAll ((do let v <-eval e X.env;o0 d;pure v)::(md d (jS kws X.env)).map (·.2))) _ _ s;refine wpAny_evalAll_cons (ag (py (O r s g H _ I h) λu F ⟨x,Y,U,G,q1⟩=>ag (sg (aw ?_))));exact py (J d r F g Y _ U q1) (by rintro Z s2 ⟨y,W,T,S,q2⟩;exact ⟨x::y,W,T,.cons G S,q2⟩)
variable {g:List ac->List ac->List ac}{gV:List V->List V->List V}
end
structure fc (N P:List Str) (sc:lI):Prop where
 kind:sc.kind=.function
 co:sc.isCoroutine=ZA
 gen:sc.isGenerator=ZA
 nd:N.Nodup
 pre:N.take P.length=P
 par:∀x∈P,sc.names.lookup x=O0 .local ∨sc.names.lookup x=O0 .cell
 nofree:∀y∈sc.names,y.2≠.free
theorem VM{d:Str->Option mh}{x:Str}:∀{binds:List (Str×ac)}{m:Str->Option ac},(∀v,(x,v)∉binds)->qo d binds m x=m x
 |[],_,_=>rfl
 | (n,v)::r,m,h=>by
  unfold qo;rw[VM λw g=>h w (da _ g)];split
  .have:x≠n:=by rintro rfl;exact h v eD
   simp[this]
  .rfl
theorem VN{d:Str->Option mh}{x:Str}:∀{binds:List (Str×ac)}{m:Str->Option ac},(∀v,(x,v)∉binds)->qq d binds m x=m x
 |[],_,_=>rfl
 | (n,v)::r,m,h=>by
  unfold qq;rw[VN λw g=>h w (da _ g)];split
  .rfl
  .have:x≠n:=by rintro rfl;exact h v eD
   simp[this]
theorem VP{d:Str->Option mh}{x:Str}{v:ac}:∀{P:List Str}{vs:List ac}{i:Nat}{m:Str->Option ac},P.Nodup->P[i]?=O0 x->vs[i]?=O0 v->d x=O0 .local ->
  qo d (P.zip vs) m x=O0 v
 |[],_,_,_,_,h,_,_=>by simp at h
 |_::_,[],_,_,_,_,h,_=>by simp at h
 |p::P,w::vs,0,m,y,r,g,I=>by
  simp at r g;subst r;subst g;show qo d ((p,w)::P.zip vs) m p=_;unfold qo;rw[VM λv F=>(mo.mp y).1 (DU F).1,ZN I];simp
 |p::P,w::vs,i+1,m,y,r,g,I=>by
  show qo d ((p,w)::P.zip vs) m x=_;unfold qo;exact VP (i:=i) (mo.mp y).2 (by simpa using r) (by simpa using g) I
theorem VR{d:Str->Option mh}{x:Str}{v:ac}:∀{P:List Str}{vs:List ac}{i:Nat}{m:Str->Option ac},P.Nodup->P[i]?=O0 x->vs[i]?=O0 v->d x≠O0 .local ->
  qq d (P.zip vs) m x=O0 v
 |[],_,_,_,_,h,_,_=>by simp at h
 |_::_,[],_,_,_,_,h,_=>by simp at h
 |p::P,w::vs,0,m,y,r,g,I=>by
  simp at r g;subst r;subst g;show qq d ((p,w)::P.zip vs) m p=_;unfold qq;rw[VN λv F=>(mo.mp y).1 (DU F).1,OO I];simp
 |p::P,w::vs,i+1,m,y,r,g,I=>by
  show qq d ((p,w)::P.zip vs) m x=_;unfold qq;exact VR (i:=i) (mo.mp y).2 (by simpa using r) (by simpa using g) I
def start(N:List Str)(vs:List V):St:=vs.map O0++si (N.length-vs.length) W1
def TZ(CX:CXT)(P:cE)(w:cb)(K:ay)(mg:Str->Option ac)(base:Heap)(N:List Str)(g:Str)(d:lI)(f:Addr)(v:ac)(A:aT)(outer:List Env)(s:av)(H:Hp)(E:XK):Cx where
 prog:=P
 w:=w
 K:=K
 mg:=mg
 base:=base
 A:=A.deeper (io g d s.heap.objs.size f v)
 N:=N
 s₀:=s
 H₀:=H
 env:=io g d s.heap.objs.size f v
 outer:=outer
 stack:=io g d s.heap.objs.size f v::outer
 ex:=[]
 calm:=E3
 fn:=λ_=>E3
 pn:=[]
 xe:=λe y=>ah (ai P w) (A.deeper (io g d s.heap.objs.size f v)) (leaving (io g d s.heap.objs.size f v) e) (λ_ r=>CX outer H s E e r) (λS r=>CX outer H s E S r) y
def Xj{x:Str}(h:sc.names.lookup x=O0 .cell):∃c,(cellsFrom n sc.names []).lookup x=O0 c:=by
 have q:=K0 sc.names n [] (.inl h);exact AW.mp q
theorem fG{CX:CXT}{K:ay}{base:Heap}{f:Addr}{U:ac}{A:aT}{s1:av}{H:Hp}{E:XK}{vs:List V}(S:fc N ps scope)(hd:A.handled=W1)(g:Env0 P w K mg base A outer s H)(hl:vs.length=ps.length)(r:gn vs us)(x:InCallC s s.heap.objs.size (qo (io qual scope s.heap.objs.size f U).kindOf (ps.zip us) λ_=>W1) (cellsFrom (s.heap.objs.size+1) scope.names []) (qq (io qual scope s.heap.objs.size f U).kindOf (ps.zip us) λ_=>W1) s1):
  Inv (TZ CX P w K mg base N qual scope f U A outer s H E) [] (start N vs) H s1:=by
 have Z:ps.length<=N.length:=by have:=UO eS S.pre;rw[i6] at this;omega
 obtain⟨T,tk,rfl,X⟩:=x.done;have F:∀b:Addr,b∉(TZ CX P w K mg base N qual scope f U A outer s H E).ex:=λb z=>QO (show b∈([]:List Addr) from z) .(1);refine⟨⟨g.mod,S.kind,rfl,rfl,aS _,λy z c T d=>?_,λy G=>?_,λy c _ h=>?_,λ_=>hd,Around.frames_deeper g.frames,.inr ⟨rfl,rfl⟩,λb z=>QO z (F b),g.bs,g.bsz,λb _ _=>F b,λb z=>QO z (F b),g.funs,g.frf⟩,
  rfl,g.bare,Un.kept X,⟨_,x.toInCall.ns,λi y v T d h3=>?_⟩,λy c h=>⟨_,x.cell y c h⟩,g.hok.fresh (aS _),λy c h=>?_,λp J=>QO (show p∈([]:QP) from J) .(1),g.hok.kept X,?_⟩
 .exact name_of_addr x.apart (yi T) (yi d)
 .have G:scope.names.lookup y=O0 .cell ∨scope.names.lookup y=O0 .free :=G
  rcases G with G | G
  .exact Xj G
  .exact QO rfl (S.nofree _ (yi G))
 .exact vj (x.above y c (yi h))
 .have O:i<vs.length:=by
   unfold start at d
   by_cases O:i<vs.length
   .exact O
   .rw[ku (by simpa using O)] at d;rw[DV] at d;split at d<;>cases d
  have ha:vs[i]?=O0 v:=by
   unfold start at d;rw[kR (by simpa using O),db] at d;cases e:vs[i]? with
   |none=>rw[e] at d;cases d
   |some a=>rw[e] at d;cases d;rfl
  obtain⟨u,W,Y⟩:=r.get ha;have J:ps[i]?=O0 y:=by
   rw[<-S.pre,DZ .(0)];exact T
  have I:ps.Nodup:=by rw[<-S.pre];exact S.nd.sublist (E1 _ _)
  refine⟨u,Y,?_⟩
  rcases S.par y (sk J) with k | k
  .exact .inl ⟨k,VP I J W k⟩
  .obtain⟨c,e⟩:=Xj (n:=s.heap.objs.size+1) k;refine .inr ⟨.inl k,c,e,?_⟩;have q:=x.cell y c e;rw[VR I J W (by show scope.names.lookup y≠_;rw[k];decide)] at q;exact q
 .exact g.hok.fresh (vj (x.above y c (yi h)))
 .unfold start;show _=N.length;rw[eI,aI,yk];omega
def jD{CX:CXT}{K:ay}{base:Heap}{k:Nat}{f:Addr}{name:Str}{d:Arguments}{dV kV:ac}{sp:Sp}(lk:K.lookup f=O0 ⟨oc,od,.func (i7 name qual d body scope dV kV doc pm an cdv ct),osl⟩)(r0:og K cdv qual=E3)(S:fc N ps scope)(len:∀vs H Q E,sp vs H Q E->vs.length=ps.length)(O:∀(A:aT) (outer:List Env) (s:av) (H:Hp) (vs:List V) (Q:VK) (E:XK),Room k (A.deeper (io qual scope s.heap.objs.size f cdv))->sp vs H Q E ->
   ∃t,PSs (TZ CX P w K mg base N qual scope f cdv A outer s H E) body t/\t { nx:=λ_ F=>Q .non F,rt:=Q } (start N vs) H):
  mu P w K mg base CX (k+1) f (i7 name qual d body scope dV kV doc pm an cdv ct) ps sp:=by
 refine⟨len,λA outer s H S0 us vs Q E hr X hb r T=>?_⟩;have hl:=len _ _ _ _ T;have KX:K.In s.heap:=X.mod.kin.keeps λb o e=>(X.bs b o e).1;have Z:s.heap.NoLimit:=X.mod.nolimit.keeps λb o e=>(X.bs b o e).1;have G:∀y∈ps.zip us,scope.names.lookup y.1=O0 .local ∨(scope.names.lookup y.1=O0 .cell /\((cellsFrom (s.heap.objs.size+1) scope.names []).lookup y.1).isSome=E3):=by
  rintro ⟨n,v⟩ hy
  rcases S.par n (DU hy).1 with q | q
  .exact .inl q
  .exact .inr ⟨q,K0 _ _ _ (.inl q)⟩
 refine codeAny_call_function hr.depth (KX _ _ lk) rfl S.co S.gen rfl (PySem.W.codeRec_of KX r0) (hb _ _ _ _ ?_);refine wpAny_newFunctionEnv_cells S.kind G λX0 he s1 x=>?_;subst he;refine⟨Z.keeps x.toInCall.keep,codeAny_func ?_⟩;obtain⟨t,ht,hq⟩:=O A outer s H vs Q E (hr.deeper _) T;have I:Inv (TZ CX P w K mg base N qual scope f cdv A outer s H E) [] (start N vs) H s1:=fG S hr.hd X hl r x;refine gE (ht [] s1 (start N vs) H _ I hq) (λfl s' hs=>?_) λe s' hs=>hs;have U:∀{g:St}{F:Hp}{v:V}{u:ac},Inv (TZ CX P w K mg base N qual scope f cdv A outer s H E) [] g F s'->fx v u->Q v F->CE outer P w H s Q u s':=
  λ{g F v u} J Y q=>⟨v,F,J.os,J.bare,J.base,J.hok,Y,q⟩
 cases fl with
 |ret u=>
  obtain⟨v,g,F,J,Y,q⟩:=hs;exact U J Y q
 |next=>
  obtain⟨g,F,J,q⟩:=hs;exact U (v:=V.non) (u:=eA) J rfl q
 |brk=>
  obtain⟨_,_,_,q⟩:=hs;exact gv q
 |cont=>
  obtain⟨_,_,_,q⟩:=hs;exact gv q
end L2
variable {xs ys:List L2.V}{H H' H1 F2 F1 He Hf:L2.Hp}{v y:L2.V}{X:L2.Cx}{σ:L2.St}{tc:L2.TT}{CX:L2.CXT}{kvs:List (List L2.Key×L2.V)}{ks:List (List L2.Key)}{F:List (List L2.Key)->Int}
namespace L2
open PySem PySem.Spec PyProof.Rows
section
variable {x:Str}{p:Pos}{es:List Expr}{t:TA}{id T:String}{r:List V->Hp->VK->Prop}
def tCB(r:List V->Hp->VK->Prop)(t:TA):TE:=λg H Q=>t g H λvs d=>r vs d Q
def Lf(hc:Dy X (.builtin id) r)(hg:Gl X x)(hm:X.mg x=W1)(Y:df x=O0 (.builtin id))(ha:PA X (e::es) t)(Z:x≠"__name__":=by decide)(g:(x==("__debug__":Str))=ZA:=by decide)(he:aE (e::es) X.env=(ZA,eval e X.env)::aE es X.env:=by rfl)(d:(dE pos (aE es X.env)).any (·.1)=ZA:=by rfl):PE X (.Call (.Name x p) (e::es) [] pos) (tCB r t):=by
 intro J s G H Q I h;refine qf (QX I hg hm Y ?_ Z g);exact PyProof.Rows.callWith_builtin1 (py (ha pos J s G H _ I h) (by rintro S U ⟨O,H1,I1,W,q1⟩;exact hc J U G H1 O S Q I1 W q1)) he d
def HR(hc:Dy X (.type T) r)(hg:Gl X x)(hm:X.mg x=W1)(Y:df x=O0 (.type T))(ha:PA X (e::es) t)(Z:x≠"__name__":=by decide)(g:(x==("__debug__":Str))=ZA:=by decide)(he:aE (e::es) X.env=(ZA,eval e X.env)::aE es X.env:=by rfl)(d:(dE pos (aE es X.env)).any (·.1)=ZA:=by rfl):PE X (.Call (.Name x p) (e::es) [] pos) (tCB r t):=by
 intro J s G H Q I h;refine qf (QX I hg hm Y ?_ Z g);exact DC (py (ha pos J s G H _ I h) (by rintro S U ⟨O,H1,I1,W,q1⟩;exact hc J U G H1 O S Q I1 W q1)) he d
end
end L2
namespace HT
open PySem PyProof.Rows
section
open PySem.SeqAt
open PySem.AutoSeq1 (wpAny_loadPart')
open PySem.MeetsSeq PySem.MeetsSeq2 PySem.MeetsSeq3
end
section
variable {A:aT}
def rK{t:Addr}{d:List ac}(ht:IsTup s.heap t vs.toArray)(hb:IsTup s.heap b d.toArray)(W:vs≠[])(h1:d=[]->Q (.ref t) s)(h2:d≠[]->Q (.ref s.heap.objs.size) { s with heap:=s.heap.push { cls:=.type "tuple",data:=.seq (vs++d).toArray } })(hsz:vs.length+d.length<=sizeLine):ah (ai prog w) A (ii .Add (.ref t) (.ref b)) Q E s:=by
 obtain⟨⟨cls,dd,data,U⟩,S,Z,n,Y⟩:=id ht;obtain⟨⟨r0,J,T,r⟩,g,I,n2,G⟩:=id hb;simp only at Z Y I G;subst Z Y I G;have e:vs.toArray++d.toArray=(vs++d).toArray:=by simp
 by_cases O:d=[]
 .exact AX ⟨_,S,rfl⟩ ⟨_,g,rfl⟩ E4 E5 E6 E7 (E8 _ _)
   (tuple_addW1 t b vs.toArray d.toArray n n2 dd J U r (by simpa using W) (by simp[O])) ⟨S,g,h1 O⟩
 .refine AX ⟨_,S,rfl⟩ ⟨_,g,rfl⟩ E4 E5 E6 E7 (E8 _ _)
   (tuple_addW2 t b vs.toArray d.toArray n n2 dd J U r (by simpa using W) (by simpa using O) (by rw[cS,cS];exact hsz)) ⟨S,g,?_⟩
  rw[e];exact h2 O
def sIx(n d:Nat):Option Int->Nat
 |none=>d
 |some v=>if v<0 then (v+(n:Int)).toNat else min v.toNat n
def V6(n d k:Nat):sIx n d (O0 (k:Int))=min k n:=by
 show (if (k:Int)<0 then ((k:Int)+(n:Int)).toNat else min (k:Int).toNat n)=min k n;rw[OO .(0),ip]
def yR(n d:Nat)(r:d<=n)(o:Option Int):sIx n d o<=n:=by
 cases o with
 |none=>exact r
 |some v=>
  show (if v<0 then (v+(n:Int)).toNat else min v.toNat n)<=n
  by_cases g:v<0
  .rw[ZN g];omega
  .rw[OO g];exact Nat.min_le_right _ _
def ao(v:Int)(n d:Nat):(if v<0 then max (v+(n:Int)) 0 else min v (n:Int))=((sIx n d (O0 v):Nat):Int):=by
 show (if v<0 then max (v+(n:Int)) 0 else min v (n:Int))=(((if v<0 then (v+(n:Int)).toNat else min v.toNat n):Nat):Int)
 by_cases g:v<0
 .simp only[ZN g];omega
 .simp only[OO g];omega
def Zd(r d:Option Int)(n:Nat):E9 r d 1 (n:Int)=(((sIx n 0 r:Nat):Int),((sIx n n d:Nat):Int)):=by
 have g:¬ ((1:Int)<0):=by omega
 unfold E9;simp only[g,YO];refine so ?_ ?_
 .cases r with
  |none=>rfl
  |some v=>exact ao v n 0
 .cases d with
  |none=>rfl
  |some v=>exact ao v n n
def Ze(i j:Nat):AY (i:Int) (j:Int) 1=j-i:=by
 unfold AY;have g:(1:Int) > 0:=by omega
 simp only[g,XO,K2];split<;>omega
def S9{v:ac}{o:Option Int}{Q:Option Int->av->Prop}(p:qr v o)(h:Q o s):ah (ai prog w) A (Builtin.Slice.slicePartIndex v) Q E s:=by
 cases p with
 |none=>exact slicePart_none h
 |int i t=>exact slicePart_int h
def Qc{sl:Addr}{J I:ac}{r g:Option Int}{Q:Int×Int×Nat->av->Prop}(hs:s.heap.IsSliceOf sl J I .none)(pl:qr J r)(pu:qr I g)(h:Q (((sIx n 0 r:Nat):Int),1,sIx n n g-sIx n 0 r) s):ah (ai prog w) A (Kb (.ref sl) (pure (n:Int))) Q E s:=by
 obtain⟨S,d,O,G⟩:=id hs;unfold Kb Builtin.Slice.sliceFields;refine ag (ag (wpAny_field d G (x:=J) rfl (ag (wpAny_field d G (x:=I) rfl (ag (wpAny_field d G (x:=.none) rfl (aw ?_)))))));refine ag (slicePart_none ?_);show ah _ _ (if ((1:Int)==0)=E3 then _ else _) _ _ s;rw[OO .(2)];refine ag (S9 pl (ag (S9 pu (ag (aw ?_)))));show ah _ _ (match E9 r g 1 (n:Int) with | (r,g)=>pure (r,(1:Int),AY r g 1)) _ _ s;rw[Zd r g n];show ah _ _ (pure (((sIx n 0 r:Nat):Int),(1:Int),AY ((sIx n 0 r:Nat):Int) ((sIx n n g:Nat):Int) 1)) _ _ s;rw[Ze];exact aw h
def jE(xs:Array ac)(i k:Nat):((br k).filterMap λ(m:Nat)=>xs[((i:Int)+(m:Int)*1).toNat]?).toArray=((xs.toList.drop i).take k).toArray:=by
 have e:(λ(m:Nat)=>xs[((i:Int)+(m:Int)*1).toNat]?)=λm=>xs[i+m]?:=by
  funext m;have:((i:Int)+(m:Int)*1).toNat=i+m:=by omega
  rw[this]
 rw[e];have:=pick_run xs i k;rw[Ee] at this;have d:((λx=>xs[x]?) ∘ λx=>i+x)=λm=>xs[i+m]?:=rfl;rw[d] at this;rw[this]
theorem O8{t sl:Addr}{items:Array ac}{U S:ac}{r g:Option Int}(T:IsTup s.heap t items)(hs:s.heap.IsSliceOf sl U S .none)(pl:qr U r)(pu:qr S g)(Y:¬ (sIx items.size 0 r=0/\sIx items.size items.size g=items.size))(h:Q (.ref s.heap.objs.size) { s with heap:=s.heap.push { cls:=.type "tuple",data:=.seq ((items.toList.drop (sIx items.size 0 r)).take (sIx items.size items.size g-sIx items.size 0 r)).toArray } })(hsz:items.size<=sizeLine):ah (ai prog w) A (oj (.ref t) (.ref sl)) Q E s:=by
 have d:sizeOk (.seq ((items.toList.drop (sIx items.size 0 r)).take (sIx items.size items.size g-sIx items.size 0 r)).toArray):=by
  show ((items.toList.drop (sIx items.size 0 r)).take (sIx items.size items.size g-sIx items.size 0 r)).toArray.size<=sizeLine;rw[cS,i6,sq,hJ];omega
 have hj:sIx items.size items.size g<=items.size:=yR _ _ (aS _) g;obtain⟨W,G,O,Z⟩:=id hs;have J:s.TypeIs (.ref sl) "slice":=⟨W,G,O⟩;unfold oj
 try with_reducible refine wpAny_holding ?_
 first | refine ag (aw ?_) | skip
 refine ag (wpAny_sequenceKey T.typeIs .(2) ?_);refine ag (sA (name:=eJ "__getitem__") T.typeIs EA
  (ja EA T.typeIs entry_tuple_getitem ?_ (args_tuple_getitem _ _)))
 show ah _ _ (HV (.ref t) >>= _) _ _ s;refine ag (tupleItemsOf_ T ?_);refine ag (yn J ?_);rw[ZN .(2)];refine ag (Qc hs pl pu ?_);have I:¬ ((((sIx items.size 0 r:Nat):Int)==0&&(1:Int)==1&&(sIx items.size items.size g-sIx items.size 0 r)==items.size)=E3):=by
  intro q;rw[eW,eW] at q;have q1:((sIx items.size 0 r:Nat):Int)=0:=eq_of_beq q.1.1;have q2:sIx items.size items.size g-sIx items.size 0 r=items.size:=eq_of_beq q.2;exact Y ⟨by omega,by omega⟩
 show ah _ _ (if (((sIx items.size 0 r:Nat):Int)==0&&(1:Int)==1&&(sIx items.size items.size g-sIx items.size 0 r)==items.size)=E3 then _ else _) _ _ s;rw[OO I,jE]
 first
  |exact ag (m:=AZ _) (iF (aw ⟨_,rfl,aw h⟩) d)
  |exact ag (m:=AZ _) (iF (ag (aw (aw ⟨_,rfl,aw h⟩))) d)
  |exact ag (ag (m:=AZ _) (iF (aw (aw ⟨_,rfl,aw h⟩)) d))
  |exact ag (ag (m:=AZ _) (iF (aw ⟨_,rfl,aw h⟩) d))
end
end HT
namespace L2
open PySem PySem.Spec PyProof.Rows
abbrev TO:=St->Hp->(Option Int->Hp->Prop)->Prop
def PO(X:Cx)(e:Option Expr)(t:TO):Prop:=
 ∀(r:QP) (s:av) (g:St) (H:Hp) (Q:Option Int->Hp->Prop),Inv X r g H s->t g H Q ->
  ah .(3) X.A (evalPart e X.env) (λu G=>∃o d,Inv X r g d G/\qr u o/\Q o d) X.xe s
def rM:TO:=λ_ H Q=>Q W1 H
def ABG(t:TE):TO:=λg H Q=>t g H λx d=>∃i,x=.int i/\Q (O0 i) d
def intsAre_of:∀{us:List ac},gn (ns.map V.int) us->sB us ns:=by
 induction ns with
 |nil=>intro us r;rw[gy] at r;cases r;exact .nil
 |cons n ns g=>
  intro us r;rw[bn] at r;cases r with
  |cons d S=>
   obtain⟨t,e⟩:=d;subst e;exact .cons n t (g S)
section
variable {te:TE}{lo hi:Option Expr}{tl th:TO}
def rN:PO X W1 rM:=by
 intro r s g H Q I h;rw[evalPart_none];exact aw ⟨W1,H,I,.none,h⟩
def rP(h:PE X e te):PO X (O0 e) (ABG te):=by
 intro r s g H Q I G;rw[evalPart_some];refine py (h r s g H _ I G) λu S q0=>?_;obtain⟨x,O,J,d,q1⟩:=q0;obtain⟨i,rfl,q⟩:=q1;obtain⟨t,rfl⟩:=d;exact⟨O0 i,O,J,.int i t,q⟩
def SlR(X:Cx)(r:V->Option Int->Option Int->Hp->VK->Prop):Prop:=
 ∀(d:QP) (s:av) (g:St) (H:Hp) (x:V) (v J I:ac) (G O:Option Int) (sl:Addr) (Q:VK),Inv X d g H s->fx x v->s.heap.IsSliceOf sl J I .none->qr J G->qr I O->r x G O H Q ->
  ∃T id,wb (.type T) "__getitem__"=pure (O0 (.builtin id))/\s.TypeIs v T/\ah .(3) X.A (oj v (.ref sl)) (EP X d g Q) X.xe s
def SlR.or{r O:V->Option Int->Option Int->Hp->VK->Prop}(h:SlR X r)(h':SlR X O):SlR X (λx lo hi H Q=>r x lo hi H Q∨O x lo hi H Q):=by
 intro d s g H x v J G lo hi U Q I rx hs S pu q
 rcases q with q | q
 .exact h d s g H x v J G lo hi U Q I rx hs S pu q
 .exact h' d s g H x v J G lo hi U Q I rx hs S pu q
def tSl(r:V->Option Int->Option Int->Hp->VK->Prop)(te:TE)(d G:TO):TE:=λg H Q=>te g H λx O=>d g O λl J=>G g J λu I=>r x l u I Q
theorem jF{r:V->Option Int->Option Int->Hp->VK->Prop}(hr:SlR X r)(he:PE X e te)(hl:PO X lo tl)(hu:PO X hi th):PE X (.Subscript e (.Slice lo hi W1 p2) pos) (tSl r te tl th):=by
 intro d s g H Q I h;refine EB (py (he d s g H _ I h) λv W q9=>?_);obtain⟨x,H1,I1,Y,q1⟩:=q9;refine wpAny_Slice (py (hl d W g H1 _ I1 q1) λJ U ⟨l,H2,I2,Z,q2⟩=>py (hu d U g H2 _ I2 q2) λG S p0=>?_);obtain⟨u,O,I3,pu,q3⟩:=p0;rw[evalPart_none];refine aw ?_;have I4:Inv X d g O { S with heap:=S.heap.push { cls:=.type "slice",data:=.fields #[J,G,.none] } }:=I3.kept (t':=S.toks) λb ob q=>bo _ q;obtain⟨T,id,hT,ht,hg⟩:=hr d { S with heap:=S.heap.push { cls:=.type "slice",data:=.fields #[J,G,.none] } } g O x v J G l u S.heap.objs.size Q I4 Y (Heap.IsSliceOf.new ..) Z pu q3;show ah .(3) X.A (B0 e (.Slice lo hi W1 p2) v (.ref S.heap.objs.size)) (EP X d g Q) X.xe { S with heap:=S.heap.push { cls:=.type "slice",data:=.fields #[J,G,.none] } };exact tail_any (ops:=[.ref S.heap.objs.size,v]) ht hT hg (by with_unfolding_all rfl)
def cutV(xs:List V)(r d:Option Int):List V:=(xs.drop (HT.sIx xs.length 0 r)).take (HT.sIx xs.length xs.length d-HT.sIx xs.length 0 r)
def RW(xs:List V)(r d:Option Int):(cutV xs r d).length<=xs.length:=by
 unfold cutV;rw[i6,sq];omega
def rSlT(K:ay):V->Option Int->Option Int->Hp->VK->Prop:=λx r d H Q=>∃a xs,x=.ref a/\Qb K H a xs ∧
 ¬ (HT.sIx xs.length 0 r=0/\HT.sIx xs.length xs.length d=xs.length)/\∀p,H p=W1->Q (.ref p) (mf H p (.tup (cutV xs r d)))
theorem yS:SlR X (rSlT X.K):=by
 intro π s Z H x v vl vu G O sl Q I rx hs U pu h;obtain⟨a,d,rfl,W,Y,q⟩:=h;cases rx;obtain⟨J,r,T,S⟩:=I.tuple W;have g:J.toArray.size=d.length:=by rw[cS];exact r.length.symm
 refine⟨"tuple",_,EA.lookup,T.typeIs,?_⟩;refine HT.O8 T hs U pu (by rw[g];exact Y) ?_ (by rw[g];exact S);rw[g];refine⟨.ref s.heap.objs.size,_,I.laid (t':=s.toks) (o:=.tup (cutV d G O)) (λb ob q=>bo _ q) (aS _) ?_,rfl,q _ (I.hok.fresh (aS _))⟩;exact⟨dA (RW d G O) S,_,(r.drop (HT.sIx d.length 0 G)).take (HT.sIx d.length d.length O-HT.sIx d.length 0 G),EC _ _⟩
def gn.nil_iff(r:gn xs us):us=[]↔xs=[]:=by
 cases r with
 |nil=>simp
 |cons _ _=>simp
end
def ixN(n:Nat)(i:Int):Option Nat:=if 0<=i then (if i<n then O0 i.toNat else W1) else if -(n:Int)<=i then O0 (i+n).toNat else W1
def atI{α:Type}(xs:List α)(i:Int):Option α:=(ixN xs.length i).bind λj=>xs[j]?
def rQ{i:Int}(h:ixN n i=O0 j):seqIndex? i n=O0 j/\j<n/\-(n:Int)<=i/\i<n:=by
 unfold ixN at h
 by_cases J:0<=i
 .rw[ZN J] at h
  by_cases g:i<n
  .rw[ZN g] at h;have e:i.toNat=j:=dc h;exact⟨by rw[seqIndex_of J g,e],by omega,by omega,g⟩
  .rw[OO g] at h;cases h
 .rw[OO J] at h
  by_cases g : -(n:Int)<=i
  .rw[ZN g] at h;have e:(i+n).toNat=j:=dc h;exact⟨by rw[seqIndex_neg .(0) g,e],by omega,g,by omega⟩
  .rw[OO g] at h;cases h
def V7{d:Type}{xs:List d}{i:Int}{v:d}(h:atI xs i=O0 v):∃j,seqIndex? i xs.length=O0 j/\xs[j]?=O0 v/\j<xs.length/\-(xs.length:Int)<=i/\i<xs.length:=by
 unfold atI at h;cases e:ixN xs.length i with
 |none=>rw[e] at h;cases h
 |some j=>
  rw[e] at h;obtain⟨G,g,S,r⟩:=rQ e;exact⟨j,G,h,g,S,r⟩
def O9(b:Expr):Prop:=∀o i,yA b ZA o i=operate [o,i] (oj o i)
def IxR(X:Cx)(r:R2):Prop:=
 ∀(g d:Expr) (I:QP) (s:av) (G:St) (H:Hp) (x y:V) (v u:ac) (Q:VK),Inv X I G H s->fx x v->fx y u->r x y H Q ->
  yA d ZA v u=operate [v,u] (oj v u)->ah .(3) X.A (B0 g d v u) (EP X I G Q) X.xe s
def MtR(X:Cx)(id:String)(r:V->List V->Hp->VK->Prop):Prop:=
 ∀(d:QP) (s:av) (g:St) (H:Hp) (x:V) (xs:List V) (v:ac) (us:List ac) (Q:VK),Inv X d g H s->fx x v->gn xs us->r x xs H Q ->
  ah .(3) X.A (call (.builtin id) (v::us)) (EP X d g Q) X.xe s
section
variable {a b:Expr}{ta tb:TE}
def IxR.or{r S:R2}(h:IxR X r)(h':IxR X S):IxR X (λx y H Q=>r x y H Q∨S x y H Q):=by
 intro g d J s G H x y v u Q I rx O q hs
 rcases q with q | q
 .exact h g d J s G H x y v u Q I rx O q hs
 .exact h' g d J s G H x y v u Q I rx O q hs
def v9{r:R2}(J:IxR X r)(S:PE X a ta)(O:PE X b tb)(hs:O9 b):PE X (.Subscript a b pos) (tOp r ta tb):=by
 intro d s g H Q I h;exact EB (binT S O I h λv u T x y W U rx G q=>J a b d T g W x y v u Q U rx G q (hs _ _))
def rIxL(K:ay):R2:=λx y H Q=>∃p xs i v,x=.ref p/\y=.int i/\Qr K H p xs/\atI xs i=O0 v/\Q v H
def rIxT(K:ay):R2:=λx y H Q=>∃p xs i v,x=.ref p/\y=.int i/\Qb K H p xs/\atI xs i=O0 v/\Q v H
def rIxS:R2:=λx y H Q=>∃z i c,x=.str z/\y=.int i/\z.length<=sizeLine/\atI z.cps.toList i=O0 c/\Q (.str ⟨#[c]⟩) H
def rT:IxR X (rIxL X.K):=by
 intro G J Y s U H x y v u Q I rx ry h hs;obtain⟨p,xs,i,z,rfl,rfl,hq,he,q⟩:=h;cases rx;obtain⟨t,rfl⟩:=ry;obtain⟨T,r,S,hz⟩:=I.list hq;obtain⟨j,g,h2,h3,h4,h5⟩:=V7 he;obtain⟨w,ew,O⟩:=r.get h2;have hl:=r.length;have hn:=S6;have d:EP X Y U Q w s:=⟨z,H,I,O,q⟩
 by_cases Z:0<=i
 .have W:i.toNat=j:=by
   rw[seqIndex_of Z h5] at g;exact dc g
  exact item_listR S.isList Z .(0) (by rw[W];simpa using ew) d hs
 .have W:(i+(T.toArray.size:Int)).toNat=j:=by
   rw[seqIndex_neg .(0) h4] at g;rw[cS,<-hl];exact dc g
  exact Ki (x:=w) S.isList.typeIs Kj.lookup
   (wpAny_getItem_list_neg (Q:=λr s'=>r=w/\EP X Y U Q r s') S.isList .(0) (by rw[cS]<;>omega) .(0) (by rw[W];simpa using ew) ⟨rfl,d⟩) hs
def yU:IxR X (rIxT X.K):=by
 intro g d S s J H x y v u Q I rx W h hs;obtain⟨p,xs,i,z,rfl,rfl,Z,he,q⟩:=h;cases rx;obtain⟨t,rfl⟩:=W;obtain⟨Y,r,T,hz⟩:=I.tuple Z;obtain⟨j,h1,h2,h3,h4,h5⟩:=V7 he;obtain⟨w,ew,O⟩:=r.get h2;have hl:=r.length;have hn:=S6;have G:EP X S J Q w s:=⟨z,H,I,O,q⟩;exact Ki (x:=w) T.typeIs slot_tuple_getitem.lookup
  (getItem_tuple (j:=j) (Q:=λr U=>r=w/\EP X S J Q r U) T .(0) .(0) (by rw[cS,<-hl];exact h1) (by simpa using ew) ⟨rfl,G⟩) hs
def Qd:IxR X rIxS:=by
 intro g d π s Y H x y v u Q I rx G h hs;obtain⟨z,i,c,rfl,rfl,hz,J,q⟩:=h;obtain⟨t,rfl⟩:=rx;obtain⟨t',rfl⟩:=G;obtain⟨j,r,T,h3,S,O⟩:=V7 J;have Z:z.cps.toList.length=z.length:=by simp[yB]
 rw[Z] at r S O;have hn:=S6;exact tail_any (ED s z t) slot_str_getitem.lookup (getItem_str (c:=c) (by
  have W:decide (i < -(2^63:Int))=ZA:=RO .(0);have U:decide (i≥2^63)=ZA:=RO .(0);rw[W,U,Bool.or_false]) (by rw[r];simpa using T) ⟨.str ⟨#[c]⟩,H,I.tok _,⟨_,rfl⟩,q⟩) hs
def rIx(K:ay):R2:=λx y H Q=>rIxL K x y H Q∨rIxT K x y H Q∨rIxS x y H Q
def jG:IxR X (rIx X.K):=rT.or (yU.or Qd)
def V8(r d:Option Int)(n:Nat):(sC r d W1 n).1=((HT.sIx n 0 r:Nat):Int)/\(sC r d W1 n).2.1=((HT.sIx n n d:Nat):Int)/\(sC r d W1 n).2.2=1:=by
 refine⟨?_,?_,rfl⟩
 .cases r with
  |none=>simp[sC,HT.sIx]
  |some i=>
   simp only[sC,HT.sIx,Kk,show (1:Int) > 0 by decide,XO]
   by_cases h:i<0
   .simp only[h,XO]<;>omega
   .simp only[h,YO]<;>omega
 .cases d with
  |none=>simp[sC,HT.sIx]
  |some i=>
   simp only[sC,HT.sIx,Kk,show (1:Int) > 0 by decide,XO]
   by_cases h:i<0
   .simp only[h,XO]<;>omega
   .simp only[h,YO]<;>omega
def U7(d:List ac)(r g:Option Int):slicePick d.toArray r g W1=((d.drop (HT.sIx d.length 0 r)).take (HT.sIx d.length d.length g-HT.sIx d.length 0 r)).toArray:=by
 obtain⟨I,G,S⟩:=V8 r g d.toArray.size;unfold slicePick;rw[I,G,S];simp only[sliceRange_one,pick_run,cS]<;>rfl
def rSlL(K:ay):V->Option Int->Option Int->Hp->VK->Prop:=λx r d H Q=>∃a xs,x=.ref a/\Qr K H a xs/\∀p,H p=W1->Q (.ref p) (mf H p (.lst (cutV xs r d)))
theorem rW:SlR X (rSlL X.K):=by
 intro Z s Y H x v vl vu G J sl Q I rx hs O pu h;obtain⟨a,g,rfl,W,q⟩:=h;cases rx;obtain⟨S,r,T,U⟩:=I.list W;have d:=r.length;refine⟨"list",_,Kj.lookup,T.isList.typeIs,?_⟩;refine wpAny_getItem_list_slice T.isList hs O pu .none .(1) ?_ (by rw[cS]<;>omega);rw[U7,<-d];refine⟨.ref s.heap.objs.size,_,I.laid (t':=s.toks) (o:=.lst (cutV g G J)) (λb ob q=>bo _ q) (aS _) ?_,rfl,q _ (I.hok.fresh (aS _))⟩;exact⟨dA (RW g G J) U,_,0,(r.drop (HT.sIx g.length 0 G)).take (HT.sIx g.length g.length J-HT.sIx g.length 0 G),ci _ rfl⟩
def K4:V->Bool
 |.non=>E3
 |.bl _=>E3
 |.int _=>E3
 |.str _=>E3
 |_=>ZA
def eqV:V->V->Bool
 |.non,.non=>E3
 |.bl a,.bl b=>a==b
 |.bl a,.int b=>(if a then 1 else 0)==b
 |.int a,.bl b=>a==(if b then 1 else 0)
 |.int a,.int b=>a==b
 |.str a,.str b=>a==b
 |_,_=>ZA
def jH{A:aT}{x:V}{v:ac}(g:fx y u)(rx:fx x v)(G:K4 y=E3)(r:K4 x=E3):nw A s u v (eqV y x):=by
 cases y with
 |non=>
  cases g;cases x with
  |non=>cases rx;exact EE _
  |bl b=>cases rx;exact SeqAt.EqAt.none_bool b
  |int b=>obtain⟨t,rfl⟩:=rx;exact SeqAt.EqAt.none_int b t
  |str b=>obtain⟨t,rfl⟩:=rx;exact SeqAt.EqAt.none_str b t
  |_=>exact QO (show ZA=E3 from r) dP
 |bl a=>
  cases g;cases x with
  |non=>cases rx;exact SeqAt.EqAt.bool_none a
  |bl b=>cases rx;exact SeqAt.EqAt.bool_bool a b
  |int b=>obtain⟨t,rfl⟩:=rx;exact SeqAt.EqAt.bool_int a b t
  |str b=>obtain⟨t,rfl⟩:=rx;exact SeqAt.EqAt.bool_str a b t
  |_=>exact QO (show ZA=E3 from r) dP
 |int a=>
  obtain⟨d,rfl⟩:=g;cases x with
  |non=>cases rx;exact SeqAt.EqAt.int_none a d
  |bl b=>cases rx;exact SeqAt.EqAt.int_bool a d b
  |int b=>obtain⟨t,rfl⟩:=rx;exact SeqAt.EqAt.int_int a d b t
  |str b=>obtain⟨t,rfl⟩:=rx;exact IC a d b t
  |_=>exact QO (show ZA=E3 from r) dP
 |str a=>
  obtain⟨d,rfl⟩:=g;cases x with
  |non=>cases rx;exact SeqAt.EqAt.str_none a d
  |bl b=>cases rx;exact SeqAt.EqAt.str_bool a d b
  |int b=>obtain⟨t,rfl⟩:=rx;exact ID a d b t
  |str b=>obtain⟨t,rfl⟩:=rx;exact SeqAt.EqAt.str_str a d b t
  |_=>exact QO (show ZA=E3 from r) dP
 |_=>exact QO (show ZA=E3 from G) dP
def eqU(x:V)(u:ac):Bool:=match u with
 |.none=>eqV .non x
 |.bool b=>eqV (.bl b) x
 |.int i _=>eqV (.int i) x
 |.str z _=>eqV (.str z) x
 |_=>ZA
def jJ{x:V}(r:fx y u)(f:K4 y=E3):eqU x u=eqV y x:=by
 cases y with
 |non=>cases r;rfl
 |bl b=>cases r;rfl
 |int i=>obtain⟨t,rfl⟩:=r;rfl
 |str z=>obtain⟨t,rfl⟩:=r;rfl
 |_=>exact QO (show ZA=E3 from f) dP
theorem O_{x:V}:∀{xs:List V}{us:List ac},gn xs us->xs.all K4=E3->us.any (eqU x)=xs.any λy=>eqV y x
 |_,_,.nil,_=>rfl
 |y::xs,u::us,.cons r t,f=>by
  rw[wf,eW] at f;rw[sD,sD,jJ r f.1,O_ t f.2]
theorem Lg{A:aT}{s:av}{x:V}{v:ac}(rx:fx x v)(d:K4 x=E3):∀{xs:List V}{us:List ac},gn xs us->xs.all K4=E3->∀u∈us,nw A s u v (eqU x u)
 |_,_,.nil,_=>λu T=>by cases T
 |y::xs,u::us,.cons r t,f=>λU T=>by
  rw[wf,eW] at f
  rcases bX.mp T with rfl | T
  .rw[jJ r f.1];exact jH r rx f.1 d
  .exact Lg rx d t f.2 U T
def inV(x:V)(xs:List V):Bool:=xs.any λy=>eqV y x
def rIn(K:ay)(d:Bool):R2:=λx y H Q=>∃p xs,y=.ref p/\(Qr K H p xs∨Qb K H p xs)/\K4 x=E3/\xs.all K4=E3/\Q (.bl (if d then !inV x xs else inV x xs)) H
def fH:PZ X (dS .In) (rIn X.K ZA):=by
 intro W s T H x y v u Q I rx O h;obtain⟨p,Y,rfl,U,G,fs,q⟩:=h;cases O
 rcases U with U | U
 .obtain⟨d,r,J,S⟩:=I.list U;refine Kn (eqU x) J.isList (λw g=>Lg rx G r fs w (by simpa using g)) ⟨.bl _,H,I,rfl,?_⟩;rw[show d.toArray.any (eqU x)=d.any (eqU x) by simp,O_ r fs];exact q
 .obtain⟨d,r,J,S⟩:=I.tuple U;refine SeqAt.in_tupleAt (eqU x) J (λw g=>Lg rx G r fs w (by simpa using g)) ⟨.bl _,H,I,rfl,?_⟩;rw[show d.toArray.any (eqU x)=d.any (eqU x) by simp,O_ r fs];exact q
def V9:PZ X (dS .NotIn) (rIn X.K E3):=by
 intro W s T H x y v u Q I rx O h;obtain⟨p,Y,rfl,U,G,fs,q⟩:=h;cases O
 rcases U with U | U
 .obtain⟨d,r,J,S⟩:=I.list U;refine Kt (eqU x) J.isList (λw g=>Lg rx G r fs w (by simpa using g)) ⟨.bl _,H,I,rfl,?_⟩;rw[show d.toArray.any (eqU x)=d.any (eqU x) by simp,O_ r fs];exact q
 .obtain⟨d,r,J,S⟩:=I.tuple U;refine SeqAt.notIn_tupleAt (eqU x) J (λw g=>Lg rx G r fs w (by simpa using g)) ⟨.bl _,H,I,rfl,?_⟩;rw[show d.toArray.any (eqU x)=d.any (eqU x) by simp,O_ r fs];exact q
def Dy.or{f:ac}{r O:List V->Hp->VK->Prop}(h:Dy X f r)(h':Dy X f O):Dy X f (λxs H Q=>r xs H Q∨O xs H Q):=by
 intro d s g H xs G Q I J q
 rcases q with q | q
 .exact h d s g H xs G Q I J q
 .exact h' d s g H xs G Q I J q
theorem Il:Dy X (.type "list") (λxs H Q=>∃p ys,xs=[.ref p]/\(Qr X.K H p ys∨Qb X.K H p ys)/\∀l,H l=W1->Q (.ref l) (mf H l (.lst ys))):=by
  intro π s σ H xs us Q I r h;obtain⟨p,ys,rfl,U,q⟩:=h;obtain⟨u,rfl,rx⟩:=Xt r;cases rx;have W:∀(d:List ac),gn ys d->ys.length<=sizeLine->∀(J:Heap) (G:Nat),(∀b o',s.heap.get? b=O0 o'->J.get? b=O0 o') ->
      J.get? s.heap.objs.size=O0 { cls:=.type "list",dict:=W1,data:=.seq d.toArray G,slots:=#[] }->EP X π σ Q (.ref s.heap.objs.size) { s with heap:=J }:=λd g S J G O e=>
    ⟨.ref s.heap.objs.size,_,I.laid (t':=s.toks) O (aS _) (show Bp X.prog X.w _ J _ (.lst ys) from⟨S,d,G,g,e⟩),rfl,q _ (I.hok.fresh (aS _))⟩
  rcases U with U | U
  . obtain⟨d,g,Y,S⟩:=I.list U
    have T:=g.length;obtain⟨o,Z,hc,n,hd⟩:=Y.isList;exact call_list_seq p (.inl rfl) Z hc hd (λJ G O e=>W d g S J G O e) (by simp only[cS]<;>omega)
  . obtain⟨d,g,Y,S⟩:=I.tuple U
    have T:=g.length;obtain⟨o,Z,hc,n,hd⟩:=Y;exact call_list_seq p (.inr rfl) Z hc hd (λJ G O e=>W d g S J G O e) (by simp only[cS]<;>omega)
theorem Nq:Dy X (.type "tuple") (λxs H Q=>∃p ys,xs=[.ref p]/\((Qr X.K H p ys/\∀l,H l=W1->Q (.ref l) (mf H l (.tup ys)))∨(Qb X.K H p ys/\Q (.ref p) H))):=by
 intro S s O H xs us Q I r h;obtain⟨p,ys,rfl,h⟩:=h;obtain⟨u,rfl,rx⟩:=Xt r;cases rx
 rcases h with ⟨U,q⟩ | ⟨U,q⟩
 .obtain⟨d,g,G,T⟩:=I.list U;have W:=g.length;refine call_tuple_list G.isList (λJ Z=>?_) (by simp only[cS]<;>omega);have Y:Inv X S O H { s with heap:=J }:=I.kept (t':=s.toks) Z;have I2:Inv X S O (mf H J.objs.size (.tup ys)) { s with heap:=J.push { cls:=.type "tuple",data:=.seq d.toArray } }:=
   Y.laid (t':=s.toks) (λb o e=>bo _ e) (aS _) (show Bp X.prog X.w _ _ _ (.tup ys) from⟨T,d,g,EC _ _⟩)
  exact⟨.ref J.objs.size,_,I2,rfl,q _ (Y.hok.fresh (aS _))⟩
 .obtain⟨d,g,G,T⟩:=I.tuple U;exact call_tuple_same G ⟨.ref p,H,I,rfl,q⟩
def tyV(K:ay)(T:String)(x:V)(H:Hp):Prop:=match x with
  |.str _=>T="str"
  |.int _=>T="int"
  |.ref p=>(T="list"/\∃xs,Qr K H p xs)∨(T="tuple"/\∃o,K.lookup p=O0 o/\o.cls=.type "tuple"/\o.dict=W1) ∨
      (T="dict"/\((∃kvs,H p=O0 (.dK kvs))∨∃kvs,H p=O0 (.dT kvs)))∨(T="set"/\∃S n,H p=O0 (.set S n))
  |_=>False
def yV{T:String}{x:V}{v:ac}(I:Inv X π σ H s)(r:fx x v)(ty:tyV X.K T x H):
  s.TypeIs v T/\∀a,v=.ref a->∃ob,s.heap.get? a=O0 ob/\ob.dict=W1:=by
 cases x with
 |str z=>
  obtain⟨t,rfl⟩:=r;cases (show T="str" from ty);exact⟨ED s z t,λ_ e=>nomatch e⟩
 |int i=>
  obtain⟨t,rfl⟩:=r;cases (show T="int" from ty);exact⟨typeIs_int s i t,λ_ e=>nomatch e⟩
 |ref p=>
  cases r
  rcases ty with ⟨rfl,xs,Y⟩ | ⟨rfl,o,d,Z,J⟩ | ⟨rfl,d⟩ | ⟨rfl,S,n,d⟩
  .obtain⟨W,_,U,_⟩:=I.list Y;refine⟨U.isList.typeIs,λa e=>?_⟩;cases e;obtain⟨o,n,e,c,J,_⟩:=U;exact⟨o,e,J⟩
  .refine⟨⟨o,I.kIn p o d,Z⟩,λa e=>?_⟩;cases e;exact⟨o,I.kIn _ o d,J⟩
  .have z:∃o,s.heap.get? p=O0 o/\o.ExactDict:=by
    rcases d with ⟨g,d⟩ | ⟨g,d⟩
    .obtain⟨_,_,_,_,o,_,_,e,G,_⟩:=I.hok p _ d;exact⟨o,e,G⟩
    .obtain⟨_,_,_,_,o,_,_,e,G,_⟩:=I.hok p _ d;exact⟨o,e,G⟩
   obtain⟨o,e,G⟩:=z;refine⟨⟨o,e,G.1⟩,λa O=>?_⟩;cases O;exact⟨o,e,G.2.1⟩
  .obtain⟨o,_,_,_,e,G,_⟩:=I.hok p _ d;refine⟨⟨o,e,G.1⟩,λa O=>?_⟩;cases O;exact⟨o,e,G.2.1⟩
 |_=>exact gv ty
def tBM(K:ay)(T:String)(r:V->List V->Hp->VK->Prop)(G:TE)(t:TA):TE:=λg H Q=>G g H λx d=>tyV K T x d/\t g d λxs I=>r x xs I Q
variable {o:Expr}{es:List Expr}{to:TE}{t:TA}{name:Str}{cpos:Pos}{T id:String}{r:V->List V->Hp->VK->Prop}
def ABH(pa:PlainAttrs T)(S:Slot T name id)(W:typeOf (.builtin id)=pure (.type "method_descriptor"))(hm:MtR X id r)(ho:PE X o to)(ha:PA X (e::es) t)(G:hZ o name X.env (eval o X.env)=eval o X.env:=by rfl)(J:((dE cpos (aE (e::es) X.env)).all (λx=>!x.1)&&(md cpos (jS [] X.env)).all (λx=>x.1.isSome)
   && decide ((e::es).length+([]:List qh).length+(if ([]:List qh).isEmpty then 0 else 1)<30))=E3:=by rfl)(g:(apos.endLine==cpos.line)=E3:=by rfl)(hs:aE (e::es) X.env=(ZA,eval e X.env)::aE es X.env:=by rfl)(d:(dE cpos (aE es X.env)).any (·.1)=ZA:=by rfl):
  PE X (.Call (.Attribute o name apos) (e::es) [] cpos) (tBM X.K T r to t):=by
 intro U s O H Q I h;refine wpAny_Call_method_late G J g rfl (py (ho U s O H _ I h) λv s1 q0=>?_);obtain⟨x,H1,I1,Y,ty,q1⟩:=q0;obtain⟨h1,h2⟩:=yV I1 Y ty;refine⟨T,id,pa,S,W,h1,h2,?_⟩;have Z:=ha cpos U s1 O H1 _ I1 q1;rw[hs] at Z ⊢;refine KA (by show (ZA||(dE cpos (aE es X.env)).any (·.1))=ZA;rw[d]<;>rfl) (KB ?_);exact py Z (by rintro us s2 ⟨vs,H2,I2,r2,q2⟩;exact hm U s2 O H2 x vs v us Q I2 Y r2 q2)
end
def MtM(X:Cx)(id:String)(r:V->List V->Hp->VK->Prop):Prop:=
 ∀(d:QP) (s:av) (g:St) (H:Hp) (x:V) (xs:List V) (v:ac) (us:List ac) (Q:VK),Inv X d g H s->fx x v->gn xs us->r x xs H Q ->
  ah .(3) X.A (call (.builtin id) (v::us)) (EP X d g Q) X.xe s
def gn.one:∀{x:V}{us:List ac},gn [x] us->∃u,us=[u]/\fx x u
 |_,_,.cons r .nil=>⟨_,rfl,r⟩
section
variable {l:Addr}
def Inv.lset{its':List ac}{f:Array ac->Array ac}(I:Inv X π σ H s)(r:H l=O0 (.lst xs))(e:s.heap.get? l=O0 { cls:=.type "list",data:=.seq its.toArray n })(G:f its.toArray=its'.toArray)(g:gn ys its')(hz:ys.length<=sizeLine):
  Inv X π σ (mf H l (.lst ys)) { s with heap:=s.heap.update l (kS f),toks:=t' }:=by
 have q:=PySem.IsL.update e f;rw[G] at q;refine I.write (x:=l) (e:=l) (by rw[r];exact trivial) (.inl rfl) (λJ u d T=>(ka s.heap (kS f) (cf d)).trans T) ⟨_,q⟩ ?_;exact⟨hz,its',_,g,q⟩
def Inv.lnew(I:Inv X π σ H s)(g:gn ys its)(hz:ys.length<=sizeLine):
  Inv X π σ (mf H s.heap.objs.size (.lst ys)) { s with heap:=s.heap.push { cls:=.type "list",data:=.seq its.toArray },toks:=t' }:=
 I.laid (λ_ _ q=>bo _ q) (aS _) ⟨hz,its,0,g,ci _ rfl⟩
theorem Inv.fresh(I:Inv X π σ H s):H s.heap.objs.size=W1:=I.hok.fresh (aS _)
def Inv.lstM(I:Inv X π σ H s)(d:H l=O0 (.lst xs)):xs.length<=sizeLine/\∃(its:List ac) (n:Nat),gn xs its/\xs.length=its.length/\s.heap.get? l=O0 { cls:=.type "list",data:=.seq its.toArray n }:=by
 obtain⟨z,its,n,r,e⟩:=I.hok l _ d;exact⟨z,its,n,r,r.length,e⟩
end
section
def rY:V->List V->Hp->VK->Prop:=λx vs H Q=>∃l xs y,x=.ref l/\vs=[y]/\H l=O0 (.lst xs)/\xs.length<sizeLine/\Q .non (mf H l (.lst (xs++[y])))
theorem VV:MtM X "list.append" rY:=by
 intro S s O H x U v W Q I rx G h;obtain⟨l,T,y,rfl,rfl,g,Y,q⟩:=h;cases rx;obtain⟨u,rfl,J⟩:=G.one;obtain⟨z,d,n,r,Z,e⟩:=I.lstM g;refine call_meets F.slot_list_append ⟨_,e,rfl⟩ F.entry_list_append (F.args_list_append_2 _ _) (PySem.list_append l d.toArray n u (by rw[cS];omega)) ⟨e,?_⟩;refine⟨.non,_,I.lset (its':=d++[u]) g e .(1) (r.append (.cons J .nil)) ?_,rfl,q⟩;rw[eI,yT];omega
end
section
variable {κ:Type} [DecidableEq κ]
def SV(kvs:List (κ×V))(k:κ):Option V:=(kvs.find? λd=>decide (d.1=k)).map (·.2)
def SW(kvs:List (κ×V))(k:κ)(v:V):List (κ×V):=
 if (kvs.any λd=>decide (d.1=k))=E3 then kvs.map (λd=>if d.1=k then (d.1,v) else d) else kvs++[(k,v)]
def PB{p:κ×V}{r:List (κ×V)}{k:κ}(e:p.1=k):SV (p::r) k=O0 p.2:=by simp[SV,sK,e]
def PJ{p:κ×V}{r:List (κ×V)}{k:κ}(e:¬ p.1=k):SV (p::r) k=SV r k:=by simp[SV,sK,e]
theorem S_(k:κ):∀kvs:List (κ×V),(kvs.any λd=>decide (d.1=k))=(SV kvs k).isSome
 |[]=>rfl
 |p::r=>by
  rw[sD]
  by_cases e:p.1=k
  .simp only[PB e,SO e,Bool.true_or,Option.isSome_some]
  .rw[PJ e,RO e,KF];exact S_ k r
def RX(kvs:List (κ×V))(k:κ)(v:V):(SW kvs k v).length<=kvs.length+1:=by
 unfold SW;split
 .rw[aI];omega
 .rw[eI,cq,mB];omega
def Se.isSome_eq{o:Option V}{u:Option ac}(r:Se o u):o.isSome=u.isSome:=by
 cases o with
 |none=>cases u with
  |none=>rfl
  |some _=>exact (show False from r).elim
 |some _=>cases u with
  |none=>exact (show False from r).elim
  |some _=>rfl
def KV.val{kvs:List (κ×V)}{vs:List (κ×ac)}(r:KV kvs vs)(k:κ):Se (SV kvs k) (sL vs k):=by
 unfold KV at r
 induction r with
 |nil=>exact kP
 | @cons p q J d h t G=>
  obtain⟨g,I⟩:=h
  by_cases e:p.1=k
  .have S:q.1=k:=g.symm.trans e;have b:sL (q::d) k=O0 q.2:=by simp[sL,sK,S]
   rw[PB e,b];exact I
  .have S:¬ q.1=k:=λz=>e (g.trans z);have b:sL (q::d) k=sL d k:=by simp[sL,sK,S]
   rw[PJ e,b];exact G
theorem KV.any{kvs:List (κ×V)}{vs:List (κ×ac)}(r:KV kvs vs)(k:κ):(kvs.any λd=>decide (d.1=k))=vs.any λd=>decide (d.1=k):=by
 unfold KV at r
 induction r with
 |nil=>rfl
 |cons h t g=>rw[sD,sD,g,h.1]
def KV.repl{kvs:List (κ×V)}{vs:List (κ×ac)}(r:KV kvs vs)(k:κ){y:V}{u:ac}(G:fx y u):
  KV (kvs.map λd=>if d.1=k then (d.1,y) else d) (vs.map λd=>if d.1=k then (d.1,u) else d):=by
 unfold KV at r ⊢
 induction r with
 |nil=>exact .nil
 | @cons p q S O h t I=>
  rw[bn,bn];refine .cons ?_ I;obtain⟨g,J⟩:=h
  by_cases e:p.1=k
  .rw[ZN e,ZN (g.symm.trans e)];exact⟨g,G⟩
  .rw[OO e,OO (λz=>e (g.trans z))];exact⟨g,J⟩
def KV.put{kvs:List (κ×V)}{vs:List (κ×ac)}(r:KV kvs vs)(k:κ){y:V}{u:ac}(d:fx y u):KV (SW kvs k y) (stored vs k u):=by
 unfold SW stored;rw[r.any k]
 by_cases e:(vs.any λg=>decide (g.1=k))=E3
 .rw[ZN e,ZN e];exact r.repl k d
 .rw[OO e,OO e];exact KG r ⟨rfl,d⟩
theorem KV.length{kvs:List (κ×V)}{vs:List (κ×ac)}(r:KV kvs vs):kvs.length=vs.length:=AO r
end
def Xk{k:Key}(r:fx (kV k) u):(BJ P w).is k u=E3:=by
 cases k with
 |inl i=>obtain⟨t,e⟩:=(show ∃t,u=nV i t from r);subst e;exact Xe P w i t
 |inr x=>obtain⟨t,e⟩:=(show ∃t,u=vi x t from r);subst e;exact Xf P w x t
theorem Qe{P:cE}{w:cb}:∀{ks:List Key}{us:List ac},gn (ks.map kV) us->ItemsAre (BJ P w) ks us
 |[],_,r=>by rw[gy] at r;cases r;exact .nil
 |k::ks,_,r=>by
  rw[bn] at r;cases r with
  |cons h t=>exact .cons (Xk h) (Qe t)
abbrev KT (H:Hp):List (List Key×V)->List (List Key×Addr×ac)->Prop:=n9 λp q=>p.1=q.1/\H q.2.1=O0 (.tup (p.1.map kV))/\fx p.2 q.2.2
def KT.val{xs:List (List Key×Addr×ac)}(r:KT H kvs xs)(k:List Key):Se (SV kvs k) ((eK xs k).map (·.2)):=by
 induction r with
 |nil=>exact kP
 | @cons p q J d h t G=>
  obtain⟨g,_,I⟩:=h
  by_cases e:p.1=k
  .have S:q.1=k:=g.symm.trans e;have b:eK (q::d) k=O0 q.2:=by simp[eK,sK,S]
   rw[PB e,b];exact I
  .have S:¬ q.1=k:=λz=>e (g.trans z);have b:eK (q::d) k=eK d k:=by simp[eK,sK,S]
   rw[PJ e,b];exact G
def KT.repl{xs:List (List Key×Addr×ac)}(r:KT H kvs xs)(k:List Key){y:V}{u:ac}(I:fx y u):
  KT H (kvs.map λd=>if d.1=k then (d.1,y) else d) (xs.map (putAt k u)):=by
 induction r with
 |nil=>exact .nil
 | @cons p q T O h t J=>
  rw[bn,bn];refine .cons ?_ J;obtain⟨g,G,S⟩:=h;unfold putAt
  by_cases e:p.1=k
  .rw[ZN e,ZN (g.symm.trans e)];exact⟨g,G,I⟩
  .rw[OO e,OO (λz=>e (g.trans z))];exact⟨g,G,S⟩
def KT.put{xs:List (List Key×Addr×ac)}(r:KT H kvs xs)(k:List Key){b:Addr}{y:V}{u:ac}(G:H b=O0 (.tup (k.map kV)))(d:fx y u):
  KT H (SW kvs k y) (yY xs k b u):=by
 have e:(kvs.any λg=>decide (g.1=k))=(eK xs k).isSome:=by
  rw[S_,(r.val k).isSome_eq,zd]
 unfold SW yY;rw[e]
 by_cases q:(eK xs k).isSome=E3
 .rw[ZN q,ZN q];exact r.repl k d
 .rw[OO q,OO q];exact KG r ⟨rfl,G,d⟩
def KT.keeps{xs:List (List Key×Addr×ac)}(r:KT H kvs xs)(T:∀b ys,H b=O0 (.tup ys)->H' b=O0 (.tup ys)):KT H' kvs xs:=
 Paired.mapP r λ_ _ z=>⟨z.1,T _ _ z.2.1,z.2.2⟩
section
def v_{u:HO}(ok:Ts P w H h)(e:Rd H a u):Bp P w H h a u:=e.ok ok
def PL{kvs:List (Key×V)}(ok:Ts P w H h)(e:Rd H a (.dK kvs)):kvs.length<=sizeLine/\(a==ic)=ZA/\∃vs,KV kvs vs/\h.DictOf (BJ P w) a vs:=
 show Bp P w H h a (.dK kvs) from v_ ok e
def wA{kvs:List (Key×V)}(ok:Ts P w H h)(e:H a=O0 (.dK kvs)):kvs.length<=sizeLine/\(a==ic)=ZA/\∃vs,KV kvs vs/\h.DictOf (BJ P w) a vs:=PL ok (.inl e)
def TF{ks:List Key}(ok:Ts P w H h)(e:H a=O0 (.tup (ks.map kV))):(xI (BJ P w)).is h ks a:=by
 obtain⟨_,d,r,o,G,g,n,S⟩:=(show Bp P w H h a (.tup (ks.map kV)) from ok a _ e);exact⟨o,d.toArray,n,G,g,S,by simpa using Qe r⟩
def Xl(ok:Ts P w H h)(e:Rd H a (.dT kvs)):kvs.length<=sizeLine/\(a==ic)=ZA ∧
  ∃xs,KT H kvs xs/\h.DictOfH (xI (BJ P w)) a xs:=by
 obtain⟨z,y,xs,r,o,T,W,J,I,S,G,O⟩:=(show Bp P w H h a (.dT kvs) from v_ ok e);refine⟨z,y,xs,r,o,T,W,J,I,S,G,λx d=>?_,O⟩;have all:∀{l:List (List Key×V)}{m:List (List Key×Addr×ac)},KT H l m->∀x∈m,(xI (BJ P w)).is h x.1 x.2.1:=by
  intro l m q
  induction q with
  |nil=>intro x d;exact nomatch d
  | @cons p q Z Y U t g=>
   intro x d
   rcases bX.mp d with e | d
   .subst e;exact TF ok (by rw[<-U.1];exact U.2.1)
   .exact g x d
 exact all r x d
def ABI(ok:Ts P w H h)(e:H a=O0 (.dT kvs)):kvs.length<=sizeLine/\(a==ic)=ZA ∧
  ∃xs,KT H kvs xs/\h.DictOfH (xI (BJ P w)) a xs:=Xl ok (.inl e)
end
def DGet(H:Hp)(a:Addr)(y:V)(r:Option V):Prop:=
 (∃kvs k,Rd H a (.dK kvs)/\y=kV k/\r=SV kvs k)∨∃kvs k b,Rd H a (.dT kvs)/\y=.ref b/\H b=O0 (.tup (k.map kV))/\r=SV kvs k
def DPut(H:Hp)(a:Addr)(y v:V)(d:Hp):Prop:=
 (∃kvs k,H a=O0 (.dK kvs)/\y=kV k/\kvs.length<sizeLine/\d=mf H a (.dK (SW kvs k v))) ∨
 ∃kvs k b,H a=O0 (.dT kvs)/\y=.ref b/\H b=O0 (.tup (k.map kV))/\kvs.length<sizeLine/\d=mf H a (.dT (SW kvs k v))
theorem DPut.k{H:Hp}{a:Addr}{kvs:List (Key×V)}{k:Key}{v:V}(e:H a=O0 (.dK kvs))(Z:kvs.length<sizeLine):DPut H a (kV k) v (mf H a (.dK (SW kvs k v))):=.inl ⟨kvs,k,e,rfl,Z,rfl⟩
def DPut.t{k:List Key}(e:H a=O0 (.dT kvs))(d:H b=O0 (.tup (k.map kV)))(Z:kvs.length<sizeLine):
  DPut H a (.ref b) v (mf H a (.dT (SW kvs k v))):=.inr ⟨kvs,k,b,e,rfl,d,Z,rfl⟩
section
variable {r:ac}{o:Option V}{A:aT}
def Inv.big(I:Inv X π σ H s):ic<s.heap.objs.size:=by
 have h:eB<s.heap.objs.size:=(I.mod.glob.keeps I.bk).lt;exact KL .(2) h
theorem fJ(hu:A.units+1<bP)(I:Inv X π σ H s)(g:DGet H a y (O0 v))(Y:fx y u)(h:∀G s',Inv X π σ H s'->fx v G->Q G s'):
  ah .(3) A (oj (.ref a) u) Q E s:=by
 rcases g with ⟨J,k,e,U,l⟩ | ⟨J,k,b,e,U,eb,l⟩
 .subst U;obtain⟨z,hd,vs,d,W⟩:=PL I.hok e;obtain⟨G,S,O⟩:=Se.some_of (v:=v) (o:=sL vs k) (by rw[l];exact d.val k);exact wpAny_getItem_of (Xk Y) W.mapOf S (h G _ (I.tok _) O)
 .subst U;cases (show u=bg b from Y);obtain⟨z,hd,Z,d,W⟩:=Xl I.hok e;obtain⟨G,S,O⟩:=Se.some_of (v:=v) (o:=(eK Z k).map (·.2)) (by rw[l];exact d.val k);obtain⟨p,hp,T⟩:=kD.mp S;refine KO (B1 hu) (TF I.hok eb) W hp ?_;rw[T];exact h G _ (I.tok _) O
def d_in(T:A.units+1<bP)(I:Inv X π σ H s)(g:DGet H a y o)(O:fx y u)(h:∀s',Inv X π σ H s'->Q (.bool o.isSome) s'):
  ah .(3) A (dS .In u (.ref a)) Q E s:=by
 rcases g with ⟨G,k,e,U,l⟩ | ⟨G,k,b,e,U,S,l⟩
 .subst U;obtain⟨z,J,Z,d,W⟩:=PL I.hok e;refine wpAny_in_of (Xk O) J W.mapOf ?_;rw[<-(d.val k).isSome_eq,<-l];exact h _ (I.tok _)
 .subst U;cases (show u=bg b from O);obtain⟨z,J,Y,d,W⟩:=Xl I.hok e;refine wpAny_in_heap (B1 T) (TF I.hok S) J W ?_;have q:=(d.val k).isSome_eq;rw[zd] at q;rw[<-q,<-l];exact h _ (I.tok _)
def sE(T:A.units+1<bP)(I:Inv X π σ H s)(g:DGet H a y o)(O:fx y u)(h:∀s',Inv X π σ H s'->Q (.bool (!o.isSome)) s'):
  ah .(3) A (dS .NotIn u (.ref a)) Q E s:=by
 rcases g with ⟨G,k,e,U,l⟩ | ⟨G,k,b,e,U,S,l⟩
 .subst U;obtain⟨z,J,Z,d,W⟩:=PL I.hok e;refine wpAny_notIn_of (Xk O) J W.mapOf ?_;rw[<-(d.val k).isSome_eq,<-l];exact h _ (I.tok _)
 .subst U;cases (show u=bg b from O);obtain⟨z,J,Y,d,W⟩:=Xl I.hok e;refine wpAny_notIn_heap (B1 T) (TF I.hok S) J W ?_;have q:=(d.val k).isSome_eq;rw[zd] at q;rw[<-q,<-l];exact h _ (I.tok _)
theorem R5{ob:HO}(I:Inv X π σ H s)(G:Mut (H a))(hs:g9 a s.heap h')(g:∃q,h'.get? a=O0 q)(d:Bp X.prog X.w (mf H a ob) h' a ob):
  Inv X π σ (mf H a ob) { s with heap:=h',toks:=t' }:=
 I.write (x:=a) (e:=a) G (.inl rfl) (λb q J z=>(hs.2 b J).trans z) g d
def jK{kvs:List (Key×V)}{vs:List (Key×ac)}(z:kvs.length<=sizeLine)(g:(a==ic)=ZA)(d:KV kvs vs)(W:h'.DictOf (BJ P w) a vs):
  Bp P w H' h' a (.dK kvs):=⟨z,g,vs,d,W⟩
def fK{Q:Unit->av->Prop}(hu:A.units+1<bP)(I:Inv X π σ H s)(g:DPut H a y v H')(ry:fx y u)(rv:fx v r)(h:∀s',Inv X π σ H' s'->Q () s'):
  ah .(3) A (setItem (.ref a) u r) Q E s:=by
 rcases g with ⟨G,k,e,T,l,W⟩ | ⟨G,k,b,e,T,eb,l,W⟩
 .subst T W;obtain⟨z,O,vs,d,Y⟩:=wA I.hok e;have S:vs.length<=sizeLine:=by rw[<-d.length];exact z
  have Z:(SW G k v).length<=sizeLine:=by have:=RX G k v;omega
  refine wpAny_setItem_pairs (hsz:=S) (Xk ry) Y λh' J hs=>h _ ?_;have he:∃q,h'.get? a=O0 q:=let ⟨q,_,_,U,_⟩:=J;⟨q,U⟩;exact R5 I (by rw[e];exact kP) hs he (jK Z O (d.put k rv) J)
 .subst T W;cases (show u=bg b from ry);obtain⟨z,O,xs,d,Y⟩:=ABI I.hok e;have S:xs.length<=sizeLine:=by rw[<-AO d];exact z
  have Z:(SW G k v).length<=sizeLine:=by have:=RX G k v;omega
  refine KP (hsz:=S) (B1 hu) (TF I.hok eb) Y λh' J hs=>h _ ?_;obtain⟨q,es,ep,U,h2,h3,h4,_,h5⟩:=J;refine R5 I (by rw[e];exact kP) hs ⟨q,U⟩ ⟨Z,O,_,(d.put k eb rv).keeps λc ys ec=>?_,q,es,ep,U,h2,h3,h4,h5⟩;rw[Aj (v4 ec e (λz=>nomatch z))];exact ec
end
section
variable {kvs:List (Key×V)}{k:Key}{A:aT}
def ABJ(I:Inv X π σ H s)(e:Rd H a (.dK kvs))(h:∀t s',Inv X π σ H s'->Q (.int kvs.length t) s'):ah .(3) A (call (.builtin "len") [.ref a]) Q E s:=by
 obtain⟨z,g,G,d,W⟩:=PL I.hok e;refine call_len_dict g W (by rw[<-d.length];rw[hV] at z;omega) ?_;rw[<-d.length];exact h _ _ (I.tok _)
end
def NoSl(i:Expr):Prop:=∀d g,yA i ZA d g=operate [d,g] (oj d g)
def aq{A:aT}{g d:Expr}{T id:String}(Z:wb (.type T) "__getitem__"=pure (O0 (.builtin id)))(hs:NoSl d)(h:ah (ai prog w) A (eval g env) (λo J=>ah (ai prog w) A (eval d env) (λi s₂=>s₂.TypeIs o T/\ah (ai prog w) A (oj o i) Q E s₂) E J) E s):
  ah (ai prog w) A (eval (.Subscript g d pos) env) Q E s:=by
 refine EB (gE h (λo J U=>gE U (λi s₂ G=>?_) λ_ _ x=>x) λ_ _ x=>x);obtain⟨W,G⟩:=G;unfold B0;refine ag ?_;rw[KS W.not_modules];refine ag (nL W Z ?_);have O:ah (ai prog w) A (yA d ZA o i) (λr I=>ah (ai prog w) A (letTemporaryGo g o r >>= λ_=>pure r) Q E I) E s₂:=by
  rw[hs o i];exact wpAny_operating (gE G (λr I S=>ag (KU (aw S))) λ_ _ x=>x)
 first
  |exact aw (ag O)
  |exact ag (aw (ag O))
  |exact ag O
def Xm{o:Option V}(I:Inv X π σ H s)(g:DGet H a y o):s.TypeIs (.ref a) "dict":=by
 rcases g with ⟨d,k,e,_,_⟩ | ⟨d,k,b,e,_,_,_⟩
 .obtain⟨_,_,G,_,W⟩:=PL I.hok e;exact W.typeIs
 .obtain⟨_,_,r,_,W⟩:=Xl I.hok e;exact W.typeIs
def ABK(G ty r:TE):TS:=λD g H=>r g H λv O=>G g O λx J=>ty g J λy I=>∃a d,x=.ref a/\DPut I a y v d/\D.nx g d
section
variable {o i value:Expr}{tpos:Pos}{td ty tv:TE}
def V_(W:X.A.units+1<bP)(Y:PE X o td)(Z:PE X i ty)(U:PE X value tv)(hs:gI value (O0 (.Subscript o i pos')) pos.line X.env=pure ZA):
  PS X (.Assign [.Subscript o i pos'] value pos) (ABK td ty tv):=by
 intro G s d H D I h;refine B2 (py (U G s d H _ I h) λr J ⟨v,H1,I1,S,q1⟩=>py (Y G J d H1 _ I1 q1) λu T ⟨x,H2,I2,rx,q2⟩=>py (Z G T d H2 _ I2 q2) λiv s3 q0=>?_) hs;obtain⟨y,H3,I3,O,a,H4,ex,g,q3⟩:=q0;subst ex;obtain rfl:u=bg a:=rx;exact fK W I3 g O S λs4 I4=>⟨d,H4,I4,q3⟩
end
def Xn(h:Heap)(d:ic<h.objs.size):Bp P w H (h.push { cls:=.type "dict",data:=.dict #[] }) h.objs.size (.dK []):=
 ⟨gL _,beq_eq_false_iff_ne.mpr (cf (bS d)),[],.nil,Heap.DictOf.new h⟩
def jL(h:Heap)(d:ic<h.objs.size):Bp P w H (h.push { cls:=.type "dict",data:=.dict #[] }) h.objs.size (.dT []):=
 ⟨gL _,beq_eq_false_iff_ne.mpr (cf (bS d)),[],.nil,_,#[],0,ci _ rfl,⟨rfl,rfl,rfl⟩,rfl,rfl,KW⟩
def yW:TE:=λ_ H Q=>∀p,H p=W1->Q (.ref p) (mf H p (.dK []))
def yX:TE:=λ_ H Q=>∀p,H p=W1->Q (.ref p) (mf H p (.dT []))
section
theorem jM:PE X (.Dict [] [] pos) yW:=λr s g H Q I h=>
 EF ⟨.ref s.heap.objs.size,_,I.laid (a:=s.heap.objs.size) (o:=.dK []) (t':=s.toks) (λ_ _ q=>bo _ q) (aS _) (Xn s.heap I.big),rfl,h _ (I.hok.fresh (aS _))⟩
theorem jN:PE X (.Dict [] [] pos) yX:=λr s g H Q I h=>
 EF ⟨.ref s.heap.objs.size,_,I.laid (a:=s.heap.objs.size) (o:=.dT []) (t':=s.toks) (λ_ _ q=>bo _ q) (aS _) (jL s.heap I.big),rfl,h _ (I.hok.fresh (aS _))⟩
end
section
variable {kvs:List (Key×V)}{A:aT}
theorem jO(I:Inv X π σ H s)(e:Rd H a (.dK kvs))(h:∀p s',H p=W1->Inv X π σ (mf H p (.dK kvs)) s'->Q (.ref p) s'):ah .(3) A (call (.type "dict") [.ref a]) Q E s:=by
 obtain⟨z,g,G,d,W⟩:=PL I.hok e;refine kt_call_dict g W (by rw[<-d.length];exact z) λr J hs=>?_;refine h _ _ (I.hok.fresh (aS _)) (I.laid (a:=s.heap.objs.size) (o:=.dK kvs) (t':=s.toks) (λb q U=>?_) (aS _) (jK z (beq_eq_false_iff_ne.mpr (cf (bS I.big))) d J));exact (hs.2 b (bS (bE U))).trans (bo _ U)
end
end L2
namespace Att
open PySem PySem.W PySem.Calls PyProof.Rows
def Rr{P:Params}:∀(ns:List Int) (vs:List ac),WellAll P h vs (ns.map wl)->sB vs ns:=by
 intro ns
 induction ns with
 |nil=>
  intro vs w;rw[gy] at w;cases w;exact .nil
 |cons n ns d=>
  intro vs w;rw[bn] at w;cases w with
  |cons a b=>
   cases a;exact .cons _ _ (d _ b)
def fL{l:OpenLaw}(hn:l.most=O0 n){P:Params}{h:Heap}{args:List WData}{g:List ac}(G:l.row.toRowW.claim.pre args=E3)(T:WellAll P h g args):
  ∃a vs ns,g=[bg a]/\args=[WData.list (ns.map wl)]/\h.get? a=O0 { cls:=.type "list",data:=.seq vs.toArray }/\sB vs ns/\ns.length<=n:=by
 have U:WShape.hasAll [] args [.list .int]=E3:=(pre_splitW G).1;have W:l.pre.holds [] { args:=args }=E3:=(pre_splitW G).2;obtain⟨d,r,rfl,h1,h2⟩:=hasAllW_cons U;obtain rfl:=hasAllW_nil h2;obtain⟨xs,rfl,h3⟩:=hasW_list h1;obtain⟨ns,rfl⟩:=items_int h3;have I:ns.length<=n:=by
  unfold OpenLaw.pre at W;have S:(WTm.not (.lt (.lit (.int (n:Int))) (.len (.arg 0)))).holds [] { args:=[.list (ns.map .int)] }=E3:=by
   have S:=(holds_andW W).1;rw[hn] at S;exact S
  have O:=condW_of S (w_not (w_lt w_lit (w_len_list (w_arg rfl))));rw[aI] at O;refine Nat.le_of_not_lt λq=>?_;have q':(n:Int)<((ns.length:Nat):Int):=by omega
  first
   | (rw[SO q'] at O;exact QO O .(2))
   | (simp at O;omega)
 cases T with
 |cons Z Y=>
  cases Y;cases Z with
  |list ho J=>exact⟨_,_,ns,rfl,rfl,ho,Rr ns _ J,I⟩
theorem fO(l:OpenLaw)(args:List WData):l.row.toRowW.claim.post args (.bool E3) args=E3:=
 postW_of (r:=l.row.toRowW) (X:=(E3==E3))
  (show L5 [] (.bool E3) .bool=E3 by first | rfl | decide | simp[L5,WShape.arms,WShape.armsAll])
  (show (WTm.eq .res (.lit (.bool E3))).value [] { args:=args,res:=O0 (.bool E3),after:=args }=O0 (.bool (E3==E3)) from w_eq_bool (w_res rfl) w_lit) rfl
end Att
namespace L2
open PySem PySem.Spec PyProof.Rows
theorem Va:∀{vs:List ac}{ns:List Int},sB vs ns->gn (ns.map V.int) vs
 |_,_,.nil=>.nil
 |_,_,.cons n t h=>.cons ⟨t,rfl⟩ (Va h)
def Only(H:Hp):Prop:=∀b,H b=W1∨∃o xs,H b=O0 (.frz o (.lst xs))
def jP{K:ay}{mb:Str->Option ac}{k:Nat}{fa:Addr}{x:Str}{sp:Sp}{s₁:av}(KX:K.In s₁.heap)(Y:s₁.heap.Ns eB mg)(G:s₁.heap.Ns D4 mb)(S1:∀x:Str,x≠"__name__"->mb x=df x)(Z:s₁.heap.NoLimit)(hg:s₁.gens=#[])(ha:s₁.heap.get? a=O0 { cls:=.type "list",data:=.seq vs.toArray })(hi:sB vs ns)(hl:ns.length<=sizeLine)(hr:Room k sM)(F:∀base:Heap,K.In base->base.Ns eB mg->mu P w K mg base CX k fa fd [x] sp)(O:∀(s:av) (u:ac),ya s fd ⟨[u],[]⟩ [(x,u)])(P1:∀H:Hp,Only H->Qr K H a (ns.map V.int)->sp [.ref a] H (λv _=>v=.bl E3) λ_ _ _=>False)(U1:∀H e s',CX [] H s₁ (λ_ _ _=>False) e s'->False):
    fA (ai P w) sM (.call (.ref fa) ⟨[.ref a],[]⟩) (λr s'=>r=.ok (.ret (.bool E3))/\OldK s₁.heap s'.heap/\s'.os=s₁.os/\nc s'.gens) s₁:=by
  have rv:=Va hi;have T:=hi.length;have J:∀H:Hp,Only H->Qr K H a (ns.map V.int)->Ts P w H s₁.heap->(∀b,H b≠W1->b=a)->(H a≠W1->K.lookup a=W1) ->
      fA (ai P w) sM (.call (.ref fa) ⟨[.ref a],[]⟩) (λr s'=>r=.ok (.ret (.bool E3))/\OldK s₁.heap s'.heap/\s'.os=s₁.os/\nc s'.gens) s₁:=by
    intro H hO hS W hA hK;have g:∀{b:Addr}{o:Obj},s₁.heap.get? b=O0 o->H b=W1->(hidT s₁.heap H).get? b=O0 o:=λe n=>iJ e n;have X0:∀{b:Addr}{o:Obj}{es:Array ze}{ep:Nat},s₁.heap.get? b=O0 o->o.data=.dict es ep->H b=W1:=λ{b o es ep} e d=>by
      cases q:H b with
      |none=>rfl
      |some u=>
        have e':b=a:=hA b (by rw[q];simp);subst e';rw[ha] at e;cases e;have d':Data.seq vs.toArray _=Data.dict es ep:=d;cases d'
    have I:∀{b:Addr}{m:Str->Option ac},s₁.heap.Ns b m->(hidT s₁.heap H).Ns b m:=λ{b m} ⟨o,es,ep,e,d,r⟩=>⟨o,es,ep,g e (X0 e d),d,r⟩;have r0:K.In (hidT s₁.heap H):=λb o e=>g (KX b o e) (by
      cases q:H b with
      |none=>rfl
      |some u=>
        have e':b=a:=hA b (by rw[q];simp);subst e';rw[hK (by rw[q];simp)] at e;cases e)
    have hM:Mod K mg (hidT s₁.heap H):=⟨r0,I Y,⟨mb,I G,S1⟩,let ⟨mc,h1,h2⟩:=Z;⟨mc,I h1,h2⟩⟩;have e0:Env0 P w K mg (hidT s₁.heap H) sM [] s₁ H:=⟨rfl,hM,λb o e=>qz e,AV (eY _ _),trivial,λb G=>QO (show b∈([]:List Addr) from G) .(1),W,.of_eq hg⟩;refine kQ ((F _ r0 (I Y)).run sM [] s₁ H ⟨[.ref a],[]⟩ [.ref a] [.ref a] _ _ hr e0 (O s₁ (.ref a)) (.cons rfl .nil) (P1 H hO hS)) λr s' h=>?_;cases r with
    |error e=>exact (U1 H e s' h).elim
    |ok fl=>
      cases fl with
      |next=>exact gv h
      |brk=>exact gv h
      |cont=>exact gv h
      |ret u=>
        obtain⟨v,H',os,S0,un,U,r',q⟩:=h;have q':v=.bl E3:=q;subst q';obtain rfl:u=rS E3:=r';refine⟨rfl,OldK.of_keep λb o e=>?_,os,S0⟩;cases q:H b with
        |none=>exact un.keep b o e q (by intro z;exact QO (show b∈([]:List Addr) from z) .(1)) .(1)
        |some u=>
          rcases hO b with z | ⟨ob,xs,z⟩
          . rw[q] at z;cases z
          . have z2:=un.frzs b ob _ z
            obtain⟨e1,_⟩:=W b _ z;obtain⟨e2,_⟩:=U b _ z2;rw[e] at e1;cases e1;exact e2
  cases hk:K.lookup a with
  |some o=>
    have e:=KX a o hk;rw[ha] at e;cases e;refine J (λ_=>W1) (λ_=>.inl rfl) (.inr ⟨_,vs.toArray,_,hk,rfl,rfl,rfl,by rw[cS,T];exact hl,by simpa using rv⟩) (λb u z=>by have S:(W1:Option HO)=O0 u:=z;cases S) (λb z=>QO rfl z) λz=>QO rfl z
  |none=>
    refine J (λb=>if b=a then O0 (.frz { cls:=.type "list",data:=.seq vs.toArray } (.lst (ns.map V.int))) else W1) (λb=>?_) (.inl (.inr ⟨{ cls:=.type "list",data:=.seq vs.toArray },ZN rfl⟩)) (λb u z=>?_) (λb z=>?_) λ_=>hk
    . by_cases G:b=a
      . exact .inr ⟨_,_,ZN G⟩
      . exact .inl (OO G)
    . by_cases G:b=a
      . have S:=(ZN G).symm.trans z
        cases S;subst G;exact⟨ha,by rw[aI];exact hl,vs,_,rv,ha⟩
      . have S:=(OO G).symm.trans z
        cases S
    . by_cases G:b=a
      . exact G
      . exact QO (OO G) z
abbrev KOf {K:ay}{h:Heap}(_:K.In h):ay:=K
def Pd(s:Stmt)(j:Nat):Stmt:=match s with
 |.ClassDef _ _ _ d _ _ _ _ _ _ _=>d.getD j (.Pass ⟨0,0,0,0⟩)
 |_=>.Pass ⟨0,0,0,0⟩
def Dz(s:Stmt):Arguments:=match s with
 |.FunctionDef _ a _ _ _ _ _ _ _ _=>a
 |_=>{ posonlyargs:=[],args:=[],vararg:=W1,kwonlyargs:=[],kw_defaults:=[],kwarg:=W1,defaults:=[] }
def Bs(s:Stmt):List Stmt:=match s with
 |.FunctionDef _ _ b _ _ _ _ _ _ _=>b
 |_=>[]
def Ac(s:Stmt):lI:=match s with
 |.FunctionDef _ _ _ _ _ _ sc _ _ _=>sc
 |_=>{ kind:=.function,names:=[],isGenerator:=ZA,isCoroutine:=ZA }
abbrev CX0:CXT:=λ_ _ _ _ _ _=>False
abbrev E0:XK:=λ_ _ _=>False
def Xo:Ob CX0 X E0:=λ_ _ _ _ _ _ _ h=>h.elim
structure Fun (K:ay) (x qual:Str) (st:Stmt) (f:Addr) (fd:ma):Prop where
 ex:∃(oc:ac) (od:Option Addr) (kV doc pm:ac) (an:Option Addr) (cdv ct:ac) (osl:Array (Option ac)),
  fd=i7 x qual (Dz st) (Bs st) (Ac st) .none kV doc pm an cdv ct/\K.lookup f=O0 ⟨oc,od,.func fd,osl⟩/\og K cdv qual=E3
 kp:fF K (.ref f)=E3
section
variable {K:ay}{base:Heap}
def Fun.ok{x:Str}{f:Addr}{k:Nat}{sp:Sp}(F:Fun K x qual st f fd)(S:fc N ps (Ac st))(len:∀vs H Q E,sp vs H Q E->vs.length=ps.length)(O:∀(cdv:ac) (A:aT) (outer:List Env) (s:av) (H:Hp) (vs:List V) (Q:VK) (E:XK),Room k (A.deeper (io qual (Ac st) s.heap.objs.size f cdv))->sp vs H Q E ->
   ∃t,PSs (TZ CX0 P w K mg base N qual (Ac st) f cdv A outer s H E).nox (Bs st) t/\t { nx:=λ_ H'=>Q .non H',rt:=Q } (start N vs) H):mu P w K mg base CX0 (k+1) f fd ps sp:=by
 obtain⟨W,U,kV,I,J,Z,cdv,Y,d,rfl,g,G⟩:=F.ex;refine jD g G S len λA outer s H vs Q E r T=>?_;obtain⟨t,h,q⟩:=O cdv A outer s H vs Q E r T;exact⟨t,h.nox,q⟩
def Fun.binds{x:Str}{f:Addr}(F:Fun K x qual st f fd)(h:∀(kV doc pm:ac) (an:Option Addr) (cdv ct:ac) (us:List ac),us.length=ps.length->w9 (i7 x qual (Dz st) (Bs st) (Ac st) .none kV doc pm an cdv ct) ⟨us,[]⟩=pure (ps.zip us)):OX K fd ps []:=by
 obtain⟨W,J,kV,doc,pm,an,cdv,ct,d,rfl,g,G⟩:=F.ex;exact .all (h kV doc pm an cdv ct)
def Oc{x:Str}{f:Addr}{kV:ac}(l:K.lookup f=O0 ⟨oc,od,.func (i7 x qual (Dz st) (Bs st) (Ac st) .none kV doc pm an cdv ct),osl⟩)(c:og K cdv qual=E3)(k:fF K (.ref f)=E3):Fun K x qual st f (i7 x qual (Dz st) (Bs st) (Ac st) .none kV doc pm an cdv ct):=⟨⟨oc,od,kV,doc,pm,an,cdv,ct,osl,rfl,l,c⟩,k⟩
end
def Hr{A:aT}{k:Nat}(d:Room k A):A.units+1<bP:=sN (Nat.add_le_add_left (by decide:1<=64) _) d.units
section
def pv(i:Nat){x:Str}{d:Pos}(I:X.N[i]?=O0 x:=by rfl)(g:Vis X.env.scope x:=by first | exact eP rfl | exact d6 (eP rfl) | exact d6 (d6 rfl))(r:(x==("__debug__":Str))=ZA:=by decide)(G:(x==("__classdict__":Str))=ZA:=by decide):PE X (.Name x d) (TR i):=ZL I g r G
end
def iteF{A B:Prop}(h:B):if ZA=E3 then A else B:=by
 rw[OO dP];exact h
def iteT{A B:Prop}(h:A):if E3=E3 then A else B:=by
 rw[ZN rfl];exact h
def cc(H d:Hp):Prop:=∀b o,H b=O0 o->d b=O0 o
def cc.refl(H:Hp):cc H H:=λ_ _ h=>h
def cc.trans{H2:Hp}(a:cc H H1)(b:cc H1 H2):cc H H2:=λc o h=>b c o (a c o h)
def cc.free(e:cc H H'){l:Addr}(h:H' l=L6):H l=L6:=by
 cases q:H l with
 |none=>rfl
 |some o=>
  rw[e l o q] at h;cases h
def cc.seq{K:ay}(e:cc H H')(h:Qr K H a xs):Qr K H' a xs:=by
 rcases h with (h | ⟨o,h⟩) | h
 .exact .inl (.inl (e _ _ h))
 .exact .inl (.inr ⟨o,e _ _ h⟩)
 .exact .inr h
def SS(cells:List (Str×Addr)):List (Str×mh)->List (Str×Addr)->List (Str×Addr)
 |[],cs=>cs
 |y::r,cs=>if y.2==.free then SS cells r ((y.1,(cells.lookup y.1).getD 0)::cs) else SS cells r cs
theorem TJ{cells:List (Str×Addr)}{x:Str}{c:Addr}:∀{names:List (Str×mh)}{cs:List (Str×Addr)},(∀y∈names,y.2=.free ->∃c,cells.lookup y.1=O0 c) ->
  (SS cells names cs).lookup x=O0 c->cs.lookup x=O0 c∨cells.lookup x=O0 c
 |[],_,_,h=>.inl h
 |y::r,cs,G,h=>by
  unfold SS at h;split at h
  .rename_i g;have d:y.2=.free :=by simpa using g
   obtain⟨O,I⟩:=G y eD d
   rcases TJ (λz S=>G z (da _ S)) h with q | q
   .rw[cr] at q;split at q
    .rename_i e;have J:x=y.1:=by simpa using e
     rw[I] at q;subst J;right;rw[I];simpa using q
    .exact .inl q
   .exact .inr q
  .exact TJ (λz S=>G z (da _ S)) h
theorem Qf{cells:List (Str×Addr)}{x:Str}:∀{names:List (Str×mh)}{cs:List (Str×Addr)},(∃c,cs.lookup x=O0 c)->∃c,(SS cells names cs).lookup x=O0 c
 |[],_,h=>h
 |y::r,cs,h=>by
  unfold SS;split
  .apply Qf;rw[cr];split
   .exact⟨_,rfl⟩
   .exact h
  .exact Qf h
theorem Lh{cells:List (Str×Addr)}{x:Str}:∀{names:List (Str×mh)}{cs:List (Str×Addr)},(x,wq)∈names->∃c,(SS cells names cs).lookup x=O0 c
 |[],_,h=>by cases h
 |y::r,cs,h=>by
  unfold SS
  rcases bX.mp h with e | h
  .subst e;rw[ZN (by rfl)];apply Qf;rw[cr];simp
  .split
   .exact Lh h
   .exact Lh h
theorem au{env:Env}:∀(names:List (Str×mh)) (cs:List (Str×Addr)),(∀y∈names,y.2=.free ->∃c,env.cells.lookup y.1=O0 c) ->
  (forIn names cs (λx r=>match x with
   | (name,d)=>if (d==wq)=E3 then do let a <-cellOf env name;pure (wv ((name,a)::r)) else pure (wv r)):Sem (List (Str×Addr)))=pure (SS env.cells names cs)
 |[],_,_=>rfl
 | (n,k)::r,cs,J=>by
  have G:=λcs=>au r cs (λz S=>J z (da _ S));rw[List.forIn_cons]
  by_cases I:(k==wq)=E3
  .obtain⟨c,O⟩:=J (n,k) eD (by simpa using I);have g:env.cells.lookup n=O0 c:=O;have e:cellOf env n=pure c:=by unfold cellOf;rw[g]
   simp only[I,XO,e];show (forIn r ((n,c)::cs) _:Sem _)=_;rw[G]
   conv=>rhs;unfold SS
   simp only[I,XO,g,Option.getD_some]
  .simp only[I,YO];show (forIn r cs _:Sem _)=_;rw[G]
   conv=>rhs;unfold SS
   simp only[I,YO];rfl
def U8(G:∀y∈scope.names,y.2=.free ->∃c,env.cells.lookup y.1=O0 c):closureFor scope env=pure (SS env.cells scope.names []):=by
 have h:=au (env:=env) scope.names [] G;unfold closureFor;show ((forIn scope.names [] _:Sem _) >>= λr=>pure r)=_;exact (UO (λm=>m >>= λr=>pure r) h)
theorem Gi{env:Env}{x:Str}{k:mh}:∀{names:List (Str×mh)},(names.map λ(n,k)=>if (k==wq&&env.scope.kind==.function&&env.kindOf n==O0 .cell) then (n,NameKind.cell) else (n,k)).lookup x=O0 k ->
  ∃k',(x,k')∈names/\(k'=k∨(k'=.free /\k=.cell))
 |[],h=>by simp at h
 | (n,d)::r,h=>by
  rw[bn] at h;have O:=@Gi env x k r
  by_cases I:(d==wq&&env.scope.kind==.function&&env.kindOf n==O0 .cell)=E3
  .simp only[I,XO] at h;rw[cr] at h;split at h
   .rename_i e;have S:x=n:=by simpa using e
    subst S;have g:d=.free :=by
     rw[eW,eW] at I;simpa using I.1.1
    cases h;exact⟨d,eD,.inr ⟨g,rfl⟩⟩
   .obtain⟨k',J,G⟩:=O h;exact⟨k',da _ J,G⟩
  .simp only[I,YO] at h;rw[cr] at h;split at h
   .rename_i e;have S:x=n:=by simpa using e
    subst S;cases h;exact⟨d,eD,.inl rfl⟩
   .obtain⟨k',J,G⟩:=O h;exact⟨k',da _ J,G⟩
def Ce(d N:List Str):List Str:=N.map λy=>if y∈d then kN else y
abbrev Fx (t:Str) (N:List Str):List Str:=Ce [t] N
abbrev DP (X:Cx) (scope:lI) (N2:List Str) (s2:av) (H2:Hp) (fp:List Addr):Cx:=
 { X with N:=N2,s₀:=s2,H₀:=H2,env:=compEnvC scope (SS X.env.cells scope.names []) (s2.heap.objs.size+1) X.env,outer:=X.stack,ex:=fp,fn:=λ_=>ZA,pn:=[],xe:=λ_ _=>False }
structure OR (X:Cx) (scope:lI) (ts:List Str):Prop where
 nocell:∀y∈scope.names,y.2≠.cell
 kind:scope.kind=.function
 names:∀y∈scope.names,y.2=.local ->scope.names.lookup y.1=O0 .local
 tl:∀t∈ts,scope.names.lookup t=O0 .local
 loc:∀y∈scope.names,y.2=.local ->y.1∈ts∨y.1∉X.N
 fre:∀y∈scope.names,y.2=.free ->X.env.kindOf y.1=O0 .cell ∨X.env.kindOf y.1=O0 .free
 emp:∀y∈scope.names,y.1≠kN
 nd:∀t∈ts,Uq (Ce ts X.N++ts) t
section
variable {t:Str}{ts:List Str}
theorem OR.cells(c:OR X scope ts)(ok:X.Ok):∀y∈scope.names,y.2=.free ->∃c,X.env.cells.lookup y.1=O0 c:=λy g G=>ok.has y.1 (c.fre y g G)
def OR.sub(c:OR X scope ts)(ok:X.Ok){x:Str}{a:Addr}(h:(SS X.env.cells scope.names []).lookup x=O0 a):X.env.cells.lookup x=O0 a:=by
 rcases TJ (c.cells ok) h with q | q
 .simp at q
 .exact q
theorem OR.inv{h1:Heap}{tk:Nat}(c:OR X scope ts)(I:Inv X π σ H s)(hf:∀b∈fp,FpOk X π H b)(ho:∀b∈fp,∃o,s.heap.get? b=O0 o)(X1:h1.Ns (s.heap.objs.size+1) (λ_=>W1))(kp:∀b o,s.heap.get? b=O0 o->h1.get? b=O0 o)(r0:h1.get? s.heap.objs.size=O0 { cls:=.type "list",data:=.seq #[] }):
  Inv (DP X scope (Ce ts X.N++ts) s H fp) [] (σ++si ts.length W1) (mf H s.heap.objs.size (.lst [])) { s with heap:=h1,toks:=tk }:=by
 have O:∀b o,s.heap.get? b=O0 o->b<s.heap.objs.size:=λb o e=>bE e;have P1:(DP X scope (Ce ts X.N++ts) s H fp).Ok:=by
  refine⟨I.ok.mod,c.kind,I.ok.glob,I.ok.blt,kr _,λx y a h1 h2=>I.ok.inj x y a (c.sub I.ok h1) (c.sub I.ok h2),λx hx=>?_,λx a h _=>QO (show ZA=E3 from h) dP,I.ok.hd,I.ok.frames,.inl rfl,λb Y=>⟨?_,λx a h=>?_⟩,I.bs,dA I.ok.bsz I.sz,λb o e Y=>?_,λb Y hs=>?_,I.stack,I.stkFree⟩
  .have U1:(ol scope X.env).names.lookup x=O0 .cell ∨(ol scope X.env).names.lookup x=O0 .free :=hx;have go:∀k,(ol scope X.env).names.lookup x=O0 k->(k=.cell ∨k=.free)->(x,wq)∈scope.names:=λk hk W=>by
    obtain⟨J,m,e⟩:=Gi hk
    rcases e with e | ⟨e,_⟩
    .subst e
     rcases W with z | z
     .exact QO z (c.nocell _ m)
     .rw[<-z];exact m
    .rw[<-e];exact m
   rcases U1 with h | h
   .exact Lh (go _ h (.inl rfl))
   .exact Lh (go _ h (.inr rfl))
  .obtain⟨o,e⟩:=ho b Y;exact bS (ny (O b o e))
  .exact (hf b Y).2.2.2.2.1 x a (c.sub I.ok h)
  .rcases (hf b Y).2.2.2.1 with z | z
   .exact I.ok.noex b o e z
   .exact QO (fE (bE e) (dA I.ok.bsz z)) (kG _)
  .rcases bX.mp (I.stkSub b hs) with z | z
   .exact (hf b Y).2.1 z
   .exact (hf b Y).2.2.1 z
 have fr:H s.heap.objs.size=W1:=I.hok.fresh (aS _);have S1:Bp X.prog X.w (mf H s.heap.objs.size (.lst [])) h1 s.heap.objs.size (.lst []):=⟨gL _,[],0,.nil,r0⟩;refine⟨P1,rfl,I.bare,Un.laid kp (aS _) fr,⟨_,X1,λi x v e1 e2 e3=>?_⟩,λx a h=>?_,?_,λx a h=>?_,λp hp=>QO (show p∈([]:QP) from hp) .(1),I.hok.laid kp (aS _) S1,?_⟩
 .have X0:(Ce ts X.N++ts)[i]?=O0 x:=e1;have Z:i<σ.length:=by
   by_cases z:i<σ.length
   .exact z
   .rw[ku .(0),DV] at e2;split at e2<;>cases e2
  have T2:σ[i]?=O0 (O0 v):=by rw[kR Z] at e2;exact e2
  have hN:i<X.N.length:=by rw[<-I.len];exact Z
  have g:(Ce ts X.N)[i]?=O0 x:=by rw[kR (by unfold Ce;rw[aI];exact hN)] at X0;exact X0
  unfold Ce at g;rw[db] at g;have S2:(ol scope X.env).names.lookup x=O0 .local ∨(ol scope X.env).names.lookup x=O0 .cell ∨(ol scope X.env).names.lookup x=O0 .free :=e3;have Y1:∃J,(x,J)∈scope.names/\(J=.local ∨J=.free)/\(J=.free ->(ol scope X.env).names.lookup x=O0 .cell ∨(ol scope X.env).names.lookup x=O0 .free):=by
   rcases S2 with z | z | z
   .obtain⟨J,m,e⟩:=Gi z
    rcases e with e | ⟨_,e⟩
    .exact⟨J,m,.inl e,λq=>by rw[q] at e;cases e⟩
    .cases e
   .obtain⟨J,m,e⟩:=Gi z
    rcases e with e | ⟨e,_⟩
    .exact QO e (c.nocell _ m)
    .exact⟨J,m,.inr e,λ_=>.inl z⟩
   .obtain⟨J,m,e⟩:=Gi z
    rcases e with e | ⟨e,q⟩
    .exact⟨J,m,.inr e,λ_=>.inr z⟩
    .cases q
  cases ey:X.N[i]? with
  |none=>rw[ey] at g;cases g
  |some y=>
   rw[ey] at g;have S:(if y∈ts then kN else y)=x:=dc g;obtain⟨J,m,G,Q2⟩:=Y1
   by_cases U:y∈ts
   .rw[ZN U] at S;exact QO S.symm (c.emp _ m)
   .rw[OO U] at S;subst S
    rcases G with G | G
    .rcases c.loc _ m G with z | z
     .exact QO z U
     .exact QO (sk ey) z
    .have W:=c.fre _ m G;have T:X.env.kindOf y=O0 .cell ∨X.env.kindOf y=O0 .free :=W;obtain⟨mm,hn,hl⟩:=I.loc;have hv:Vis X.env.scope y:=by
      rcases T with z | z
      .exact .inr (.inl z)
      .exact .inr (.inr z)
     obtain⟨u,r,l⟩:=hl i y v ey T2 hv;refine⟨u,r,.inr ⟨Q2 G,?_⟩⟩
     rcases l with ⟨kl,_⟩ | ⟨_,a,ea,hc⟩
     .rcases T with z | z
      .rw[kl] at z;cases z
      .rw[kl] at z;cases z
     .rw[G] at m;obtain⟨a',S0⟩:=Lh (cells:=X.env.cells) (cs:=[]) m;refine⟨a',S0,?_⟩;have:=c.sub I.ok S0;rw[ea] at this;cases this;obtain⟨o,e,d⟩:=hc;exact⟨o,kp _ _ e,d⟩
 .obtain⟨v,o,e,d⟩:=I.cell x a (c.sub I.ok h);exact⟨v,o,kp _ _ e,d⟩
 .show mf H s.heap.objs.size (.lst []) (s.heap.objs.size+1)=W1;rw[Aj (L7 _)];exact I.hok.fresh (kr _)
 .have ha:=c.sub I.ok h;obtain⟨v,o,e,d⟩:=I.cell x a ha;rw[Aj (bS (O _ _ e))];exact I.freeC x a ha
 .show (σ++si ts.length W1).length=(Ce ts X.N++ts).length;unfold Ce;rw[eI,eI,aI,I.len,yk]
def jQ(n:Nat)(wi:TI)(g:TG)(tc:TT)(te:TE):TE:=λO H Q=>wi O H λJ I=>∀p,I p=W1->∃W:Nat->Nat->List V->Hp->Prop,(∃m,W 0 m [] (mf I p (.lst []))) ∧
 ∀i m r H,W i m r H->(J.stop i H/\Q (.ref p) H)∨(J.go i H/\∀x Z,J.yld i H x Z->∀S:List (Option V),S.length=n->g x (O++S) Z λd I=>(∃T,d=O++T/\T.length=n)/\tc d I λb Y=>
  if b=E3 then te d Y λy U=>U p=O0 (.lst r)/\r.length<sizeLine/\∃G,G<m/\W (i+1) G (r++[y]) (mf U p (.lst (r++[y]))) else ∃G,G<m/\W (i+1) G r Y)
def PTs(X:Cx)(d:List Expr)(tc:TT):Prop:=
 ∀(G:QP) (s:av) (g:St) (H:Hp) (Q:Bool->Hp->Prop),Inv X G g H s->tc g H Q ->
  ah .(3) X.A (forIn d E3 λc r=>if r=E3 then do let ok <-pj c X.env (eval c X.env);pure (wv ok) else pure (wv r)) (TP X G g Q) X.xe s
def sG:PTs X [] (λ_ H Q=>Q E3 H):=λ_ _ _ H _ I h=>wpAny_tests_nil ⟨H,I,h⟩
def sH(h:PT X e tc):PTs X [e] tc:=λr s g H Q I q=>wpAny_tests_one (h r s g H Q I q)
variable {elt iter:Expr}{ifs:List Expr}{px:Pos}{wi:TI}{te:TE}{g:TG}
def Zf{A:aT}{R:nv->av->Prop}{d G:ac}(J:Nat->av->Prop)(E:ac->av->Prop)(hE:E=notedBy (ai prog w) A env λe s'=>R (.error e) s')(go:∀n s,J n s->ah (ai prog w) A (hU d) (λr s1=>match r with
      |none=>R (.ok .next) s1
      |some v=>ah (ai prog w) A (AR tg d v) (λ_ U=>ah (ai prog w) A (vx tg env v) (λ_ T=>
          ah (ai prog w) A (forIn ifs E3 λc r=>if r=E3 then do let ok <-pj c env (eval c env);pure (wv ok) else pure (wv r)) (λok I=>
            if ok=E3 then ah (ai prog w) A (eval elt env) (λx S=>ah (ai prog w) A (call (.builtin "list.append") [G,x]) (λ_ O=>∃m,m<n/\J m O) E S) E I else ∃m,m<n/\J m I) E T) E U) E s1) E s)(n:Nat)(j0:J n s):fA (ai prog w) A (.compLoop (.ListComp elt [⟨tg,iter,ifs,0⟩] scope pos) 0 d G env) R s:=by
  subst hE;refine codeAny_loop rfl J (λn s jn=>?_) n j0;show ah _ A (Sem.onRaise (compTurn (.ListComp elt [⟨tg,iter,ifs,0⟩] scope pos) 0 d G env) (λx=>do zh x env;theTreesLotGoes x)) _ _ s;refine wpAny_noted ?_;rw[compTurn_list];refine ag (sg (ag (py (go n s jn) λr s1 q1=>?_)));cases r with
  |none=>exact aw q1
  |some v=>
    refine ag (py q1 λ_ U q2=>ag (py q2 λ_ T q3=>ag (py q3 λok I W=>?_)));cases ok with
    |false=>exact aw ⟨rfl,W⟩
    |true=>exact ag (ag (py W λx S Z=>ag (py Z λ_ O Y=>aw (aw ⟨rfl,Y⟩))))
def Zg{Q:VK}{tn:Nat->Heap->Prop}{J:It}{RR:ac->Addr->nv->av->Prop}(c:OR X scope ts)(hc:X.calm=E3)(I:Inv X π σ H s)(T:Turn X.prog X.w X.K tg J fp it tn)(S3:tn 0 s.heap)(hf:∀b∈fp,FpOk X π H b)(hG:∀s2 H2 fp,PG (DP X scope (Ce ts X.N++ts) s2 H2 fp) tg g)(hI:∀s2 H2 fp,PTs (DP X scope (Ce ts X.N++ts) s2 H2 fp) ifs tc)(hE:∀s2 H2 fp,PE (DP X scope (Ce ts X.N++ts) s2 H2 fp) elt te)(h:∀p,H p=W1->∃W:Nat->Nat->List V->Hp->Prop,(∃m,W 0 m [] (mf H p (.lst []))) ∧
      ∀i m ys H,W i m ys H->(J.stop i H/\Q (.ref p) H)∨(J.go i H/\∀x H',J.yld i H x H'->∀os:List (Option V),os.length=ts.length->g x (σ++os) H' λS1 H1=>(∃o2,S1=σ++o2/\o2.length=ts.length)/\tc S1 H1 λb H2=>
        if b=E3 then te S1 H2 λy H3=>H3 p=O0 (.lst ys)/\ys.length<sizeLine/\∃m',m'<m/\W (i+1) m' (ys++[y]) (mf H3 p (.lst (ys++[y]))) else ∃m',m'<m/\W (i+1) m' ys H2))(hRR:∀p C s' H' m,Inv X π σ H' s'->H' C=W1->C≠X.env.locals->X.s₀.heap.objs.size<=C->(∀x a,X.env.cells.lookup x=O0 a->a≠C)->(∀q∈X.pn++π,q.1≠C)->s'.heap.Ns C m->Q (.ref p) H'->RR (.ref p) C (.ok .next) s'):
    ah .(3) X.A (newList []) (λP7 s₃=>ah .(3) X.A (newFunctionEnv scope X.env.globals (SS X.env.cells scope.names []) [] X.env.qual W1 .none (O0 X.env)) (λX0 U2=>
      fA .(3) X.A (.compStart (.ListComp elt [⟨tg,iter,ifs,0⟩] scope pos) 0 (.ref it) P7 { X0 with scope:=ol scope X.env }) (RR P7 X0.locals) U2) E s₃) E s:=by
  refine iF (wpAny_newFunctionEnv c.nocell (by intro y hy;simp at hy) (λh₁ O G=>?_) c.kind);dsimp only at O G ⊢;generalize Y1:s.heap.push { cls:=.type "list",dict:=W1,data:=.seq ([]:List ac).toArray }=G2 at O G ⊢;have hC:G2.objs.size=s.heap.objs.size+1:=by rw[<-Y1,iE]
  rw[hC] at O G ⊢;have kp:∀b o,s.heap.get? b=O0 o->h₁.get? b=O0 o:=λb o e=>G.extBut b o (bS (ny (bE e))) (bo _ (Y1▸bo _ e));have S4:h₁.get? s.heap.objs.size=O0 { cls:=.type "list",data:=.seq #[] }:=G.extBut _ _ (bS (y9 _)) (bo _ (Y1▸ci _ rfl));have X1:∀b∈fp,∃o,s.heap.get? b=O0 o:=λb S=>let ⟨o,e,_⟩:=T.obj 0 _ S3 b S;⟨o,e⟩;have I0:=c.inv (fp:=fp) (h1:=h₁) (tk:=s.toks+([]:List (Str×ac)).length) I hf X1 (by simpa using O) kp S4;have fr:H s.heap.objs.size=W1:=I.hok.fresh (aS _);obtain⟨W,⟨m0,w0⟩,S2⟩:=h _ fr;have P3:tn 0 h₁:=T.keep 0 _ _ S3 λb _ o e=>kp b o e;generalize U:DP X scope (Ce ts X.N++ts) s H fp=Y at I0;have P4:Y.calm=E3:=by rw[<-U];exact hc
  have Z:∀{H':Hp},(∀b∈fp,H' b=W1)->∀b∈fp,FpOk Y [] H' b:=λ{H'} hn b S=>by
    obtain⟨o,e⟩:=X1 b S;refine⟨hn b S,?_,?_,.inl ?_,λx a e'=>?_,λp hp=>?_⟩
    . rw[<-U];exact bS (ny (bE e))
    . intro z
      exact I0.ok.exfs b (by rw[<-U];exact S) z
    . rw[<-U];exact S
    . exact (I0.ok.exf b (by rw[<-U];exact S)).2 x a e'
    . rw[<-U] at hp
      exact QO (show p∈([]:QP) from hp) .(1)
  have fp0:∀b∈fp,mf H s.heap.objs.size (.lst []) b=W1:=λb S=>by
    obtain⟨o,e⟩:=X1 b S;rw[Aj (bS (bE e))];exact (hf b S).1
  have r0:Y.env=compEnvC scope (SS X.env.cells scope.names []) (s.heap.objs.size+1) X.env:=by rw[<-U]
  have pY:Y.prog=X.prog:=by rw[<-U]
  have wY:Y.w=X.w:=by rw[<-U]
  have aY:Y.A=X.A:=by rw[<-U]
  have kY:Y.K=X.K:=by rw[<-U]
  have xY:Y.xe=λ_ _=>False:=by rw[<-U]
  have hIY:PTs Y ifs tc:=by rw[<-U];exact hI s H fp
  have hEY:PE Y elt te:=by rw[<-U];exact hE s H fp
  have hGY:PG Y tg g:=by rw[<-U];exact hG s H fp
  have S0:∀s₃:av,s₃={ s with heap:=h₁,toks:=s.toks+([]:List (Str×ac)).length } ->
      fA .(3) X.A (.compLoop (.ListComp elt [⟨tg,iter,ifs,0⟩] scope pos) 0 (.ref it) (.ref s.heap.objs.size) (compEnvC scope (SS X.env.cells scope.names []) (s.heap.objs.size+1) X.env)) (RR (.ref s.heap.objs.size) (s.heap.objs.size+1)) s₃:=by
    rintro s₃ rfl;rw[<-r0];refine Zf (λn s'=>∃i ys os H',os.length=ts.length/\Inv Y [] (σ++os) H' s'/\tn i s'.heap/\(∀b∈fp,H' b=W1)/\W i n ys H') _ rfl ?_ m0 ⟨0,[],_,_,yk,I0,P3,fp0,w0⟩;rintro n s3 ⟨i,ys,os,H3,P9,I3,Y2,P5,w3⟩
    rcases S2 i n ys H3 w3 with ⟨X2,qn⟩ | ⟨go,step⟩
    . have d:=T.done Y pY wY kY P4 i [] s3 _ H3 (λ_ _=>False) I3 (Z P5) Y2 X2
      rw[aY] at d;refine gE d (λr s4 q0=>?_) λ_ _ z=>z.elim;obtain⟨hr,I4⟩:=q0;subst hr;have cN:=I4.free;have cN':H3 (s.heap.objs.size+1)=W1:=by rw[r0] at cN;exact cN
      have un:=I4.base;obtain⟨m,hm,_⟩:=I4.loc;have X9:s4.heap.Ns (s.heap.objs.size+1) m:=by rw[r0] at hm;exact hm
      have f8:Un (frs X.stack) fp H H3 s.heap s4.heap:=by rw[<-U] at un;exact un
      have u8:s4.os=s.os:=by have:=I4.os;rw[<-U] at this;exact this
      have Y3:Ts X.prog X.w H3 s4.heap:=by have:=I4.hok;rw[<-U] at this;exact this
      have Q2:=I4.bare;have IX:Inv X π σ H3 s4:=I.call' u8 f8 Y3 Q2 λb S=>⟨(hf b S).2.2.2.1,(hf b S).2.1,(hf b S).2.2.2.2.1,(hf b S).2.2.2.2.2⟩;refine hRR _ _ _ _ m IX cN' (pw (ny I.lt)) (dA I.sz (kr _)) (λx a e z=>?_) (λq hq z=>?_) X9 qn
      . obtain⟨v,oc,e',_⟩:=I.cell x a e
        have q2:a<s.heap.objs.size:=bE e';have z':a=s.heap.objs.size+1:=z;exact QO (z'▸q2) (mE.mpr (kr _))
      . have q2:q.1<s.heap.objs.size:=bE (I.pin q hq).1
        have z':q.1=s.heap.objs.size+1:=z;exact QO (z'▸q2) (mE.mpr (kr _))
    . have d:=T.item Y pY wY kY P4 i [] s3 _ H3 (λ_ _=>False) I3 (Z P5) Y2 go
      rw[aY] at d;refine gE d (λr s4 q9=>?_) λ_ _ z=>z.elim;obtain⟨u,hr,h4⟩:=q9;subst hr;refine gE h4 (λ_ s4 p0=>?_) λ_ _ z=>z.elim;obtain⟨x,H5,I5,r5,y5,U1,fr5⟩:=p0;have I5':=I5.pinned (Z fr5) (T.obj _ _ U1);have P6:=hGY _ s4 _ H5 x u _ I5' r5 (step x H5 y5 os P9);rw[aY,pY,wY,xY] at P6;refine gE P6 (λ_ s6 p9=>?_) λ_ _ z=>z.elim;obtain⟨σ6,H6,I6,⟨o2,e6,l6⟩,q⟩:=p9;subst e6;have T2:=hIY _ s6 _ H6 _ I6 q;rw[aY,pY,wY,xY] at T2;refine gE T2 (λb s7 g0=>?_) λ_ _ z=>z.elim;obtain⟨H7,I7,q7⟩:=g0;have P1:∀{H8:Hp}{s8:av},Inv Y ([]++Sy fp s4.heap) (σ++o2) H8 s8->tn (i+1) s8.heap/\∀b∈fp,H8 b=W1:=λ{H8 s8} I8=>by
        refine⟨T.keep _ _ _ U1 λb S ob e=>(I8.pin (b,ob) (kK _ (kK _ (Kh S e)))).1,λb S=>?_⟩;obtain⟨ob,e,d⟩:=T.obj _ _ U1 b S;exact (I8.pin (b,ob) (kK _ (kK _ (Kh S e)))).2.1
      cases b with
      |false=>
        rw[OO dP] at q7 ⊢;obtain⟨m',hm,w7⟩:=q7;obtain⟨t7,f7⟩:=P1 I7;exact⟨m',hm,i+1,ys,o2,H7,l6,I7.unpinned,t7,f7,w7⟩
      |true=>
        rw[ZN rfl] at q7 ⊢;have ev:=hEY _ s7 _ H7 _ I7 q7;rw[aY,pY,wY,xY] at ev;refine gE ev (λy s8 g9=>?_) λ_ _ z=>z.elim;obtain⟨yv,H8,I8,r8,r9,P8,m',hm,w8⟩:=g9;have ap:=VV (X:=Y) _ s8 _ H8 (.ref s.heap.objs.size) [yv] (.ref s.heap.objs.size) [y] (λ_ H9=>H9=mf H8 s.heap.objs.size (.lst (ys++[yv]))) I8 rfl (.cons r8 .nil) ⟨_,ys,yv,rfl,rfl,r9,P8,rfl⟩;rw[aY,pY,wY,xY] at ap;refine gE ap (λ_ s9 u0=>?_) λ_ _ z=>z.elim;obtain⟨_,H9,I9,_,e9⟩:=u0;subst e9;obtain⟨t9,f9⟩:=P1 I9;exact⟨m',hm,i+1,_,o2,_,l6,I9.unpinned,t9,f9,w8⟩
  exact codeAny_compStart_list (S0 _ rfl) (T.self X.A 0 _ _ _ P3 (S0 _ rfl))
theorem jR(c:OR X scope ts)(hc:X.calm=E3)(hi:PI X tg iter wi)(hG:∀d r fp,PG (DP X scope (Ce ts X.N++ts) d r fp) tg g)(hI:∀d r fp,PTs (DP X scope (Ce ts X.N++ts) d r fp) ifs tc)(hE:∀d r fp,PE (DP X scope (Ce ts X.N++ts) d r fp) elt te)(hs:∀x,pS iter X.env x=pure x:=by intro _;rfl):PE X (.ListComp elt [⟨tg,iter,ifs,0⟩] scope pos) (jQ ts.length wi g tc te):=by
 intro S s O H Q I h;rw[eval_ListComp];refine wpAny_comprehension_free (use:=W1) rfl hs (U8 (c.cells I.ok)) c.kind c.names (py (hi S s O H _ I h) λv s1 h1=>py h1 λr0 d h2=>?_);obtain⟨it,fp,tn,J,r,e,I2,T,G,f2,q⟩:=h2;subst e;refine Zg (Q:=Q) c hc I2 T G f2 hG hI hE q λp C W H' m I' n1 n2 n3 n4 Z hm Y=>?_;exact⟨m,hm,λh' U=>⟨.ref p,H',I'.turned (t':=W.toks) (λb o hb e=>(U.2 b hb).trans e) n1 (cf (cf n2)) (.inr n3) n4 Z,rfl,Y⟩⟩
abbrev TQ (X:Cx) (scope:lI) (t:Str):Prop:=OR X scope [t]
abbrev Zh (X:Cx) (scope:lI) (t:Str) (s2:av) (H2:Hp) (fp:List Addr):Cx:=DP X scope (Fx t X.N++[t]) s2 H2 fp
def TV{x:Str}(O:Uq X.N x)(G:X.N[i]?=O0 x)(d:Loc X.env.scope x)(J:X.fn x=E3∨X.env.scope.names.lookup x=O0 .local):PG X (.Name x pos) (Hq i):=by
 intro U s T H v u Q I r h;exact IN (Su I O G d r (λW S _=>⟨_,H,S,h⟩) J)
def gOne(c:TQ X scope t)(T:av)(r:Hp)(fp:List Addr):PG (Zh X scope t T r fp) (.Name t px) (Hq X.N.length):=
 TV (c.nd t (ke.mpr rfl)) (by show (Fx t X.N++[t])[X.N.length]?=O0 t;unfold Fx Ce;rw[ku (by rw[aI];exact aS _),aI,sQ];rfl) (.inl (B3 (c.tl t (ke.mpr rfl)))) (.inr (B3 (c.tl t (ke.mpr rfl))))
def wB(X:Cx)(I:TI):TI:=λd H R=>∃r,I d H r/\∀J G,d.length=X.N.length->r J G->R J G
def sI(hi:PI X tg iter wi):PI X tg iter (wB X wi):=λO s G H R I ⟨R0,h0,Z⟩=>
 py (hi O s G H R0 I h0) λv s1 h1=>py h1 (by rintro U s2 ⟨Y,fp,S,J,d,e,I',T,W,f,r⟩;exact ⟨Y,fp,S,J,d,e,I',T,W,f,Z J d I.len r⟩)
end
end L2
namespace PV
open PySem L2
set_option genInjectivity true in
inductive D where
 |non | bl (b:Bool) | int (i:Int) | str (x:Str) | tup (ds:List D) | lst (ds:List D)
 |dk (kvs:List (Key×D)) | dt (kvs:List (List Key×D)) | ob (c:Str) (fs:List (Str×D)) | adr (a:Addr) | exc (c:Str) (fs:List (Str×D)) | err (c:Str) (fs:List (Str×D)) | mem (F:List (List Key)->Int)
set_option genInjectivity true in
inductive Slot where
 |un | fz (d:D) | ow (d:D)
abbrev Rho:=List Slot
abbrev FE:=Rho->Option D
abbrev FA:=Rho->Option (List D)
abbrev FT:=Rho->Option Bool
abbrev FO:=Rho->Option (Option Int)
abbrev FI:=Rho->Option (List D)
def vF(i:Nat):FE:=λρ=>match ρ[i]? with | some (.fz d)=>O0 d | _=>W1
def vU(i:Nat):FE:=λρ=>match ρ[i]? with | some (.fz d)=>O0 d | some (.ow d)=>O0 d | _=>W1
def kF(d:D):FE:=λ_=>O0 d
def bF(g:D->D->Option D)(r d:FE):FE:=λρ=>(r ρ).bind λx=>(d ρ).bind λy=>g x y
def uF(g:D->Option D)(r:FE):FE:=λρ=>(r ρ).bind g
def tx(f:FE):FT:=λρ=>match f ρ with | some (.bl b)=>O0 b | _=>W1
def iiD(g:Int->Int->Option D):D->D->Option D:=λx y=>match x,y with | .int i,.int j=>g i j | _,_=>W1
instance (i j:Int):Decidable (CMul i j):=by unfold CMul;infer_instance
instance (i j:Int):Decidable (CDiv i j):=by unfold CDiv;infer_instance
instance (i j:Int):Decidable (CPow i j):=by unfold CPow;infer_instance
def subD:=iiD λi j=>O0 (.int (i-j))
def Nr(i j:Int):Prop:=CMul i j∨(i8 i<=4194304/\i8 j<=4194304)
instance (i j:Int):Decidable (Nr i j):=by unfold Nr;infer_instance
def CShl(i j:Int):Prop:=0<=j/\j<=1000000/\i8 i<=4194304
instance (i j:Int):Decidable (CShl i j):=by unfold CShl;infer_instance
def mulD:=iiD λi j=>if Nr i j then O0 (.int (i*j)) else W1
def Cr:=iiD λi j=>if CDiv i j then O0 (.int (i/j)) else W1
def rz:=iiD λi j=>if 0<j then O0 (.int (i%j)) else W1
def powD:=iiD λi j=>if CPow i j then O0 (.int (i^j.toNat)) else W1
def shlD:=iiD λi j=>if CShl i j then O0 (.int (i*2^j.toNat)) else W1
def shrD:=iiD λi j=>if 0<=j then O0 (.int (i/2^j.toNat)) else W1
def az:=iiD λi j=>O0 (.int (vS i j))
def ltD:=iiD λi j=>O0 (.bl (decide (i<j)))
def gtD:=iiD λi j=>O0 (.bl (decide (j<i)))
def geD:=iiD λi j=>O0 (.bl (decide (j<=i)))
def OT:D->D->Option D:=λx y=>match x,y with
 |.int i,.int j=>O0 (.int (i+j))
 |.str i,.str j=>if i.length+j.length<=sizeLine then O0 (.str (i++j)) else W1
 |.lst i,.lst j=>if i.length+j.length<=sizeLine then O0 (.lst (i++j)) else W1
 |_,_=>W1
def andF(r d:FE):FE:=λρ=>match r ρ with | some (.bl E3)=>d ρ | some (.bl ZA)=>O0 (.bl ZA) | _=>W1
def orF(r d:FE):FE:=λρ=>match r ρ with | some (.bl E3)=>O0 (.bl E3) | some (.bl ZA)=>d ρ | _=>W1
def andT(r d:FT):FT:=λρ=>match r ρ with | some E3=>d ρ | some ZA=>O0 ZA | none=>W1
def orT(r d:FT):FT:=λρ=>match r ρ with | some E3=>O0 E3 | some ZA=>d ρ | none=>W1
def Sj(r:FT):FT:=λρ=>(r ρ).map (!·)
def truD:D->Option Bool
 |.non=>O0 ZA
 |.bl b=>O0 b
 |.int i=>O0 (i != 0)
 |.str y=>if y.length<=sizeLine then O0 ((y.length:Int) != 0) else W1
 |.lst ds=>O0 (!ds.isEmpty)
 |.tup ds=>O0 (!ds.isEmpty)
 |_=>W1
def trF(f:FE):FT:=λρ=>(f ρ).bind truD
def ifF(t:FT)(r d:FE):FE:=λρ=>match t ρ with | some E3=>r ρ | some ZA=>d ρ | none=>W1
def am:FA:=λ_=>O0 []
def Aa(r:FE)(fs:FA):FA:=λρ=>(r ρ).bind λd=>(fs ρ).map (d::·)
def RS(fs:FA):FE:=λρ=>(fs ρ).bind λds=>if ds.length<=sizeLine then O0 (.tup ds) else W1
def pp(fs:FA):FE:=λρ=>(fs ρ).bind λds=>if ds.length<=sizeLine then O0 (.lst ds) else W1
def ixD:D->D->Option D:=λx y=>match x,y with
 |.lst ds,.int i=>atI ds i
 |.tup ds,.int i=>atI ds i
 |.str z,.int i=>if z.length<=sizeLine then (atI z.cps.toList i).map λc=>.str ⟨#[c]⟩ else W1
 |_,_=>W1
def noO:FO:=λ_=>O0 W1
def Pp(f:FE):FO:=λρ=>match f ρ with | some (.int i)=>O0 (O0 i) | _=>W1
def Rl{α:Type}(ds:List α)(r d:Option Int):List α:=(ds.drop (HT.sIx ds.length 0 r)).take (HT.sIx ds.length ds.length d-HT.sIx ds.length 0 r)
def cutS(z:Str)(r d:Option Int):Str:=⟨(Rl z.cps.toList r d).toArray⟩
def slD(x:D)(r d:Option Int):Option D:=match x with
 |.lst ds=>O0 (.lst (Rl ds r d))
 |.tup ds=>if HT.sIx ds.length 0 r=0/\HT.sIx ds.length ds.length d=ds.length then W1 else O0 (.tup (Rl ds r d))
 |.str z=>if z.length<=sizeLine then O0 (.str (cutS z r d)) else W1
 |_=>W1
def slF(f:FE)(l h:FO):FE:=λρ=>(f ρ).bind λx=>(l ρ).bind λr=>(h ρ).bind λd=>slD x r d
def VT:D->Option V
 |.non=>O0 .non
 |.bl b=>O0 (.bl b)
 |.int i=>O0 (.int i)
 |.str x=>O0 (.str x)
 |_=>W1
def Sk:List D->Option (List V)
 |[]=>O0 []
 |d::r=>(VT d).bind λv=>(Sk r).map (v::·)
def inD(d:Bool):D->D->Option D:=λx y=>match x,y with
 |.str i,.str j=>O0 (.bl (if d then !(!(pT j i 0 j.length 1).isEmpty) else !(pT j i 0 j.length 1).isEmpty))
 |x,.lst ds=>(VT x).bind λv=>(Sk ds).map λvs=>.bl (if d then !inV v vs else inV v vs)
 |x,.tup ds=>(VT x).bind λv=>(Sk ds).map λvs=>.bl (if d then !inV v vs else inV v vs)
 |_,_=>W1
def Sl(f:D->D->Option Bool):List D->List D->Option Bool
 |[],[]=>O0 E3
 |x::xs,y::d=>match f x y,Sl f xs d with | some a,O0 b=>O0 (a&&b) | _,_=>W1
 |_,_=>W1
def flD(x y:D):Option Bool:=(VT x).bind λu=>(VT y).map λv=>eqV u v
def eqS(f:D->D->Option Bool):D->D->Option Bool
 |.lst xs,.lst d=>if xs.length=d.length then Sl f xs d else O0 ZA
 |.tup xs,.tup d=>if xs.length=d.length then Sl f xs d else W1
 |x,y=>flD x y
def XZ:Nat->D->D->Option Bool
 |0=>flD
 |n+1=>eqS (XZ n)
def YU(x y:D):Option Bool:=match x,y with
 |.int i,.int j=>O0 (decide (i=j))
 |.str i,.str j=>O0 (decide (i=j))
 |.bl i,.bl j=>O0 (decide (i=j))
 |.lst xs,.lst d=>if xs.length=d.length then Sl (XZ 180) xs d else O0 ZA
 |.tup xs,.tup d=>if xs.length=d.length then Sl (XZ 180) xs d else W1
 |_,_=>W1
def sd(d:Bool)(x y:D):Option D:=(YU x y).map λb=>.bl (if d then !b else b)
def lenD:D->Option D
 |.str y=>if y.length<=sizeLine then O0 (.int y.length) else W1
 |.lst ds=>O0 (.int ds.length)
 |.tup ds=>O0 (.int ds.length)
 |_=>W1
def Yf:=iiD λi j=>O0 (.int (if j > i then j else i))
def minD:=iiD λi j=>O0 (.int (if j<i then j else i))
def jT:D->Option D
 |.lst ds=>O0 (.lst ds)
 |.tup ds=>O0 (.lst ds)
 |_=>W1
def negD:D->Option D
 |.int i=>O0 (.int (-i))
 |_=>W1
def seqI(f:FE):FI:=λρ=>match f ρ with | some (.lst ds)=>O0 ds | some (.tup ds)=>O0 ds | _=>W1
def Pl(n:Nat):List D:=(br n).map λ(i:Nat)=>.int i
def QY(f:FE):FI:=λρ=>match f ρ with | some (.int j)=>if -(2^62)<=j/\j<2^62 then O0 (Pl j.toNat) else W1 | _=>W1
set_option genInjectivity true in
inductive To where
 |nx (ρ:Rho) | rt (d:D) (ρ:Rho) | bk (ρ:Rho) | ct (ρ:Rho)
abbrev FS:=Rho->Option To
def Pc:FS:=λρ=>O0 (.nx ρ)
def bc(g O:FS):FS:=λρ=>match g ρ with | some (.nx d)=>O d | o=>o
def OV(t:FT)(g O:FS):FS:=λρ=>match t ρ with | some E3=>g ρ | some ZA=>O ρ | none=>W1
def jl(i:Nat)(f:FE):FS:=λρ=>(f ρ).map λd=>.nx (ρ.set i (.fz d))
def im(f:FE):FS:=λρ=>(f ρ).map λd=>.rt d ρ
def I_(f:FE):FS:=λρ=>(f ρ).map λ_=>.nx ρ
def badF:FS:=λ_=>W1
def OS(b:D->FS):List D->FS
 |[],ρ=>O0 (.nx ρ)
 |d::r,ρ=>match b d ρ with
  |some (.nx g)=>OS b r g
  |some (.ct g)=>OS b r g
  |some (.bk g)=>O0 (.nx g)
  |some (.rt e g)=>O0 (.rt e g)
  |none=>W1
abbrev FG:=D->Rho->Option Rho
def CW(i:Nat):FG:=λd ρ=>O0 (ρ.set i (.fz d))
def XU(tg:FG)(b:FS):D->FS:=λd ρ=>(tg d ρ).bind b
def Pt(d:FI)(tg:FG)(b:FS):FS:=λρ=>(d ρ).bind λds=>OS (XU tg b) ds ρ
def HS(c:FT)(b:FS):Nat->FS
 |0,_=>W1
 |n+1,ρ=>match c ρ with
  |some ZA=>O0 (.nx ρ)
  |some E3=>(match b ρ with
   |some (.nx d)=>HS c b n d
   |some (.ct d)=>HS c b n d
   |some (.bk d)=>O0 (.nx d)
   |some (.rt e d)=>O0 (.rt e d)
   |none=>W1)
  |none=>W1
def Ag(g:List D->Option D)(fs:FA):FE:=λρ=>(fs ρ).bind g
def Ek(n:Nat)(ds:List D):Rho:=ds.map .fz++si (n-ds.length) .un
def oo(n g:Nat)(b:FS)(ds:List D):Option D:=if ds.length=g then (match b (Ek n ds) with | some (.rt d _)=>O0 d | some (.nx _)=>O0 .non | _=>W1) else W1
def J_(ρ:Rho)(ga:FT)(fe:FE):List D->Option (List D)
 |[]=>O0 []
 |d::r=>match ga (ρ++[.fz d]) with
  |some E3=>(fe (ρ++[.fz d])).bind λy=>(J_ ρ ga fe r).map (y::·)
  |some ZA=>J_ ρ ga fe r
  |none=>W1
def Bo(d:FI)(ga:FT)(fe:FE):FE:=λρ=>(d ρ).bind λds=>if ds.length<=sizeLine then (J_ ρ ga fe ds).map .lst else W1
def OQ:FT:=λ_=>O0 E3
def mxN(val:Nat->Int):Nat->Int
 |0=>val 0
 |k+1=>if val (k+1) > mxN val k then val (k+1) else mxN val k
def Ge:List D->Option (List Int)
 |[]=>O0 []
 |.int i::r=>(Ge r).map (i::·)
 |_::_=>W1
def Xp(x y:D):Option D:=match x with
 |.lst ds=>(Ge ds).map λS=>if S=[] then y else .int (mxN (λi=>S.getD i 0) (S.length-1))
 |_=>W1
def Nu:List D->Option (List Str)
 |[]=>O0 []
 |.str i::r=>(Nu r).map (i::·)
 |_::_=>W1
def ltS(a b:Str):Bool:=decide (a.cps.toList<b.cps.toList)
def insS(x:Str):List Str->List Str
 |[]=>[x]
 |y::r=>if ltS x y then x::y::r else if x=y then y::r else y::insS x r
def Fq(xs:List Str):List Str:=xs.foldr insS []
def setW(i:Nat)(f:FE):FS:=λρ=>(f ρ).map λd=>.nx (ρ.set i (.ow d))
def ownO(ρ:Rho)(i:Nat):Option D:=match ρ[i]? with | some (.ow d)=>O0 d | _=>W1
def appL(x v:D):Option D:=match x with | .lst ds=>if ds.length<sizeLine then O0 (.lst (ds++[v])) else W1 | _=>W1
def mutF(g:D->D->Option D)(i:Nat)(f:FE):FS:=λρ=>(f ρ).bind λv=>(ownO ρ i).bind λx=>(g x v).map λy=>.nx (ρ.set i (.ow y))
def frz1(ρ:Rho)(i:Nat):Rho:=match ρ[i]? with | some (.ow d)=>ρ.set i (.fz d) | _=>ρ
def fzS(d:List Nat)(g:FS):FS:=λρ=>g (d.foldl frz1 ρ)
end PV
namespace EX
open PySem PySem.Spec L2
open PyProof.Rows hiding St
def tbV:Option Addr->ac
 |none=>.none
 |some T=>.ref T
def ExcP(a C:Addr)(od tb:Option Addr):Heap->Prop:=λh=>∃o vs,h.get? a=O0 o/\o.cls=.ref C/\o.dict=od/\o.data=.fields vs/\vs.size=6/\vs[1]?=O0 (tbV tb)
def TbP(T:Addr)(v:ac):Heap->Prop:=λh=>∃o d,h.get? T=O0 o/\o.data=.fields d/\d[3]?=O0 v/\o.cls=.type "traceback"
abbrev excO (a C:Addr) (od tb:Option Addr):HO:=.ext (ExcP a C od tb)
abbrev tbO (T:Addr) (v:ac):HO:=.ext (TbP T v)
def ExcP.ok(x:ExcP a C od tb h):Bp P w H h a (excO a C od tb):=
 ⟨x,let ⟨o,_,e,_⟩:=x;⟨o,e⟩,(by rintro g d ⟨o,G,e,r⟩ k;exact ⟨o,G,k o e,r⟩)⟩
def TbP.ok{v:ac}(x:TbP a v h):Bp P w H h a (tbO a v):=
 ⟨x,let ⟨o,_,e,_⟩:=x;⟨o,e⟩,(by rintro g d ⟨o,G,e,r⟩ k;exact ⟨o,G,k o e,r⟩)⟩
def sJ(f:Array ac->Array ac)(o:Obj):(sR f o).dict=o.dict:=by
 unfold sR;split<;>rfl
section
variable {e:Addr}
theorem fP(I:Inv X π σ H s)(x:Heap.SlotsOnly (frs X.stack) s.heap h'):Inv X π σ H { s with heap:=h' }:=by
 have k:∀b o,s.heap.get? b=O0 o->H b=W1->b∉frs X.stack->h'.get? b=O0 o:=λb o q _ d=>(x.2.1 b d).trans q;refine I.call (g':=s.gens) (d':=s.drawn) (t':=s.toks) (ch:=[]) ⟨λb o q n d _=>k b o q n d,λb o q _ _ _=>x.2.2 b o q,λ_ _ _ n _=>n,λb o q _=>let ⟨_,z⟩:=x.2.2 b o q;⟨_,z⟩,λ_ _ q=>q,λ_ _ _ q=>q,λ_ J q=>⟨#[],by rw[q];simp⟩⟩ (λb u q=>?_) I.bare λ_ z=>nomatch z;have g:∀c v,H c=O0 v->c∉frs X.stack:=λc v q z=>by rw[I.stkFree c z] at q;cases q
 refine (I.hok b u q).stay (λc v G r=>(x.2.1 c ?_).trans r) (λ_ r=>r) λ_ _ _ r=>r
 rcases G with z | z
 .rw[z];exact g b u q
 .exact g c _ z
theorem M6{vs:Array ac}{u u':HO}{v:ac}(I:Inv X π σ H s)(U:H a=O0 u)(O:Mut (O0 u))(S:s.heap.get? a=O0 o)(T:o.data=.fields vs)(G:∀h' r,h'.get? a=O0 r->r.cls=o.cls->r.dict=o.dict->r.data=.fields (vs.setIfInBounds i v)->Bp X.prog X.w (mf H a u') h' a u'):
  Inv X π σ (mf H a u') { s with heap:=s.heap.update a (sR (·.setIfInBounds i v)) }:=by
 have d:=sT T (·.setIfInBounds i v);have g:=mI (sR (·.setIfInBounds i v)) S (B4 d);exact I.write (x:=a) (e:=a) (t':=s.toks) (by rw[U];exact O) (.inl rfl) (λb q J z=>(ka _ _ (cf J)).trans z) ⟨_,g⟩ (G _ _ g (B5 _ _) (sJ _ _) d)
structure Noted (X:Cx) (π:QP) (σ:St) (H:Hp) (e C:Addr) (od tb:Option Addr) (T:Addr) (H':Hp) (s':av):Prop where
 inv:Inv X π σ H' s'
 exc:H' e=O0 (excO e C od (O0 T))
 tbk:H' T=O0 (tbO T .none)
 new:H T=W1
 rest:∀b u,b≠e->tb≠O0 b->H b=O0 u->H' b=O0 u
theorem Xq{Q:Unit->av->Prop}{d:ac}{r:Bool}(J:X.stack=X.env::X.outer)(hf:X.env.frame=O0 L)(I:Inv X π σ H s)(he:H e=O0 (excO e C od tb))(k:∀T H' s',Noted X π σ H e C od W1 T H' s'->Q () s'):
  ah M X.A (do let a <-frameOf X.env;let pl <-entryPlaceOf L r;let b <-L8 d a .none (dL L) .none pl;B6 (.ref e) 1 b) (λ_ O=>ah M X.A (t5 (.ref e) W1) Q E O) E s:=by
 refine ag (wpAny_frameOf_fun (base:=X.base) (outer:=X.outer) (J▸I.ok.frames) (J▸I.stack) hf λg x1=>?_);have I1:=fP I (h':=g) (J▸x1);refine ag (wpAny_entryPlaceOf λpl r0=>?_);unfold L8 newFields;refine ag (iF ?_ (r0.sizeOk5 _ _ _ _ _));have h3:([d,.ref L,.none,dL L,.none]++(if pl.isEmpty then si 6 eA else pl)).toArray[3]?=O0 (dL L):=by simp
 generalize ([d,.ref L,.none,dL L,.none]++(if pl.isEmpty then si 6 eA else pl)).toArray=ts at h3;have g2:(g.push { cls:=.type "traceback",dict:=W1,data:=.fields ts }).get? g.objs.size=O0 { cls:=.type "traceback",dict:=W1,data:=.fields ts }:=ci g rfl;have I2:=I1.laid (a:=g.objs.size) (o:=tbO g.objs.size (dL L)) (h':=g.push { cls:=.type "traceback",dict:=W1,data:=.fields ts }) (t':=s.toks) (λb u q=>bo _ q) (aS _) (TbP.ok ⟨_,ts,g2,rfl,h3,rfl⟩);have hT:H g.objs.size=W1:=I1.hok.fresh (aS _);have G:e≠g.objs.size:=BZ he hT;have S:(mf H g.objs.size (tbO g.objs.size (dL L))) e=O0 (excO e C od tb):=by rw[Aj G];exact he
 obtain⟨⟨o,vs,q1,q2,q3,q4,q5,q6⟩,_⟩:=I2.hok e _ S;refine om q1 q4 .(0) ?_;have I3:=M6 (u':=excO e C od (O0 g.objs.size)) (i:=1) (v:=.ref g.objs.size) I2 S trivial q1 q4 λh' o' W U r3 Z=>ExcP.ok ⟨o',_,W,U.trans q2,r3.trans q3,Z,by simpa using q5,by simp[tbV,q5]⟩;have e3:=Ah (H:=mf H g.objs.size (tbO g.objs.size (dL L))) (a:=e) (o:=excO e C od (O0 g.objs.size));have t3:mf (mf H g.objs.size (tbO g.objs.size (dL L))) e (excO e C od (O0 g.objs.size)) g.objs.size=O0 (tbO g.objs.size (dL L)):=by rw[Aj (cf G)];exact Ah
 obtain⟨⟨o5,S0,p1,p2,p3,p4,p5,p6⟩,_⟩:=I3.hok e _ e3;unfold t5;refine ag (wpAny_field p1 p4 p6 ?_);rw[ZN (show (tbV (O0 g.objs.size) != eA)=E3 from by simp[tbV])];obtain⟨⟨o6,Y,W,U,r3,Z⟩,_⟩:=I3.hok g.objs.size _ t3;have z3:3<Y.size:=(wx.mp r3).1;refine om W U z3 ?_;have I4:=M6 (u':=tbO g.objs.size .none) (i:=3) (v:=(W1:Option Addr).elim eA λf=>dL f) I3 t3 trivial W U λh' o' y1 y2 y3 y4=>TbP.ok ⟨o',_,y1,y4,by simp[z3],y2.trans Z⟩;refine k g.objs.size _ _ ⟨I4,?_,Ah,hT,λb u hb _ q=>?_⟩
 .rw[Aj G];exact e3
 .have:=BZ q hT;rw[Aj this,Aj hb,Aj this];exact q
theorem sO{Q:Unit->av->Prop}(g:X.stack=X.env::X.outer)(J:X.env.frame=O0 L)(I:Inv X π σ H s)(O:H e=O0 (excO e C od tb))(ht:∀T,tb=O0 T->H T=O0 (tbO T .none))(k:∀T H' s',Noted X π σ H e C od tb T H' s'->Q () s'):
  ah M X.A (zh (.ref e) X.env) (λ_ d=>ah M X.A (t5 (.ref e) W1) Q E d) E s:=by
 obtain⟨⟨o,vs,q1,q2,q3,q4,q5,q6⟩,_⟩:=I.hok e _ O;unfold zh;simp only[J];refine ag (wpAny_field q1 q4 q6 ?_);cases tb with
 |none=>
  rw[OO .(2)];exact Xq g J I O λT H' s' n=>k T H' s' n
 |some T0=>
  have r:=ht T0 rfl;obtain⟨⟨oT,ts,G,S,Z,W⟩,_⟩:=I.hok T0 _ r;rw[ZN (show (tbV (O0 T0) != eA)=E3 from by simp[tbV])];refine ag (wpAny_field G S Z ?_);rw[OO (show ¬ ((eA==dL L)=E3) from by simp[dL])];have Y:3<ts.size:=(wx.mp Z).1;refine ag (om G S Y ?_);have I1:=M6 (u':=tbO T0 .none) (i:=3) (v:=.none) I r trivial G S λh' o' y1 y2 y3 y4=>TbP.ok ⟨o',_,y1,y4,by simp[Y],y2.trans W⟩;have ne:e≠T0:=λz=>by
   subst z;rw[G] at q1;cases q1;rw[W] at q2;cases q2
  refine Xq g J I1 (tb:=O0 T0) (by rw[Aj ne];exact O) λT H' s' n=>k T H' s' ⟨n.inv,n.exc,n.tbk,?_,λb u hb U q=>n.rest b u hb .(1) (by rw[Aj (λz=>U (by rw[z]))];exact q)⟩;have:=n.new
  by_cases z:T=T0
  .subst z;rw[Ah] at this;cases this
  .rwa [Aj z] at this
end
end EX
namespace PV
open PySem PySem.Spec L2
open PyProof.Rows hiding St
structure Gx where
 K:ay
 cl:Str->Option Addr
 xcl:Str->Option Addr:=λ_=>W1
 lent:Option Addr:=W1
def Eb{K:ay}(e:cc H H')(h:Qb K H a xs):Qb K H' a xs:=by
 rcases h with (h | ⟨o,h⟩) | h
 .exact .inl (.inl (e _ _ h))
 .exact .inl (.inr ⟨o,e _ _ h⟩)
 .exact .inr h
def Ao(h:H p=W1)(o:HO):cc H (mf H p o):=λb u q=>by rw[Aj (BZ q h)];exact q
def FsV(fs:List (Str×V))(O:List (Str×D)):Prop:=fs.map (λp=>(p.1,O0 p.2))=O.map λp=>(p.1,VT p.2)
def XdA(H:Hp)(od:Option Addr)(fs:List (Str×V)):Prop:=match od with | some dx=>H dx=O0 (.xd fs) | none=>fs=[]
def XdA.mono{fs:List (Str×V)}(h:XdA H od fs)(s:cc H H'):XdA H' od fs:=by
 cases od with
 |none=>exact h
 |some dx=>exact s _ _ h
inductive uj (G:Gx) (H:Hp):V->D->Prop
 |non:uj G H .non .non
 |bl (b:Bool):uj G H (.bl b) (.bl b)
 |int (i:Int):uj G H (.int i) (.int i)
 |str (x:Str):uj G H (.str x) (.str x)
 |tup {a:Addr}{xs:List V}{ds:List D}:Qb G.K H a xs->xs.length=ds.length->(∀(i:Nat) x d,xs[i]?=O0 x->ds[i]?=O0 d->uj G H x d)->uj G H (.ref a) (.tup ds)
 |lst {a:Addr}{xs:List V}{ds:List D}:Qr G.K H a xs->xs.length=ds.length->(∀(i:Nat) x d,xs[i]?=O0 x->ds[i]?=O0 d->uj G H x d)->uj G H (.ref a) (.lst ds)
 |dk {a:Addr}{o:Obj}{kvs:List (Key×V)}{kds:List (Key×D)}:H a=O0 (.frz o (.dK kvs))->kvs.map (·.1)=kds.map (·.1)->(∀(i:Nat) x d,(kvs.map (·.2))[i]?=O0 x->(kds.map (·.2))[i]?=O0 d->uj G H x d)->uj G H (.ref a) (.dk kds)
 |dt {a:Addr}{o:Obj}{kvs:List (List Key×V)}{kds:List (List Key×D)}:H a=O0 (.frz o (.dT kvs))->kvs.map (·.1)=kds.map (·.1)->(∀(i:Nat) x d,(kvs.map (·.2))[i]?=O0 x->(kds.map (·.2))[i]?=O0 d->uj G H x d)->uj G H (.ref a) (.dt kds)
 |adr (a:Addr):uj G H (.ref a) (.adr a)
 |ob {a C dx:Addr}{c:Str}{fs:List (Str×V)}{gs:List (Str×D)}:G.cl c=O0 C->H a=O0 (.ins C dx fs)->fs.map (·.1)=gs.map (·.1)->(∀(i:Nat) x d,(fs.map (·.2))[i]?=O0 x->(gs.map (·.2))[i]?=O0 d->uj G H x d)->uj G H (.ref a) (.ob c gs)
 |err {a C:Addr}{od tb:Option Addr}{c:Str}{fs:List (Str×V)}{gs:List (Str×D)}:G.xcl c=O0 C->H a=O0 (EX.excO a C od tb)->XdA H od fs->FsV fs gs->uj G H (.ref a) (.err c gs)
 |mem {a:Addr}{F:List (List Key)->Int}:H a=O0 (.mem F G.K)->uj G H (.ref a) (.mem F)
def fy(G:Gx)(H:Hp)(xs:List V)(ds:List D):Prop:=xs.length=ds.length/\∀(i:Nat) x d,xs[i]?=O0 x->ds[i]?=O0 d->uj G H x d
theorem uj.mono{G:Gx}{H I:Hp}{v:V}{d:D}(r:uj G H v d)(s:cc H I):uj G I v d:=by
 induction r with
 |non=>exact .non
 |bl b=>exact .bl b
 |int i=>exact .int i
 |str x=>exact .str x
 |tup h l _ g=>exact .tup (Eb s h) l g
 |lst h l _ g=>exact .lst (s.seq h) l g
 |dk h l _ g=>exact .dk (s _ _ h) l g
 |dt h l _ g=>exact .dt (s _ _ h) l g
 |adr a=>exact .adr a
 |ob c h l _ g=>exact .ob c (s _ _ h) l g
 |err c h q f=>exact .err c (s _ _ h) (q.mono s) f
 |mem h=>exact .mem (s _ _ h)
theorem fy.mono{G:Gx}{H g:Hp}{xs:List V}{ds:List D}(r:fy G H xs ds)(s:cc H g):fy G g xs ds:=⟨r.1,λi x d a b=>(r.2 i x d a b).mono s⟩
def fy.nil{G:Gx}:fy G H [] []:=⟨rfl,λi x d h=>by simp at h⟩
def fy.cons{G:Gx}{H:Hp}{x:V}{d:D}{xs:List V}{ds:List D}(r:uj G H x d)(J:fy G H xs ds):fy G H (x::xs) (d::ds):=
 ⟨by simp[J.1],λi y e I g=>by
  cases i with
  |zero=>simp at I g;subst I;subst g;exact r
  |succ i=>simp at I g;exact J.2 i y e I g⟩
def fy.uncons{G:Gx}{d:D}{ds:List D}(r:fy G H xs (d::ds)):∃x ys,xs=x::ys/\uj G H x d/\fy G H ys ds:=by
 obtain⟨l,h⟩:=r;cases xs with
 |nil=>simp at l
 |cons x ys=>exact⟨x,ys,rfl,h 0 x d rfl rfl,by simpa using l,λi y e I g=>h (i+1) y e (by simpa using I) (by simpa using g)⟩
def fy.nil_inv{G:Gx}(r:fy G H xs []):xs=[]:=by
 have:=r.1;cases xs with
 |nil=>rfl
 |cons x d=>simp at this
def fy.append{G:Gx}{ds es:List D}(a:fy G H xs ds)(b:fy G H ys es):fy G H (xs++ys) (ds++es):=by
 refine⟨by rw[eI,eI,a.1,b.1],λi x d I r=>?_⟩
 by_cases g:i<xs.length
 .rw[kR g] at I;rw[kR (by rw[<-a.1];exact g)] at r;exact a.2 i x d I r
 .rw[ku (mE.mp g)] at I;rw[ku (by rw[<-a.1];exact mE.mp g),<-a.1] at r;exact b.2 _ x d I r
theorem fy.drop{G:Gx}{ds:List D}(a:fy G H xs ds)(n:Nat):fy G H (xs.drop n) (ds.drop n):=
 ⟨by rw[sq,sq,a.1],λi x d r g=>by rw[EG] at r g;exact a.2 _ x d r g⟩
theorem fy.take{G:Gx}{ds:List D}(a:fy G H xs ds)(n:Nat):fy G H (xs.take n) (ds.take n):=
 ⟨by rw[i6,i6,a.1],λi x d g I=>by
  rw[List.getElem?_take] at g I;split at g
  .rename_i r;rw[ZN r] at I;exact a.2 _ x d g I
  .cases g⟩
def fy.get{G:Gx}{ds:List D}(a:fy G H xs ds){i:Nat}{d:D}(h:ds[i]?=O0 d):∃x,xs[i]?=O0 x/\uj G H x d:=by
 have r:i<ds.length:=(jp.mp h).1;have g:i<xs.length:=by rw[a.1];exact r
 exact⟨xs[i],by simp[g],a.2 i _ d (by simp[g]) h⟩
theorem fy.atI{G:Gx}{H:Hp}{xs:List V}{ds:List D}(a:fy G H xs ds){i:Int}{d:D}(h:L2.atI ds i=O0 d):∃x,L2.atI xs i=O0 x/\uj G H x d:=by
 unfold L2.atI at h ⊢;rw[<-a.1] at h;cases e:ixN xs.length i with
 |none=>rw[e] at h;cases h
 |some j=>
  rw[e] at h;obtain⟨x,r,g⟩:=a.get (show ds[j]?=O0 d from h);exact⟨x,r,g⟩
def lu(A:List Addr)(H:Hp):Hp:=λb=>if b∈A then W1 else H b
def Ba(s:cc H H'):cc (lu A H) (lu A H'):=λb o h=>by
 unfold lu at h ⊢;split at h
 .cases h
 .rename_i d;rw[OO d];exact s b o h
def Ay:cc (lu A H) H:=λb o h=>by
 unfold lu at h;split at h
 .cases h
 .exact h
def Ji(h:∀a∈A,a∈B):cc (lu B H) (lu A H):=λb o q=>by
 unfold lu at q ⊢;split at q
 .cases q
 .rename_i d;rw[OO (λz=>d (h b z))];exact q
def Cg(h:p∉A):lu A H p=H p:=by unfold lu;rw[OO h]
theorem GZ{o:HO}(h:p∈A):lu A (mf H p o)=lu A H:=by
 funext b;unfold lu
 by_cases d:b∈A
 .rw[ZN d,ZN d]
 .rw[OO d,OO d,Aj (λe:b=p=>d (by rw[e];exact h))]
def YY(G:Gx)(A:List Addr)(H:Hp)(a:Addr):D->Prop
 |.lst ds=>∃xs,H a=O0 (.lst xs)/\fy G (lu A H) xs ds
 |.dk d=>∃kvs,H a=O0 (.dK kvs)/\kvs.map (·.1)=d.map (·.1)/\fy G (lu A H) (kvs.map (·.2)) (d.map (·.2))
 |.dt d=>∃kvs,H a=O0 (.dT kvs)/\kvs.map (·.1)=d.map (·.1)/\fy G (lu A H) (kvs.map (·.2)) (d.map (·.2))
 |.ob c O=>∃C dx fs,H a=O0 (.ins C dx fs)/\(G.cl c=O0 C/\fs.map (·.1)=O.map (·.1))/\fy G (lu A H) (fs.map (·.2)) (O.map (·.2))
 |_=>False
theorem YY.mono{G:Gx}{A:List Addr}{H J:Hp}{a:Addr}{d:D}(t:YY G A H a d)(s:cc H J):YY G A J a d:=by
 cases d with
 |lst I=>obtain⟨g,h,r⟩:=t;exact⟨g,s _ _ h,r.mono (Ba s)⟩
 |dk I=>obtain⟨g,h,k,r⟩:=t;exact⟨g,s _ _ h,k,r.mono (Ba s)⟩
 |dt I=>obtain⟨g,h,k,r⟩:=t;exact⟨g,s _ _ h,k,r.mono (Ba s)⟩
 |ob c O=>obtain⟨C,dx,g,h,k,r⟩:=t;exact⟨C,dx,g,s _ _ h,k,r.mono (Ba s)⟩
 |_=>exact t.elim
structure Nt (x:Option HO):Prop where
 ne:x≠W1
 tup:∀xs,x≠O0 (.tup xs)
def Nt.mono{x y:Option HO}(h:Nt x)(k:∀u,x=O0 u->y=O0 u):Nt y:=by
 cases x with
 |none=>exact QO rfl h.ne
 |some u=>rw[k u rfl];exact h
theorem Nt.lst{xs:List V}:Nt (O0 (.lst xs)):=⟨λz=>(nomatch z),λ_ z=>(nomatch z)⟩
theorem Nt.dK{xs:List (Key×V)}:Nt (O0 (.dK xs)):=⟨λz=>(nomatch z),λ_ z=>(nomatch z)⟩
theorem Nt.dT{xs:List (List Key×V)}:Nt (O0 (.dT xs)):=⟨λz=>(nomatch z),λ_ z=>(nomatch z)⟩
theorem Nt.ins{dx:Addr}{xs:List (Str×V)}:Nt (O0 (.ins C dx xs)):=⟨λz=>(nomatch z),λ_ z=>(nomatch z)⟩
structure WV (G:Gx) (A:List Addr) (σ:St) (H:Hp) (ρ:Rho):Prop where
 len:σ.length=ρ.length
 live:∀a∈A,Nt (H a)
 fz:∀(i:Nat) (d:D),ρ[i]?=O0 (.fz d)->∃v,σ[i]?=O0 (O0 v)/\uj G (lu A H) v d
 ow:∀(i:Nat) (d:D),ρ[i]?=O0 (.ow d)->∃a,σ[i]?=O0 (O0 (.ref a))/\a∈A/\YY G A H a d
 inj:∀(i j:Nat) (d e:D) (a:Addr),ρ[i]?=O0 (.ow d)->ρ[j]?=O0 (.ow e)->σ[i]?=O0 (O0 (.ref a))->σ[j]?=O0 (O0 (.ref a))->i=j
theorem WV.mono{G:Gx}{A:List Addr}{g:St}{H r:Hp}{ρ:Rho}(o:WV G A g H ρ)(s:cc H r):WV G A g r ρ:=
 ⟨o.len,λa I=>(o.live a I).mono λu e=>s _ _ e,
  λi d h=>let ⟨v,h1,h2⟩:=o.fz i d h;⟨v,h1,h2.mono (Ba s)⟩,λi d h=>let ⟨a,h1,h2,h3⟩:=o.ow i d h;⟨a,h1,h2,h3.mono s⟩,o.inj⟩
def Hb(G:Gx)(A:List Addr)(H:Hp)(v:V)(d:D):Prop:=uj G (lu A H) v d∨∃a,v=.ref a/\YY G A H a d
theorem Hb.mono{G:Gx}{A:List Addr}{H g:Hp}{v:V}{d:D}(r:Hb G A H v d)(s:cc H g):Hb G A g v d:=by
 rcases r with r | ⟨a,e,r⟩
 .exact .inl (r.mono (Ba s))
 .exact .inr ⟨a,e,r.mono s⟩
theorem Hb.lst{G:Gx}{A:List Addr}{H:Hp}{v:V}{ds:List D}(r:Hb G A H v (.lst ds)):∃a xs,v=.ref a/\Qr G.K H a xs/\fy G (lu A H) xs ds:=by
 rcases r with r | ⟨a,e,xs,h,r⟩
 .cases r with
  |lst h l r=>exact⟨_,_,rfl,Ay.seq h,l,r⟩
 .exact⟨a,xs,e,.of h,r⟩
theorem Hb.tup{G:Gx}{A:List Addr}{H:Hp}{v:V}{ds:List D}(r:Hb G A H v (.tup ds)):∃a xs,v=.ref a/\Qb G.K H a xs/\fy G (lu A H) xs ds:=by
 rcases r with r | ⟨a,e,r⟩
 .cases r with
  |tup h l r=>exact⟨_,_,rfl,Eb Ay h,l,r⟩
 .exact r.elim
theorem Hb.int{G:Gx}{i:Int}(r:Hb G A H v (.int i)):v=.int i:=by
 rcases r with r | ⟨a,e,r⟩
 .cases r;rfl
 .exact r.elim
theorem Hb.str{G:Gx}{i:Str}(r:Hb G A H v (.str i)):v=.str i:=by
 rcases r with r | ⟨a,e,r⟩
 .cases r;rfl
 .exact r.elim
theorem Hb.bl{G:Gx}{i:Bool}(r:Hb G A H v (.bl i)):v=.bl i:=by
 rcases r with r | ⟨a,e,r⟩
 .cases r;rfl
 .exact r.elim
theorem Hb.non{G:Gx}(r:Hb G A H v .non):v=.non:=by
 rcases r with r | ⟨a,e,r⟩
 .cases r;rfl
 .exact r.elim
theorem Hb.dk{G:Gx}{A:List Addr}{H:Hp}{v:V}{d:List (Key×D)}(r:Hb G A H v (.dk d)):∃a kvs,v=.ref a/\Rd H a (.dK kvs)/\kvs.map (·.1)=d.map (·.1)/\fy G (lu A H) (kvs.map (·.2)) (d.map (·.2)):=by
 rcases r with r | ⟨a,e,kvs,h,k,r⟩
 .cases r with
  |dk h k r=>
   refine⟨_,_,rfl,.inr ⟨_,Ay _ _ h⟩,k,?_,r⟩;have:=UO eS k;rw[aI,aI] at this ⊢;exact this
 .exact⟨a,kvs,e,.of h,k,r⟩
def Vb(live:∀a∈A,Nt (H a))(d:H p=W1)(o:HO):lu A (mf H p o) p=O0 o:=by
 rw[Cg (λz=>(live p z).ne d),Ah]
def Er{G:Gx}{ds:List D}(live:∀a∈A,Nt (H a))(d:H p=W1)(r:fy G (lu A H) xs ds):uj G (lu A (mf H p (.lst xs))) (.ref p) (.lst ds):=
 let q:=r.mono (Ba (Ao d (.lst xs)));.lst (.of (Vb live d _)) q.1 q.2
def Gf{G:Gx}{ds:List D}(live:∀a∈A,Nt (H a))(d:H p=W1)(r:fy G (lu A H) xs ds):uj G (lu A (mf H p (.tup xs))) (.ref p) (.tup ds):=
 let q:=r.mono (Ba (Ao d (.tup xs)));.tup (.of (Vb live d _)) q.1 q.2
def tF(G:Gx)(A:List Addr)(f:FE):TE:=λr H Q=>∃ρ d,WV G A r H ρ/\f ρ=O0 d/\∀v g,cc H g->uj G (lu A g) v d->Q v g
def tT(G:Gx)(A:List Addr)(f:FE):TE:=λr H Q=>∃ρ d,WV G A r H ρ/\f ρ=O0 d/\∀v g,cc H g->Hb G A g v d->Q v g
def PF(X:Cx)(G:Gx)(e:Expr)(f:FE):Prop:=∀⦃A⦄,PE X e (tF G A f)
def PU(X:Cx)(G:Gx)(e:Expr)(f:FE):Prop:=∀⦃A⦄,PE X e (tT G A f)
def Bt{t t':TE}(h:PE X e t)(w:∀σ H Q,t' σ H Q->t σ H Q):PE X e t':=λr s σ H Q I q=>h r s σ H Q I (w σ H Q q)
def PF.pu{G:Gx}{f:FE}(h:PF X G e f):PU X G e f:=λA=>Bt (@h A) (by rintro J H Q ⟨g,d,o,e,k⟩;exact ⟨g,d,o,e,λv I s r=>k v I s (.inl r)⟩)
def tFA(G:Gx)(A:List Addr)(f:FA):TA:=λg H Q=>∃ρ ds,WV G A g H ρ/\f ρ=O0 ds/\∀vs d,cc H d->fy G (lu A d) vs ds->Q vs d
def PFA(X:Cx)(G:Gx)(es:List Expr)(f:FA):Prop:=∀⦃A⦄,PA X es (tFA G A f)
def wC{e:List Expr}{t t':TA}(h:PA X e t)(w:∀σ H Q,t' σ H Q->t σ H Q):PA X e t':=λd r s σ H Q I q=>h d r s σ H Q I (w σ H Q q)
def tFT(G:Gx)(A:List Addr)(f:FT):TT:=λg H Q=>∃ρ b,WV G A g H ρ/\f ρ=O0 b/\∀d,cc H d->Q b d
def Zl(X:Cx)(G:Gx)(e:Expr)(f:FT):Prop:=∀⦃A⦄,PT X e (tFT G A f)
def ZY(X:Cx)(G:Gx)(e:Expr)(f:FT):Prop:=∀⦃A⦄,PW X e (tFT G A f)
def a_{t t':TT}(h:PT X e t)(w:∀σ H Q,t' σ H Q->t σ H Q):PT X e t':=λr s σ H Q I q=>h r s σ H Q I (w σ H Q q)
def jU{t t':TT}(h:PW X e t)(w:∀σ H Q,t' σ H Q->t σ H Q):PW X e t':=λd r s σ H Q I q=>h d r s σ H Q I (w σ H Q q)
section
variable {G:Gx}{a b c:Expr}{fa fb:FE}
def yZ(i:Nat){x:Str}(h:PE X (.Name x pos) (TR i)):PF X G (.Name x pos) (vF i):=λA=>Bt h<|by
 rintro I H Q ⟨O,d,o,e,k⟩
 unfold vF at e;split at e
 .rename_i S J;cases e;obtain⟨v,r,g⟩:=o.fz i _ J;exact⟨v,r,k v H (cc.refl H) g⟩
 .cases e
theorem yc(i:Nat){x:Str}(h:PE X (.Name x pos) (TR i)):PU X G (.Name x pos) (vU i):=λA=>Bt h<|by
 rintro O H Q ⟨S,d,o,e,k⟩
 unfold vU at e;split at e
 .rename_i I J;cases e;obtain⟨v,r,g⟩:=o.fz i _ J;exact⟨v,r,k v H (cc.refl H) (.inl g)⟩
 .rename_i I J;cases e;obtain⟨p,r,_,g⟩:=o.ow i _ J;exact⟨.ref p,r,k _ H (cc.refl H) (.inr ⟨p,rfl,g⟩)⟩
 .cases e
def Jz{d:D}(h:PE X a (tC v))(r:uj G (λ_=>W1) v d):PF X G a (kF d):=λA=>Bt h<|by
 rintro g H Q ⟨I,J,o,e,k⟩
 cases e;exact k v H (cc.refl H) (r.mono λb o z=>nomatch z)
def Qg{i j}:PF X G (.Constant (.int i) j pos) (kF (.int i)):=Jz xu (.int i)
def KC{b j}:PF X G (.Constant (.bool b) j pos) (kF (.bl b)):=Jz AAm (.bl b)
def Zi{j}:PF X G (.Constant .none j pos) (kF .non):=Jz xx .non
def TX{x j}:PF X G (.Constant (.str x) j pos) (kF (.str x)):=Jz x_ (.str x)
def Ec(G:Gx)(r:R2)(g:D->D->Option D):Prop:=∀(A:List Addr) (H:Hp) (x y:V) (dx J d:D) (Q:VK),(∀a∈A,Nt (H a))->Hb G A H x dx->Hb G A H y J->g dx J=O0 d->(∀v I,cc H I->uj G (lu A I) v d->Q v I)->r x y H Q
def PQ{g:D->D->Option D}{ρ:Rho}{d:D}(h:bF g fa fb ρ=O0 d):∃x y,fa ρ=O0 x/\fb ρ=O0 y/\g x y=O0 d:=by
 unfold bF at h;cases I:fa ρ with
 |none=>rw[I] at h;cases h
 |some x=>
  rw[I] at h;cases r:fb ρ with
  |none=>simp[r] at h
  |some y=>simp[r] at h;exact⟨x,y,rfl,rfl,h⟩
def TY{r:R2}{g:D->D->Option D}(s:Ec G r g){A:List Addr}{J:St}{H:Hp}{Q:VK}(h:tF G A (bF g fa fb) J H Q):tOp r (tT G A fa) (tT G A fb) J H Q:=by
 obtain⟨O,d,o,e,k⟩:=h;obtain⟨x,y,e1,e2,Z⟩:=PQ e;exact⟨O,x,o,e1,λv H1 I Y=>⟨O,y,o.mono I,e2,λu H2 T W=>s A H2 v u x y d Q ((o.mono I).mono T).live (Y.mono T) W Z λw H3 S U=>k w H3 (I.trans (T.trans S)) U⟩⟩
def Ga{op:Operator}{r:R2}{g:D->D->Option D}(d:PZ X (ii op) r)(s:Ec G r g)(ha:PU X G a fa)(hb:PU X G b fb):PF X G (.BinOp a op b pos) (bF g fa fb):=
 λA=>Bt (v7 d (@ha A) (@hb A)) λ_ _ _ h=>TY s h
def Zj{op:kH}{r:R2}{g:D->D->Option D}(d:PZ X (dS op) r)(s:Ec G r g)(ha:PU X G a fa)(hb:PU X G b fb)(I:gu op b=ZA):PF X G (.Compare a [op] [b] pos) (bF g fa fb):=
 λA=>Bt (aa d (@ha A) (@hb A) I) λ_ _ _ h=>TY s h
def Xr{f:FE}{ρ:Rho}{b:Bool}(h:tx f ρ=O0 b):f ρ=O0 (.bl b):=by
 unfold tx at h;split at h
 .rename_i e;cases h;exact e
 .cases h
def JB{op:kH}{r:R2}{g:D->D->Option D}(S:PZ X (dS op) r)(s:Ec G r g)(ha:PU X G a fa)(hb:PU X G b fb)(T:gu op b=ZA):Zl X G (.Compare a [op] [b] pos) (tx (bF g fa fb)):=
 λA=>a_ (aj S (@ha A) (@hb A) T) λW H Q ⟨I,d,o,e,k⟩=>TY s ⟨I,.bl d,o,Xr e,λv U J O=>by cases O;exact⟨d,rfl,k U J⟩⟩
def PX{g:Int->Int->Option D}{x y d:D}(h:iiD g x y=O0 d):∃i j,x=.int i/\y=.int j/\g i j=O0 d:=by
 unfold iiD at h;split at h
 .exact⟨_,_,rfl,rfl,h⟩
 .cases h
def Tc{g:Int->Int->V}{g':Int->Int->D}(e:∀i j H,uj G H (g i j) (g' i j)):Ec G (rI0 g) (iiD λi j=>O0 (g' i j)):=by
 intro A H x y dx J d Q I rx r h k;obtain⟨i,j,rfl,rfl,h⟩:=PX h;cases h;exact⟨i,j,rx.int,r.int,k _ H (cc.refl H) (e i j _)⟩
def Qh{C:Int->Int->Prop}{g:Int->Int->V}{g':Int->Int->D}[∀i j,Decidable (C i j)](e:∀i j H,uj G H (g i j) (g' i j)):Ec G (rI C g) (iiD λi j=>if C i j then O0 (g' i j) else W1):=by
 intro A H x y dx S d Q O rx r h k;obtain⟨i,j,rfl,rfl,J⟩:=PX h
 by_cases I:C i j
 .rw[ZN I] at J;cases J;exact⟨i,j,rx.int,r.int,I,k _ H (cc.refl H) (e i j _)⟩
 .rw[OO I] at J;cases J
def sS:Ec G (rI0 λi j=>.int (i-j)) subD:=Tc λi j H=>.int _
theorem Nr.ok{i j:Int}(h:Nr i j):IntMulOk i j:=by
 rcases h with h | h
 .exact h.ok
 .exact IntMulOk.of_le h.1 h.2 .(2)
def sU:PZ X (ii .Mult) (rI Nr λi j=>.int (i*j)):=opI λ_ _ _ _ _ _ _ I q=>mul_int q I.ok
def WD:PZ X (ii .LShift) (rI CShl λi j=>.int (i*2^j.toNat)):=opI λi j _ _ _ _ _ I q=>lshift_int I.1 (by have g:=I.2.1;have d:=I.2.2;omega) q
def sV:Ec G (rI Nr λi j=>.int (i*j)) mulD:=Qh λi j H=>.int _
def jV:Ec G (rI CDiv λi j=>.int (i/j)) Cr:=Qh λi j H=>.int _
theorem sX:Ec G (rI (λ_ j=>0<j) λi j=>.int (i%j)) rz:=Qh (C:=λ_ j=>0<j) λi j H=>.int _
def bA:Ec G (rI CPow λi j=>.int (i^j.toNat)) powD:=Qh λi j H=>.int _
def WF:Ec G (rI CShl λi j=>.int (i*2^j.toNat)) shlD:=Qh λi j H=>.int _
theorem bB:Ec G (rI (λ_ j=>0<=j) λi j=>.int (i/2^j.toNat)) shrD:=Qh (C:=λ_ j=>0<=j) λi j H=>.int _
def Xu:Ec G (rI0 λi j=>.int (vS i j)) az:=Tc λi j H=>.int _
def ye:Ec G (rI0 λi j=>.bl (decide (i<j))) ltD:=Tc λi j H=>.bl _
def yf:Ec G (rI0 λi j=>.bl (decide (j<i))) gtD:=Tc λi j H=>.bl _
def yg:Ec G (rI0 λi j=>.bl (decide (j<=i))) geD:=Tc λi j H=>.bl _
def wD(K:ay):R2:=λx y H Q=>∃l b xs d,x=.ref l/\y=.ref b/\Qr K H l xs/\Qr K H b d/\xs.length+d.length<=sizeLine/\∀p,H p=W1->Q (.ref p) (mf H p (.lst (xs++d)))
theorem bC:PZ X (ii .Add) (wD X.K):=by
 intro π s σ H x y v u Q I rx ry h;obtain⟨l,b,xs,zs,rfl,rfl,hl,hb,hz,q⟩:=h;cases rx;cases ry;obtain⟨g,r,pl,z⟩:=I.list hl;obtain⟨d,Z,U,z2⟩:=I.list hb;have e1:=r.length;have e2:=Z.length;obtain⟨⟨cls,dd,r0,sl⟩,ho,hc,n,hd⟩:=pl.isList;obtain⟨⟨S0,W,Y,T⟩,J,S,n2,O⟩:=U.isList;simp only at hc hd S O;subst hc hd S O;refine AX ⟨_,ho,rfl⟩ ⟨_,J,rfl⟩ noFill_list_add seq_list_add PySem.F.slot_list_add PySem.F.entry_list_add (PySem.F.args_list_add_2 _ _) (list_addW l b g.toArray d.toArray n n2 dd W sl T (by rw[cS,cS];omega)) ⟨ho,J,?_⟩;have ea:g.toArray++d.toArray=(g++d).toArray:=by simp
 rw[ea];exact⟨.ref _,_,I.lnew (t':=s.toks) (r.append Z) (by rw[eI];omega),rfl,q _ I.fresh⟩
def rAdd(K:ay):R2:=λx y H Q=>(rI0 λi j=>.int (i+j)) x y H Q∨((λx y H Q=>∃i j,x=.str i/\y=.str j/\i.length+j.length<=sizeLine/\Q (.str (i++j)) H) x y H Q∨wD K x y H Q)
def sY:PZ X (ii .Add) (rAdd X.K):=yL.or (ZV.or bC)
def sZ:Ec G (rAdd G.K) OT:=by
 intro A H x y dx Z d Q U rx g h k;unfold OT at h;split at h
 .cases h;exact .inl ⟨_,_,rx.int,g.int,k _ H (cc.refl H) (.int _)⟩
 .split at h
  .rename_i S;cases h;exact .inr (.inl ⟨_,_,rx.str,g.str,S,k _ H (cc.refl H) (.str _)⟩)
  .cases h
 .split at h
  .rename_i S;cases h;obtain⟨l,T,rfl,Y,I⟩:=rx.lst;obtain⟨m,O,rfl,W,r⟩:=g.lst;exact .inr (.inr ⟨l,m,T,O,rfl,rfl,Y,W,by rw[I.1,r.1];exact S,λp J=>k _ _ (Ao J _) (Er U J (I.append r))⟩)
  .cases h
 .cases h
def Zk{op:BoolOp}(h:PF X G a fa):PF X G (.BoolOp op [a] pos) fa:=λA=>yG (@h A)
def jW{rest:List Expr}(ha:PF X G a fa)(hb:PF X G (.BoolOp .And (b::rest) pos) fb):PF X G (.BoolOp .And (a::b::rest) pos) (andF fa fb):=λA=>Bt (yH (@ha A) (@hb A))<|by
 rintro W H Q ⟨r,d,o,e,k⟩
 unfold andF at e;split at e
 .rename_i J;refine⟨r,_,o,J,λv O g I=>?_⟩;cases I;refine⟨E3,rfl,?_⟩;rw[ZN rfl];exact⟨r,d,o.mono g,e,λv U T S=>k v U (g.trans T) S⟩
 .rename_i J;refine⟨r,_,o,J,λv O g I=>?_⟩;cases I;refine⟨ZA,rfl,?_⟩;rw[OO dP];cases e;exact k _ O g (.bl ZA)
 .cases e
def ABL{rest:List Expr}(ha:PF X G a fa)(hb:PF X G (.BoolOp .Or (b::rest) pos) fb):PF X G (.BoolOp .Or (a::b::rest) pos) (orF fa fb):=λA=>Bt (AAo (@ha A) (@hb A))<|by
 rintro W H Q ⟨r,d,o,e,k⟩
 unfold orF at e;split at e
 .rename_i J;refine⟨r,_,o,J,λv O g I=>?_⟩;cases I;refine⟨E3,rfl,?_⟩;rw[ZN rfl];cases e;exact k _ O g (.bl E3)
 .rename_i J;refine⟨r,_,o,J,λv O g I=>?_⟩;cases I;refine⟨ZA,rfl,?_⟩;rw[OO dP];exact⟨r,d,o.mono g,e,λv U T S=>k v U (g.trans T) S⟩
 .cases e
variable {ga gb:FT}
theorem ZY.pt(h:ZY X G a ga):Zl X G a ga:=λA=>(@h A).pt
def Oe(h:Zl X G a ga):ZY X G (.BoolOp .And [a] pos) ga:=λA=>q_ (@h A)
def Cq(h:Zl X G a ga):ZY X G (.BoolOp .Or [a] pos) ga:=λA=>iM (@h A)
def WK{rest:List Expr}(ha:Zl X G a ga)(hb:ZY X G (.BoolOp .And (b::rest) pos) gb):ZY X G (.BoolOp .And (a::b::rest) pos) (andT ga gb):=λA=>jU (yE (@ha A) (@hb A))<|by
 rintro S H Q ⟨r,d,o,e,k⟩
 unfold andT at e;split at e
 .rename_i I;exact⟨r,_,o,I,λJ g=>iteT ⟨r,d,o.mono g,e,λO T=>k O (g.trans T)⟩⟩
 .rename_i I;cases e;exact⟨r,_,o,I,λJ g=>iteF (k J g)⟩
 .cases e
def Gj{rest:List Expr}(ha:Zl X G a ga)(hb:ZY X G (.BoolOp .Or (b::rest) pos) gb):ZY X G (.BoolOp .Or (a::b::rest) pos) (orT ga gb):=λA=>jU (v5 (@ha A) (@hb A))<|by
 rintro S H Q ⟨r,d,o,e,k⟩
 unfold orT at e;split at e
 .rename_i I;cases e;exact⟨r,_,o,I,λJ g=>iteT (k J g)⟩
 .rename_i I;exact⟨r,_,o,I,λJ g=>iteF ⟨r,d,o.mono g,e,λO T=>k O (g.trans T)⟩⟩
 .cases e
def Jj(ha:Zl X G a ga):Zl X G (.UnaryOp .Not a pos) (Sj ga):=λA=>a_ (yF (@ha A))<|by
 rintro O H Q ⟨r,d,o,e,k⟩
 unfold Sj at e;cases g:ga r with
 |none=>rw[g] at e;cases e
 |some b=>rw[g] at e;cases e;exact⟨r,b,o,g,λJ I=>k J I⟩
def RZ{r g:Type}{xs:List r}{d:List g}(h:xs.length=d.length):xs.isEmpty=d.isEmpty:=by
 cases xs<;>cases d<;>simp at h ⊢
def Hh(ha:PU X G a fa)(Y:G.K=X.K)(W:∀whole,pj a X.env whole=(do let v <-whole;o0 a.pos;lS [v] (truthy v)):=by intro _;rfl):Zl X G a (λρ=>(fa ρ).bind truD):=λA=>a_ (ir (@ha A) W)<|by
 rintro σ H Q ⟨ρ,b,o,e,k⟩
 cases O:fa ρ with
 |none=>simp[O] at e
 |some d=>
  have S:truD d=O0 b:=by simpa [O] using e
  refine⟨ρ,d,o,O,λv H1 T g=>⟨b,?_,k H1 T⟩⟩;rw[<-Y];cases d with
  |non=>rw[g.non];exact (dc S).symm
  |bl b'=>rw[g.bl];exact (dc S).symm
  |int i=>rw[g.int];exact (dc S).symm
  |str y=>
   rw[g.str];simp only[truD] at S;split at S
   .rename_i U;exact⟨U,(dc S).symm⟩
   .cases S
  |lst Z=>
   obtain⟨p,r,rfl,J,I⟩:=g.lst;refine .inl ⟨r,J,?_⟩;rw[RZ I.1];exact (dc S).symm
  |tup Z=>
   obtain⟨p,r,rfl,J,I⟩:=g.tup;refine .inr (.inl ⟨r,J,?_⟩);rw[RZ I.1];exact (dc S).symm
  |_=>cases S
def bD(ht:Zl X G c ga)(ha:PF X G a fa)(hb:PF X G b fb):PF X G (.IfExp c a b pos) (ifF ga fa fb):=λA=>Bt (iQ (@ht A) (@ha A) (@hb A))<|by
 rintro U H Q ⟨r,d,o,e,k⟩
 unfold ifF at e;split at e
 .rename_i I;exact⟨r,_,o,I,λO g=>iteT ⟨r,d,o.mono g,e,λv J T S=>k v J (g.trans T) S⟩⟩
 .rename_i I;exact⟨r,_,o,I,λO g=>iteF ⟨r,d,o.mono g,e,λv J T S=>k v J (g.trans T) S⟩⟩
 .cases e
variable {es:List Expr}{fs:FA}
def Ab:PFA X G [] am:=λA=>wC DK<|by rintro g H Q ⟨d,I,o,e,k⟩;cases e;exact k [] H (cc.refl H) fy.nil
def Ae(ha:PF X G a fa)(hr:PFA X G es fs)(hs:aE (a::es) X.env=(ZA,eval a X.env)::aE es X.env:=by rfl):PFA X G (a::es) (Aa fa fs):=λA=>wC (Bl (@ha A) (@hr A) hs)<|by
 rintro Y H Q ⟨g,ds,o,e,k⟩
 unfold Aa at e;cases r:fa g with
 |none=>simp[r] at e
 |some d=>
  cases I:fs g with
  |none=>simp[r,I] at e
  |some J=>
   simp[r,I] at e;subst e;exact⟨g,d,o,r,λv H1 O U=>⟨g,J,o.mono O,I,λZ W T S=>k _ W (O.trans T) (.cons (U.mono (Ba T)) S)⟩⟩
def Gk{x1}(h:PFA X G es fs):PF X G (.Tuple es x1 pos) (RS fs):=λA=>Bt (V5 (@h A))<|by
 rintro W H Q ⟨r,d,o,e,k⟩
 unfold RS at e;cases g:fs r with
 |none=>simp[g] at e
 |some I=>
  rw[g] at e;have S:(if I.length<=sizeLine then O0 (D.tup I) else W1)=O0 d:=e;split at S
  .rename_i U;cases S;exact⟨r,I,o,g,λY Z J O=>⟨by rw[O.1];exact U,λp T=>k _ _ (J.trans (Ao T _)) (Gf (o.mono J).live T O)⟩⟩
  .cases S
def Bk(h:PFA X G es fs):PF X G (.List es pos) (pp fs):=λA=>Bt (jA (@h A))<|by
 rintro W H Q ⟨r,d,o,e,k⟩
 unfold pp at e;cases g:fs r with
 |none=>simp[g] at e
 |some I=>
  rw[g] at e;have S:(if I.length<=sizeLine then O0 (D.lst I) else W1)=O0 d:=e;split at S
  .rename_i U;cases S;exact⟨r,I,o,g,λY Z J O=>⟨by rw[O.1];exact U,λp T=>k _ _ (J.trans (Ao T _)) (Er (o.mono J).live T O)⟩⟩
  .cases S
def jX:Ec G (rIx G.K) ixD:=by
 intro A H x y dx W d Q U rx r h k;unfold ixD at h;split at h
 .obtain⟨p,g,rfl,O,I⟩:=rx.lst;obtain⟨v,J,S⟩:=I.atI h;exact .inl ⟨p,g,_,v,rfl,r.int,O,J,k v H (cc.refl H) S⟩
 .obtain⟨p,g,rfl,O,I⟩:=rx.tup;obtain⟨v,J,S⟩:=I.atI h;exact .inr (.inl ⟨p,g,_,v,rfl,r.int,O,J,k v H (cc.refl H) S⟩)
 .split at h
  .rename_i z i T;cases e:atI z.cps.toList i with
   |none=>rw[e] at h;cases h
   |some c=>
    rw[e] at h;cases h;exact .inr (.inr ⟨z,i,c,rx.str,r.int,T,e,k _ H (cc.refl H) (.str _)⟩)
  .cases h
 .cases h
def ABM(Y:G.K=X.K)(ha:PU X G a fa)(hb:PU X G b fb)(hs:O9 b):PF X G (.Subscript a b pos) (bF ixD fa fb):=
 λA=>Bt (v9 (r:=rIx X.K) jG (@ha A) (@hb A) hs) λ_ _ _ h=>TY (by rw[<-Y];exact jX) h
def tFO(G:Gx)(A:List Addr)(f:FO):TO:=λg H Q=>∃ρ o,WV G A g H ρ/\f ρ=O0 o/\∀d,cc H d->Q o d
def PFO(X:Cx)(G:Gx)(e:Option Expr)(f:FO):Prop:=∀⦃A⦄,PO X e (tFO G A f)
def wF{e:Option Expr}{t t':TO}(h:PO X e t)(w:∀σ H Q,t' σ H Q->t σ H Q):PO X e t':=λr s σ H Q I q=>h r s σ H Q I (w σ H Q q)
def JC:PFO X G W1 noO:=λA=>wF rN<|by rintro g H Q ⟨d,o,ok,e,k⟩;cases e;exact k H (cc.refl H)
def Gm(h:PU X G a fa):PFO X G (O0 a) (Pp fa):=λA=>wF (rP (@h A))<|by
 rintro O H Q ⟨g,o,ok,e,k⟩
 unfold Pp at e;split at e
 .rename_i i I;cases e;exact⟨g,_,ok,I,λv J d r=>⟨i,r.int,k J d⟩⟩
 .cases e
def fy.cut{ds:List D}(r:fy G H xs ds)(d g:Option Int):fy G H (cutV xs d g) (Rl ds d g):=by
 unfold cutV Rl;rw[r.1];exact (r.drop _).take _
end
end PV
def L2.Room.unitsW{k:Nat}{A:PySem.Around}(r:L2.Room k A):A.units+190<PySem.cLine:=by have:=r.un;omega
namespace PV
open PySem PySem.Spec L2
open PyProof.Rows hiding St
section
variable {G:Gx}{a b c:Expr}{fa fb:FE}
section
open Builtin.Str
def Xv(n:Nat)(v:Option Int)(d:Nat)(g:d<=n):(match v with | none=>(d:Int) | some i=>max 0 (min (if i<0 then i+(n:Int) else i) (n:Int)))=(HT.sIx n d v:Int):=by
 cases v with
 |none=>rfl
 |some i=>
  simp only[HT.sIx];split<;>omega
def su(n d:Nat)(v:Option Int)(g:d<=n):HT.sIx n d v<=n:=by
 cases v with
 |none=>exact g
 |some i=>simp only[HT.sIx];split<;>omega
theorem Zm(r d:Option Int)(n:Nat):strSliceIndices r d 1 n=(br (HT.sIx n n d-HT.sIx n 0 r)).map (λk=>HT.sIx n 0 r+k):=by
 have O:=Xv n r 0 (gL _);have J:=Xv n d n (aS _);have g:((1:Int) > 0):=by decide
 have e:strSliceIndices r d 1 n=EH (HT.sIx n 0 r:Int) (HT.sIx n n d:Int) 1:=by
  unfold strSliceIndices;simp only[g,XO];exact congrFun (congr (UO EH O) J) 1
 rw[e];unfold EH;simp only[g,XO];generalize HT.sIx n 0 r=a;generalize HT.sIx n n d=b;have I:(if (a:Int)<(b:Int) then ((b:Int)-a+1-1)/1 else 0).toNat=b-a:=by
  split
  .rw[K2];omega
  .omega
 rw[I];apply tf;intro k _;omega
theorem fQ(x:Str)(r hi:Option Int):B7 x r hi=cutS x r hi:=by
 have U:=su x.length x.length hi (aS _);have J:x.cps.toList.length=x.length:=by simp[yB]
 unfold B7 cutS Rl;rw[Zm,J];generalize HT.sIx x.length 0 r=a at *;generalize HT.sIx x.length x.length hi=b at *;rw[aI,oy];split
 .rename_i h;simp only[eW,WO] at h;have O:b-a=x.length:=h.2
  by_cases W:x.length=0
  .have:x.cps.toList=[]:=qv.mp .(0);cases x with
   |mk c=>
    simp at this;subst this;simp
  .have S:a=0:=by omega
   subst S;have:b=x.length:=by omega
   subst this;rw[L9,Nat.sub_zero,EI .(0)]
 .congr 1;apply UO;apply Lc;intro i;rw[Ee];have d:∀m,m<=b-a->(List.filterMap ((λk=>x.cps[k]?) ∘ λk=>a+k) (br m))=((x.cps.toList.drop a).take m):=by
   intro m
   induction m with
   |zero=>intro _;simp
   |succ m I=>
    intro T;rw[EJ,List.filterMap_append,I .(0)];have g:a+m<x.cps.size:=by have:x.length=x.cps.size:=rfl;omega
    rw[List.take_succ_eq_append_getElem (by simp;omega)];simp[g]
  rw[d _ (aS _)]
end
def rSlS:V->Option Int->Option Int->Hp->VK->Prop:=λx r d H Q=>∃z,x=.str z/\z.length<=sizeLine/\Q (.str (B7 z r d)) H
theorem yh:SlR X rSlS:=by
 intro π s Y H x v vl vu U W sl Q I rx hs pl pu h;obtain⟨z,rfl,hz,q⟩:=h;obtain⟨t,rfl⟩:=rx;obtain⟨o,J,r,g⟩:=hs;have d:∀S k,EP X π Y Q (.str (B7 z U W) S) { s with toks:=k }:=λS k=>⟨.str _,H,I.tok _,⟨S,rfl⟩,q⟩;have Z:=dA (Txt.slice_le z U W) hz;refine⟨"str",_,PySem.F.slot_str_getitem.lookup,ED _ _ _,?_⟩;cases pl with
 |none=>
  cases pu with
  |none=>exact B8 (l:=W1) (u:=W1) (st:=W1) ⟨o,J,r,g⟩ rfl (B9 ⟨Z,d⟩)
  |int j O=>exact B8 (l:=W1) (u:=O0 (j,O)) (st:=W1) ⟨o,J,r,g⟩ rfl (B9 ⟨Z,d⟩)
 |int i T=>
  cases pu with
  |none=>exact B8 (l:=O0 (i,T)) (u:=W1) (st:=W1) ⟨o,J,r,g⟩ rfl (B9 ⟨Z,d⟩)
  |int j O=>exact B8 (l:=O0 (i,T)) (u:=O0 (j,O)) (st:=W1) ⟨o,J,r,g⟩ rfl (B9 ⟨Z,d⟩)
def rSl(K:ay):V->Option Int->Option Int->Hp->VK->Prop:=λx r d H Q=>rSlL K x r d H Q∨(rSlT K x r d H Q∨rSlS x r d H Q)
def yj:SlR X (rSl X.K):=rW.or (yS.or yh)
def Hs{lo hi:Option Expr}{gl gh:FO}(hG:G.K=X.K)(ha:PU X G a fa)(hl:PFO X G lo gl)(hh:PFO X G hi gh):PF X G (.Subscript a (.Slice lo hi W1 p2) pos) (slF fa gl gh):=λA=>Bt (jF (yj (X:=X)) (@ha A) (@hl A) (@hh A))<|by
 rintro σ H Q ⟨g,d,o,e,k⟩
 unfold slF at e;cases I:fa g with
 |none=>simp[I] at e
 |some x=>
  cases O:gl g with
  |none=>simp[I,O] at e
  |some l=>
   cases e3:gh g with
   |none=>simp[I,O,e3] at e
   |some h=>
    have S:slD x l h=O0 d:=by simpa [I,O,e3] using e
    refine⟨g,x,o,I,λv H1 J r1=>⟨g,l,o.mono J,O,λH2 T=>⟨g,h,(o.mono J).mono T,e3,λH3 Y=>?_⟩⟩⟩;have r3:=(r1.mono T).mono Y;have o3:=((o.mono J).mono T).mono Y;have Z:=J.trans (T.trans Y);unfold slD at S;split at S
    .cases S;obtain⟨p,W,rfl,h1,r⟩:=r3.lst;exact .inl ⟨p,W,rfl,by rw[<-hG];exact h1,λq U=>k _ _ (Z.trans (Ao U _)) (Er o3.live U (r.cut _ _))⟩
    .split at S
     .cases S
     .rename_i hw;cases S;obtain⟨p,W,rfl,h1,r⟩:=r3.tup;exact .inr (.inl ⟨p,W,rfl,by rw[<-hG];exact h1,by rw[r.1];exact hw,λq U=>k _ _ (Z.trans (Ao U _)) (Gf o3.live U (r.cut _ _))⟩)
    .split at S
     .rename_i hz;cases S;refine .inr (.inr ⟨_,r3.str,hz,?_⟩);rw[fQ];exact k _ _ Z (.str _)
     .cases S
    .cases S
def WL{u:V}{d:D}(r:Hb G A H v d)(h:VT d=O0 u):v=u/\K4 v=E3:=by
 cases d with
 |non=>cases h;rw[r.non];exact⟨rfl,rfl⟩
 |bl b=>cases h;rw[r.bl];exact⟨rfl,rfl⟩
 |int b=>cases h;rw[r.int];exact⟨rfl,rfl⟩
 |str b=>cases h;rw[r.str];exact⟨rfl,rfl⟩
 |_=>cases h
theorem Xw{H:Hp}:∀{ds:List D}{xs us:List V},fy G H xs ds->Sk ds=O0 us->xs=us/\xs.all K4=E3
 |[],xs,us,r,h=>by cases h;rw[r.nil_inv];exact⟨rfl,rfl⟩
 |d::ds,xs,us,r,h=>by
  obtain⟨x,U,rfl,T,S⟩:=r.uncons;unfold Sk at h;cases g:VT d with
  |none=>simp[g] at h
  |some v=>
   cases I:Sk ds with
   |none=>simp[g,I] at h
   |some W=>
    simp[g,I] at h;subst h;have q:uj G (lu [] H) x d:=T.mono λb o z=>z;obtain⟨O,Z⟩:=WL (A:=[]) (.inl q) g;obtain⟨Y,J⟩:=Xw S I;subst O;subst Y;exact⟨rfl,by rw[wf,Z,J];rfl⟩
def rInA(K:ay)(d:Bool):R2:=λx y H Q=>rIn K d x y H Q∨∃i j,x=.str i/\y=.str j/\Q (.bl (if d then !(!(pT j i 0 j.length 1).isEmpty) else !(pT j i 0 j.length 1).isEmpty)) H
def jY:PZ X (dS .In) (rInA X.K ZA):=fH.or fD
def fU:PZ X (dS .NotIn) (rInA X.K E3):=V9.or V2
def yl(g:Bool):Ec G (rInA G.K g) (inD g):=by
 intro A H x y dx dy d Q lv rx T h k;have seq:∀{O:List D}{p:Addr}{I:List V},y=.ref p->(Qr G.K H p I∨Qb G.K H p I)->fy G (lu A H) I O->((VT dx).bind λv=>(Sk O).map λS=>D.bl (if g then !inV v S else inV v S))=O0 d->rIn G.K g x y H Q:=λ{O p I} ey hq r h=>by
  cases J:VT dx with
  |none=>simp[J] at h
  |some v=>
   cases W:Sk O with
   |none=>simp[J,W] at h
   |some S=>
    rw[J,W] at h;cases h;obtain⟨z1,z2⟩:=WL rx J;obtain⟨Z,Y⟩:=Xw r W;subst z1;subst Z;exact⟨p,I,ey,hq,z2,Y,k _ H (cc.refl H) (.bl _)⟩
 unfold inD at h;split at h
 .cases h;exact .inr ⟨_,_,rx.str,T.str,k _ H (cc.refl H) (.bl _)⟩
 .obtain⟨p,I,e,U,r⟩:=T.lst;exact .inl (seq e (.inl U) r h)
 .obtain⟨p,I,e,U,r⟩:=T.tup;exact .inl (seq e (.inr U) r h)
 .cases h
def eAt(f:D->D->Option Bool)(xs d:List D)(j:Nat):Bool:=match xs[j]?,d[j]? with | some x,O0 y=>(f x y).getD ZA | _,_=>ZA
theorem Qi{f:D->D->Option Bool}:∀{xs ys:List D}{b:Bool},Sl f xs ys=O0 b->xs.length=ys.length/\(∀(j:Nat) x y,xs[j]?=O0 x->ys[j]?=O0 y->f x y=O0 (eAt f xs ys j))/\b=(br xs.length).all (eAt f xs ys)
 |[],[],b,h=>by cases h;exact⟨rfl,λj x y h=>by simp at h,rfl⟩
 |[],_::_,b,h=>by cases h
 |_::_,[],b,h=>by cases h
 |x::xs,y::ys,b,h=>by
  unfold Sl at h;split at h
  .rename_i a c d J;cases h;obtain⟨I,r,S⟩:=Qi J;refine⟨by simp[I],λj u v T g=>?_,?_⟩
   .cases j with
    |zero=>simp at T g;subst T;subst g;rw[d];simp[eAt,d]
    |succ j=>
     have:=r j u v (by simpa using T) (by simpa using g);rw[this];simp[eAt]
   .rw[cq,Ll,wf,List.all_map];have z:eAt f (x::xs) (y::ys) 0=a:=by simp[eAt,d]
    rw[z,S];rfl
  .cases h
def jZ{u:V}(h:K4 u=E3):eqV u u=E3:=by
 cases u<;>simp[eqV]<;>cases h
theorem R6{d:D}{u:V}(r:uj G H v d)(h:VT d=O0 u):v=u/\K4 v=E3:=WL (A:=[]) (.inl (r.mono λb o z=>by rw[Cg Lm];exact z)) h
section
def Xy(I:Inv X π σ H s)(Y:G.K=X.K):∀(n:Nat) {x y:D}{v:V}{b:Bool},XZ n x y=O0 b->uj G H v x->uj G H v y->b=E3:=by
 have r:∀{x y:D}{v:V}{b:Bool},flD x y=O0 b->uj G H v x->uj G H v y->b=E3:=λ{x y v b} h rx d=>by
  unfold flD at h;cases e1:VT x with
  |none=>simp[e1] at h
  |some u=>
   cases e2:VT y with
   |none=>simp[e1,e2] at h
   |some w=>
    simp[e1,e2] at h;obtain⟨z1,z2⟩:=R6 rx e1;obtain⟨z3,_⟩:=R6 d e2;rw[<-h,<-z1,<-z3];exact jZ z2
 intro n
 induction n with
 |zero=>intro x y v b h rx d;exact r h rx d
 |succ n ih=>
  have items:∀{W:List V}{U es:List D}{b:Bool},Sl (XZ n) U es=O0 b->fy G H W U->fy G H W es->b=E3:=λ{W U es b} h g S=>by
   obtain⟨T,O,h3⟩:=Qi h;rw[h3,fI];intro j hj;have J:j<U.length:=de.mp hj;have hx:W[j]?=O0 (W[j]'(by rw[g.1];exact J)):=by simp[g.1,J]
   have hd:U[j]?=O0 U[j]:=by simp[J]
   have he:es[j]?=O0 (es[j]'(by omega)):=dQ .(0);exact ih (O j _ _ hd he) (g.2 j _ _ hx hd) (S.2 j _ _ hx he)
  intro x y v b h rx d;unfold XZ eqS at h;split at h
  .split at h
   .cases rx with
    |lst T l1 g=>
     cases d with
     |lst O Z S=>
      have e:=I.list_inj (by rw[<-Y];exact T) (by rw[<-Y];exact O);subst e;exact items h ⟨l1,g⟩ ⟨Z,S⟩
   .rename_i r0;cases rx with
    |lst T l1 g=>
     cases d with
     |lst O Z S=>
      have e:=I.list_inj (by rw[<-Y];exact T) (by rw[<-Y];exact O);subst e;exact QO (l1.symm.trans Z) r0
  .split at h
   .cases rx with
    |tup T l1 g=>
     cases d with
     |tup O Z S=>
      have e:=I.tuple_inj (by rw[<-Y];exact T) (by rw[<-Y];exact O);subst e;exact items h ⟨l1,g⟩ ⟨Z,S⟩
   .cases h
  .exact r h rx d
def KD{A:aT}{ds es:List D}{b:Bool}{d:List ac}(ih:∀{x y:D}{v w:V}{u1 u2:ac}{b:Bool},XZ n x y=O0 b->uj G H v x->uj G H w y->fx v u1->fx w u2->nw A s u1 u2 b)(h:Sl (XZ n) ds es=O0 b)(I:fy G H xs ds)(S:fy G H ys es)(r:gn xs its)(g:gn ys d):
  its.toArray.size=d.toArray.size/\b=(br its.toArray.size).all (eAt (XZ n) ds es)/\∀j (h1:j<its.toArray.size) (h2:j<d.toArray.size),nw A s its.toArray[j] d.toArray[j] (eAt (XZ n) ds es j):=by
 obtain⟨h1,h2,h3⟩:=Qi h;have l1:=r.length;have l2:=g.length;have q1:=I.1;have q2:=S.1;have z1:its.toArray.size=ds.length:=by rw[cS];omega
 refine⟨by rw[cS,cS];omega,by rw[z1];exact h3,λj T J=>?_⟩;rw[cS] at T J;have jx:j<xs.length:=by omega
 have jy:j<ys.length:=by omega
 have W:xs[j]?=O0 xs[j]:=by simp[jx]
 have U:ys[j]?=O0 ys[j]:=by simp[jy]
 have Z:ds[j]?=O0 (ds[j]'(by omega)):=dQ .(0);have Y:es[j]?=O0 (es[j]'(by omega)):=dQ .(0);obtain⟨u,eu,ru⟩:=r.get W;obtain⟨w,ew,O⟩:=g.get U;have a1:its.toArray[j]=u:=by simpa [dQ T] using eu
 have a2:d.toArray[j]=w:=by simpa [dQ J] using ew
 rw[a1,a2];exact ih (h2 j _ _ Z Y) (I.2 j _ _ W Z) (S.2 j _ _ U Y) ru O
def WM{ds es:List D}{d:List ac}(h:ds.length≠es.length)(I:fy G H xs ds)(S:fy G H ys es)(r:gn xs its)(g:gn ys d):(its.toArray.size != d.toArray.size)=E3:=by
 have J:=r.length;have Z:=g.length;have q1:=I.1;have q2:=S.1;rw[cS,cS];exact bne_iff_ne.mpr .(0)
def Td(I:Inv X π σ H s)(Y:G.K=X.K):∀(n:Nat) (A:aT),A.units+n<bP->∀{x y:D}{v w:V}{u1 u2:ac}{b:Bool},XZ n x y=O0 b->uj G H v x->uj G H w y->fx v u1->fx w u2->nw A s u1 u2 b:=by
 have r:∀{A:aT}{x y:D}{v w:V}{u1 u2:ac}{b:Bool},flD x y=O0 b->uj G H v x->uj G H w y->fx v u1->fx w u2->nw A s u1 u2 b:=λ{A x y v w u1 u2 b} h rx g q1 q2=>by
  unfold flD at h;cases e1:VT x with
  |none=>simp[e1] at h
  |some u=>
   cases e2:VT y with
   |none=>simp[e1,e2] at h
   |some w=>
    simp[e1,e2] at h;obtain⟨O,z2⟩:=R6 rx e1;obtain⟨W,z4⟩:=R6 g e2;rw[<-h,<-O,<-W];exact jH q1 q2 z2 z4
 intro n
 induction n with
 |zero=>intro A hu x y v w u1 u2 b h rx g q1 q2;exact r h rx g q1 q2
 |succ n ih=>
  intro A hu x y v w u1 u2 b h rx g q1 q2;have h':=h;have X0:A.in1.units+n<bP:=by show A.units+1+n<bP;omega
  have J:A.units<bP:=by omega
  unfold XZ eqS at h;split at h
  .cases rx with
   | @lst a _ _ h1 U T=>
    cases g with
    | @lst c _ _ h2 Z S=>
     obtain rfl:u1=.ref a:=q1;obtain rfl:u2=.ref c:=q2;obtain⟨S0,v1,p1,_⟩:=I.list (by rw[<-Y];exact h1);obtain⟨r0,v2,p2,_⟩:=I.list (by rw[<-Y];exact h2)
     by_cases d:a=c
     .subst d;have:=Xy I Y (n+1) h' (.lst h1 U T) (.lst h2 Z S);subst this;exact EE _
     .split at h
      .obtain⟨O,z2,W⟩:=KD (λq=>ih A.in1 X0 q) h ⟨U,T⟩ ⟨Z,S⟩ v1 v2;rw[z2];exact EK d (Lo p1.isList p2.isList O J W)
      .rename_i P1;cases h;exact EK d (Lu p1.isList p2.isList (WM P1 ⟨U,T⟩ ⟨Z,S⟩ v1 v2) J)
  .cases rx with
   | @tup a _ _ h1 U T=>
    cases g with
    | @tup c _ _ h2 Z S=>
     obtain rfl:u1=.ref a:=q1;obtain rfl:u2=.ref c:=q2;obtain⟨S0,v1,p1,_⟩:=I.tuple (by rw[<-Y];exact h1);obtain⟨r0,v2,p2,_⟩:=I.tuple (by rw[<-Y];exact h2)
     by_cases d:a=c
     .subst d;have:=Xy I Y (n+1) h' (.tup h1 U T) (.tup h2 Z S);subst this;exact EE _
     .split at h
      .obtain⟨O,z2,W⟩:=KD (λq=>ih A.in1 X0 q) h ⟨U,T⟩ ⟨Z,S⟩ v1 v2;have q:=Lv (show s.heap.IsTuple a S0.toArray from p1) (show s.heap.IsTuple c r0.toArray from p2) J W;rw[O,EL,OP,EM,<-O,<-z2] at q;exact EK d q
      .cases h
  .exact r h rx g q1 q2
end
def rEqP(G:Gx)(d:Bool):R2:=λx y H Q=>∃(A:List Addr) (ds es:List D) (b:Bool),YU (.lst ds) (.lst es)=O0 b/\((Hb G A H x (.lst ds)/\Hb G A H y (.lst es))∨(ds.length=es.length/\Hb G A H x (.tup ds)/\Hb G A H y (.tup es)))/\Q (.bl (if d then !b else b)) H
def ym(Y:G.K=X.K)(hu:X.A.units+190<bP):PZ X (dS .Eq) (rEqP G ZA):=by
 intro π s σ H x y v u Q I rx ry h;obtain⟨A,ds,es,b,e,hr,k⟩:=h;have d:EP X π σ Q (.bool b) s:=⟨.bl b,H,I,rfl,k⟩;simp only[YU] at e
 rcases hr with ⟨r1,r2⟩ | ⟨hl,r1,r2⟩
 .obtain⟨a,xs,rfl,h1,q1⟩:=r1.lst;obtain⟨c,ys,rfl,h2,q2⟩:=r2.lst;cases rx;cases ry;obtain⟨r,S,U,_⟩:=I.list (by rw[<-Y];exact h1);obtain⟨g,J,T,_⟩:=I.list (by rw[<-Y];exact h2);split at e
  .obtain⟨O,Z,W⟩:=KD (λq=>Td I Y 180 X.A.in1 (by show X.A.units+1+180<bP;omega) q) e (q1.mono Ay) (q2.mono Ay) S J;exact Lo U.isList T.isList O .(0) W _ _ _ _ (by rw[<-Z];exact d)
  .rename_i r0;cases e;exact Lu U.isList T.isList (WM r0 q1 q2 S J) .(0) _ _ _ _ d
 .obtain⟨a,xs,rfl,h1,q1⟩:=r1.tup;obtain⟨c,ys,rfl,h2,q2⟩:=r2.tup;cases rx;cases ry;obtain⟨r,S,U,_⟩:=I.tuple (by rw[<-Y];exact h1);obtain⟨g,J,T,_⟩:=I.tuple (by rw[<-Y];exact h2);rw[ZN hl] at e;obtain⟨O,Z,W⟩:=KD (λq=>Td I Y 180 X.A.in1 (by show X.A.units+1+180<bP;omega) q) e (q1.mono Ay) (q2.mono Ay) S J;have q:=Lv (show s.heap.IsTuple a r.toArray from U) (show s.heap.IsTuple c g.toArray from T) .(0) W;rw[O,EL,OP,EM,<-O,<-Z] at q;exact q _ _ _ _ d
def yo(Y:G.K=X.K)(hu:X.A.units+190<bP):PZ X (dS .NotEq) (rEqP G E3):=by
 intro π s σ H x y v u Q I rx ry h;obtain⟨A,ds,es,b,e,hr,k⟩:=h;have d:EP X π σ Q (.bool (!b)) s:=⟨.bl (!b),H,I,rfl,k⟩;simp only[YU] at e
 rcases hr with ⟨r1,r2⟩ | ⟨hl,r1,r2⟩
 .obtain⟨a,xs,rfl,h1,q1⟩:=r1.lst;obtain⟨c,ys,rfl,h2,q2⟩:=r2.lst;cases rx;cases ry;obtain⟨r,S,U,_⟩:=I.list (by rw[<-Y];exact h1);obtain⟨g,J,T,_⟩:=I.list (by rw[<-Y];exact h2);split at e
  .obtain⟨O,Z,W⟩:=KD (λq=>Td I Y 180 X.A.in1 (by show X.A.units+1+180<bP;omega) q) e (q1.mono Ay) (q2.mono Ay) S J;exact SeqAt.RcNeAt.lists U.isList T.isList O .(0) W _ _ _ _ (by rw[<-Z];exact d)
  .rename_i r0;cases e;exact SeqAt.RcNeAt.lists_lengths U.isList T.isList (WM r0 q1 q2 S J) .(0) _ _ _ _ d
 .obtain⟨a,xs,rfl,h1,q1⟩:=r1.tup;obtain⟨c,ys,rfl,h2,q2⟩:=r2.tup;cases rx;cases ry;obtain⟨r,S,U,_⟩:=I.tuple (by rw[<-Y];exact h1);obtain⟨g,J,T,_⟩:=I.tuple (by rw[<-Y];exact h2);rw[ZN hl] at e;obtain⟨O,Z,W⟩:=KD (λq=>Td I Y 180 X.A.in1 (by show X.A.units+1+180<bP;omega) q) e (q1.mono Ay) (q2.mono Ay) S J;have q:=SeqAt.RcNeAt.tuples (show s.heap.IsTuple a r.toArray from U) (show s.heap.IsTuple c g.toArray from T) .(0) W;rw[O,EL,OP,EM,<-O,<-Z] at q;exact q _ _ _ _ d
def rEqA(G:Gx)(d:Bool):R2:=λx y H Q=>(λx y H Q=>scal x y=E3/\Q (.bl (if d then !decide (x=y) else decide (x=y))) H) x y H Q∨rEqP G d x y H Q
def jb(Y:G.K=X.K)(T:X.A.units+190<bP):PZ X (dS .Eq) (rEqA G ZA):=AAt.or (ym Y T)
def jc(Y:G.K=X.K)(T:X.A.units+190<bP):PZ X (dS .NotEq) (rEqA G E3):=AAu.or (yo Y T)
def WN{d g:Type}[DecidableEq d][DecidableEq g]{f:d->g}(h:∀a b,f a=f b->a=b)(a b:d):decide (f a=f b)=decide (a=b):=by
 by_cases e:a=b
 .subst e;simp
 .rw[RO e,RO λz=>e (h a b z)]
theorem WP(r:Bool):Ec G (rEqA G r) (sd r):=by
 intro A H x y dx J d Q I rx g h k;unfold sd at h;cases e:YU dx J with
 |none=>simp[e] at h
 |some b=>
  simp only[e,iq] at h;cases h;unfold YU at e;split at e
  .cases e;rw[rx.int,g.int];refine .inl ⟨rfl,?_⟩;rw[WN (f:=V.int) (λa b z=>by cases z;rfl)];exact k _ H (cc.refl H) (.bl _)
  .cases e;rw[rx.str,g.str];refine .inl ⟨rfl,?_⟩;rw[WN (f:=V.str) (λa b z=>by cases z;rfl)];exact k _ H (cc.refl H) (.bl _)
  .cases e;rw[rx.bl,g.bl];refine .inl ⟨rfl,?_⟩;rw[WN (f:=V.bl) (λa b z=>by cases z;rfl)];exact k _ H (cc.refl H) (.bl _)
  .exact .inr ⟨A,_,_,b,e,.inl ⟨rx,g⟩,k _ H (cc.refl H) (.bl _)⟩
  .split at e
   .rename_i Z;exact .inr ⟨A,_,_,b,(by simp only[YU];rw[ZN Z];exact e),.inr ⟨Z,rx,g⟩,k _ H (cc.refl H) (.bl _)⟩
   .cases e
  .cases e
def SndC(G:Gx)(r:List V->Hp->VK->Prop)(g:D->Option D):Prop:=∀(A:List Addr) (H:Hp) (x:V) (dx d:D) (Q:VK),(∀a∈A,Nt (H a))->Hb G A H x dx->g dx=O0 d->(∀v I,cc H I->uj G (lu A I) v d->Q v I)->r [x] H Q
def bG(G:Gx)(r:List V->Hp->VK->Prop)(g:D->D->Option D):Prop:=∀(A:List Addr) (H:Hp) (x y:V) (dx J d:D) (Q:VK),(∀a∈A,Nt (H a))->Hb G A H x dx->Hb G A H y J->g dx J=O0 d->(∀v I,cc H I->uj G (lu A I) v d->Q v I)->r [x,y] H Q
def Hi{g:D->Option D}{ρ:Rho}{d:D}(h:uF g fa ρ=O0 d):∃x,fa ρ=O0 x/\g x=O0 d:=by
 unfold uF at h;cases e:fa ρ with
 |none=>simp[e] at h
 |some x=>exact⟨x,rfl,by simpa [e] using h⟩
def jd{r:List V->Hp->VK->Prop}{g:D->Option D}(s:SndC G r g){A:List Addr}{I:St}{H:Hp}{Q:VK}(h:tF G A (uF g fa) I H Q):tCB r (S8 (tT G A fa) tNil) I H Q:=by
 obtain⟨O,d,o,e,k⟩:=h;obtain⟨x,Y,W⟩:=Hi e;exact⟨O,x,o,Y,λv H1 J U=>s A H1 v x d Q (o.mono J).live U W λw Z T S=>k w Z (J.trans T) S⟩
def tD{r:List V->Hp->VK->Prop}{g:D->D->Option D}(s:bG G r g){A:List Addr}{J:St}{H:Hp}{Q:VK}(h:tF G A (bF g fa fb) J H Q):tCB r (S8 (tT G A fa) (S8 (tT G A fb) tNil)) J H Q:=by
 obtain⟨O,d,o,e,k⟩:=h;obtain⟨x,y,e1,e2,Z⟩:=PQ e;exact⟨O,x,o,e1,λv H1 I Y=>⟨O,y,o.mono I,e2,λu H2 T W=>s A H2 v u x y d Q ((o.mono I).mono T).live (Y.mono T) W Z λw H3 S U=>k w H3 (I.trans (T.trans S)) U⟩⟩
def Bh{x:Str}{p:Pos}{id:String}{r:List V->Hp->VK->Prop}{g:D->Option D}(T:Dy X (.builtin id) r)(s:SndC G r g)(U:Gl X x)(S:X.mg x=W1)(J:df x=O0 (.builtin id))(ha:PU X G a fa)(O:x≠"__name__":=by decide)(d:(x==("__debug__":Str))=ZA:=by decide)(I:aE [a] X.env=[(ZA,eval a X.env)]:=by rfl):PF X G (.Call (.Name x p) [a] [] pos) (uF g fa):=
 λA=>Bt (Lf T U S J (Bl (@ha A) DK I) O d I rfl) λ_ _ _ h=>jd s h
def JD{x:Str}{p:Pos}{id:String}{r:List V->Hp->VK->Prop}{g:D->D->Option D}(W:Dy X (.builtin id) r)(s:bG G r g)(U:Gl X x)(T:X.mg x=W1)(J:df x=O0 (.builtin id))(ha:PU X G a fa)(hb:PU X G b fb)(O:x≠"__name__":=by decide)(d:(x==("__debug__":Str))=ZA:=by decide)(I:aE [a,b] X.env=(ZA,eval a X.env)::aE [b] X.env:=by rfl)(S:aE [b] X.env=[(ZA,eval b X.env)]:=by rfl):PF X G (.Call (.Name x p) [a,b] [] pos) (bF g fa fb):=
 λA=>Bt (Lf W U T J (Bl (@ha A) (Bl (@hb A) DK S) I) O d I (by rw[S];rfl)) λ_ _ _ h=>tD s h
def M7{x:Str}{p:Pos}{T:String}{r:List V->Hp->VK->Prop}{g:D->Option D}(W:Dy X (.type T) r)(s:SndC G r g)(U:Gl X x)(S:X.mg x=W1)(J:df x=O0 (.type T))(ha:PU X G a fa)(O:x≠"__name__":=by decide)(d:(x==("__debug__":Str))=ZA:=by decide)(I:aE [a] X.env=[(ZA,eval a X.env)]:=by rfl):PF X G (.Call (.Name x p) [a] [] pos) (uF g fa):=
 λA=>Bt (HR W U S J (Bl (@ha A) DK I) O d I rfl) λ_ _ _ h=>jd s h
def R7:SndC G (λxs H Q=>∃x n,xs=[x]/\LenV G.K x H n/\Q (.int n) H) lenD:=by
 intro A H x dx d Q I rx h k;unfold lenD at h;split at h
 .split at h
  .rename_i S;cases h;rw[rx.str];exact⟨_,_,rfl,⟨S,rfl⟩,k _ H (cc.refl H) (.int _)⟩
  .cases h
 .cases h;obtain⟨p,xs,rfl,g,r⟩:=rx.lst;exact⟨_,_,rfl,.inl ⟨xs,g,rfl⟩,by rw[r.1];exact k _ H (cc.refl H) (.int _)⟩
 .cases h;obtain⟨p,xs,rfl,g,r⟩:=rx.tup;exact⟨_,_,rfl,.inr ⟨xs,g,rfl⟩,by rw[r.1];exact k _ H (cc.refl H) (.int _)⟩
 .cases h
def By(Y:G.K=X.K):Dy X (.builtin "len") (λxs H Q=>∃x n,xs=[x]/\LenV G.K x H n/\Q (.int n) H):=by rw[Y];exact iu
def Li:bG G (λxs H Q=>∃i j,xs=[.int i,.int j]/\Q (.int (if j > i then j else i)) H) Yf:=by
 intro A H x y dx J d Q I rx g h k;obtain⟨i,j,rfl,rfl,h⟩:=PX h;cases h;exact⟨i,j,by rw[rx.int,g.int],k _ H (cc.refl H) (.int _)⟩
def Xz:bG G (λxs H Q=>∃i j,xs=[.int i,.int j]/\Q (.int (if j<i then j else i)) H) minD:=by
 intro A H x y dx J d Q I rx g h k;obtain⟨i,j,rfl,rfl,h⟩:=PX h;cases h;exact⟨i,j,by rw[rx.int,g.int],k _ H (cc.refl H) (.int _)⟩
def je:SndC G (λxs H Q=>∃p ys,xs=[.ref p]/\(Qr G.K H p ys∨Qb G.K H p ys)/\∀l,H l=W1->Q (.ref l) (mf H l (.lst ys))) jT:=by
 intro A H x dx d Q I rx h k;unfold jT at h;split at h
 .cases h;obtain⟨p,xs,rfl,g,r⟩:=rx.lst;exact⟨p,xs,rfl,.inl g,λl Z=>k _ _ (Ao Z _) (Er I Z r)⟩
 .cases h;obtain⟨p,xs,rfl,g,r⟩:=rx.tup;exact⟨p,xs,rfl,.inr g,λl Z=>k _ _ (Ao Z _) (Er I Z r)⟩
 .cases h
def yp(ha:PU X G a fa):PF X G (.UnaryOp .USub a pos) (uF negD fa):=λA=>Bt (AAs yO (@ha A))<|by
 rintro T H Q ⟨r,d,o,e,k⟩
 obtain⟨x,O,g⟩:=Hi e;refine⟨r,x,o,O,λv S I J=>?_⟩;unfold negD at g;split at g
 .cases g;exact⟨_,J.int,k _ S I (.int _)⟩
 .cases g
end
def wG(G:Gx)(r H g:Hp)(x:V)(d:D):Prop:=cc H g/\∀B:List Addr,(∀a∈B,Nt (H a))->cc r (lu B H)->uj G (lu B g) x d
def Te{G:Gx}{x:V}{d:D}(h:H'=H/\uj G F2 x d):wG G F2 H H' x d:=by
 obtain⟨rfl,r⟩:=h;exact⟨cc.refl _,λB _ g=>r.mono g⟩
structure Src (G:Gx) (J:It) (ds:List D) (F1 F2:Hp):Prop where
 go:∀i H,cc F1 H->i<ds.length->J.go i H
 yld:∀i H x H' d,cc F1 H->ds[i]?=O0 d->J.yld i H x H'->wG G F2 H H' x d
 stop:∀i H,cc F1 H->ds.length<=i->J.stop i H
def tI(G:Gx)(A:List Addr)(top:Bool)(f:FI):TI:=λg H R=>∃ρ ds,WV G A g H ρ/\f ρ=O0 ds/\∀J d,cc H d->Src G J ds (if top then d else lu A d) (lu A d)->R J d
def WU(X:Cx)(G:Gx)(top:Bool)(tg e:Expr)(f:FI):Prop:=∀⦃A⦄,PI X tg e (tI G A top f)
def Tf{t t':TI}(h:PI X tg e t)(w:∀σ H Q,t' σ H Q->t σ H Q):PI X tg e t':=λr s σ H Q I q=>h r s σ H Q I (w σ H Q q)
def piOr{t t':TI}(h:PI X tg e t)(h':PI X tg e t'):PI X tg e (λσ H R=>t σ H R∨t' σ H R):=λr s σ H Q I q=>by
 rcases q with q | q
 .exact h r s σ H Q I q
 .exact h' r s σ H Q I q
section
variable {G:Gx}{a:Expr}{fa:FE}
def tG{ds:List D}(h:Qb G.K F1 p xs)(r:fy G F2 xs ds):Src G (Itt G.K p) ds F1 F2 where
 go:=λi H s g=>⟨xs,xs[i]'(by rw[r.1];exact g),Eb s h,by simp[r.1,g]⟩
 yld:=λi H x J d s I y=>Te ⟨y.1,r.2 i x d (y.2 xs (Eb s h)) I⟩
 stop:=λi H s g=>⟨xs,Eb s h,by rw[r.1];exact g⟩
def tH(Y:G.K=X.K)(h:PF X G a fa):WU X G ZA tg a (seqI fa):=λA=>Tf (piOr (rC (@h A)) (yK (@h A)))<|by
 rintro Z H R ⟨U,ds,o,e,k⟩
 unfold seqI at e;split at e
 .rename_i S O;cases e;refine .inl ⟨U,_,o,O,λv T g I=>?_⟩;cases I with
  |lst h l r=>exact⟨_,rfl,⟨_,by rw[<-Y];exact Ay.seq h⟩,by rw[<-Y];exact k _ T g { go:=λi H s J=>⟨_,_,s.seq h,by simp[l,J];rfl⟩,yld:=λi H x H' d s W y=>Te ⟨y.1,r i x d (y.2 _ (s.seq h)) W⟩,stop:=λi H s J=>⟨_,s.seq h,by rw[l];exact J⟩ }⟩
 .rename_i S O;cases e;refine .inr ⟨U,_,o,O,λv T g I=>?_⟩;cases I with
  |tup h l r=>exact⟨_,rfl,⟨_,by rw[<-Y];exact Eb Ay h⟩,by rw[<-Y];exact k _ T g (tG h ⟨l,r⟩)⟩
 .cases e
def jf{d:D}(h:(Pl n)[i]?=O0 d):d=.int i:=by
 unfold Pl at h;rw[db] at h;cases e:(br n)[i]? with
 |none=>rw[e] at h;cases h
 |some j=>
  rw[e] at h;have:=(jp.mp e);obtain⟨r,g⟩:=this;rw[List.getElem_range] at g;subst g;exact (dc h).symm
def tK:Src G (Itr 0 n) (Pl n) F1 F2 where
 go:=λi H s g=>by unfold Pl at g;show i<n;simpa using g
 yld:=λi H x O d s J y=>by
  obtain⟨I,r⟩:=y;rw[jf J,r,Int.zero_add];exact Te ⟨I,.int _⟩
 stop:=λi H s g=>by unfold Pl at g;show n<=i;simpa using g
def Im{top:Bool}{p:Pos}(U:Gl X "range")(I:X.mg "range"=W1)(h:PU X G a fa)(hs:aE [a] X.env=[(ZA,eval a X.env)]:=by rfl):WU X G top tg (.Call (.Name "range" p) [a] [] pos) (QY fa):=λA=>Tf (fB U I (Bl (@h A) DK hs) hs)<|by
 rintro S H R ⟨g,T,o,e,k⟩
 unfold QY at e;split at e
 .rename_i j J;split at e
  .rename_i W;cases e;exact⟨g,_,o,J,λv O d r=>⟨j,by rw[r.int],W.1,W.2,k _ O d tK⟩⟩
  .cases e
 .cases e
end
structure Sb (G:Gx) (A0:List Addr) (He:Hp) (A:List Addr) (σ:St) (H:Hp) (ρ:Rho):Prop where
 same:cc He H
 sub:∀a∈A0,a∈A
 fr:∀a∈A,a∈A0∨He a=W1
 l0:∀a∈A0,He a≠W1
 ok:WV G A σ H ρ
 ow0:∀(i:Nat) (d:D) (a:Addr),ρ[i]?=O0 (.ow d)->σ[i]?=O0 (O0 (.ref a))->a∉A0
 lt:∀(x:Addr) (d:D),G.lent=O0 x->ρ[0]?=O0 (.ow d)->σ[0]?=O0 (O0 (.ref x))
def OkS(G:Gx)(A0:List Addr)(d:Hp)(g:St)(H:Hp)(ρ:Rho):Prop:=∃A,Sb G A0 d A g H ρ
def Tg(G:Gx)(A0:List Addr)(r:Hp)(D:Ends):To->Prop
 |.nx ρ=>∀g H,OkS G A0 r g H ρ->D.nx g H
 |.rt d ρ=>∀v g H A,Sb G A0 r A g H ρ->uj G (lu A H) v d->D.rt v H
 |.bk ρ=>∀g H,OkS G A0 r g H ρ->D.bk g H
 |.ct ρ=>∀g H,OkS G A0 r g H ρ->D.ct g H
def tS(G:Gx)(A0:List Addr)(d:Hp)(g:FS):TS:=λD r H=>∃ρ o,OkS G A0 d r H ρ/\g ρ=O0 o/\Tg G A0 d D o
def VW(X:Cx)(G:Gx)(st:Stmt)(g:FS):Prop:=∀⦃A0⦄ He,PS X st (tS G A0 He g)
def UP(X:Cx)(G:Gx)(st:List Stmt)(g:FS):Prop:=∀⦃A0⦄ He,PSs X st (tS G A0 He g)
theorem WV.set{G:Gx}{A:List Addr}{O:St}{H:Hp}{ρ:Rho}{v:V}{d:D}(o:WV G A O H ρ)(r:uj G (lu A H) v d)(i:Nat):WV G A (O.set i (O0 v)) H (ρ.set i (.fz d)):=by
 have I:∀(j:Nat) (z:Slot),(ρ.set i (.fz d))[j]?=O0 z->(j=i/\z=.fz d/\i<ρ.length)∨(j≠i/\ρ[j]?=O0 z):=λj z h=>by
  by_cases W:j=i
  .subst W
   by_cases Z:j<ρ.length
   .rw[nh Z] at h;exact .inl ⟨rfl,(dc h).symm,Z⟩
   .rw[qA (by simpa using mE.mp Z)] at h;cases h
  .rw[gi (cf W)] at h;exact .inr ⟨W,h⟩
 have g:∀(j:Nat),j≠i->(O.set i (O0 v))[j]?=O[j]?:=λj W=>gi (cf W);refine⟨by rw[qB,qB];exact o.len,o.live,λj e h=>?_,λj e h=>?_,λj k e f p h1 h2 U T=>?_⟩
 .rcases I j _ h with ⟨W,S,Z⟩ | ⟨W,S⟩
  .cases S;subst W;exact⟨v,by rw[nh (by rw[o.len];exact Z)],r⟩
  .obtain⟨u,q1,q2⟩:=o.fz j e S;exact⟨u,by rw[g j W];exact q1,q2⟩
 .rcases I j _ h with ⟨W,S,Z⟩ | ⟨W,S⟩
  .cases S
  .obtain⟨u,q1,q2⟩:=o.ow j e S;exact⟨u,by rw[g j W];exact q1,q2⟩
 .rcases I j _ h1 with ⟨_,S,_⟩ | ⟨W,S⟩
  .cases S
  .rcases I k _ h2 with ⟨_,J,_⟩ | ⟨Y,J⟩
   .cases J
   .rw[g j W] at U;rw[g k Y] at T;exact o.inj j k e f p S J U T
theorem Sb.mono{G:Gx}{A0:List Addr}{d:Hp}{A:List Addr}{g:St}{H r:Hp}{ρ:Rho}(o:Sb G A0 d A g H ρ)(s:cc H r):Sb G A0 d A g r ρ:=⟨o.same.trans s,o.sub,o.fr,o.l0,o.ok.mono s,o.ow0,o.lt⟩
theorem Sb.set{G:Gx}{A0:List Addr}{T:Hp}{A:List Addr}{I:St}{H:Hp}{ρ:Rho}{v:V}{d:D}(o:Sb G A0 T A I H ρ)(r:uj G (lu A H) v d)(i:Nat):Sb G A0 T A (I.set i (O0 v)) H (ρ.set i (.fz d)):=⟨o.same,o.sub,o.fr,o.l0,o.ok.set r i,λj e a g S=>by
  have W:j≠i:=by
   intro z;subst z
   by_cases Z:j<ρ.length
   .rw[nh Z] at g;cases g
   .rw[qA (by simpa using mE.mp Z)] at g;cases g
  rw[gi (cf W)] at g S;exact o.ow0 j e a g S,λx e U J=>by
  by_cases O:i=0
  .subst O;cases ρ with
   |nil=>cases J
   |cons a r=>cases J
  .rw[gi O] at J ⊢;exact o.lt x e U J⟩
def Sb.base{G:Gx}{ρ:Rho}(o:Sb G A0 Hf A σ H ρ)(s:cc He Hf)(d:∀a∈A0,He a≠W1):Sb G A0 He A σ H ρ:=
 ⟨s.trans o.same,o.sub,λa r=>(o.fr a r).imp id λz=>s.free z,d,o.ok,o.ow0,o.lt⟩
def Sb.here{G:Gx}{ρ:Rho}(o:Sb G A0 He A σ H ρ):cc He (lu (A.filter λa=>decide (a∉A0)) H)/\Sb G A0 (lu (A.filter λa=>decide (a∉A0)) H) A σ H ρ:=by
 have d:∀b,b∈(A.filter λa=>decide (a∉A0))↔b∈A/\b∉A0:=λb=>by simp[nX]
 have g:cc He (lu (A.filter λa=>decide (a∉A0)) H):=λb u h=>by
  rw[Cg]
  .exact o.same b u h
  .intro z;obtain⟨O,Z⟩:=(d b).mp z
   rcases o.fr b O with q | q
   .exact Z q
   .rw[q] at h;cases h
 refine⟨g,Ay,o.sub,λa r=>?_,λa r h=>?_,o.ok,o.ow0,o.lt⟩
 .by_cases S:a∈A0
  .exact .inl S
  .right;unfold lu;rw[ZN ((d a).mpr ⟨r,S⟩)]
 .rw[Cg (λz=>((d a).mp z).2 r)] at h;exact (o.ok.live a (o.sub a r)).ne h
def Sb.plain{G:Gx}{ρ:Rho}(sub:∀a∈A0,a∈B)(o:Sb G A0 (lu (B.filter λa=>decide (a∉A0)) H1) A σ H ρ):cc (lu B H1) (lu A H):=λb u h=>by
 unfold lu at h;split at h
 .cases h
 .rename_i d;have e:lu (B.filter λa=>decide (a∉A0)) H1 b=O0 u:=by
   rw[Cg (λz=>d (nX.mp z).1)];exact h
  rw[Cg]
  .exact o.same b u e
  .intro z
   rcases o.fr b z with q | q
   .exact d (sub b q)
   .rw[q] at e;cases e
section
variable {G:Gx}{a b c:Expr}{fa:FE}{ga:FT}{rest:List Stmt}{g gs gb:FS}
def BK:UP X G [] Pc:=by
 rintro S O r s d H D I ⟨J,o,ok,e,k⟩
 cases e;exact M4 r s d H D I (k d H ok)
theorem Ad(h1:VW X G st g)(h2:UP X G rest gs):UP X G (st::rest) (bc g gs):=by
 rintro U T Z s Y H D I ⟨S,o,ok,e,k⟩
 refine Le (@h1 U T) (@h2 U T) Z s Y H D I ?_;unfold bc at e;split at e
 .rename_i r e1;exact⟨S,_,ok,e1,λW H' J=>⟨r,o,J,e,k⟩⟩
 .rename_i O;refine⟨S,o,ok,e,?_⟩;cases o with
  |nx r=>exact QO e (O r)
  |rt d r=>exact k
  |bk r=>exact k
  |ct r=>exact k
def Af(h1:VW X G st g):UP X G [st] g:=λS d=>R1 (@h1 S d)
def Bc{T:List Stmt}(ht:Zl X G c ga)(h1:UP X G s1 g)(h2:UP X G T gs):VW X G (.If c s1 T pos) (OV ga g gs):=by
 rintro S J U s O H D I ⟨d,o,⟨A,w⟩,e,k⟩
 refine iT (@ht A) (@h1 S J) (@h2 S J) U s O H D I ?_;unfold OV at e;split at e
 .rename_i r;exact⟨d,_,w.ok,r,λW s1=>iteT ⟨d,o,⟨A,w.mono s1⟩,e,k⟩⟩
 .rename_i r;exact⟨d,_,w.ok,r,λW s1=>iteF ⟨d,o,⟨A,w.mono s1⟩,e,k⟩⟩
 .cases e
def yq{ρ:Rho}{o:To}{D:Ends}(w:Sb G A0 He A σ H ρ)(e:jl i fa ρ=O0 o)(k:Tg G A0 He D o):tAsg (tF G A fa) (Hq i) D σ H:=by
 unfold jl at e;cases r:fa ρ with
 |none=>simp[r] at e
 |some d=>
  simp only[r,iq] at e;cases e;exact⟨ρ,d,w.ok,r,λv O I J=>k _ _ ⟨A,(w.mono I).set J i⟩⟩
def tL{x:Str}{p:Pos}(h:∀te,PE X a te->PS X (.Assign [.Name x p] a pos) (tAsg te (Hq i)))(ha:PF X G a fa):VW X G (.Assign [.Name x p] a pos) (jl i fa):=λS O r s d H D I ⟨J,o,⟨A,w⟩,e,k⟩=>
 h _ (@ha A) r s d H D I (yq w e k)
def Ai(ha:PF X G a fa):VW X G (.Return (O0 a) pos) (im fa):=by
 rintro Z Y S s J H D I ⟨O,o,⟨A,w⟩,e,k⟩
 refine iR (@ha A) S s J H D I ?_;unfold im at e;cases r:fa O with
 |none=>simp[r] at e
 |some d=>
  simp only[r,iq] at e;cases e;exact⟨O,d,w.ok,r,λv W T U=>k v J W A (w.mono T) U⟩
def JF(ha:PF X G a fa)(hs:gI a W1 pos.line X.env=pure ZA:=by rfl):VW X G (.Expr a pos) (I_ fa):=by
 rintro Z W S s O H D I ⟨J,o,⟨A,w⟩,e,k⟩
 refine R3 (@ha A) hs S s O H D I ?_;unfold I_ at e;cases r:fa J with
 |none=>simp[r] at e
 |some d=>
  simp only[r,iq] at e;cases e;exact⟨J,d,w.ok,r,λv Y T U=>k _ _ ⟨A,w.mono T⟩⟩
def Qj:VW X G st badF:=by rintro S O J s d H D I ⟨r,o,ok,e,k⟩;cases e
def tGD(G:Gx)(A0:List Addr)(J:Hp)(g:FG):TG:=λv S H Q=>∃A ρ d I,Sb G A0 J A S H ρ/\uj G (lu A H) v d/\g d ρ=O0 I/\∀r O,OkS G A0 J r O I->Q r O
def PGD(X:Cx)(G:Gx)(tg:Expr)(g:FG):Prop:=∀⦃A0⦄ He,PG X tg (tGD G A0 He g)
def Dn(h:PG X tg (Hq i)):PGD X G tg (CW i):=by
 rintro Y W S s J H v u Q I r ⟨A,U,d,O,w,T,e,k⟩
 cases e;exact h S s J H v u Q I r (k _ _ ⟨A,w.set T i⟩)
theorem Tg.base{A0:List Addr}{S T:Hp}{D:Ends}{o:To}(k:Tg G A0 S D o)(s:cc S T)(J:∀a∈A0,S a≠W1):Tg G A0 T D o:=by
 cases o with
 |nx O=>rintro I H ⟨A,w⟩;exact k I H ⟨A,w.base s J⟩
 |rt d O=>exact λv I H A w r=>k v I H A (w.base s J) r
 |bk O=>rintro I H ⟨A,w⟩;exact k I H ⟨A,w.base s J⟩
 |ct O=>rintro I H ⟨A,w⟩;exact k I H ⟨A,w.base s J⟩
theorem Fe{it:Expr}{P1:FI}{fg:FG}(hp:vE .(3) X.A X.env X.xe)(hc:X.calm=E3)(hi:WU X G ZA tg it P1)(hg:PGD X G tg fg)(hb:UP X G body gb)(hs:∀x,pS it X.env x=pure x:=by intro _;rfl):VW X G (.For tg it body [] pos) (Pt P1 fg gb):=by
 rintro U He π s σ H D I ⟨Z,o,⟨A,w⟩,e,k⟩
 cases e1:P1 Z with
 |none=>simp[Pt,e1] at e
 |some O=>
  have e':OS (λd Z=>(fg d Z).bind gb) O Z=O0 o:=by
   have e2:OS (XU fg gb) O Z=O0 o:=by simpa [Pt,e1] using e
   exact e2
  have S2:PSs X body (λD σ H=>∃U He,tS G U He gb D σ H):=(by rintro π s σ H D I ⟨U,He,q⟩;exact @hb U He π s σ H D I q);have Q2:PG X tg (λv σ H Q=>∃U He,tGD G U He fg v σ H Q):=(by rintro π s σ H v u Q I r ⟨U,He,q⟩;exact @hg U He π s σ H v u Q I r q);refine ZQ hp hc (@hi A) Q2 S2 hs π s σ H D I ⟨Z,O,w.ok,e1,λJ H1 s1 sr=>?_⟩;obtain⟨U1,w2⟩:=(w.mono s1).here;have k2:=k.base U1 w.l0;generalize T2:lu (A.filter λa=>decide (a∉U)) H1=Hf at U1 w2 k2;refine⟨λi m S H'=>m=O.length-i/\i<=O.length/\∃Y,OkS G U Hf S H' Y/\OS (λd Z=>(fg d Z).bind gb) (O.drop i) Y=O0 o,⟨O.length,by simp,gL _,Z,⟨A,w2⟩,by simpa using e'⟩,?_⟩;rintro i m X1 H3 ⟨rfl,X2,S1,⟨B,w3⟩,T⟩;have pl:cc (lu A H1) (lu B H3):=by rw[<-T2] at w3;exact Sb.plain w.sub w3
  by_cases S0:i<O.length
  .right;have hd:O[i]?=O0 O[i]:=by simp[S0]
   have ed:O.drop i=O[i]::O.drop (i+1):=x5 S0;rw[ed] at T;unfold OS at T;refine⟨sr.go i H3 (pl.trans Ay) S0,λS H'=>∃Y,OkS G U Hf S H' Y/\OS (λd Z=>(fg d Z).bind gb) (O.drop (i+1)) Y=O0 o,λS H' q=>⟨O.length-(i+1),by omega,rfl,S0,q⟩,λx H' y=>?_⟩;obtain⟨sy,rx⟩:=sr.yld i H3 x H' _ (pl.trans Ay) hd y;refine⟨U,Hf,B,S1,O[i],?_⟩;cases e4:fg O[i] S1 with
   |none=>simp[e4] at T
   |some X0=>
    refine⟨X0,w3.mono sy,rx B w3.ok.live pl,rfl,λU2 H5 Y1=>⟨U,Hf,X0,?_⟩⟩;cases e5:gb X0 with
    |none=>simp[e4,e5] at T
    |some o5=>
     refine⟨o5,Y1,rfl,?_⟩;cases o5 with
     |nx W=>
      simp only[e4,e5,cw] at T;exact λS H' r0=>⟨W,r0,T⟩
     |ct W=>
      simp only[e4,e5,cw] at T;exact λS H' r0=>⟨W,r0,T⟩
     |bk W=>
      simp only[e4,e5,cw] at T;cases T;exact λS H' r0=>k2 S H' r0
     |rt d5 W=>
      simp only[e4,e5,cw] at T;cases T;exact k2
  .left;have ei:i=O.length:=by omega
   subst ei;rw[Bi] at T;cases T;exact⟨sr.stop _ H3 (pl.trans Ay) (aS _),k2 X1 H3 ⟨B,w3⟩⟩
theorem fV(n:Nat)(hp:vE .(3) X.A X.env X.xe)(ht:Zl X G c ga)(hb:UP X G body gb):VW X G (.While c body [] pos) (HS ga gb n):=by
 rintro A0 He π s U H D I ⟨ρ,o,ok,e,k⟩
 have S0:PT X c (λU H Q=>∃A,tFT G A ga U H Q):=(by rintro π s U H Q I ⟨A,q⟩;exact @ht A π s U H Q I q);refine iW hp S0 (@hb A0 He) π s U H D I ⟨λm d T=>∃J,OkS G A0 He d T J/\HS ga gb m J=O0 o,⟨n,ρ,ok,e⟩,?_⟩;rintro m r0 H1 ⟨S,⟨A,w1⟩,r⟩;cases m with
 |zero=>cases r
 |succ m=>
  unfold HS at r;cases Z:ga S with
  |none=>simp[Z] at r
  |some t=>
   refine⟨A,S,t,w1.ok,Z,λH2 s2=>?_⟩;cases t with
   |false=>
    refine iteF ?_;simp only[Z] at r;cases r;exact k r0 H2 ⟨A,w1.mono s2⟩
   |true=>
    refine iteT ⟨λd T=>∃J,OkS G A0 He d T J/\HS ga gb m J=O0 o,λd T q=>⟨m,y9 m,q⟩,S,?_⟩;simp only[Z] at r;cases Y:gb S with
    |none=>simp[Y] at r
    |some o3=>
     refine⟨o3,⟨A,w1.mono s2⟩,rfl,?_⟩;cases o3 with
     |nx W=>simp only[Y] at r;exact λd T O=>⟨W,O,r⟩
     |ct W=>simp only[Y] at r;exact λd T O=>⟨W,O,r⟩
     |bk W=>simp only[Y] at r;cases r;exact λd T O=>k d T O
     |rt d5 W=>simp only[Y] at r;cases r;exact k
end
def Po(G:Gx)(g:List D->Option D):Sp:=λvs H Q _=>∃A ds d,(∀a∈A,Nt (H a))/\fy G (lu A H) vs ds/\g ds=O0 d/\∀v r,cc H r->uj G (lu A r) v d->Q v r
section
variable {G:Gx}{a:Expr}{es:List Expr}{fs:FA}{p:Pos}
def ABN{k:Nat}{f:Addr}{g:List D->Option D}{x:Str}(F:mu X.prog X.w X.K X.mg X.base CX0 k f fd ps (Po G g))(Z:Room k X.A)(hg:Gl X x)(hm:X.mg x=O0 (.ref f))(hk:fF X.K (.ref f)=E3)(hb:OX X.K fd ps [])(ha:PFA X G (a::es) fs)(I:(x==("__debug__":Str))=ZA:=by decide)(he:aE (a::es) X.env=(ZA,eval a X.env)::aE es X.env:=by rfl)(r:(dE pos (aE es X.env)).any (·.1)=ZA:=by rfl):
  PF X G (.Call (.Name x p) (a::es) [] pos) (Ag g fs):=λA=>Bt (rG F Z hg hm hk hb .nil Xo (@ha A) I he r)<|by
 rintro σ H Q ⟨S,d,o,e,k⟩
 unfold Ag at e;cases J:fs S with
 |none=>simp[J] at e
 |some O=>
  have e':g O=O0 d:=by simpa [J] using e
  refine⟨S,O,o,J,λvs H1 T Y=>⟨A,O,d,(o.mono T).live,by rw[gg];exact Y,e',λv H2 U W=>k v H2 (T.trans U) W⟩⟩
end
def Pa{G:Gx}{vs:List V}{ds:List D}(live:∀a∈A,Nt (H a))(r:fy G (lu A H) vs ds)(W:vs.length<=N.length):OkS G A H (start N vs) H (Ek N.length ds):=by
 have g:∀(i:Nat) (z:Slot),(Ek N.length ds)[i]?=O0 z->(∃d,z=.fz d/\ds[i]?=O0 d)∨z=.un:=λi z h=>by
  unfold Ek at h
  by_cases O:i<ds.length
  .rw[kR (by simpa using O),db] at h;cases e:ds[i]? with
   |none=>rw[e] at h;cases h
   |some d=>rw[e] at h;exact .inl ⟨d,(dc h).symm,rfl⟩
  .rw[ku (by simpa using mE.mp O),DV] at h;split at h
   .exact .inr (dc h).symm
   .cases h
 refine⟨A,cc.refl H,λ_ h=>h,λa h=>.inl h,λa T=>(live a T).ne,⟨?_,live,λi d h=>?_,λi d h=>?_,λi j d e a h _ _ _=>?_⟩,λi d a h _=>?_,λx d _ h=>?_⟩
 .unfold L2.start Ek;rw[eI,eI,aI,aI,yk,yk,r.1]
 .rcases g i _ h with ⟨J,e,I⟩ | e
  .cases e;obtain⟨v,S,U⟩:=r.get I;refine⟨v,?_,U⟩;unfold L2.start;rw[kR (by rw[aI];exact (jp.mp S).1),db,S];rfl
  .cases e
 .rcases g i _ h with ⟨J,e,I⟩ | e
  .cases e
  .cases e
 .rcases g i _ h with ⟨J,e,I⟩ | e
  .cases e
  .cases e
 .rcases g i _ h with ⟨J,e,I⟩ | e
  .cases e
  .cases e
 .rcases g 0 _ h with ⟨J,e,I⟩ | e
  .cases e
  .cases e
theorem fn_D{G:Gx}{base:Heap}{x:Str}{f:Addr}{k:Nat}{b:FS}(F:Fun G.K x qual st f fd)(S:fc N ps (Ac st))(hl:ps.length<=N.length)(hb:∀(cdv:ac) (A:aT) (outer:List Env) (s:av) (H:Hp) (E:XK),Room k (A.deeper (io qual (Ac st) s.heap.objs.size f cdv))->UP (TZ CX0 P w G.K mg base N qual (Ac st) f cdv A outer s H E).nox G (Bs st) b):
  mu P w G.K mg base CX0 (k+1) f fd ps (Po G (oo N.length ps.length b)):=by
 refine F.ok S (λZ H Q E h=>?_) (λcdv A outer s H Z Q E hr h=>?_)
 .obtain⟨A,J,d,U,r,e,_⟩:=h;unfold oo at e;split at e
  .rename_i I;rw[r.1];exact I
  .cases e
 .obtain⟨A0,J,d,U,r,e,k⟩:=h;unfold oo at e;split at e
  .rename_i I;have hzz:=hb cdv A outer s H E hr;refine⟨_,@hzz A0 H,Ek N.length J,?_⟩;cases g:b (Ek N.length J) with
   |none=>simp[g] at e
   |some o=>
    refine⟨o,Pa U r (by rw[r.1,I];exact hl),rfl,?_⟩;cases o with
    |nx T=>
     simp only[g] at e;cases e;rintro W O ⟨A,w⟩;exact k _ O w.same .non
    |rt d' Y=>
     simp only[g] at e;cases e;exact λv W O A w r'=>k v O w.same (r'.mono (Ji w.sub))
    |bk T=>simp[g] at e
    |ct T=>simp[g] at e
  .cases e
section
variable {G:Gx}{a b c:Expr}{px:Pos}{t:Str}{elt iter:Expr}{ifs:List Expr}{ga:FT}{fe:FE}{src:FI}
def PFTs(X:Cx)(G:Gx)(d:List Expr)(f:FT):Prop:=∀⦃A⦄,PTs X d (tFT G A f)
def Do:PFTs X G [] OQ:=by
 rintro A r s g H Q I ⟨d,b,o,e,k⟩
 cases e;exact sG r s g H Q I (k H (cc.refl H))
def Pb(h:Zl X G a ga):PFTs X G [a] ga:=λA=>sH (@h A)
theorem WV.fill{Hc:Hp}{ρ:Rho}(o:WV G A σ H ρ)(s:cc H Hc)(T:H p=W1)(U:Nt (Hc p)):WV G (p::A) σ Hc ρ:=by
 have r:cc (lu A H) (lu (p::A) Hc):=λb u h=>by
  unfold lu at h;split at h
  .cases h
  .rename_i W;rw[Cg]
   .exact s b u h
   .intro z
    rcases bX.mp z with z | z
    .rw[z,T] at h;cases h
    .exact W z
 refine⟨o.len,λa Y=>?_,λi d h=>?_,λi d h=>?_,o.inj⟩
 .rcases bX.mp Y with z | z
  .rw[z];exact U
  .exact (o.mono s).live a z
 .obtain⟨v,J,I⟩:=o.fz i d h;exact⟨v,J,I.mono r⟩
 .obtain⟨a,J,I,S⟩:=o.ow i d h;refine⟨a,J,da _ I,?_⟩;cases d with
  |lst O=>obtain⟨g,q1,q2⟩:=S;exact⟨g,s _ _ q1,q2.mono r⟩
  |dk O=>obtain⟨g,q1,q2,q3⟩:=S;exact⟨g,s _ _ q1,q2,q3.mono r⟩
  |dt O=>obtain⟨g,q1,q2,q3⟩:=S;exact⟨g,s _ _ q1,q2,q3.mono r⟩
  |ob c Z=>obtain⟨C,dx,g,q1,q2,q3⟩:=S;exact⟨C,dx,g,s _ _ q1,q2,q3.mono r⟩
  |_=>exact S.elim
theorem WV.snoc{ρ:Rho}{d:D}(o:WV G A σ H ρ)(r:uj G (lu A H) v d):WV G A (σ++[O0 v]) H (ρ++[.fz d]):=by
 have I:∀(j:Nat) (z:Slot),(ρ++[.fz d])[j]?=O0 z->(j=ρ.length/\z=.fz d)∨(j<ρ.length/\ρ[j]?=O0 z):=λj z h=>by
  by_cases W:j<ρ.length
  .rw[kR W] at h;exact .inr ⟨W,h⟩
  .rw[ku (mE.mp W)] at h;cases q:j-ρ.length with
   |zero=>rw[q] at h;exact .inl ⟨by omega,(dc h).symm⟩
   |succ n=>rw[q] at h;cases h
 have g:∀(j:Nat),j<ρ.length->(σ++[O0 v])[j]?=σ[j]?:=λj W=>kR (by rw[o.len];exact W);refine⟨by rw[eI,eI,o.len];rfl,o.live,λj e h=>?_,λj e h=>?_,λj k e f p Z Y T O=>?_⟩
 .rcases I j _ h with ⟨W,S⟩ | ⟨W,S⟩
  .cases S;subst W;exact⟨v,by rw[ku (by rw[o.len];exact aS _),o.len,sQ];rfl,r⟩
  .obtain⟨u,q1,q2⟩:=o.fz j e S;exact⟨u,by rw[g j W];exact q1,q2⟩
 .rcases I j _ h with ⟨W,S⟩ | ⟨W,S⟩
  .cases S
  .obtain⟨u,q1,q2⟩:=o.ow j e S;exact⟨u,by rw[g j W];exact q1,q2⟩
 .rcases I j _ Z with ⟨_,S⟩ | ⟨W,S⟩
  .cases S
  .rcases I k _ Y with ⟨_,J⟩ | ⟨U,J⟩
   .cases J
   .rw[g j W] at T;rw[g k U] at O;exact o.inj j k e f p S J T O
theorem WV.snocs{A:List Addr}{H:Hp}:∀{vs:List V}{es:List D}{σ:St}{ρ:Rho},WV G A σ H ρ->fy G (lu A H) vs es->WV G A (σ++vs.map O0) H (ρ++es.map .fz)
 |[],[],σ,ρ,o,_=>by simpa using o
 |[],_::_,_,_,_,r=>by have:=r.1;simp at this
 |_::_,[],_,_,_,r=>by have:=r.1;simp at this
 |v::vs,e::es,σ,ρ,o,r=>by
  obtain⟨x,g,h,d,S⟩:=r.uncons;cases h;simpa using (o.snoc d).snocs S
def Ft(g:D->Option (List D))(ρ:Rho)(ga:FT)(fe:FE):List D->Option (List D)
 |[]=>O0 []
 |d::r=>(g d).bind λes=>match ga (ρ++es.map .fz) with
  |some E3=>(fe (ρ++es.map .fz)).bind λy=>(Ft g ρ ga fe r).map (y::·)
  |some ZA=>Ft g ρ ga fe r
  |none=>W1
def J0(g:D->Option (List D))(d:FI)(ga:FT)(fe:FE):FE:=λρ=>(d ρ).bind λds=>if ds.length<=sizeLine then (Ft g ρ ga fe ds).map .lst else W1
def bd1(d:D):Option (List D):=O0 [d]
theorem X3(ρ:Rho)(ga:FT)(fe:FE):∀ds,J_ ρ ga fe ds=Ft bd1 ρ ga fe ds
 |[]=>rfl
 |d::r=>by
  unfold J_ Ft;rw[X3 ρ ga fe r];rfl
def jg(d:FI)(ga:FT)(fe:FE):Bo d ga fe=J0 bd1 d ga fe:=by
 funext ρ;unfold Bo J0;congr 1;funext ds;rw[X3]
def Bnd(G:Gx)(N n:Nat)(J:D->Option (List D))(g:TG):Prop:=∀(A:List Addr) (r I:St) (H:Hp) (x:V) (d:D) (es:List D) (Q:St->Hp->Prop),r.length=N->I.length=n->J d=O0 es->uj G (lu A H) x d->(∀vs,vs.length=n->fy G (lu A H) vs es->Q (r++vs.map O0) H)->g x (r++I) H Q
def bnd1{N:Nat}:Bnd G N 1 bd1 (Hq N):=λA g J H x d O Q Z I e r k=>by
 cases e;obtain⟨o,rfl⟩:=List.length_eq_one_iff.mp I;have z:(g++[o]).set N (O0 x)=g++[O0 x]:=by rw[<-Z,EN _ _ (aS _),sQ];rfl
 show Q ((g++[o]).set N (O0 x)) H;rw[z];exact k [x] rfl (.cons r .nil)
def tN(G:Gx)(A:List Addr)(f:FE):TE:=λr H Q=>∃ρ d,WV G A r H ρ/\f ρ=O0 d/\∀p g,cc H g->H p=W1->YY G (p::A) g p d->Q (.ref p) g
def jh{N:Nat}{bd:D->Option (List D)}{g:TG}(hX:X.N.length=N)(hB:Bnd G N n bd g){A:List Addr}{W:St}{H:Hp}{Q:VK}(h:tN G A (J0 bd src ga fe) W H Q):jQ n (wB X (tI G A E3 src)) g (λW H Q=>∃A,tFT G A ga W H Q) (λW H Q=>∃A,tF G A fe W H Q) W H Q:=by
 obtain⟨ρ,d,o,e,k⟩:=h;unfold J0 at e;cases e1:src ρ with
 |none=>simp[e1] at e
 |some I=>
  rw[e1] at e;have e':(if I.length<=sizeLine then (Ft bd ρ ga fe I).map D.lst else W1)=O0 d:=e;split at e'
  .rename_i hz;cases e2:Ft bd ρ ga fe I with
   |none=>simp[e2] at e'
   |some S0=>
    simp only[e2,iq] at e';cases e';refine⟨λJ H1=>cc H H1/\Src G J I H1 (lu A H1),⟨ρ,I,o,e1,λJ H1 s1 sr=>⟨s1,sr⟩⟩,λJ H1 S1 q0 p hp=>?_⟩;obtain⟨s1,sr⟩:=q0;have o1:=o.mono s1;refine⟨λi m ys U=>m=I.length-i/\i<=I.length/\U p=O0 (.lst ys)/\cc H1 U/\ys.length<=i/\∃es rest,fy G (lu (p::A) U) ys es/\Ft bd ρ ga fe (I.drop i)=O0 rest/\es++rest=S0,
     ⟨I.length,by simp,gL _,Ah,Ao hp _,aS _,[],S0,fy.nil,by simpa using e2,rfl⟩,?_⟩
    rintro i m ys U ⟨rfl,Q2,O,T,hy,es,rest,rr,r,eo⟩
    by_cases S:i<I.length
    .right;have hd:I[i]?=O0 I[i]:=by simp[S]
     have ed:I.drop i=I[i]::I.drop (i+1):=x5 S;rw[ed] at r;unfold Ft at r;refine⟨sr.go i U T S,λx H' y os ho=>?_⟩;obtain⟨sy,rx⟩:=sr.yld i U x H' _ T hd y;have X0:WV G (p::A) W U ρ:=o1.fill T hp (by rw[O];exact Nt.lst);have sm:cc (lu A H1) (lu (p::A) U):=λb u h=>by
      unfold lu at h;split at h
      .cases h
      .rename_i hb;rw[Cg]
       .exact T b u h
       .intro z
        rcases bX.mp z with z | z
        .rw[z,hp] at h;cases h
        .exact hb z
     cases r0:bd I[i] with
     |none=>simp[r0] at r
     |some bs=>
     simp only[r0,cw] at r;refine hB (p::A) W os H' x I[i] bs _ (S1.trans hX) ho r0 (rx _ X0.live sm) λvs X1 U1=>⟨⟨_,rfl,by rw[aI];exact X1⟩,?_⟩;have P1:=(X0.mono sy).snocs U1;have O:=sy _ _ O;have rr:=rr.mono (Ba sy);have T:=T.trans sy;cases eg:ga (ρ++bs.map .fz) with
     |none=>simp[eg] at r
     |some b=>
      refine⟨p::A,_,b,P1,eg,λH2 Y=>?_⟩;cases b with
      |false=>
       refine iteF ⟨I.length-(i+1),by omega,rfl,S,Y _ _ O,T.trans Y,Bn hy,es,rest,rr.mono (Ba Y),by simpa [eg] using r,eo⟩
      |true=>
       simp only[eg] at r;cases ee:fe (ρ++bs.map .fz) with
       |none=>simp[ee] at r
       |some yd=>
        cases ec:Ft bd ρ ga fe (I.drop (i+1)) with
        |none=>simp[ee,ec] at r
        |some Z=>
         simp only[ee,ec,cw,iq] at r;cases r;refine iteT ⟨p::A,_,yd,P1.mono Y,ee,λyv H3 s3 r3=>?_⟩;have Y1:=s3 _ _ (Y _ _ O);refine⟨Y1,by omega,I.length-(i+1),by omega,rfl,S,Ah,λb u q=>?_,by rw[eI];simp;omega,es++[yd],Z,?_,ec,by rw[Bz];exact eo⟩
         .have hb:b≠p:=BZ q hp;rw[Aj hb];exact s3 _ _ (Y _ _ (T _ _ q))
         .rw[GZ eD];exact (rr.mono (Ba (Y.trans s3))).append (.cons r3 .nil)
    .left;have ei:i=I.length:=by omega
     subst ei;rw[Bi] at r;simp only[Ft] at r;cases r;rw[gg] at eo;subst eo;exact⟨sr.stop _ U T (aS _),k p U (s1.trans T) (s1.free hp) ⟨ys,O,rr⟩⟩
  .cases e'
def ABO{I:D->Option (List D)}{Q:VK}(h:tF G A (J0 I src ga fe) σ H Q):tN G A (J0 I src ga fe) σ H Q:=by
 obtain⟨r,d,o,e,k⟩:=h;have S:=e;unfold J0 at S;cases T:src r with
 |none=>simp[T] at S
 |some J=>
  rw[T] at S;have g:(if J.length<=sizeLine then (Ft I r ga fe J).map D.lst else W1)=O0 d:=S;split at g
  .cases O:Ft I r ga fe J with
   |none=>rw[O] at g;cases g
   |some W=>
    rw[O] at g;cases g;refine⟨r,_,o,e,λp H' U Y ⟨xs,h1,h2⟩=>k _ H' U ?_⟩;have q:=h2.mono (Ji (A:=A) λa Z=>da _ Z);exact .lst (.of (by rw[Cg (λz=>(o.live p z).ne Y)];exact h1)) q.1 q.2
  .cases g
section
variable {bd:D->Option (List D)}{g:TG}{ts:List Str}
theorem X4(J:List Str)(eN:Ce ts X.N++ts=J)(c:OR X scope ts)(S:X.calm=E3)(hi:WU X G E3 tg iter src)(Y:∀T r fp,PG (DP X scope J T r fp) tg g)(Z:Bnd G X.N.length ts.length bd g)(U:∀T r fp,PFTs (DP X scope J T r fp) G ifs ga)(W:∀T r fp,PF (DP X scope J T r fp) G elt fe)(hs:∀x,pS iter X.env x=pure x:=by intro _;rfl)(A:List Addr):PE X (.ListComp elt [⟨tg,iter,ifs,0⟩] scope pos) (tN G A (J0 bd src ga fe)):=by
 subst eN;refine Bt (jR (tc:=λd H Q=>∃A,tFT G A ga d H Q) (te:=λd H Q=>∃A,tF G A fe d H Q) c S (sI (@hi A)) Y (λT r fp=>?_) (λT r fp=>?_) hs) λ_ _ _ h=>jh rfl Z h
 .rintro O s d H Q I ⟨A,q⟩;exact U T r fp O s d H Q I q
 .rintro O s d H Q I ⟨A,q⟩;exact W T r fp O s d H Q I q
end
def ABP{J:List Str}(d:Fx t X.N++[t]=J)(c:TQ X scope t)(T:av)(r:Hp)(fp:List Addr):PG (DP X scope J T r fp) (.Name t px) (Hq X.N.length):=by
 subst d;exact gOne c T r fp
def Dl(J:List Str)(d:Fx t X.N++[t]=J)(c:TQ X scope t)(I:X.calm=E3)(g:WU X G E3 (.Name t px) iter src)(U:∀T r fp,PFTs { Zh X scope t T r fp with N:=J } G ifs ga)(W:∀T r fp,PF { Zh X scope t T r fp with N:=J } G elt fe)(hs:∀x,pS iter X.env x=pure x:=by intro _;rfl):PF X G (.ListComp elt [⟨.Name t px,iter,ifs,0⟩] scope pos) (Bo src ga fe):=λA=>by
 rw[jg];exact Bt (X4 J d c I g (ABP d c) bnd1 U W hs A) λ_ _ _ h=>ABO h
end
section
variable {A:aT}{R:nv->av->Prop}{I:Addr}{wr:List Addr}{P:Nat->ac->Prop}{Sx:Nat->Heap->Prop}
def mmL:String->kH->eC:=by
 apply (λ(f:String->kH->eC) (_:f "max" .Gt=eC.«max.loop»)=>f);delta eC.«max.loop»;exact rfl
def mmB:String->eC:=by
 apply (λ(f:String->eC) (_:f "max"=LA)=>f);delta LA;exact rfl
structure Mm where
 nm:String
 lp:String
 op:kH
 gt:Int->Int->Bool
 N:(Nat->Int)->Nat->Int
 nl:(toString nm++toString ".loop":String)=lp
 pl:plainId lp=E3
 el:zi table lp=O0 (mmL nm op)
 ki:EQ nm=W1
 pb:plainId nm=E3
 eb:zi table nm=O0 (mmB nm)
 ar:∀a v:ac,oB nm ⟨[a],[(eJ "default",v)]⟩
 cm:∀{prog:cE}{w:cb}{A:aT}{P:Nat->ac->Prop}(val:Nat->Int),(∀i v,P i v->∃t,v=nV (val i) t)->CmpOf prog w A op P λi j=>gt (val i) (val j)
 best:∀(val:Nat->Int) (k:Nat),val (iL (λi j=>gt (val i) (val j)) k)=N val k
 cong:∀{f g:Nat->Int}{k:Nat},(∀i,i<=k->f i=g i)->N f k=N g k
def mmD(m:Mm)(x y:D):Option D:=match x with
 |.lst ds=>(Ge ds).map λS=>if S=[] then y else .int (m.N (λi=>S.getD i 0) (S.length-1))
 |_=>W1
def tM(m:Mm)(W:oC prog w A.in1 I fp wr n P Sx)(bt:Nat->Nat->Bool)(S0:CmpOf prog w A.in1 m.op P bt)(S:Addr)(nS:S∉fp):
  ∀(k j:Nat) (s:av) (r:ac) (c:Nat),k=n-(j+1)->j+1<=n->Sx (j+1) s.heap->P (iL bt j) r->s.heap.get? S=O0 { cls:=.type "list",dict:=W1,data:=.seq #[r,r] c,slots:=#[] } ->
  (∀v h' tk,P (iL bt (n-1)) v->(∀b o,b∉wr->b≠S->s.heap.get? b=O0 o->h'.get? b=O0 o)->R (.ok (.ret v)) { s with heap:=h',toks:=tk })->fA (ai prog w) A (.builtin m.lp ⟨[.ref I,.none,.ref S],kw⟩) R s:=by
 have nW:S∉wr:=λh=>nS (W.sub _ h);intro k
 induction k with
 |zero=>
  intro j s r c hk hj T hb hS hR;have en:j+1=n:=by omega
  refine kU m.el (by
   rw[ti m.pl _];show ah _ A.in1 (zk (.ref S) >>= _) _ _ s;refine ag (nN hS rfl ?_);show ah _ A.in1 (tryCatch (hU (.ref I)) _ >>= _) _ _ s;refine ag (zn (W.done s _ _ (by rw[<-en];exact T) λh1 tk Z=>?_));have g:=Z S _ nW hS;show ah _ A.in1 (BA S (λ_=>#[]) >>= _) _ _ _;refine ag (zo g rfl (ag (tj (aw ?_))));exact hR r _ tk (by rw[<-en];exact hb) λb o J d e=>(ka _ _ (cf d)).trans (Z b o J e))
 |succ k ih=>
  intro j s r c hk hj T hb hS hR;have U:j+1<n:=by omega
  refine kU m.el (by
   rw[ti m.pl _];show ah _ A.in1 (zk (.ref S) >>= _) _ _ s;refine ag (nN hS rfl ?_);show ah _ A.in1 (tryCatch (hU (.ref I)) _ >>= _) _ _ s;refine ag (zn (W.item (j+1) s _ _ U T λv h1 tk hP r0 Z=>?_));have g:=Z S _ nW hS;show ah _ A.in1 (tryCatch (lS [v,v] (richCompare m.op v r >>= _)) _ >>= _) _ _ _;refine ag (zn (wpAny_holding (ag (S0 (j+1) (iL bt j) v r _ _ _ hP hb ?_))));refine ag (wpAny_holding (kB (ag (tj (aw ?_)))));cases q:bt (j+1) (iL bt j) with
   |true=>
    simp only[XO];refine ag (zo g rfl (ag (tj ?_)));rw[m.nl];refine aw ⟨qE m.pl _,ih (j+1) _ v _ .(0) U (W.frame _ _ _ r0 λb X0 o e=>(ka _ _ (λz:S=b=>nS (by rw[z];exact X0))).trans e) (by simp only[iL,q,XO];exact hP) (mI _ g rfl)
     λv2 h2 G Y O=>hR v2 h2 G Y λb o J d e=>O b o J d ((ka _ _ (cf d)).trans (Z b o J e))⟩
   |false=>
    simp only[ff,YO];refine ag (tj ?_);rw[m.nl];exact aw ⟨qE m.pl _,ih (j+1) _ r c .(0) U r0 (by simp only[iL,q,ff,YO];exact hb) g λv2 h2 G Y O=>hR v2 h2 G Y λb o J d e=>O b o J d (Z b o J e)⟩)
def ji(m:Mm)(W:oC prog w A.in1 I fp wr n P Sx)(bt:Nat->Nat->Bool)(r:CmpOf prog w A.in1 m.op P bt)(S:Addr)(U:S∉fp){s:av}{c:Nat}{nm:Str}{dv:ac}(g:Sx 0 s.heap)(hS:s.heap.get? S=O0 { cls:=.type "list",dict:=W1,data:=.seq #[] c,slots:=#[] })(hR:0<n->∀v h' tk,P (iL bt (n-1)) v->(∀b o,b∉wr->b≠S->s.heap.get? b=O0 o->h'.get? b=O0 o)->R (.ok (.ret v)) { s with heap:=h',toks:=tk })(h0:n=0->∀h' tk,(∀b o,b∉wr->s.heap.get? b=O0 o->h'.get? b=O0 o)->R (.ok (.ret dv)) { s with heap:=h',toks:=tk }):
  fA (ai prog w) A (.builtin m.lp ⟨[.ref I,.none,.ref S],[(nm,dv)]⟩) R s:=by
 have nW:S∉wr:=λh=>U (W.sub _ h);refine kU m.el (by
  rw[ti m.pl _];show ah _ A.in1 (zk (.ref S) >>= _) _ _ s;refine ag (nN hS rfl ?_);show ah _ A.in1 (tryCatch (hU (.ref I)) _ >>= _) _ _ s
  by_cases Z:0<n
  .refine ag (zn (W.item 0 s _ _ Z g λv h1 tk hP T O=>?_));have G:=O S _ nW hS;show ah _ A.in1 (BA S (λ_=>#[v,v]) >>= _) _ _ _;refine ag (zo G rfl ?_);rw[m.nl];exact aw ⟨qE m.pl _,tM m W bt r S U _ 0 _ v _ rfl Z (W.frame _ _ _ T λb r0 o e=>(ka _ _ (λz:S=b=>U (by rw[z];exact r0))).trans e) hP (mI _ G rfl)
    λv2 h2 J S0 Y=>hR Z v2 h2 J S0 λb o nb d e=>Y b o nb d ((ka _ _ (cf d)).trans (O b o nb e))⟩
  .have en:n=0:=by omega
   refine ag (zn (W.done s _ _ (by rw[en];exact g) λh1 tk O=>?_));exact ag (uS (aw (h0 en h1 tk O))))
end
section
variable {A:aT}{l:Addr}{xs:Array (Int×Tok)}
def jk(m:Mm){Q:ac->av->Prop}{r:ac}(S:A.handled=W1)(Z:s.heap.IsList l (gT xs))(h1:0<xs.size->∀v h' tk,(gT xs)[iL (λi j=>m.gt (kf xs i) (kf xs j)) (xs.size-1)]?=O0 v->(∀b o,s.heap.get? b=O0 o->h'.get? b=O0 o)->Q v { s with heap:=h',toks:=tk })(h0:xs.size=0->∀h' tk,(∀b o,s.heap.get? b=O0 o->h'.get? b=O0 o)->Q r { s with heap:=h',toks:=tk }):
  ah (ai prog w) A (call (.builtin m.nm) [.ref l] [(eJ "default",r)]) Q E s:=by
 refine PyProof.Rows.kmk_tree m.ki m.pb m.eb (m.ar _ _) ?_;show ah _ A.in1 (LB m.nm ["key","default"] 0 ⟨[],[(eJ "default",r)]⟩ >>= _) _ _ s;refine ag (BB (show LB m.nm ["key","default"] 0 ⟨[],[(eJ "default",r)]⟩=pure [W1,O0 r] from rfl) (ag (aw ?_)));refine ag (iter_intList Z λs2 e U I d=>?_);subst e;refine ag (iF ?_);have Y:(s.heap.push { cls:=.type "list_iterator",data:=.fields #[.ref l,.int 0 0] }).objs.size∉[s.heap.objs.size,l]:=λg=>kG _ (I _ g);have W:oC prog w A.in1.in1 s.heap.objs.size [s.heap.objs.size,l] [s.heap.objs.size] (gT xs).size (λi v=>(gT xs)[i]?=O0 v) (λi h=>h.IsListIter s.heap.objs.size l i/\h.IsList l (gT xs)):=BC (A:=A.in1.in1) S _ l d (gT xs);have T:oC prog w A.in1 s.heap.objs.size [s.heap.objs.size,l] [s.heap.objs.size] (gT xs).size (λi v=>(gT xs)[i]?=O0 v) (λi h=>h.IsListIter s.heap.objs.size l i/\h.IsList l (gT xs)):=BC (A:=A.in1) S _ l d (gT xs);have sz:(gT xs).size=xs.size:=by simp[gT]
 have J:∀b o,s.heap.get? b=O0 o->((s.heap.push { cls:=.type "list_iterator",data:=.fields #[.ref l,.int 0 0] }).push { cls:=.type "list",data:=.seq ([]:List ac).toArray }).get? b=O0 o:=λb o e=>bo _ (bo _ e);rw[m.nl];refine aw ⟨qE m.pl _,ji m T (λi j=>m.gt (kf xs i) (kf xs j)) (m.cm (kf xs) (λ_ _=>ER)) _ Y (T.frame 0 _ _ U λb hb o e=>bo _ e) (ci _ rfl) (λG v h' tk hP O=>?_) (λG h' tk O=>?_)⟩
 .refine h1 (by rw[<-sz];exact G) v h' tk (by rw[sz] at hP;exact hP) λb o e=>O b o ?_ ?_ (J b o e)
  .intro g;exact QO (bE e) (by rw[ke.mp g];exact kG _)
  .intro z;have q:b<s.heap.objs.size:=bE e;rw[iE] at z;exact QO (z▸q) (mE.mpr (kr _))
 .refine h0 (by rw[<-sz];exact G) h' tk λb o e=>O b o ?_ (J b o e);intro g;exact QO (bE e) (by rw[ke.mp g];exact kG _)
end
theorem Og(d:Nat->Nat->Bool):∀k,iL d k<=k
 |0=>aS _
 |k+1=>by
  unfold iL;split
  .exact aS _
  .exact Bn (Og d k)
theorem SR{G:Gx}{H:Hp}:∀{ds:List D}{xs:List V}{ns:List Int},fy G H xs ds->Ge ds=O0 ns->xs=ns.map V.int
 |[],xs,ns,r,h=>by cases h;rw[r.nil_inv];rfl
 |d::ds,xs,ns,r,h=>by
  obtain⟨x,I,rfl,g,S⟩:=r.uncons;cases d with
  |int i=>
   simp only[Ge] at h;cases e:Ge ds with
   |none=>simp[e] at h
   |some J=>
    simp only[e,iq] at h;cases h;cases g;rw[SR S e];rfl
  |_=>simp[Ge] at h
def X5:∀{us:List ac},gn (ns.map V.int) us->∃xs:Array (Int×Tok),us.toArray=gT xs/\xs.size=ns.length/\∀i,i<ns.length->kf xs i=ns.getD i 0:=by
 induction ns with
 |nil=>intro us r;cases r;exact⟨#[],by simp[gT],rfl,λi h=>by simp at h⟩
 |cons n ns G=>
  intro us r;rw[bn] at r;cases r with
  |cons g S=>
   obtain⟨tk,rfl⟩:=g;obtain⟨xs,T,O,J⟩:=G S;refine⟨⟨(n,tk)::xs.toList⟩,?_,by simp[O],λi I=>?_⟩
   .have d:=UO D9 T;simp only[gT,LD] at d;simp only[gT];apply ES.mp;simp[d]
   .cases i with
    |zero=>simp[kf]
    |succ i=>
     have:=J i (by simpa using I);simp only[kf] at this ⊢;simpa using this
def rMm(m:Mm)(K:ay):V->V->Hp->VK->Prop:=λx y H Q=>∃p S,x=.ref p/\Qr K H p (S.map V.int)/\Q (if S=[] then y else .int (m.N (λi=>S.getD i 0) (S.length-1))) H
section
variable {G:Gx}{a b:Expr}{fa fb:FE}{p kpos:Pos}
def yr(m:Mm)(hc:X.calm=E3){U:QP}{s:av}{T:St}{H:Hp}{x y:V}{v u:ac}{Q:VK}(I:Inv X U T H s)(rx:fx x v)(Y:fx y u)(h:rMm m X.K x y H Q):
  ah .(3) X.A (call (.builtin m.nm) [v] [(eJ "default",u)]) (EP X U T Q) X.xe s:=by
 obtain⟨q,S,rfl,hs,k⟩:=h;cases rx;obtain⟨r0,Z,pl,hz⟩:=I.list hs;obtain⟨g,e1,d,e3⟩:=X5 Z;have hl:s.heap.IsList q (gT g):=by rw[<-e1];exact pl.isList
 refine jk m (I.ok.hd hc) hl (λJ w h' tk hP O=>?_) (λJ h' tk O=>?_)
 .have r:S≠[]:=λz=>by rw[z] at d;exact QO J (by rw[d];exact kG _)
  rw[OO r] at k;obtain⟨t,rfl⟩:=ER hP;refine⟨.int _,H,I.kept O,⟨t,?_⟩,k⟩;have S0:=Og (λi j=>m.gt (kf g i) (kf g j)) (g.size-1);have q:=m.best (kf g) (g.size-1);rw[q,d];congr 1;have W:0<S.length:=EV.mpr r;exact m.cong λi hi=>e3 i .(0)
 .have r:S=[]:=by
   rw[J] at d;exact qv.mp d.symm
  rw[ZN r] at k;exact⟨y,H,I.kept O,Y,k⟩
def wH(m:Mm){x:Str}(hc:X.calm=E3)(hG:G.K=X.K)(hg:Gl X x)(hm:X.mg x=W1)(hv:df x=O0 (.builtin m.nm))(ha:PU X G a fa)(hb:PF X G b fb)(hn:x≠"__name__":=by decide)(r0:(x==("__debug__":Str))=ZA:=by decide)(he:aE [a] X.env=[(ZA,eval a X.env)]:=by rfl)(hk:jS [⟨O0 (eJ "default"),b,kpos⟩] X.env=[(O0 (eJ "default"),eval b X.env)]:=by rfl):
  PF X G (.Call (.Name x p) [a] [⟨O0 (eJ "default"),b,kpos⟩] pos) (bF (mmD m) fa fb):=λA π s σ H Q I h=>by
 obtain⟨ρ,d,o,e,k⟩:=h;obtain⟨dx,dy,e1,e2,g⟩:=PQ e;refine qf (QX I hg hm hv ?_ hn r0);have hA:=Bl (X:=X) (@ha A) DK he pos π s σ H (λT J=>∃v,T=[v]/\cc H J/\Hb G A J v dx) I ⟨ρ,dx,o,e1,λv J U r1=>⟨v,rfl,U,r1⟩⟩;refine callWith_kw (py hA λus U q0=>?_) (by rw[he];rfl) (by rw[he];rfl) (by rw[hk];rfl) (by rw[hk];rfl);obtain⟨T,J,I1,rv,v,ev,S,r1⟩:=q0;subst ev;have hK:=rJ (X:=X) (nm:=O0 (eJ "default")) (kpos:=kpos) (@hb A) yQ pos π U σ J (λT r=>∃v,T=[v]/\cc J r/\uj G (lu A r) v dy) I1 ⟨ρ,dy,o.mono S,e2,λv r s2 Z=>⟨v,rfl,s2,Z⟩⟩;refine py hK λks s2 q9=>?_;obtain⟨ws,r,I2,W,y,ey,O,Z⟩:=q9;subst ey;obtain⟨u,rfl,ru⟩:=Xt rv;obtain⟨u2,rfl,Y⟩:=Xt W;rw[hk];have s0:=S.trans O;unfold mmD at g;cases dx with
 |lst ds=>
  simp only at g;cases ei:Ge ds with
  |none=>simp[ei] at g
  |some ns=>
   simp only[ei,iq] at g;obtain⟨q,xs,rfl,h1,rr⟩:=(r1.mono O).lst;have ex:=SR rr ei;subst ex;refine yr m hc I2 ru Y ⟨q,ns,rfl,by rw[<-hG];exact h1,?_⟩
   by_cases nn:ns=[]
   .rw[ZN nn] at g ⊢;cases g;exact k _ r s0 Z
   .rw[OO nn] at g ⊢;cases g;exact k _ r s0 (.int _)
 |_=>cases g
def fW(a v:ac):oB "max" ⟨[a],[(eJ "default",v)]⟩:=by unfold oB;kernel_rfl
theorem Th(val:Nat->Int):∀k,val (iL (λi j=>decide (val i > val j)) k)=mxN val k
 |0=>rfl
 |k+1=>by
  have d:=Th val k;unfold iL mxN
  by_cases h:val (k+1) > mxN val k
  .rw[ZN (by rw[d];exact SO h),ZN h]
  .rw[OO (by rw[d];simpa using h),OO h];exact d
theorem Qk{f g:Nat->Int}:∀{k:Nat},(∀i,i<=k->f i=g i)->mxN f k=mxN g k
 |0,h=>h 0 (aS _)
 |k+1,h=>by
  unfold mxN;rw[h (k+1) (aS _),Qk λi d=>h i (Bn d)]
def mMax:Mm:=⟨"max","max.loop",.Gt,λi j=>decide (i > j),mxN,by decide,PySem.F.plain_max_loop,PySem.F.entry_max_loop,PySem.F.kind_max,PySem.F.plain_max,PySem.F.entry_max,fW,CmpOf.ints_gt,Th,Qk⟩
def bH{x:Str}(S:X.calm=E3)(Y:G.K=X.K)(U:Gl X x)(I:X.mg x=W1)(d:df x=O0 (.builtin "max"))(W:PU X G a fa)(T:PF X G b fb)(r:x≠"__name__":=by decide)(g:(x==("__debug__":Str))=ZA:=by decide)(O:aE [a] X.env=[(ZA,eval a X.env)]:=by rfl)(J:jS [⟨O0 (eJ "default"),b,kpos⟩] X.env=[(O0 (eJ "default"),eval b X.env)]:=by rfl):
  PF X G (.Call (.Name x p) [a] [⟨O0 (eJ "default"),b,kpos⟩] pos) (bF Xp fa fb):=wH mMax S Y U I d W T r g O J
theorem X6{H:Hp}:∀{ds:List D}{xs:List V}{ns:List Str},fy G H xs ds->Nu ds=O0 ns->xs=ns.map V.str
 |[],xs,ns,r,h=>by cases h;rw[r.nil_inv];rfl
 |d::ds,xs,ns,r,h=>by
  obtain⟨x,I,rfl,g,S⟩:=r.uncons;cases d with
  |str i=>
   simp only[Nu] at h;cases e:Nu ds with
   |none=>simp[e] at h
   |some J=>
    simp only[e,iq] at h;cases h;cases g;rw[X6 S e];rfl
  |_=>simp[Nu] at h
end
def Fv:df "len"=O0 (.builtin "len"):=by decide +kernel
def Lj:df "max"=O0 (.builtin "max"):=by decide +kernel
def Zn:df "min"=O0 (.builtin "min"):=by decide +kernel
def Fy:df "isinstance"=O0 (.builtin "isinstance"):=by decide +kernel
def M8:df "sorted"=O0 (.builtin "sorted"):=by decide +kernel
def Pg:df "list"=O0 (.type "list"):=by decide +kernel
def WQ:df "dict"=O0 (.type "dict"):=by decide +kernel
def yt:df "set"=O0 (.type "set"):=by decide +kernel
def Ph(N:List Str)(sc d:lI)(g:List Str):Bool:=
 d.names.all (λy=>y.2 != .cell)&&d.kind==.function&&d.names.all (λy=>y.2 != .local ||d.names.lookup y.1==O0 .local)&&g.all (λt=>d.names.lookup t==O0 .local)
  && d.names.all (λy=>y.2 != .local ||g.contains y.1||!N.contains y.1)&&d.names.all (λy=>y.2 != .free ||sc.names.lookup y.1==O0 .cell ||sc.names.lookup y.1==O0 .free)&&d.names.all (λy=>y.1 != kN)&&decide g.Nodup&&g.all (λt=>t != kN)
def tO{d:List Str}(r:d.Nodup){t:Str}(T:t∈d)(G:t≠kN):Uq (Ce d N++d) t:=by
 have g:∀i:Nat,(Ce d N)[i]?≠O0 t:=λi e=>by
  unfold Ce at e;rw[db] at e;cases q:N[i]? with
  |none=>rw[q] at e;cases e
  |some y=>
   rw[q] at e;have e:(if y∈d then kN else y)=t:=dc e;split at e
   .exact G e.symm
   .rename_i z;exact z (e▸T)
 have big:∀i:Nat,(Ce d N++d)[i]?=O0 t->(Ce d N).length<=i/\d[i-(Ce d N).length]?=O0 t:=λi e=>by
  rcases zt i (Ce d N).length with z | z
  .rw[kR z] at e;exact QO e (g i)
  .rw[ku z] at e;exact⟨z,e⟩
 intro i j a b;obtain⟨J,I⟩:=big i a;obtain⟨b1,b2⟩:=big j b;have:=Ld r I b2;omega
def Ti{ts:List Str}(d:X.N=N)(hs:X.env.scope=sc)(h:Ph N sc scope ts=E3):OR X scope ts:=by
 unfold Ph at h;simp only[eW,fI,ZO,WO,bne_iff_ne,Bool.or_eq_true,ne_eq] at h;obtain⟨⟨⟨⟨⟨⟨⟨⟨Z,Y⟩,W⟩,U⟩,S⟩,O⟩,J⟩,G⟩,r⟩:=h;refine⟨Z,Y,λy g e=>?_,U,λy g e=>?_,λy g e=>?_,J,λt T=>tO G T (r t T)⟩
 .rcases W y g with z | z
  .exact QO e z
  .exact z
 .rcases S y g with (z | z) | z
  .exact QO e z
  .exact .inl (by simpa using z)
  .right;rw[d];simpa using z
 .have I:∀x,X.env.kindOf x=sc.names.lookup x:=λx=>by rw[<-hs];rfl
  rw[I]
  rcases O y g with (z | z) | z
  .exact QO e z
  .exact .inl z
  .exact .inr z
abbrev bI (N:List Str) (sc scope:lI) (t:Str):Bool:=Ph N sc scope [t]
def fY{t:Str}(I:X.N=N)(hs:X.env.scope=sc)(h:bI N sc scope t=E3):TQ X scope t:=Ti I hs h
def tQ{K:ay}{base:Heap}{G:Gx}{k:Nat}{f:Addr}:mu P w K mg base CX0 k f fd ps (Po G λ_=>W1):=by
 have r:∀d H Q E,¬ Po G (λ_=>W1) d H Q E:=(by rintro d H Q E ⟨_,_,_,_,_,e,_⟩;exact nomatch e);exact⟨λd H Q E h=>QO h (r d H Q E),λA g s H I J d Q E _ _ _ _ h=>QO h (r d H Q E)⟩
def Ql{G:Gx}{sl:Array (Option ac)}{g:Array ac}{xs:List Str}(h:G.K.lookup a=O0 ⟨.type "tuple",od,.seq g n,sl⟩)(hz:g.size<=sizeLine)(r:gn (xs.map V.str) g.toList):uj G (λ_=>W1) (.ref a) (.tup (xs.map .str)):=by
 refine .tup (xs:=xs.map V.str) (.inr ⟨_,g,n,h,rfl,rfl,hz,r⟩) .(1) λi x d I J=>?_;rw[db] at I J;cases e:xs[i]? with
 |none=>rw[e] at I;cases I
 |some z=>rw[e] at I J;cases I;cases J;exact .str z
end PV
namespace PySem
end PySem
namespace PV
open PySem PySem.Spec L2
open PyProof.Rows hiding St
section
variable {G:Gx}{a b c:Expr}{fa:FE}{es:List Expr}{fs:FA}
def PN(X:Cx)(G:Gx)(e:Expr)(f:FE):Prop:=∀⦃A⦄,PE X e (tN G A f)
def KH(s:cc H H')(d:H p=W1):cc (lu A H) (lu (p::A) H'):=λb u h=>by
 unfold lu at h;split at h
 .cases h
 .rename_i g;rw[Cg]
  .exact s b u h
  .intro z
   rcases bX.mp z with z | z
   .rw[z,d] at h;cases h
   .exact g z
def WR(h:PFA X G es fs):PN X G (.List es pos) (pp fs):=λA=>Bt (jA (@h A))<|by
 rintro Y H Q ⟨J,d,o,e,k⟩
 unfold pp at e;cases r:fs J with
 |none=>simp[r] at e
 |some I=>
  rw[r] at e;have S:(if I.length<=sizeLine then O0 (D.lst I) else W1)=O0 d:=e;split at S
  .rename_i W;cases S;exact⟨J,I,o,r,λU Z O T=>⟨by rw[T.1];exact W,λp g=>k p _ (O.trans (Ao g _)) (O.free g) ⟨U,Ah,T.mono (KH (Ao g _) g)⟩⟩⟩
  .cases S
def YY.live{d:D}(t:YY G A H q d):Nt (H q):=by
 cases d with
 |lst I=>obtain⟨g,q1,q2⟩:=t;rw[q1];exact Nt.lst
 |dk I=>obtain⟨g,q1,q2,q3⟩:=t;rw[q1];exact Nt.dK
 |dt I=>obtain⟨g,q1,q2,q3⟩:=t;rw[q1];exact Nt.dT
 |ob c O=>obtain⟨C,dx,g,q1,q2,q3⟩:=t;rw[q1];exact Nt.ins
 |_=>exact t.elim
def DQ{d:Type}{l:List d}{x z:d}(h:(l.set i x)[j]?=O0 z):(j=i/\z=x/\i<l.length)∨(j≠i/\l[j]?=O0 z):=by
 by_cases W:j=i
 .subst W
  by_cases Z:j<l.length
  .rw[nh Z] at h;exact .inl ⟨rfl,(dc h).symm,Z⟩
  .rw[qA (by simpa using mE.mp Z)] at h;cases h
 .rw[gi (cf W)] at h;exact .inr ⟨W,h⟩
def Sb.setW{ρ:Rho}{d:D}(w:Sb G A0 He A σ H ρ)(s:cc H H')(hp:H p=W1)(t:YY G (p::A) H' p d)(i:Nat)(S0:i≠0):Sb G A0 He (p::A) (σ.set i (O0 (.ref p))) H' (ρ.set i (.ow d)):=by
 have Y:=w.ok.fill (Hc:=H') s hp t.live;have U:He p=W1:=w.same.free hp;have r0:p∉A:=λz=>(w.ok.live p z).ne hp;refine⟨w.same.trans s,λa ha=>da _ (w.sub a ha),λa ha=>?_,w.l0,⟨by rw[qB,qB];exact Y.len,Y.live,λj e h=>?_,λj e h=>?_,λj k e f q h1 r T O=>?_⟩,λj e q h1 r=>?_,λx e hx h0=>by rw[gi S0] at h0 ⊢;exact w.lt x e hx h0⟩
 .rcases bX.mp ha with z | z
  .rw[z];exact .inr U
  .exact w.fr a z
 .rcases DQ h with ⟨_,S,_⟩ | ⟨W,S⟩
  .cases S
  .obtain⟨v,q1,q2⟩:=Y.fz j e S;exact⟨v,by rw[gi (cf W)];exact q1,q2⟩
 .rcases DQ h with ⟨W,S,Z⟩ | ⟨W,S⟩
  .cases S;subst W;exact⟨p,by rw[nh (by rw[w.ok.len];exact Z)],eD,t⟩
  .obtain⟨v,q1,q2,q3⟩:=Y.ow j e S;exact⟨v,by rw[gi (cf W)];exact q1,q2,q3⟩
 .have no:∀(m:Nat) (g:D),ρ[m]?=O0 (.ow g)->σ[m]?=O0 (O0 (.ref q))->q≠p:=λm g a1 a2 z=>by
   obtain⟨v,b1,b2,_⟩:=w.ok.ow m g a1;rw[a2] at b1;cases b1;exact r0 (z▸b2)
  rcases DQ h1 with ⟨W,_,Z⟩ | ⟨W,S⟩
  .rcases DQ r with ⟨I,_,_⟩ | ⟨I,J⟩
   .rw[W,I]
   .exfalso;subst W;rw[nh (by rw[w.ok.len];exact Z)] at T;cases T;rw[gi (cf I)] at O;exact no k f J O rfl
  .rcases DQ r with ⟨I,_,Z⟩ | ⟨I,J⟩
   .exfalso;subst I;rw[nh (by rw[w.ok.len];exact Z)] at O;cases O;rw[gi (cf W)] at T;exact no j e S T rfl
   .rw[gi (cf W)] at T;rw[gi (cf I)] at O;exact w.ok.inj j k e f q S J T O
 .rcases DQ h1 with ⟨W,_,Z⟩ | ⟨W,S⟩
  .subst W;rw[nh (by rw[w.ok.len];exact Z)] at r;cases r;exact λz=>w.l0 p z U
  .rw[gi (cf W)] at r;exact w.ow0 j e q S r
def tR{ρ:Rho}{o:To}{D:Ends}(g:i≠0)(w:Sb G A0 He A σ H ρ)(e:setW i fa ρ=O0 o)(k:Tg G A0 He D o):tAsg (tN G A fa) (Hq i) D σ H:=by
 unfold setW at e;cases r:fa ρ with
 |none=>simp[r] at e
 |some d=>
  simp only[r,iq] at e;cases e;exact⟨ρ,d,w.ok,r,λp O I J t=>k _ _ ⟨p::A,w.setW I J t i g⟩⟩
def jo{x:Str}{p:Pos}(h:∀te,PE X a te->PS X (.Assign [.Name x p] a pos) (tAsg te (Hq i)))(ha:PN X G a fa)(g:i≠0:=by decide):VW X G (.Assign [.Name x p] a pos) (setW i fa):=λS O r s d H D I ⟨J,o,⟨A,w⟩,e,k⟩=>
 h _ (@ha A) r s d H D I (tR g w e k)
def Sb.wr{ρ:Rho}{I d:D}{o:HO}(w:Sb G A0 He A σ H ρ)(T:ρ[i]?=O0 (.ow I))(hs:σ[i]?=O0 (O0 (.ref p)))(t:YY G A (mf H p o) p d):Sb G A0 He A σ (mf H p o) (ρ.set i (.ow d)):=by
 obtain⟨q,h1,hA,_⟩:=w.ok.ow i I T;rw[hs] at h1;cases h1;have r0:He p=W1:=by
  rcases w.fr p hA with z | z
  .exact QO z (w.ow0 i I p T hs)
  .exact z
 have U:lu A (mf H p o)=lu A H:=GZ hA;refine⟨λb u h=>by rw[Aj (BZ h r0)];exact w.same b u h,w.sub,w.fr,w.l0,⟨by rw[qB];exact w.ok.len,λb hb=>?_,λj e h=>?_,λj e h=>?_,λj k e f q g1 g2 g3 g4=>?_⟩,λj e q g1 g2=>?_,λx e hx h0=>?_⟩
 .by_cases z:b=p
  .rw[z];exact t.live
  .rw[Aj z];exact w.ok.live b hb
 .rcases DQ h with ⟨_,S,_⟩ | ⟨W,S⟩
  .cases S
  .rw[U];exact w.ok.fz j e S
 .rcases DQ h with ⟨W,S,hl⟩ | ⟨W,S⟩
  .cases S;subst W;exact⟨p,hs,hA,t⟩
  .obtain⟨q,q1,q2,q3⟩:=w.ok.ow j e S;have Z:q≠p:=λz=>W (w.ok.inj j i e I p S T (z▸q1) hs);refine⟨q,q1,q2,?_⟩;cases e with
   |lst ds=>obtain⟨r,O,J⟩:=q3;exact⟨r,by rw[Aj Z];exact O,by rw[U];exact J⟩
   |dk ds=>obtain⟨r,O,J,Y⟩:=q3;exact⟨r,by rw[Aj Z];exact O,J,by rw[U];exact Y⟩
   |dt ds=>obtain⟨r,O,J,Y⟩:=q3;exact⟨r,by rw[Aj Z];exact O,J,by rw[U];exact Y⟩
   |ob c gs=>obtain⟨C,dx,r,O,J,Y⟩:=q3;exact⟨C,dx,r,by rw[Aj Z];exact O,J,by rw[U];exact Y⟩
   |_=>exact q3.elim
 .have up:∀(m:Nat) (g:D),(ρ.set i (.ow d))[m]?=O0 (.ow g)->∃g',ρ[m]?=O0 (.ow g'):=λm g z=>by
   rcases DQ z with ⟨hm,_,_⟩ | ⟨_,S⟩
   .exact⟨I,by rw[hm];exact T⟩
   .exact⟨g,S⟩
  obtain⟨e',z1⟩:=up j e g1;obtain⟨f',z2⟩:=up k f g2;exact w.ok.inj j k e' f' q z1 z2 g3 g4
 .rcases DQ g1 with ⟨W,_,_⟩ | ⟨W,S⟩
  .subst W;exact w.ow0 j I q T g2
  .exact w.ow0 j e q S g2
 .rcases DQ h0 with ⟨W,_,_⟩ | ⟨_,S⟩
  .exact w.lt x I hx (by rw[W];exact T)
  .exact w.lt x e hx S
def Qm{ρ:Rho}{d:D}(h:ownO ρ i=O0 d):ρ[i]?=O0 (.ow d):=by
 unfold ownO at h;split at h
 .rename_i e;cases h;exact e
 .cases h
def fj{g:D->D->Option D}{ρ:Rho}{o:To}(h:mutF g i fa ρ=O0 o):∃v x y,fa ρ=O0 v/\ρ[i]?=O0 (.ow x)/\g x v=O0 y/\o=.nx (ρ.set i (.ow y)):=by
 unfold mutF at h;cases r:fa ρ with
 |none=>simp[r] at h
 |some v=>
  cases d:ownO ρ i with
  |none=>simp[r,d] at h
  |some x=>
   cases I:g x v with
   |none=>simp[r,d,I] at h
   |some y=>
    simp[r,d,I] at h;exact⟨v,x,y,rfl,Qm d,I,h.symm⟩
theorem R8{x:Str}(hv:PE X (.Name x xpos) (TR i))(ha:PF X G a fa)(d:hZ (.Name x xpos) "append" X.env (eval (.Name x xpos) X.env)=eval (.Name x xpos) X.env:=by rfl)(O:((dE pos (aE [a] X.env)).all (λx=>!x.1)&&(md pos (jS [] X.env)).all (λx=>x.1.isSome)&&decide ([a].length+([]:List qh).length+(if ([]:List qh).isEmpty then 0 else 1)<30))=E3:=by rfl)(g:(apos.endLine==pos.line)=E3:=by rfl)(hs:aE [a] X.env=[(ZA,eval a X.env)]:=by rfl)(U:gI (.Call (.Attribute (.Name x xpos) "append" apos) [a] [] pos) W1 p2.line X.env=pure ZA:=by rfl):
  VW X G (.Expr (.Call (.Attribute (.Name x xpos) "append" apos) [a] [] pos) p2) (mutF appL i fa):=by
 rintro A0 He π s σ H D I ⟨ρ,o,⟨A,w⟩,e,k⟩
 obtain⟨v,x0,y,e1,W,J,rfl⟩:=fj e;refine R3 (ABH LF PySem.F.slot_list_append PySem.F.type_list_append VV hv (Bl (@ha A) DK hs) d O g hs rfl) U π s σ H D I ?_;unfold appL at J;split at J
 .rename_i ds;split at J
  .rename_i hz;cases J;obtain⟨p,Z,hA,S,Y,r⟩:=w.ok.ow i _ W;refine⟨_,Z,.inl ⟨rfl,S,.of Y⟩,ρ,v,w.ok,e1,λu H1 T r1=>⟨p,S,u,rfl,rfl,T _ _ Y,by rw[r.1];exact hz,?_⟩⟩;have w1:=w.mono T;refine k _ _ ⟨A,w1.wr W Z ⟨S++[u],Ah,?_⟩⟩;rw[GZ hA];exact (r.mono (Ba T)).append (.cons r1 .nil)
  .cases J
 .cases J
theorem Inv.frzK{kvs:List (Key×V)}(I:Inv X π σ H s)(e:H p=O0 (.dK kvs)):∃o,Inv X π σ (mf H p (.frz o (.dK kvs))) s:=by
 obtain⟨z,J,r,d,W⟩:=wA I.hok e;obtain⟨o,S,T,g,O⟩:=id W;exact⟨o,R5 (h':=s.heap) (t':=s.toks) I (by rw[e];exact kP) ⟨rfl,λ_ _=>rfl⟩ ⟨o,g⟩ ⟨g,z,J,r,d,W⟩⟩
theorem Inv.frzT(I:Inv X π σ H s)(e:H p=O0 (.dT kvs)):∃o,Inv X π σ (mf H p (.frz o (.dT kvs))) s:=by
 obtain⟨z,O,J,d,o,Y,Z,g,W,U,T,S⟩:=I.hok p _ e;refine⟨o,R5 (h':=s.heap) (t':=s.toks) I (by rw[e];exact kP) ⟨rfl,λ_ _=>rfl⟩ ⟨o,g⟩ ⟨g,z,O,J,KT.keeps d λc ys r=>?_,o,Y,Z,g,W,U,T,S⟩⟩;rw[Aj (v4 r e (λz=>nomatch z))];exact r
def Sb.frzC{ρ:Rho}{d:D}(w:Sb G A0 He A σ H ρ)(hi:ρ[i]?=O0 (.ow d))(h1:σ[i]?=O0 (O0 (.ref p)))(hA:p∈A)(J:∀b,b≠p->H' b=H b)(rp:cc (lu A H) (lu (A.filter λb=>decide (b≠p)) H')->lu (A.filter λb=>decide (b≠p)) H' p=H' p->uj G (lu (A.filter λb=>decide (b≠p)) H') (.ref p) d):OkS G A0 He σ H' (ρ.set i (.fz d)):=by
 have hn:=w.ow0 i d p hi h1;have g:∀b,b∈A.filter (λb=>decide (b≠p))↔b∈A/\b≠p:=λb=>by simp[nX]
 have Y:cc (lu A H) (lu (A.filter λb=>decide (b≠p)) H'):=λb o h=>by
  unfold lu at h ⊢;split at h
  .cases h
  .rename_i r;have T:b≠p:=λz=>r (z▸hA);rw[OO (λz=>r ((g b).mp z).1),J b T];exact h
 have rp:=rp Y (Cg λz=>((g p).mp z).2 rfl);have r0:He p=W1:=(w.fr p hA).resolve_left hn;refine⟨A.filter λb=>decide (b≠p),λb o h=>?_,λb r=>(g b).mpr ⟨w.sub b r,λz=>hn (z▸r)⟩,λb r=>w.fr b ((g b).mp r).1,w.l0,⟨by rw[qB];exact w.ok.len,λb r=>?_,λj e h=>?_,λj e h=>?_,λj k e f q g1 g2 g3 g4=>?_⟩,λj e q g1 g2=>?_,λx e hx h0=>?_⟩
 .have T:b≠p:=λz=>by rw[z,r0] at h;cases h
  rw[J b T];exact w.same b o h
 .obtain⟨O,z2⟩:=(g b).mp r;rw[J b z2];exact w.ok.live b O
 .rcases DQ h with ⟨hj,S,_⟩ | ⟨hj,S⟩
  .cases S;subst hj;exact⟨_,h1,rp⟩
  .obtain⟨v,q1,q2⟩:=w.ok.fz j e S;exact⟨v,q1,q2.mono Y⟩
 .rcases DQ h with ⟨_,S,_⟩ | ⟨hj,S⟩
  .cases S
  .obtain⟨q,q1,q2,q3⟩:=w.ok.ow j e S;have Z:q≠p:=λz=>hj (w.ok.inj j i e d p S hi (z▸q1) h1);refine⟨q,q1,(g q).mpr ⟨q2,Z⟩,?_⟩;cases e with
   |lst ds=>obtain⟨I,W,U⟩:=q3;exact⟨I,by rw[J q Z];exact W,U.mono Y⟩
   |dk ds=>obtain⟨I,W,U,a3⟩:=q3;exact⟨I,by rw[J q Z];exact W,U,a3.mono Y⟩
   |dt ds=>obtain⟨I,W,U,a3⟩:=q3;exact⟨I,by rw[J q Z];exact W,U,a3.mono Y⟩
   |ob c gs=>obtain⟨C,dx,I,W,U,a3⟩:=q3;exact⟨C,dx,I,by rw[J q Z];exact W,U,a3.mono Y⟩
   |_=>exact q3.elim
 .rcases DQ g1 with ⟨_,S,_⟩ | ⟨_,O⟩
  .cases S
  .rcases DQ g2 with ⟨_,S,_⟩ | ⟨_,z2⟩
   .cases S
   .exact w.ok.inj j k e f q O z2 g3 g4
 .rcases DQ g1 with ⟨_,S,_⟩ | ⟨_,O⟩
  .cases S
  .exact w.ow0 j e q O g2
 .rcases DQ h0 with ⟨_,S,_⟩ | ⟨_,O⟩
  .cases S
  .exact w.lt x e hx O
theorem OkS.frz{ρ:Rho}(I:Inv X π σ H s)(w:OkS G A0 He σ H ρ)(i:Nat):∃H',Inv X π σ H' s/\OkS G A0 He σ H' (frz1 ρ i):=by
 unfold frz1;split
 .rename_i d S;obtain⟨A,w⟩:=w;obtain⟨p,T,Z,t⟩:=w.ok.ow i d S;cases d with
  |lst ds=>
   obtain⟨U,O,g⟩:=t;exact⟨H,I,w.frzC S T Z (λ_ _=>rfl) λr J=>.lst (.of (by rw[J];exact O)) (g.mono r).1 (g.mono r).2⟩
  |dk ds=>
   obtain⟨U,O,g,Y⟩:=t;obtain⟨o,I'⟩:=Inv.frzK I O;exact⟨_,I',w.frzC S T Z (λb W=>Aj W) λr J=>.dk (by rw[J];exact Ah) g (Y.mono r).2⟩
  |dt ds=>
   obtain⟨U,O,g,Y⟩:=t;obtain⟨o,I'⟩:=Inv.frzT I O;exact⟨_,I',w.frzC S T Z (λb W=>Aj W) λr J=>.dt (by rw[J];exact Ah) g (Y.mono r).2⟩
  |ob c gs=>
   obtain⟨C,dx,U,O,g,Y⟩:=t;exact⟨H,I,w.frzC S T Z (λ_ _=>rfl) λr J=>.ob g.1 (by rw[J];exact O) g.2 (Y.mono r).2⟩
  |_=>exact t.elim
 .exact⟨H,I,w⟩
theorem bJ{d:QP}{s:av}{A0:List Addr}{J:Hp}{g:St}:∀(O:List Nat) {H:Hp}{ρ:Rho},Inv X d g H s->OkS G A0 J g H ρ->∃H',Inv X d g H' s/\OkS G A0 J g H' (O.foldl frz1 ρ)
 |[],H,_,I,w=>⟨H,I,w⟩
 |i::r,_,_,I,w=>let ⟨_,I1,w1⟩:=w.frz I i;bJ r I1 w1
theorem Ln{g:FS}(d:List Nat)(h:VW X G st g):VW X G st (fzS d g):=λT S O s r H D I ⟨J,o,ok,e,k⟩=>
 let ⟨H',I',ok'⟩:=bJ d I ok
 @h T S O s r H' D I' ⟨d.foldl frz1 J,o,ok',e,k⟩
end
def OY{d:Type}[DecidableEq d](k:d):List (d×D)->Option D
 |[]=>W1
 |p::r=>if p.1=k then O0 p.2 else OY k r
def repK{d:Type}[DecidableEq d](k:d)(v:D):List (d×D)->List (d×D)
 |[]=>[]
 |p::r=>(p.1,if p.1=k then v else p.2)::repK k v r
def UR{g:Type}[DecidableEq g](k:g)(v:D)(d:List (g×D)):List (g×D):=if (OY k d).isSome then repK k v d else d++[(k,v)]
def US:D->Option Key
 |.int i=>O0 (.inl i)
 |.str x=>O0 (.inr x)
 |_=>W1
def Lp:List D->Option (List Key)
 |[]=>O0 []
 |d::r=>(US d).bind λk=>(Lp r).map (k::·)
section
variable {κ:Type} [DecidableEq κ] {G:Gx}
theorem M9{k:κ}:∀{g:List (κ×D)}{kvs:List (κ×V)},kvs.map (·.1)=g.map (·.1)->fy G H (kvs.map (·.2)) (g.map (·.2))->(∀d,OY k g=O0 d->∃v,SV kvs k=O0 v/\uj G H v d)/\(SV kvs k).isSome=(OY k g).isSome
 |[],kvs,e,r=>by
  cases kvs with
  |nil=>exact⟨λd h=>by simp[OY] at h,rfl⟩
  |cons p q=>simp at e
 |p::g,kvs,e,r=>by
  cases kvs with
  |nil=>simp at e
  |cons q kvs=>
   rw[bn,bn] at e;injection e with O e2
   rw[bn,bn] at r;obtain⟨x,Z,Y,T,S⟩:=r.uncons;injection Y with W e5
   subst W e5;have U:=M9 (k:=k) e2 S
   by_cases h:p.1=k
   .have J:q.1=k:=O.trans h;rw[PB J];refine⟨λd I=>?_,?_⟩
    .simp only[OY,ZN h] at I;cases I;exact⟨_,rfl,T⟩
    .simp[OY,ZN h]
   .have J:¬ q.1=k:=λz=>h (O.symm.trans z);rw[PJ J];simp only[OY,OO h];exact U
theorem bK{k:κ}{v:V}{d:D}(T:uj G H v d):∀{g:List (κ×D)}{kvs:List (κ×V)},kvs.map (·.1)=g.map (·.1)->fy G H (kvs.map (·.2)) (g.map (·.2)) ->
  (kvs.map λI=>if I.1=k then (I.1,v) else I).map (·.1)=(repK k d g).map (·.1)/\fy G H ((kvs.map λI=>if I.1=k then (I.1,v) else I).map (·.2)) ((repK k d g).map (·.2))
 |[],kvs,e,r=>by
  cases kvs with
  |nil=>exact⟨rfl,fy.nil⟩
  |cons p q=>simp at e
 |p::g,kvs,e,r=>by
  cases kvs with
  |nil=>simp at e
  |cons q kvs=>
   rw[bn,bn] at e;injection e with S e2
   rw[bn,bn] at r;obtain⟨x,ys,Z,W,U⟩:=r.uncons;injection Z with Y e5
   subst Y e5;have O:=bK T (k:=k) e2 U
   by_cases h:p.1=k
   .have J:q.1=k:=S.trans h;refine⟨?_,?_⟩
    .simp only[bn,ZN J,repK];rw[O.1,S]
    .simp only[bn,ZN J,repK,ZN h];exact .cons T O.2
   .have J:¬ q.1=k:=λz=>h (S.symm.trans z);refine⟨?_,?_⟩
    .simp only[bn,OO J,repK];rw[O.1,S]
    .simp only[bn,OO J,repK,OO h];exact .cons W O.2
def WT{k:κ}{d:D}(I:uj G H v d){g:List (κ×D)}{kvs:List (κ×V)}(e:kvs.map (·.1)=g.map (·.1))(r:fy G H (kvs.map (·.2)) (g.map (·.2))):
  (SW kvs k v).map (·.1)=(UR k d g).map (·.1)/\fy G H ((SW kvs k v).map (·.2)) ((UR k d g).map (·.2)):=by
 unfold SW UR;rw[S_,(M9 (k:=k) e r).2];split
 .exact bK I e r
 .rw[f6,f6,f6,f6,e];exact⟨rfl,r.append (.cons I .nil)⟩
end
def X7{G:Gx}{d:D}{k:Key}(r:Hb G A H v d)(h:US d=O0 k):v=kV k:=by
 cases d with
 |int i=>cases h;exact r.int
 |str x=>cases h;exact r.str
 |_=>cases h
def M_{G:Gx}{d:D}{k:Key}(r:uj G H v d)(h:US d=O0 k):v=kV k:=by
 cases d with
 |int i=>cases h;cases r;rfl
 |str x=>cases h;cases r;rfl
 |_=>cases h
theorem Qn{G:Gx}{H:Hp}:∀{ds:List D}{vs:List V}{ks:List Key},fy G H vs ds->Lp ds=O0 ks->vs=ks.map kV
 |[],vs,ks,r,h=>by cases h;exact r.nil_inv
 |d::ds,vs,ks,r,h=>by
  obtain⟨x,T,rfl,J,S⟩:=r.uncons;cases g:US d with
  |none=>simp[Lp,g] at h
  |some k=>
   cases I:Lp ds with
   |none=>simp[Lp,g,I] at h
   |some O=>
    simp[Lp,g,I] at h;subst h;rw[M_ J g,Qn S I];rfl
section
variable {G:Gx}{a b c:Expr}{fa fb:FE}
def Tj:PN X G (.Dict [] [] pos) (kF (.dk [])):=λA=>Bt jM<|by
 rintro r H Q ⟨I,d,o,e,k⟩
 cases e;exact λp g=>k p _ (Ao g _) g ⟨[],Ah,rfl,fy.nil⟩
def ABQ:PN X G (.Dict [] [] pos) (kF (.dt [])):=λA=>Bt jN<|by
 rintro r H Q ⟨I,d,o,e,k⟩
 cases e;exact λp g=>k p _ (Ao g _) g ⟨[],Ah,rfl,fy.nil⟩
theorem PN.pf(h:PN X G a fa):PF X G a fa:=λA π s σ H Q I ⟨ρ,d,o,e,k⟩=>
 py (@h A π s σ H (λv H'=>∃p,v=.ref p/\cc H H'/\H p=W1/\YY G (p::A) H' p d) I ⟨ρ,d,o,e,λp H' U Z t=>⟨p,rfl,U,Z,t⟩⟩)<|by
  rintro u s1 ⟨v,g,I1,W,p,ev,U,Z,t⟩
  subst ev;have r:p∉A:=λz=>(o.live p z).ne Z;have up:∀ob,cc (lu (p::A) g) (lu A (mf g p ob)):=λob=>by
   rw[<-GZ (A:=p::A) (H:=g) (o:=ob) (eD ..)];exact Ji λb J=>da _ J
  have T:∀ob,cc H (mf g p ob):=λob b u J=>by
   rw[Aj (λz:b=p=>by rw[z,Z] at J;cases J)];exact U b u J
  cases d with
  |lst ds=>
   obtain⟨xs,S,O⟩:=t;have q:=O.mono (Ji (A:=A) (B:=p::A) (H:=g) λb J=>da _ J);exact⟨_,g,I1,W,k _ g U (.lst (.of (by rw[Cg r];exact S)) q.1 q.2)⟩
  |dk ds=>
   obtain⟨xs,S,O,Y⟩:=t;obtain⟨ob,I2⟩:=Inv.frzK I1 S;exact⟨_,_,I2,W,k _ _ (T _) (.dk (by rw[Cg r];exact Ah) O (Y.mono (up _)).2)⟩
  |dt ds=>
   obtain⟨xs,S,O,Y⟩:=t;obtain⟨ob,I2⟩:=Inv.frzT I1 S;exact⟨_,_,I2,W,k _ _ (T _) (.dt (by rw[Cg r];exact Ah) O (Y.mono (up _)).2)⟩
  |ob c gs=>
   obtain⟨C,dx,xs,S,O,Y⟩:=t;have q:=Y.mono (Ji (A:=A) (B:=p::A) (H:=g) λb J=>da _ J);exact⟨_,g,I1,W,k _ g U (.ob O.1 (by rw[Cg r];exact S) O.2 q.2)⟩
  |_=>exact t.elim
def rDIn(d:Bool):R2:=λx y H Q=>∃a kvs k,y=.ref a/\Rd H a (.dK kvs)/\x=kV k/\Q (.bl (if d then !(SV kvs k).isSome else (SV kvs k).isSome)) H
def Zo(T:X.A.units+1<bP):PZ X (dS .In) (rDIn ZA):=by
 intro O s J H x y v u Q I rx g h;obtain⟨a,d,k,rfl,e,rfl,q⟩:=h;cases g;exact d_in T I (.inl ⟨d,k,e,rfl,rfl⟩) rx λS r=>⟨.bl _,H,r,rfl,q⟩
def fu(T:X.A.units+1<bP):PZ X (dS .NotIn) (rDIn E3):=by
 intro O s J H x y v u Q I rx g h;obtain⟨a,d,k,rfl,e,rfl,q⟩:=h;cases g;exact sE T I (.inl ⟨d,k,e,rfl,rfl⟩) rx λS r=>⟨.bl _,H,r,rfl,q⟩
def inE(d:Bool)(x y:D):Option D:=match y with
 |.dk g=>(US x).map λk=>.bl (if d then !(OY k g).isSome else (OY k g).isSome)
 |_=>inD d x y
def tU(g:Bool):Ec G (λx y H Q=>rInA G.K g x y H Q∨rDIn g x y H Q) (inE g):=by
 intro A H x y dx Y d Q O rx J h k;unfold inE at h;split at h
 .rename_i S;cases e:US dx with
  |none=>simp[e] at h
  |some q=>
   obtain⟨p,I,rfl,W,U,r⟩:=J.dk;have T:=(M9 (k:=q) U r).2;rw[e] at h;cases h;refine .inr ⟨p,I,q,rfl,W,X7 rx e,?_⟩;rw[T];exact k _ H (cc.refl H) (.bl _)
 .exact .inl (yl g A H x y dx Y d Q O rx J h k)
def rDIx:R2:=λx y H Q=>∃a kvs k v,x=.ref a/\Rd H a (.dK kvs)/\y=kV k/\SV kvs k=O0 v/\Q v H
theorem ABR(hu:X.A.units+1<bP):IxR X rDIx:=by
 intro d J Z s Y H x y v u Q I rx ry h hs;obtain⟨a,U,k,z,rfl,e,rfl,l,q⟩:=h;cases rx;have g:DGet H a (kV k) (O0 z):=.inl ⟨U,k,e,rfl,l.symm⟩;have W:=Xm I g;unfold B0;refine ag ?_;rw[KS W.not_modules];refine ag (nL W EW.lookup ?_);have O:ah .(3) X.A (yA J ZA (.ref a) u) (λr S=>ah .(3) X.A (letTemporaryGo d (.ref a) r >>= λ_=>pure r) (EP X Z Y Q) X.xe S) X.xe s:=by
  rw[hs];exact wpAny_operating (fJ hu I g ry λw' s3 I3 T=>ag (KU (aw ⟨z,H,I3,T,q⟩)))
 first
  |exact aw (ag O)
  |exact ag (aw (ag O))
  |exact ag O
def vb(x y:D):Option D:=match x with
 |.dk d=>(US y).bind λk=>OY k d
 |_=>ixD x y
def tV:Ec G (λx y H Q=>rIx G.K x y H Q∨rDIx x y H Q) vb:=by
 intro A H x y dx J d Q S rx I h k;unfold vb at h;split at h
 .rename_i T;cases e:US J with
  |none=>simp[e] at h
  |some q=>
   obtain⟨p,g,rfl,Y,W,r⟩:=rx.dk;simp[e] at h;obtain⟨v,U,O⟩:=(M9 (k:=q) W r).1 d h;exact .inr ⟨p,g,q,v,rfl,Y,X7 I e,U,k v H (cc.refl H) O⟩
 .exact .inl (jX A H x y dx J d Q S rx I h k)
def yu(T:X.A.units+1<bP)(Y:G.K=X.K)(ha:PU X G a fa)(hb:PU X G b fb)(hs:O9 b):PF X G (.Subscript a b pos) (bF vb fa fb):=
 λA=>Bt (v9 (r:=λx y H Q=>rIx X.K x y H Q∨rDIx x y H Q) (jG.or (ABR T)) (@ha A) (@hb A) hs) λ_ _ _ h=>TY (by rw[<-Y];exact tV) h
def Dp(x y v:D):Option D:=match x with
 |.dk d=>(US y).bind λk=>if d.length<sizeLine then O0 (.dk (UR k v d)) else W1
 |_=>W1
def putF(i:Nat)(g d:FE):FS:=λρ=>(d ρ).bind λv=>(g ρ).bind λy=>(ownO ρ i).bind λx=>(Dp x y v).map λz=>.nx (ρ.set i (.ow z))
def gA{ρ:Rho}{o:To}(h:putF i fa fb ρ=O0 o):∃v y x z,fb ρ=O0 v/\fa ρ=O0 y/\ρ[i]?=O0 (.ow x)/\Dp x y v=O0 z/\o=.nx (ρ.set i (.ow z)):=by
 unfold putF at h;cases d:fb ρ with
 |none=>simp[d] at h
 |some v=>
  cases r:fa ρ with
  |none=>simp[d,r] at h
  |some y=>
   cases g:ownO ρ i with
   |none=>simp[d,r,g] at h
   |some x=>
    cases W:Dp x y v with
    |none=>simp[d,r,g,W] at h
    |some z=>
     simp[d,r,g,W] at h;exact⟨v,y,x,z,rfl,rfl,Qm g,W,h.symm⟩
theorem Jk{x:Str}(hu:X.A.units+1<bP)(hv:PE X (.Name x xpos) (TR i))(ha:PF X G a fa)(hb:PF X G b fb)(hs:gI b (O0 (.Subscript (.Name x xpos) a spos)) pos.line X.env=pure ZA:=by rfl):VW X G (.Assign [.Subscript (.Name x xpos) a spos] b pos) (putF i fa fb):=by
 rintro A0 He π s σ H D I ⟨O,o,⟨A,w⟩,e,k⟩
 obtain⟨v,y,x0,z,e1,e2,Y,d,rfl⟩:=gA e;refine V_ hu hv (@ha A) (@hb A) hs π s σ H D I ?_;unfold Dp at d;split at d
 .rename_i r0;cases W:US y with
  |none=>simp[W] at d
  |some q=>
   simp only[W,cw] at d;split at d
   .rename_i hz;cases d;obtain⟨p,Z,hA,J,h2,U,r⟩:=w.ok.ow i _ Y;refine⟨O,v,w.ok,e1,λu H1 g r1=>⟨_,Z,O,y,(w.mono g).ok,e2,λyv H2 T r2=>?_⟩⟩;have ek:=M_ r2 W;subst ek;have hl:J.length<sizeLine:=by
     have:=UO eS U;rw[aI,aI] at this;omega
    refine⟨p,_,rfl,DPut.k (T _ _ (g _ _ h2)) hl,?_⟩;have w2:=(w.mono g).mono T;have S:=WT (k:=q) (r1.mono (Ba T)) U (r.mono (Ba (g.trans T)));refine k _ _ ⟨A,w2.wr Y Z ⟨_,Ah,S.1,?_⟩⟩;rw[GZ hA];exact S.2
   .cases d
 .cases d
def Nv:D->Option D
 |.dk d=>O0 (.dk d)
 |_=>W1
def Zq:Dy X (.type "dict") (λxs H Q=>∃a kvs,xs=[.ref a]/\Rd H a (.dK kvs)/\∀p,H p=W1->Q (.ref p) (mf H p (.dK kvs))):=by
 intro S s O H xs T Q I J h;obtain⟨a,kvs,rfl,e,q⟩:=h;obtain⟨u,rfl,d⟩:=J.one;cases d;exact jO I e λp U g r=>⟨.ref p,_,r,rfl,q p g⟩
def WW{x:Str}{p:Pos}(hg:Gl X x)(hm:X.mg x=W1)(Y:df x=O0 (.type "dict"))(ha:PU X G a fa)(Z:x≠"__name__":=by decide)(O:(x==("__debug__":Str))=ZA:=by decide)(T:aE [a] X.env=[(ZA,eval a X.env)]:=by rfl):PN X G (.Call (.Name x p) [a] [] pos) (uF Nv fa):=
 λA=>Bt (HR Zq hg hm Y (Bl (@ha A) DK T) Z O T rfl)<|by
  rintro σ H Q ⟨U,d,o,e,k⟩
  obtain⟨x0,e1,J⟩:=Hi e;unfold Nv at J;split at J
  .cases J;refine⟨U,_,o,e1,λv H1 S W=>?_⟩;obtain⟨q,g,rfl,h1,h2,r⟩:=W.dk;exact⟨q,g,rfl,h1,λp I=>k p _ (S.trans (Ao I _)) (S.free I) ⟨g,Ah,h2,r.mono (KH (Ao I _) I)⟩⟩
  .cases J
end
theorem Pj{I G:Type}{R:I->G->Prop}:∀{xs:List I}{ys:List G}{i:Nat}{x:I}{y:G},n9 R xs ys->xs[i]?=O0 x->ys[i]?=O0 y->R x y
 |_,_,i,x,y,.nil,h,_=>by simp at h
 |_,_,0,x,y,.cons r _,g,d=>by
  simp at g d;rw[<-g,<-d];exact r
 |_,_,i+1,x,y,.cons _ t,g,d=>Pj t (by simpa using g) (by simpa using d)
def Itd(a:Addr)(o:Obj)(kvs:List (Key×V)):It:=
 ⟨λi H=>H a=O0 (.frz o (.dK kvs))/\i<kvs.length,λi H x d=>d=H/\∃p,kvs[i]?=O0 p/\x=kV p.1,λi H=>H a=O0 (.frz o (.dK kvs))/\kvs.length<=i⟩
def relK{k:Key}(h:(BJ P w).is k u=E3):fx (kV k) u:=by
 rcases CG h with ⟨i,t,rfl,rfl⟩ | ⟨x,t,rfl,rfl⟩
 .exact⟨t,rfl⟩
 .exact⟨t,rfl⟩
def Qo{kvs:List (Key×V)}{es:Array ze}(I:Inv X π σ H s)(e:H a=O0 (.frz o (.dK kvs)))(G:o.data=.dict es ep):
  (a==ic)=ZA/\∃vs,KV kvs vs/\s.heap.DictAt (BJ X.prog X.w) a vs ep:=by
 obtain⟨r,z,O,vs,g,Y,U,W,d,T,J,S⟩:=(show Bp X.prog X.w H s.heap a (.frz o (.dK kvs)) from I.hok a _ e);rw[r] at d;cases d;rw[G] at J;cases J;exact⟨O,vs,g,o,es,r,T,G,S⟩
theorem gB{K:ay}(a it:Addr){o:Obj}{es:Array ze}{ep:Nat}(hd:o.data=.dict es ep)(kvs:List (Key×V)):Turn P w K tg (Itd a o kvs) [it] it (λi h=>h.IsKeyIter it a i kvs.length ep) where
 mem:=by simp
 obj:=λi h W b J=>by
  have e:b=it:=by simpa using J
  subst e;obtain⟨o,e,c,d⟩:=W;exact⟨o,e,λv z=>by rw[d] at z;cases z⟩
 keep:=λi h U W k=>let ⟨o,e,c,d⟩:=W;⟨o,k it .(1) o e,c,d⟩
 item:=by
  intro X hP hw hK hc i π s σ H E I T W hg;subst hP hw hK;obtain⟨he,S⟩:=hg;obtain⟨hm,G,g,dd⟩:=Qo I he hd;have Z:kvs.length=G.length:=g.length;obtain⟨f0,f1,f2,f3,f4,f5⟩:=T it .(1);have hv:G[i]?=O0 (G[i]'(by omega)):=by simp[show i<G.length by omega]
  have hk:kvs[i]?=O0 (kvs[i]'S):=by simp[S]
  have r0:(kvs[i]'S).1=(G[i]'(by omega)).1:=(Pj g hk hv).1;refine wpAny_pyNext_dict_item (knd:=BJ X.prog X.w) (kvs:=G) (k:=(G[i]'(by omega)).1) (v:=(G[i]'(by omega)).2) (by rw[<-Z];exact W) dd hv λY U O r sb=>?_;rw[<-Z] at r;have I1:Inv X π σ H { s with heap:=U }:=I.turned (t':=s.toks) (λb o J e=>(sb.2 b J).trans e) f0 f1 f3 f4 f5;obtain⟨o1,e1,c1,d1⟩:=id r;exact⟨Y,rfl,Xi (s:={ s with heap:=U }) e1 c1 d1 .(2) ⟨kV (kvs[i]'S).1,H,I1,by rw[r0];exact relK O,⟨rfl,_,hk,rfl⟩,r,λb J=>(T b J).1⟩⟩
 done:=by
  intro X hP hw hK hc i π s σ H E I T W hg;subst hP hw hK;obtain⟨he,S⟩:=hg;obtain⟨hm,G,g,dd⟩:=Qo I he hd;have Z:kvs.length=G.length:=g.length;obtain⟨f0,f1,f2,f3,f4,f5⟩:=T it .(1);exact wpAny_pyNext_dict_end (I.ok.hd hc) (by rw[<-Z];exact W) dd (by rw[qA];omega) λU eb=>⟨rfl,I.turned (t':=s.toks) (λb o J e=>eb b o J e) f0 f1 f3 f4 f5⟩
 self:=λ_ _ _ _ _ W h=>wpAny_pyIter_keyiter W h
section
variable {G:Gx}{a b:Expr}{fa:FE}{tl:TE}
def ABS(r:TE):TI:=λg H R=>r g H λx d=>∃a o kvs,x=.ref a/\d a=O0 (.frz o (.dK kvs))/\R (Itd a o kvs) d
theorem tW{l:Expr}(hl:PE X l tl):PI X tg l (ABS tl):=by
 intro Z s Y H R I h;refine py (hl Z s Y H _ I h) λv g q0=>?_;obtain⟨x,T,r,r1,q1⟩:=q0;obtain⟨a,o,d,e,U,q⟩:=q1;subst e;cases r1;obtain⟨_,_,_,_,_,o',es,ep,J,h1,W,_⟩:=(show Bp X.prog X.w T g.heap a (.frz o (.dK d)) from r.hok a _ U);obtain⟨ho,_⟩:=(show Bp X.prog X.w T g.heap a (.frz o (.dK d)) from r.hok a _ U);rw[ho] at J;cases J;obtain⟨hm,vs,O,dd⟩:=Qo r U W;have S:d.length=vs.length:=O.length;refine wpAny_pyIter_dict hm dd ?_;refine⟨g.heap.objs.size,[g.heap.objs.size],_,_,T,rfl,r.kept (t':=g.toks) λb o e=>bo _ e,gB a _ W d,⟨_,ci _ rfl,rfl,by rw[S];rfl⟩,λb hb=>?_,q⟩;have e:b=g.heap.objs.size:=by simpa using hb
 subst e;exact r.fpOk (aS _) (r.hok.fresh (aS _))
def kDt:Key->D
 |.inl i=>.int i
 |.inr x=>.str x
def WX(k:Key):uj G H (kV k) (kDt k):=by
 cases k with
 |inl i=>exact .int i
 |inr x=>exact .str x
def seqE(f:FE):FI:=λρ=>match f ρ with | some (.lst ds)=>O0 ds | some (.tup ds)=>O0 ds | some (.dk d)=>O0 (d.map λp=>kDt p.1) | _=>W1
def jq{kvs:List (Key×V)}{g:List (Key×D)}(h:F1 p=O0 (.frz o (.dK kvs)))(e:kvs.map (·.1)=g.map (·.1)):Src G (Itd p o kvs) (g.map λp=>kDt p.1) F1 F2:=by
 have Z:kvs.length=g.length:=by have:=UO eS e;rwa [aI,aI] at this
 refine⟨λi H s J=>⟨s _ _ h,by rw[Z];rwa [aI] at J⟩,λi H x W d s r y=>?_,λi H s J=>⟨s _ _ h,by rw[Z];rwa [aI] at J⟩⟩;obtain⟨U,q,T,S⟩:=y;refine Te ⟨U,?_⟩;have I:(kvs.map (·.1))[i]?=O0 q.1:=by rw[db,T];rfl
 rw[e,db] at I;rw[db] at r;cases O:g[i]? with
 |none=>rw[O] at r;cases r
 |some z=>
  rw[O] at I r;cases r;injection I with I
  rw[S,<-I];exact WX _
def jr(Y:G.K=X.K)(h:PF X G a fa):WU X G ZA tg a (seqE fa):=λA=>Tf (piOr (tH Y h (A:=A)) (tW (@h A)))<|by
 rintro U H R ⟨g,W,o,e,k⟩
 unfold seqE at e;split at e
 .rename_i J d;cases e;exact .inl ⟨g,_,o,by unfold seqI;rw[d],k⟩
 .rename_i J d;cases e;exact .inl ⟨g,_,o,by unfold seqI;rw[d],k⟩
 .rename_i S d;cases e;refine .inr ⟨g,_,o,d,λv T I O=>?_⟩;cases O with
  |dk h l r=>exact⟨_,_,_,rfl,Ay _ _ h,k _ T I (jq h l)⟩
 .cases e
end
section
variable {A:aT}
theorem ABT{l:Addr}{its:Array ac}(ne:l≠it):∀(m i:Nat) (s:av) (Q:List ac->av->Prop),s.heap.IsListIter it l i->s.heap.IsList l its->i+m=its.size ->
  (∀h',h'.IsListIter it l its.size->g9 it s.heap h'->Q (its.toList.drop i) { s with heap:=h' })->ah (ai prog w) A (draw (.ref it) m) Q E s:=by
 intro m
 induction m with
 |zero=>
  intro i s Q O Z U k;refine aw ?_;have S:i=its.size:=by omega
  have e:its.toList.drop i=[]:=by rw[List.drop_eq_nil_iff];simp[S]
  rw[<-e];exact k s.heap (S▸O) (EZ ..)
 |succ m T=>
  intro i s Q O Z U k;have lt:i<its.size:=by omega
  refine ag (m:=hU (.ref it)) (IP O Z (x:=its[i]) (by simp[lt]) λY J d=>?_);have G:Y.IsList l its:=let ⟨o,e,r⟩:=Z;⟨o,(d.2 l ne).trans e,r⟩;refine ag (wpAny_holding (T (i+1) _ _ J G .(0) λW I g=>aw ?_));have e:its.toList.drop i=its[i]::its.toList.drop (i+1):=by simp[x5,lt]
  rw[<-e];exact k W I (d.trans g)
theorem tX{l:Addr}{its:Array ac}{Q:List ac->av->Prop}(S:A.handled=W1)(Z:s.heap.IsList l its)(k:∀h',BD s.heap.objs.size s.heap h'->Q its.toList { s with heap:=h' }):ah (ai prog w) A (unpackItems (.ref l) its.size W1) Q E s:=by
 have ne:l≠s.heap.objs.size:=by obtain⟨o,O,_⟩:=Z;exact bS (bE O)
 have ty:s.TypeIs (.ref l) "list":=let ⟨o,e,c,_⟩:=Z;⟨o,e,c⟩;unfold unpackItems notIterableAtAll;refine ag (ag (nL ty PySem.F.slot_list_iter.lookup (aw ?_)));simp only[ff,YO];refine ag (wpAny_holding (AS Z ?_));have g:(s.heap.push { cls:=.type "list_iterator",data:=.fields #[.ref l,.int 0 0] }).IsList l its:=let ⟨o,e,r⟩:=Z;⟨o,bo _ e,r⟩;refine ag (wpAny_holding (ABT ne its.size 0 _ _ ⟨_,ci _ rfl,rfl,rfl⟩ g .(0) λU J d=>?_));rw[L9,OO .(1)];have G:U.IsList l its:=let ⟨o,e,r⟩:=g;⟨o,(d.2 l ne).trans e,r⟩;refine ag (wpAny_holding (IQ S J G .(1) λT W=>?_));simp only[Option.isSome_none,ff,YO];exact aw (k T λb o I e=>W b o I ((d.2 b I).trans (bo _ e)))
end
section
variable {G:Gx}{a b:Expr}{fa:FE}{es:List Expr}
def gLst(K:ay)(n:Nat)(t:TGs):TG:=λv g H Q=>∃a xs,v=.ref a/\Qr K H a xs/\xs.length=n/\t xs g H Q
theorem yw{k:Nat}{t:TGs}(hc:X.calm=E3)(h:PGs X es t)(hn:(jI es X.env).length=n:=by rfl)(J:(jI es X.env).findIdx? (·.1)=W1:=by rfl):PG X (.Tuple es k pos) (gLst X.K n t):=by
 intro S s O H v u Q I r g;obtain⟨a,U,rfl,Z,hl,g⟩:=g;cases r;obtain⟨d,T,Y,hz⟩:=I.list Z;rw[assign_Tuple];refine ag (sg ?_);unfold unpack;have e:(jI es X.env).length=d.toArray.size:=by simp[hn,<-hl,T.length]
 rw[e,J];refine ag (wpAny_holding (tX (I.ok.hd hc) Y.isList λh' W=>?_));have I1:Inv X S O H { s with heap:=h' }:=I.kept (t':=s.toks) λb o e=>W b o (bS (bE e)) e;exact h S _ O H U _ Q I1 (by simpa using T) g
def PG.or{t t':TG}(h:PG X tg t)(h':PG X tg t'):PG X tg (λv σ H Q=>t v σ H Q∨t' v σ H Q):=λd s σ H v u Q I r q=>by
 rcases q with q | q
 .exact h d s σ H v u Q I r q
 .exact h' d s σ H v u Q I r q
abbrev FGs:=List D->Rho->Option Rho
def Pw:FGs:=λds ρ=>match ds with | []=>O0 ρ | _=>W1
def Bb(i:Nat)(g:FGs):FGs:=λds ρ=>match ds with | d::r=>g r (ρ.set i (.fz d)) | []=>W1
def Pv(n:Nat)(g:FGs):FG:=λd ρ=>match d with
 |.tup ds=>if ds.length=n then g ds ρ else W1
 |.lst ds=>if ds.length=n then g ds ρ else W1
 |_=>W1
def tGDs(G:Gx)(A0:List Addr)(I:Hp)(g:FGs):TGs:=λvs O H Q=>∃A ρ ds r,Sb G A0 I A O H ρ/\fy G (lu A H) vs ds/\g ds ρ=O0 r/\∀d J,OkS G A0 I d J r->Q d J
def PGDs(X:Cx)(G:Gx)(es:List Expr)(g:FGs):Prop:=∀⦃A0⦄ He,PGs X es (tGDs G A0 He g)
def Ht:PGDs X G [] Pw:=by
 rintro Z Y J s g H O S Q I r ⟨A,U,W,d,w,T,e,k⟩
 unfold Pw at e;split at e
 .cases e;exact aV J s g H O S Q I r ⟨T.nil_inv,k _ _ ⟨A,w⟩⟩
 .cases e
def Bg{g:FGs}(h1:PG X e (Hq i))(h2:PGDs X G es g)(hs:(jI (e::es) X.env).map (·.2)=vx e X.env::(jI es X.env).map (·.2):=by rfl):PGDs X G (e::es) (Bb i g):=by
 rintro A0 He T s S H vs W Q I r ⟨A,ρ,ds,J,w,Y,e,k⟩
 unfold Bb at e;split at e
 .rename_i d O;obtain⟨x,U,rfl,r1,Z⟩:=Y.uncons;exact Sw h1 (@h2 A0 He) hs T s S H _ W Q I r ⟨x,U,rfl,A,_,O,J,w.set r1 i,Z,e,k⟩
 .cases e
def Jl{k:Nat}{g:FGs}(hG:G.K=X.K)(hc:X.calm=E3)(h:PGDs X G es g)(hn:(jI es X.env).length=n:=by rfl)(S:(jI es X.env).findIdx? (·.1)=W1:=by rfl):PGD X G (.Tuple es k pos) (Pv n g):=by
 rintro A0 He π s σ H v u Q I r ⟨A,Y,d,J,w,rv,e,k⟩
 refine PG.or (iU hc (@h A0 He) hn S) (yw hc (@h A0 He) hn S) π s σ H v u Q I r ?_;unfold Pv at e;split at e
 .rename_i W;split at e
  .rename_i Z;cases rv with
   |tup U O T=>exact .inl ⟨_,_,rfl,by rw[<-hG];exact Eb Ay U,by rw[O];exact Z,A,Y,W,J,w,⟨O,T⟩,e,k⟩
  .cases e
 .rename_i W;split at e
  .rename_i Z;cases rv with
   |lst U O T=>exact .inr ⟨_,_,rfl,by rw[<-hG];exact Ay.seq U,by rw[O];exact Z,A,Y,W,J,w,⟨O,T⟩,e,k⟩
  .cases e
 .cases e
def YV(f:FE)(g:FG):FS:=λρ=>(f ρ).bind λd=>(g d ρ).map .nx
def WY{g:FG}(hg:PGD X G tg g)(ha:PF X G a fa)(hs:swapsWithSole [tg] a pos.line X.env=pure ZA:=by rfl)(hw:swappedStores [tg] a X.env=pure W1:=by rfl)(h1:(jI [tg] X.env).map (·.2)=[vx tg X.env]:=by rfl):VW X G (.Assign [tg] a pos) (YV fa g):=by
 rintro A0 He W s U H D I ⟨r,o,⟨A,w⟩,e,k⟩
 unfold YV at e;cases J:fa r with
 |none=>simp[J] at e
 |some d=>
  cases T:g d r with
  |none=>simp[J,T] at e
  |some S=>
   simp[J,T] at e;subst e;exact yI (@ha A) (@hg A0 He) hs hw h1 W s U H D I ⟨r,d,w.ok,J,λv H1 Y Z=>⟨A,r,d,S,w.mono Y,Z,T,λO H' ok=>k O H' ok⟩⟩
def CN:Dy X (.builtin "len") (λxs H Q=>∃a kvs,xs=[V.ref a]/\Rd H a (.dK kvs)/\Q (.int kvs.length) H):=by
 intro O s r H xs S Q I J h;obtain⟨a,kvs,rfl,e,q⟩:=h;obtain⟨u,rfl,d⟩:=J.one;cases d;exact ABJ I e λt T g=>⟨.int kvs.length,H,g,⟨t,rfl⟩,q⟩
def Pf:D->Option D
 |.dk g=>O0 (.int g.length)
 |d=>lenD d
def Dq:SndC G (λxs H Q=>(∃x n,xs=[x]/\LenV G.K x H n/\Q (.int n) H)∨∃a kvs,xs=[V.ref a]/\Rd H a (.dK kvs)/\Q (.int kvs.length) H) Pf:=by
 intro A H x dx d Q I rx h k;unfold Pf at h;split at h
 .cases h;obtain⟨p,kvs,rfl,J,g,r⟩:=rx.dk;have Z:=UO eS g;rw[aI,aI] at Z;refine .inr ⟨p,kvs,rfl,J,?_⟩;rw[Z];exact k _ H (cc.refl H) (.int _)
 .exact .inl (R7 A H x dx d Q I rx h k)
end
def Iti(a:Addr)(o:Obj)(kvs:List (Key×V)):It:=
 ⟨λi H=>H a=O0 (.frz o (.dK kvs))/\i<kvs.length,λi H x d=>∃T p,H T=W1/\kvs[i]?=O0 p/\x=.ref T/\d=mf H T (.tup [kV p.1,p.2]),λi H=>H a=O0 (.frz o (.dK kvs))/\kvs.length<=i⟩
theorem Zr{K:ay}(a it:Addr){o:Obj}{es:Array ze}{ep:Nat}(hd:o.data=.dict es ep)(kvs:List (Key×V)):
  Turn P w K (.Tuple elts x1 tp) (Iti a o kvs) [it] it (λi h=>∃ok J,IsItemIter h it a i kvs.length ep ok J) where
 mem:=by simp
 obj:=λi h d b r=>by
  have e:b=it:=by simpa using r
  subst e;obtain⟨ok,J,e⟩:=d;exact⟨_,e,λv z=>by
   have z':DA _=DB v:=z;cases z'⟩
 keep:=λi h h' d k=>let ⟨ok,J,e⟩:=d;⟨ok,J,k it .(1) _ e⟩
 item:=by
  intro X hP hw hK hc i π s σ H E I hf d hg;subst hP hw hK;obtain⟨he,O⟩:=hg;obtain⟨ok,J,d⟩:=d;obtain⟨hm,G,g,dd⟩:=Qo I he hd;have Z:kvs.length=G.length:=g.length;obtain⟨U,f1,f2,f3,f4,f5⟩:=hf it .(1);have hv:G[i]?=O0 (G[i]'(by omega)):=by simp[show i<G.length by omega]
  have hk:kvs[i]?=O0 (kvs[i]'O):=by simp[O]
  obtain⟨X0,S0⟩:=Pj g hk hv;have S:it<s.heap.objs.size:=bE d;refine wpAny_pyNext_items_item (knd:=BJ X.prog X.w) (kvs:=G) (k:=(G[i]'(by omega)).1) (v:=(G[i]'(by omega)).2) (by rw[<-Z];exact d) dd hv λkey h1 T r0 ht hz kk=>?_;refine⟨_,rfl,wpAny_letOwnedTupleGo_items (s:={ s with heap:=h1 }) r0 λh2 Y sb=>?_⟩;have hT:H s.heap.objs.size=W1:=I.hok.fresh (aS _);have rk:fx (kV (kvs[i]'O).1) key:=by rw[X0];exact relK T
  have I1:Inv X π σ (mf H s.heap.objs.size (.tup [kV (kvs[i]'O).1,(kvs[i]'O).2])) { s with heap:=s.heap.push { cls:=.type "tuple",data:=.seq #[key,(G[i]'(by omega)).2] } }:=
   I.laid (a:=s.heap.objs.size) (t':=s.toks) (λb u e=>bo _ e) (aS _) ⟨by show 2<=sizeLine;decide,[key,(G[i]'(by omega)).2],.cons rk (.cons S0 .nil),_,ci _ rfl,rfl,_,rfl⟩
  have kp:∀b u,b≠it->(s.heap.push { cls:=.type "tuple",data:=.seq #[key,(G[i]'(by omega)).2] }).get? b=O0 u->h2.get? b=O0 u:=λb u r e=>by
   refine (sb.2 b r).trans ?_
   rcases F0 e with ⟨rfl,rfl⟩ | e'
   .exact ht
   .exact kk b u r e'
  have I2:=L2.Inv.turned (t':=s.toks) (it:=it) (h':=h2) I1 kp (by rw[Aj (bS S)];exact U) f1 f3 f4 f5;refine⟨.ref s.heap.objs.size,_,I2,rfl,⟨_,_,hT,hk,rfl,rfl⟩,⟨key,(G[i]'(by omega)).2,by rw[Z];exact Y⟩,λb r=>?_⟩;have e:b=it:=by simpa using r
  subst e;rw[Aj (bS S)];exact U
 done:=by
  intro X hP hw hK hc i π s σ H E I hf d hg;subst hP hw hK;obtain⟨he,O⟩:=hg;obtain⟨ok,J,d⟩:=d;obtain⟨hm,G,g,dd⟩:=Qo I he hd;have Z:kvs.length=G.length:=g.length;obtain⟨U,f1,f2,f3,f4,f5⟩:=hf it .(1);exact wpAny_pyNext_items_end (I.ok.hd hc) (by rw[<-Z];exact d) dd (by rw[qA];omega) λh' eb=>⟨rfl,I.turned (t':=s.toks) (λb o r e=>eb b o r e) U f1 f3 f4 f5⟩
 self:=by rintro _ _ _ _ _ ⟨ok,J,d⟩ h;exact PySem.W.kcp_self d h
section
variable {G:Gx}{a b:Expr}{fa:FE}{tl:TE}
def yz(r:TE):TI:=λg H R=>r g H λx d=>∃a o kvs,x=.ref a/\d a=O0 (.frz o (.dK kvs))/\R (Iti a o kvs) d
theorem jt{l:Expr}{r:Pos}(hl:PE X l tl)(S:hZ l "items" X.env (eval l X.env)=eval l X.env:=by rfl)(O:(apos.endLine==r.line)=E3:=by rfl):
  PI X (.Tuple elts x1 tp) (.Call (.Attribute l "items" apos) [] [] r) (yz tl):=by
 intro π s σ H R I h;refine LG (T:="dict") (id:="dict.items") S rfl O F.plainAttrs_dict LH F.type_dict_items (py (hl π s σ H _ I h) λv d q0=>?_);obtain⟨x,Y,W,r1,q1⟩:=q0;obtain⟨a,o,g,e,hq,q⟩:=q1;subst e;cases r1;obtain⟨_,_,_,_,_,o',es,ep,U,h1,h2,_⟩:=(show Bp X.prog X.w Y d.heap a (.frz o (.dK g)) from W.hok a _ hq);obtain⟨ho,_⟩:=(show Bp X.prog X.w Y d.heap a (.frz o (.dK g)) from W.hok a _ hq);rw[ho] at U;cases U;obtain⟨hm,Z,r0,dd⟩:=Qo W hq h2;have S0:g.length=Z.length:=r0.length;have J:=dd.dictOf;refine⟨J.typeIs,J.mapOf.noDict,?_⟩;show ah _ _ (se r (.builtin "dict.items") [.ref a] [] []) _ _ d;refine method_meetsIn LH F.entry_dict_items rfl (PySem.evalArgs_none ⟨rfl,J.typeIs,F.args_dict_items_1 _,_,meets_dict_items (BJ X.prog X.w) a hm,⟨Z,J⟩,?_⟩);have I2:Inv X π σ Y { d with heap:=d.heap.push { cls:=.type "dict_items",data:=.fields #[.ref a] } }:=W.kept (t':=d.toks) λb o e=>bo _ e;refine wpAny_pyIter_items (knd:=BJ X.prog X.w) (kvs:=Z) (s:={ d with heap:=d.heap.push { cls:=.type "dict_items",data:=.fields #[.ref a] } }) ⟨_,ci _ rfl,rfl,rfl⟩ (dd.push _) ?_;refine⟨(d.heap.push { cls:=.type "dict_items",data:=.fields #[.ref a] }).objs.size,[(d.heap.push { cls:=.type "dict_items",data:=.fields #[.ref a] }).objs.size],_,_,Y,rfl,I2.kept (t':=d.toks) λb o e=>bo _ e,Zr a _ h2 g,⟨.none,.none,?_⟩,λb hb=>?_,q⟩
 .rw[S0];exact ci _ rfl
 .have e:b=(d.heap.push { cls:=.type "dict_items",data:=.fields #[.ref a] }).objs.size:=by simpa using hb
  subst e;exact I2.fpOk (aS _) (I2.hok.fresh (aS _))
def Qp(f:FE):FI:=λρ=>match f ρ with | some (.dk d)=>O0 (d.map λp=>.tup [kDt p.1,p.2]) | _=>W1
def ju{g d:Type}{f:g->d}{l:List g}{y:d}(h:(l.map f)[i]?=O0 y):∃x,l[i]?=O0 x/\f x=y:=by
 rw[db] at h;exact kD.mp h
def gC{kvs:List (Key×V)}{g:List (Key×D)}(h:F1 p=O0 (.frz o (.dK kvs)))(e:kvs.map (·.1)=g.map (·.1))(r:fy G F2 (kvs.map (·.2)) (g.map (·.2))):
  Src G (Iti p o kvs) (g.map λp=>.tup [kDt p.1,p.2]) F1 F2:=by
 have Z:kvs.length=g.length:=by have:=UO eS e;rwa [aI,aI] at this
 refine⟨λi H s J=>⟨s _ _ h,by rw[Z];rwa [aI] at J⟩,λi H x H' d s hd y=>?_,λi H s J=>⟨s _ _ h,by rw[Z];rwa [aI] at J⟩⟩;obtain⟨T,q,W,O,rfl,rfl⟩:=y;obtain⟨z,S,rfl⟩:=ju hd;have I:(kvs.map (·.1))[i]?=O0 q.1:=by rw[db,O];rfl
 rw[e,db,S] at I;injection I with I
 have Y:uj G F2 q.2 z.2:=r.2 i q.2 z.2 (by rw[db,O];rfl) (by rw[db,S];rfl);refine⟨Ao W _,λB lv U=>?_⟩;have rr:fy G (lu B H) [kV q.1,q.2] [kDt z.1,z.2]:=.cons (by rw[<-I];exact WX _) (.cons (Y.mono U) .nil);exact Gf lv W rr
def Vc{top:Bool}{d:Pos}(h:PF X G a fa)(I:hZ a "items" X.env (eval a X.env)=eval a X.env:=by rfl)(g:(apos.endLine==d.line)=E3:=by rfl):
  WU X G ZA (.Tuple elts x1 tp) (.Call (.Attribute a "items" apos) [] [] d) (Qp fa):=λA=>Tf (jt (@h A) I g)<|by
 rintro Y H R ⟨J,Z,o,e,k⟩
 unfold Qp at e;split at e
 .rename_i T U;cases e;refine⟨J,_,o,U,λv W O S=>?_⟩;cases S with
  |dk h l r=>exact⟨_,_,_,rfl,Ay _ _ h,k _ W O (gC h l ⟨by have:=UO eS l;rwa [aI,aI] at this ⊢,r⟩)⟩
 .cases e
end
section
variable {G:Gx}{b:Expr}{fb:FE}{es:List Expr}{fs:FA}
theorem Wa{P:cE}{w:cb}:∀{kvs:List (Key×V)}{us:List ac},us.length=kvs.length->(∀(j:Nat) u,us[j]?=O0 u->∃p,kvs[j]?=O0 p/\(BJ P w).is p.1 u=E3)->gn (kvs.map λp=>kV p.1) us
 |[],us,Z,_=>by
  have:us=[]:=BE Z;subst this;exact .nil
 |p::kvs,[],Z,_=>by simp at Z
 |p::kvs,u::us,Z,h=>by
  obtain⟨q,g,r⟩:=h 0 u rfl;simp at g;subst g;exact .cons (relK r) (Wa (P:=P) (w:=w) (by simpa using Z) λj v d=>by simpa using h (j+1) v (by simpa using d))
theorem Io(hc:X.calm=E3):Dy X (.type "list") (λxs H Q=>∃p kvs,xs=[.ref p]/\Rd H p (.dK kvs)/\∀l,H l=W1->Q (.ref l) (mf H l (.lst (kvs.map λq=>kV q.1)))):=by
 intro π s σ H xs us Q I r h;obtain⟨p,kvs,rfl,e,q⟩:=h;obtain⟨u,rfl,ru⟩:=r.one;cases ru;obtain⟨z,hd,O,d,J⟩:=PL I.hok e;obtain⟨Y,J⟩:=J.dictAt;have Z:kvs.length=O.length:=d.length;refine PySem.W.kdl_call (LI (knd:=BJ X.prog X.w) (kvs:=O) (ep:=Y) hd) (I.ok.hd hc) J .(0) λh' tk g c' kp hn T=>?_;have va:gn (kvs.map λq=>kV q.1) g.toList:=by
  refine Wa (P:=X.prog) (w:=X.w) (by simp[T.1,Z]) λj u hu=>?_;obtain⟨k,x,U,h2⟩:=T.2 j u (by simpa using hu);have S:j<kvs.length:=by rw[Z];exact (jp.mp U).1
  refine⟨kvs[j],by simp[S],?_⟩;rw[(Pj d (by simp[S]) U).1];exact h2
 exact⟨.ref s.heap.objs.size,_,I.laid (t':=tk) kp (aS _) (show Bp X.prog X.w _ h' _ (.lst (kvs.map λq=>kV q.1)) from⟨by rw[aI];exact z,g.toList,c',va,by simpa using hn⟩),rfl,q _ (I.hok.fresh (aS _))⟩
def Sz:D->Option D
 |.dk g=>O0 (.lst (g.map λp=>kDt p.1))
 |d=>jT d
theorem jw{H:Hp}:∀{kvs:List (Key×V)}{d:List (Key×D)},kvs.map (·.1)=d.map (·.1)->fy G H (kvs.map λq=>kV q.1) (d.map λp=>kDt p.1)
 |[],[],_=>fy.nil
 |[],_::_,h=>by simp at h
 |_::_,[],h=>by simp at h
 |p::kvs,q::d,h=>by
  rw[bn,bn] at h;injection h with g h2
  exact .cons (by show uj G H (kV p.1) (kDt q.1);rw[g];exact WX _) (jw h2)
def NB:SndC G (λxs H Q=>(∃p ys,xs=[.ref p]/\(Qr G.K H p ys∨Qb G.K H p ys)/\∀l,H l=W1->Q (.ref l) (mf H l (.lst ys)))∨∃p kvs,xs=[.ref p]/\Rd H p (.dK kvs)/\∀l,H l=W1->Q (.ref l) (mf H l (.lst (kvs.map λq=>kV q.1)))) Sz:=by
 intro A H x dx d Q I rx h k;unfold Sz at h;split at h
 .cases h;obtain⟨p,kvs,rfl,J,g,r⟩:=rx.dk;exact .inr ⟨p,kvs,rfl,J,λl Z=>k _ _ (Ao Z _) (Er I Z (jw g))⟩
 .exact .inl (je A H x dx d Q I rx h k)
def Pk(x:D)(ds:List D)(v:D):Option D:=match x with
 |.dt d=>(Lp ds).bind λk=>if d.length<sizeLine/\ds.length<=sizeLine then O0 (.dt (UR k v d)) else W1
 |_=>W1
def X8(i:Nat)(g:FA)(d:FE):FS:=λρ=>(d ρ).bind λv=>(g ρ).bind λy=>(ownO ρ i).bind λx=>(Pk x y v).map λz=>.nx (ρ.set i (.ow z))
def Zt{ρ:Rho}{o:To}(h:X8 i fs fb ρ=O0 o):∃v y x z,fb ρ=O0 v/\fs ρ=O0 y/\ρ[i]?=O0 (.ow x)/\Pk x y v=O0 z/\o=.nx (ρ.set i (.ow z)):=by
 unfold X8 at h;cases d:fb ρ with
 |none=>simp[d] at h
 |some v=>
  cases r:fs ρ with
  |none=>simp[d,r] at h
  |some y=>
   cases g:ownO ρ i with
   |none=>simp[d,r,g] at h
   |some x=>
    cases W:Pk x y v with
    |none=>simp[d,r,g,W] at h
    |some z=>
     simp[d,r,g,W] at h;exact⟨v,y,x,z,rfl,rfl,Qm g,W,h.symm⟩
theorem jz{x:Str}(hu:X.A.units+1<bP)(hv:PE X (.Name x xpos) (TR i))(ha:PFA X G es fs)(hb:PF X G b fb)(hs:gI b (O0 (.Subscript (.Name x xpos) (.Tuple es x1 tp) spos)) pos.line X.env=pure ZA:=by rfl):VW X G (.Assign [.Subscript (.Name x xpos) (.Tuple es x1 tp) spos] b pos) (X8 i fs fb):=by
 rintro A0 He π s σ H D I ⟨U,o,⟨A,w⟩,e,k⟩
 obtain⟨v,y,x0,z,e1,e2,hi,d,rfl⟩:=Zt e;refine V_ hu hv (V5 (@ha A)) (@hb A) hs π s σ H D I ?_;unfold Pk at d;split at d
 .rename_i r0;cases W:Lp y with
  |none=>simp[W] at d
  |some q=>
   simp only[W,cw] at d;split at d
   .rename_i hz;cases d;obtain⟨p,h1,hA,O,h2,hk,r⟩:=w.ok.ow i _ hi;refine⟨U,v,w.ok,e1,λu H1 J r1=>⟨_,h1,U,y,(w.mono J).ok,e2,λvs H2 g Y=>⟨by rw[Y.1];exact hz.2,λT hT=>?_⟩⟩⟩;have ek:=Qn Y W;subst ek;have hl:O.length<sizeLine:=by
     have:=UO eS hk;rw[aI,aI] at this;omega
    have S:cc H2 (mf H2 T (.tup (q.map kV))):=Ao hT _;refine⟨p,_,rfl,DPut.t (S _ _ (g _ _ (J _ _ h2))) Ah hl,?_⟩;have w2:=((w.mono J).mono g).mono S;have Z:=WT (k:=q) (r1.mono (Ba (g.trans S))) hk (r.mono (Ba (J.trans (g.trans S))));refine k _ _ ⟨A,w2.wr hi h1 ⟨_,Ah,Z.1,?_⟩⟩;rw[GZ hA];exact Z.2
   .cases d
 .cases d
end
section
variable {G:Gx}{a c:Expr}{fa:FE}{fs:FA}{src:FI}
def WU.top(h:WU X G ZA tg a src):WU X G E3 tg a src:=λA=>Tf (@h A) λY H R ⟨I,T,o,e,k⟩=>
 ⟨I,T,o,e,λJ U O g=>k J U O ⟨λi H s r=>g.go i H (Ay.trans s) r,λi H x W d s S y=>g.yld i H x W d (Ay.trans s) S y,λi H s r=>g.stop i H (Ay.trans s) r⟩⟩
theorem Hb.ob{A:List Addr}{H:Hp}{v:V}{c:Str}{O:List (Str×D)}(r:Hb G A H v (.ob c O)):∃a C dx fs,v=.ref a/\G.cl c=O0 C/\H a=O0 (.ins C dx fs)/\fs.map (·.1)=O.map (·.1)/\fy G (lu A H) (fs.map (·.2)) (O.map (·.2)):=by
 rcases r with r | ⟨a,e,C,dx,fs,h,k,r⟩
 .cases r with
  |ob I h l r=>
   have Z:=UO eS l;rw[aI,aI] at Z;exact⟨_,_,_,_,rfl,I,Ay _ _ h,l,by rw[aI,aI];exact Z,r⟩
 .exact⟨a,C,dx,fs,e,k.1,h,k.2,r⟩
def kc(f:Str):D->Option D
 |.ob _ O=>O.lookup f
 |_=>W1
theorem Qq{H:Hp}{f:Str}{d:D}:∀{O:List (Str×D)}{fs:List (Str×V)},fs.map (·.1)=O.map (·.1)->fy G H (fs.map (·.2)) (O.map (·.2))->O.lookup f=O0 d->∃v,fs.lookup f=O0 v/\uj G H v d
 |[],fs,e,r,h=>by simp at h
 |p::O,[],e,r,h=>by simp at e
 |p::O,q::fs,e,r,h=>by
  rw[bn,bn] at e r;injection e with J e2
  obtain⟨x,Y,U,g,S⟩:=r.uncons;injection U with W e5
  subst W e5;obtain⟨p1,Z⟩:=p;obtain⟨q1,q2⟩:=q;simp only at J g;subst J
  by_cases I:f=q1
  .subst I;simp only[cr,OP,F3] at h ⊢;subst h;exact⟨q2,rfl,g⟩
  .have T:(f==q1)=ZA:=beq_eq_false_iff_ne.mpr I;simp only[cr,T] at h ⊢;exact Qq e2 S h
def BV(g:∀c C,G.cl c=O0 C->Sn X.K C/\BL X.K C f)(he:PU X G a fa)(U:hZ a f X.env (eval a X.env)=eval a X.env:=by rfl):PF X G (.Attribute a f pos) (uF (kc f) fa):=
 λA=>Bt (ZZ (@he A) U)<|by
  rintro σ H Q ⟨O,d,o,e,k⟩
  obtain⟨x0,Z,I⟩:=Hi e;unfold kc at I;split at I
  .rename_i cn gs;refine⟨O,_,o,Z,λv H1 S T=>?_⟩;obtain⟨p,C,dx,fs,rfl,J,h,l,r⟩:=T.ob;obtain⟨v,Y,W⟩:=Qq (f:=f) (d:=d) l r I;exact⟨_,_,_,_,v,rfl,h,(g _ _ J).1,(g _ _ J).2,Y,k v H1 S W⟩
  .cases I
end
def Its(x:Str):It:=⟨λi _=>i<x.cps.size,λi H y d=>d=H/\∃c,x.cps[i]?=O0 c/\y=.str ⟨#[c]⟩,λi _=>x.cps.size<=i⟩
theorem X_{K:ay}(it:Addr)(x:Str)(t:Tok)(ty:String)(W:∀A:aT,A.handled=W1->oC P w A it [it] [it] x.cps.size (SignAt x) (λi h=>h.IsStrIter it ty x t i))(hn:["enumerate","zip","dict_itemiterator","dict_reverseitemiterator","odict_iterator","itertools.zip_longest","itertools.pairwise"].contains ty=ZA)(T:∀(A:aT),A.handled=W1->∀(i:Nat) (s:av) (Q:Option ac->av->Prop) (E:ac->av->Prop),s.heap.IsStrIter it ty x t i->x.cps[i]?=W1->(∀h',BD it s.heap h'->Q W1 { s with heap:=h' })->ah (ai P w) A (hU (.ref it)) Q E s)(self:∀(A:aT) (i:Nat) (s:av) (Q:ac->av->Prop) (E:ac->av->Prop),s.heap.IsStrIter it ty x t i->Q (.ref it) s->ah (ai P w) A (pE (.ref it)) Q E s):
  Turn P w K tg (Its x) [it] it (λi h=>h.IsStrIter it ty x t i) where
 mem:=by simp
 obj:=λi h g b r=>by
  have e:b=it:=by simpa using r
  subst e;obtain⟨o,e,c,d⟩:=g;exact⟨o,e,λv z=>by rw[d] at z;cases z⟩
 keep:=λi h h' g k=>let ⟨o,e,c,d⟩:=g;⟨o,k it .(1) o e,c,d⟩
 item:=by
  intro X hP O Y S i π s σ H E I J g U;subst hP O Y;obtain⟨f0,f1,f2,f3,f4,Z⟩:=J it .(1);refine (W X.A (I.ok.hd S)).item i s _ _ U g λv h' tk hv G kk=>?_;obtain⟨c,u,e1,rfl⟩:=hv;have I1:Inv X π σ H { s with heap:=h',toks:=tk }:=I.turned (λb o r e=>kk b o (by simpa using r) e) f0 f1 f3 f4 Z;obtain⟨o1,e2,c1,d1⟩:=id G;exact⟨_,rfl,Xi (s:={ s with heap:=h',toks:=tk }) e2 c1 d1 hn ⟨.str ⟨#[c]⟩,H,I1,⟨u,rfl⟩,⟨rfl,c,e1,rfl⟩,G,λb r=>(J b r).1⟩⟩
 done:=by
  intro X hP O Y S i π s σ H E I J g U;subst hP O Y;obtain⟨f0,f1,f2,f3,f4,Z⟩:=J it .(1);exact T X.A (I.ok.hd S) i s _ _ g (by rw[Array.getElem?_eq_none_iff];exact U) λh' eb=>⟨rfl,I.turned (t':=s.toks) (λb o r e=>eb b o r e) f0 f1 f3 f4 Z⟩
 self:=λA i s Q E g h=>self A i s Q E g h
section
variable {G:Gx}{a b c:Expr}{fa:FE}{tl:TE}
def iStr(d:TE):TI:=λg H R=>d g H λx r=>∃y,x=.str y/\R (Its y) r
theorem y_{l:Expr}(hl:PE X l tl):PI X tg l (iStr tl):=by
 intro S s Y H R I h;refine py (hl S s Y H _ I h) λv d q0=>?_;obtain⟨x,O,g,r1,q1⟩:=q0;obtain⟨y,e,q⟩:=q1;subst e;obtain⟨t,e⟩:=(show ∃t,v=vi y t from r1);subst e;have U:∀b∈[d.heap.objs.size],FpOk X S O b:=λb hb=>by
  have e:b=d.heap.objs.size:=by simpa using hb
  subst e;exact g.fpOk (aS _) (g.hok.fresh (aS _))
 cases T:y.cps.all (·<128)
 .exact wpAny_pyIter_wide T ⟨d.heap.objs.size,[d.heap.objs.size],_,_,O,rfl,g.kept (t':=d.toks) λb o e=>bo _ e,
   X_ _ y t "str_iterator" (λA Z=>Walks.strWide Z _ y t) .(2) (λ_ J _ _ _ _ W r k=>wpAny_pyNext_wide_end J W r k) (λ_ _ _ _ _ W h=>wpAny_pyIter_striter_wide W h),⟨_,ci _ rfl,rfl,rfl⟩,U,q⟩
 .exact wpAny_pyIter_ascii T ⟨d.heap.objs.size,[d.heap.objs.size],_,_,O,rfl,g.kept (t':=d.toks) λb o e=>bo _ e,
   X_ _ y t "str_ascii_iterator" (λA Z=>Walks.strAscii Z _ y t) .(2) (λ_ J _ _ _ _ W r k=>wpAny_pyNext_ascii_end J W r k) (λ_ _ _ _ _ W h=>wpAny_pyIter_striter_ascii W h),⟨_,ci _ rfl,rfl,rfl⟩,U,q⟩
def YB(x:Str):List D:=x.cps.toList.map λc=>.str ⟨#[c]⟩
def tY{x:Str}:Src G (Its x) (YB x) F1 F2:=by
 have Z:(YB x).length=x.cps.size:=by unfold YB;simp
 refine⟨λi H s g=>by rw[Z] at g;exact g,λi H y I d s r q=>?_,λi H s g=>by rw[Z] at g;exact g⟩;obtain⟨q1,c,q2,q3⟩:=q;refine Te ⟨q1,?_⟩;obtain⟨z,S,rfl⟩:=ju r;have e:x.cps[i]?=O0 z:=by simpa using S
 rw[e] at q2;cases q2;rw[q3];exact .str _
def zv(f:FE):FI:=λρ=>match f ρ with | some (.str x)=>O0 (YB x) | _=>seqE f ρ
def Bd(Y:G.K=X.K)(h:PF X G a fa):WU X G ZA tg a (zv fa):=λA=>Tf (piOr (jr Y h (A:=A)) (y_ (@h A)))<|by
 rintro O H R ⟨g,S,o,e,k⟩
 unfold zv at e;split at e
 .rename_i x I;cases e;refine .inr ⟨g,_,o,I,λv J d r=>?_⟩;cases r;exact⟨_,rfl,k _ J d tY⟩
 .exact .inl ⟨g,_,o,e,k⟩
def UX:List D->Option (List Bool)
 |[]=>O0 []
 |.bl i::r=>(UX r).map (i::·)
 |_::_=>W1
theorem bL{H:Hp}:∀{ds:List D}{xs:List V}{bs:List Bool},fy G H xs ds->UX ds=O0 bs->xs=bs.map V.bl
 |[],xs,bs,r,h=>by cases h;exact r.nil_inv
 |d::ds,xs,bs,r,h=>by
  obtain⟨x,J,rfl,g,S⟩:=r.uncons;cases d with
  |bl i=>
   cases e:UX ds with
   |none=>simp[UX,e] at h
   |some I=>
    simp[UX,e] at h;subst h;cases g;rw[bL S e];rfl
  |_=>simp[UX] at h
theorem Qs(hc:X.calm=E3):Dy X (.builtin "all") (λxs H Q=>∃(p:Addr) (bs:List Bool),xs=[.ref p]/\Qr X.K H p (bs.map V.bl)/\Q (.bl (bs.all id)) H):=by
 intro π s σ H xs us Q I r h;obtain⟨p,bs,rfl,hs,k⟩:=h;obtain⟨u,rfl,T⟩:=r.one;cases T;obtain⟨d,Y,pl,hz⟩:=I.list hs;have Z:=pl.isList;have U:p≠s.heap.objs.size:=by obtain⟨o,ho,_⟩:=Z;exact bS (bE ho)
 have g:bs.length=d.length:=by have:=Y.length;rwa [aI] at this
 refine call_all_walk (AS Z ?_);refine⟨_,_,_,_,_,_,λi=>bs.getD i E3,rfl,BC (A:=X.A.in1) (I.ok.hd hc) s.heap.objs.size p U d.toArray,⟨⟨_,ci _ rfl,rfl,rfl⟩,Z.push _⟩,?_,λh' tk kk=>?_⟩
 .intro i v s' Q' E' hv hq;have O:d[i]?=O0 v:=by simpa using hv
  have hlt':i<bs.length:=by rw[g];exact (jp.mp O).1
  obtain⟨u',hu,T⟩:=Y.get (i:=i) (x:=.bl (bs[i]'hlt')) (by rw[db];simp[hlt']);rw[O] at hu;cases hu;cases (show v=rS (bs[i]'hlt') from T);have e:bs.getD i E3=bs[i]'hlt':=by simp[F4,hlt']
  have S:Q' (bs.getD i E3) s':=hq;rw[e] at S;exact kB S
 .refine⟨.bl (bs.all id),H,I.kept (λb o e=>kk b o ?_ (bo _ e)),?_,k⟩
  .intro W;have:b=s.heap.objs.size:=by simpa using W
   exact QO (bE e) (by rw[this];exact kG _)
  .show rS _=rS _;congr 1;rw[cS,<-g];rw[kL,fI,fI];constructor
   .intro q b W;obtain⟨i,O,rfl⟩:=BF W;have:=q i (de.mpr O);simpa [F4,O] using this
   .intro q i O;have J:=de.mp O;have:=q (bs[i]'J) (gX J);simpa [F4,J] using this
def allD:D->Option D
 |.lst ds=>(UX ds).map λbs=>.bl (bs.all id)
 |_=>W1
def Wb:SndC G (λxs H Q=>∃(p:Addr) (bs:List Bool),xs=[.ref p]/\Qr G.K H p (bs.map V.bl)/\Q (.bl (bs.all id)) H) allD:=by
 intro A H x dx d Q O rx h k;unfold allD at h;split at h
 .rename_i J;cases e:UX J with
  |none=>simp[e] at h
  |some bs=>
   rw[e] at h;cases h;obtain⟨p,xs,rfl,g,r⟩:=rx.lst;have I:=bL r e;subst I;exact⟨p,bs,rfl,g,k _ H (cc.refl H) (.bl _)⟩
 .cases h
def Zu:df "all"=O0 (.builtin "all"):=by decide +kernel
end
section
variable {G:Gx}{a b:Expr}{fa:FE}
def isND(d:Bool):D->Option D
 |.non=>O0 (.bl (!d))
 |_=>O0 (.bl d)
def bM{d:D}(r:Hb G A H v d):(decide (v=.non))=(match d with | .non=>E3 | _=>ZA):=by
 rcases r with r | ⟨p,e,r⟩
 .cases r<;>simp
 .subst e;cases d<;>first | exact r.elim | simp
def zA{S:Pos}(ha:PU X G a fa):PF X G (.Compare a [.Is] [.Constant .none j S] pos) (uF (isND ZA) fa):=λA=>Bt (yC (iK (@ha A)))<|by
 rintro W H Q ⟨I,d,o,e,k⟩
 obtain⟨g,U,T⟩:=Hi e;refine⟨I,g,o,U,λv r J O=>?_⟩;show Q (.bl (decide (v=.non))) r;rw[bM O];cases g<;>(cases T;exact k _ r J (.bl _))
def bN{S:Pos}(ha:PU X G a fa):Zl X G (.Compare a [.Is] [.Constant .none j S] pos) (tx (uF (isND ZA) fa)):=λA=>a_ (yD (iK (@ha A)))<|by
 rintro U H Q ⟨d,b,o,e,k⟩
 obtain⟨g,O,J⟩:=Hi (Xr e);refine⟨d,g,o,O,λv T r I=>⟨_,rfl,?_⟩⟩;rw[bM I];cases g<;>(cases J;exact k T r)
end
section
variable {G:Gx}{b c:Expr}
def RU(x d:D):Bool:=match XZ 62 d x with | some b=>b | none=>ZA
def XY(x d:D):Bool:=(XZ 62 d x).isSome
def rInP(G:Gx)(d:Bool):R2:=λx y H Q=>∃(A:List Addr) (as ds:List D),Hb G A H x (.tup as)/\Hb G A H y (.lst ds)/\ds.all (XY (.tup as))=E3/\Q (.bl (if d then !ds.any (RU (.tup as)) else ds.any (RU (.tup as)))) H
open Classical in
def bO(hG:G.K=X.K)(hu:X.A.units+64<bP){π:QP}{s:av}{σ:St}{H:Hp}{A:List Addr}{x:V}{u:ac}{as ds:List D}{xs:List V}{g:List ac}(I:Inv X π σ H s)(rx:Hb G A H x (.tup as))(ru:fx x u)(r:fy G (lu A H) xs ds)(v:gn xs g)(hk:ds.all (XY (.tup as))=E3):
  ∃e:ac->Bool,(∀y,y∈g.toArray->nw X.A.in1 s y u (e y))/\g.toArray.any e=ds.any (RU (.tup as)):=by
 have r0:uj G H x (.tup as):=by
  rcases rx with q | ⟨p,_,q⟩
  .exact q.mono Ay
  .exact q.elim
 have one:∀(i:Nat) y,g[i]?=O0 y->∃d,ds[i]?=O0 d/\nw X.A.in1 s y u (RU (.tup as) d):=λi y S=>by
  have O:i<g.length:=(jp.mp S).1;have J:i<xs.length:=by rw[v.length];exact O
  have U:i<ds.length:=by rw[<-r.1];exact J
  obtain⟨y',Z,Y⟩:=v.get (i:=i) (x:=xs[i]) (by simp[J]);rw[S] at Z;cases Z;refine⟨ds[i],by simp[U],?_⟩;have kn:XY (.tup as) ds[i]=E3:=fI.mp hk _ (gX U);unfold XY at kn;obtain⟨b,hb⟩:=AW.mp kn;have eb:RU (.tup as) ds[i]=b:=by unfold RU;rw[hb]
  rw[eb];exact Td I hG 62 X.A.in1 (by show X.A.units+1+62<bP;omega) hb ((r.2 i _ _ (by simp[J]) (by simp[U])).mono Ay) r0 Y ru
 refine⟨λy=>decide (∃(i:Nat) (d:D),g[i]?=O0 y/\ds[i]?=O0 d/\RU (.tup as) d=E3),λy S=>?_,?_⟩
 .by_cases h:∃(i:Nat) (d:D),g[i]?=O0 y/\ds[i]?=O0 d/\RU (.tup as) d=E3
  .obtain⟨i,d,Z,Y,h3⟩:=id h;obtain⟨d',h4,W⟩:=one i y Z;rw[Y] at h4;cases h4;rw[h3] at W;show nw X.A.in1 s y u (decide (∃(i:Nat) (d:D),g[i]?=O0 y/\ds[i]?=O0 d/\RU (.tup as) d=E3));rw[SO h];exact W
  .obtain⟨i,O,rfl⟩:=BF (show y∈g by simpa using S);have T:g[i]?=O0 g[i]:=dQ O;obtain⟨d,h4,W⟩:=one i _ T;have h6:RU (.tup as) d=ZA:=by
    cases q:RU (.tup as) d with
    |false=>rfl
    |true=>exact QO ⟨i,d,T,h4,q⟩ h
   rw[h6] at W;show nw X.A.in1 s g[i] u (decide (∃(j:Nat) (d:D),g[j]?=O0 g[i]/\ds[j]?=O0 d/\RU (.tup as) d=E3));rw[RO h];exact W
 .rw[kL,LJ];rw[show g.toArray.any (λy=>decide (∃(i:Nat) (d:D),g[i]?=O0 y/\ds[i]?=O0 d/\RU (.tup as) d=E3))=g.any (λy=>decide (∃(i:Nat) (d:D),g[i]?=O0 y/\ds[i]?=O0 d/\RU (.tup as) d=E3)) by simp,LJ];constructor
  .rintro⟨y,S,h⟩;obtain⟨i,d,Z,Y,h3⟩:=VO h;exact⟨d,sk Y,h3⟩
  .rintro⟨d,U,h⟩;obtain⟨i,O,rfl⟩:=BF U;have J:i<g.length:=by rw[<-v.length,r.1];exact O
   exact⟨g[i],gX J,SO ⟨i,_,dQ J,dQ O,h⟩⟩
def j5(Y:G.K=X.K)(O:X.A.units+64<bP):PZ X (dS .In) (rInP G ZA):=by
 intro π s σ H x y v u Q I rx d h;obtain⟨A,as,ds,r,S,U,k⟩:=h;obtain⟨c,ys,rfl,Z,q2⟩:=S.lst;cases d;obtain⟨J,g,T,_⟩:=I.list (by rw[<-Y];exact Z);obtain⟨e,W,ea⟩:=bO Y O I r rx q2 g U;exact Kn e T.isList W ⟨.bl _,H,I,rfl,by rw[ea];exact k⟩
def gD(Y:G.K=X.K)(O:X.A.units+64<bP):PZ X (dS .NotIn) (rInP G E3):=by
 intro π s σ H x y v u Q I rx d h;obtain⟨A,as,ds,r,S,U,k⟩:=h;obtain⟨c,ys,rfl,Z,q2⟩:=S.lst;cases d;obtain⟨J,g,T,_⟩:=I.list (by rw[<-Y];exact Z);obtain⟨e,W,ea⟩:=bO Y O I r rx q2 g U;exact Kt e T.isList W ⟨.bl _,H,I,rfl,by rw[ea];exact k⟩
def ZU(d:Bool)(x y:D):Option D:=match x,y with
 |.tup as,.lst ds=>if ds.all (XY (.tup as))=E3 then O0 (.bl (if d then !ds.any (RU (.tup as)) else ds.any (RU (.tup as)))) else W1
 |x,y=>inE d x y
def Wc(g:Bool):Ec G (λx y H Q=>(rInA G.K g x y H Q∨rDIn g x y H Q)∨rInP G g x y H Q) (ZU g):=by
 intro A H x y dx O d Q I rx r h k;unfold ZU at h;split at h
 .split at h
  .rename_i J;cases h;exact .inr ⟨A,_,_,rx,r,J,k _ H (cc.refl H) (.bl _)⟩
  .cases h
 .exact .inl (tU g A H x y _ _ d Q I rx r h k)
end
end PV
namespace PySem
open PySem.Spec
end PySem
namespace PV
open PySem PySem.Spec L2
open PyProof.Rows hiding St
section
variable {G:Gx}
theorem Hb.dt{A:List Addr}{H:Hp}{v:V}{d:List (List Key×D)}(r:Hb G A H v (.dt d)):∃a kvs,v=.ref a/\Rd H a (.dT kvs)/\kvs.map (·.1)=d.map (·.1)/\fy G (lu A H) (kvs.map (·.2)) (d.map (·.2)):=by
 rcases r with r | ⟨a,e,kvs,h,k,r⟩
 .cases r with
  |dt h k r=>
   refine⟨_,_,rfl,.inr ⟨_,Ay _ _ h⟩,k,?_,r⟩;have:=UO eS k;rw[aI,aI] at this ⊢;exact this
 .exact⟨a,kvs,e,.of h,k,r⟩
end
def j6{d:Type}(l:List d)(k:Nat):Rl l W1 (O0 (k:Int))=l.take k:=by
 unfold Rl HT.sIx;simp;rw[OO .(0)]
 first | omega | (rw[List.take_eq_take_iff];omega)
def j7{d:Type}(l:List d)(k:Nat):Rl l (O0 (k:Int)) W1=l.drop k:=by
 unfold Rl HT.sIx;simp;rw[OO .(0)]
 by_cases h:k<=l.length
 .rw[LL h,EI .(1)]
 .rw[LM .(0),LN .(0),LN .(0)];simp
def zB{d:Type}{xs:List d}{i:Int}(J:0<=i)(h1:i<xs.length):atI xs i=xs[i.toNat]?:=by
 unfold atI ixN;rw[ZN J,ZN h1];rfl
def Dk(i j:Int)(h:0<j):rz (.int i) (.int j)=O0 (.int (i%j)):=by
 show (if 0<j then O0 (D.int (i%j)) else W1)=_;rw[ZN h]
def CZ(i j:Int)(h:0<j)(d:j<1073741824):Cr (.int i) (.int j)=O0 (.int (i/j)):=by
 show (if CDiv i j then O0 (D.int (i/j)) else W1)=_;rw[ZN ⟨h,d⟩]
def tZ(i j:Int)(h : -(2^64)<j/\j<2^64):mulD (.int i) (.int j)=O0 (.int (i*j)):=by
 show (if Nr i j then O0 (D.int (i*j)) else W1)=_;rw[ZN (.inl (.inr h))]
def We(i j:Int)(h : -(2^64)<i/\i<2^64):mulD (.int i) (.int j)=O0 (.int (i*j)):=by
 show (if Nr i j then O0 (D.int (i*j)) else W1)=_;rw[ZN (.inl (.inl h))]
def J1(i j:Int):OT (.int i) (.int j)=O0 (.int (i+j)):=nq _
def Qt(i j:Int):subD (.int i) (.int j)=O0 (.int (i-j)):=nq _
def Pn(i j:Int):ltD (.int i) (.int j)=O0 (.bl (decide (i<j))):=nq _
def YC(i j:Int):gtD (.int i) (.int j)=O0 (.bl (decide (j<i))):=nq _
def Vd(i j:Int):geD (.int i) (.int j)=O0 (.bl (decide (j<=i))):=nq _
def Ii(i j:Int):sd ZA (.int i) (.int j)=O0 (.bl (decide (i=j))):=nq _
def bQ(i j:Int):sd E3 (.int i) (.int j)=O0 (.bl (!decide (i=j))):=nq _
def Ip(h:n<=10000000):n<=sizeLine:=dA h .(2)
def Tn{i j:List D}(h:i.length+j.length<=10000000):OT (.lst i) (.lst j)=O0 (.lst (i++j)):=by
 show (if _ then _ else _)=_;rw[ZN (Ip h)]
theorem Pq{b:D->FS}{P:Nat->Rho->Prop}:∀{ds:List D}{ρ:Rho}(k:Nat),P k ρ->(∀(i:Nat) d ρ,ds[i]?=O0 d->P (k+i) ρ->∃g,b d ρ=O0 (.nx g)/\P (k+i+1) g)->∃g,OS b ds ρ=O0 (.nx g)/\P (k+ds.length) g
 |[],ρ,k,J,_=>⟨ρ,rfl,by simpa using J⟩
 |d::r,ρ,k,J,hs=>by
  obtain⟨S,Y,U⟩:=hs 0 d ρ rfl (by simpa using J);obtain⟨G,W,T⟩:=Pq (ds:=r) (ρ:=S) (k+1) (by simpa using U) λi Z g O I=>by
   have:=hs (i+1) Z g (by simpa using O) (by rw[show k+(i+1)=k+1+i by omega];exact I);rw[show k+(i+1)+1=k+1+i+1 by omega] at this;exact this
  refine⟨G,?_,by rw[cq,show k+(r.length+1)=k+1+r.length by omega];exact T⟩;unfold OS;rw[Y];exact W
def R9{d:FI}{ga:FT}{fe:FE}{ρ:Rho}{ds out:List D}(h:d ρ=O0 ds)(hz:ds.length<=10000000)(I:J_ ρ ga fe ds=O0 out):Bo d ga fe ρ=O0 (.lst out):=by
 unfold Bo;rw[h];show (if ds.length<=sizeLine then (J_ ρ ga fe ds).map D.lst else W1)=_;rw[ZN (Ip hz),I];rfl
def j8(o:Option To)(O:FS):Option To:=match o with | some (.nx d)=>O d | o=>o
def Em(g gs:FS)(ρ:Rho):bc g gs ρ=j8 (g ρ) gs:=nq _
def Re(O:FS)(ρ:Rho):j8 (O0 (.nx ρ)) O=O ρ:=nq _
def e_rt(O:FS)(d:D)(ρ:Rho):j8 (O0 (.rt d ρ)) O=O0 (.rt d ρ):=nq _
def wI(ρ:Rho):Pc ρ=O0 (.nx ρ):=nq _
def iteO(o:Option Bool)(g O:FS)(ρ:Rho):Option To:=match o with | some E3=>g ρ | some ZA=>O ρ | none=>W1
def e_if(t:FT)(g O:FS)(ρ:Rho):OV t g O ρ=iteO (t ρ) g O ρ:=nq _
def wJ(g O:FS)(ρ:Rho):iteO (O0 E3) g O ρ=g ρ:=nq _
def wK(g O:FS)(ρ:Rho):iteO (O0 ZA) g O ρ=O ρ:=nq _
def setO(i:Nat)(ρ:Rho)(o:Option D):Option To:=o.map λd=>.nx (ρ.set i (.fz d))
def YD(i:Nat)(f:FE)(ρ:Rho):jl i f ρ=setO i ρ (f ρ):=nq _
def Tp(i:Nat)(ρ:Rho)(d:D):setO i ρ (O0 d)=O0 (.nx (ρ.set i (.fz d))):=nq _
def retO(ρ:Rho)(o:Option D):Option To:=o.map λd=>.rt d ρ
def wL(f:FE)(ρ:Rho):im f ρ=retO ρ (f ρ):=nq _
def j9(d:D)(ρ:Rho):retO ρ (O0 d)=O0 (.rt d ρ):=nq _
def wM(ρ:Rho)(o:Option D):Option To:=o.map λ_=>.nx ρ
def j_(f:FE)(ρ:Rho):I_ f ρ=wM ρ (f ρ):=nq _
def bR(ρ:Rho)(d:D):wM ρ (O0 d)=O0 (.nx ρ):=nq _
def b2(g:D->D->Option D)(x y:Option D):Option D:=x.bind λx=>y.bind λy=>g x y
def e_b(g:D->D->Option D)(r d:FE)(ρ:Rho):bF g r d ρ=b2 g (r ρ) (d ρ):=nq _
def e_bs(g:D->D->Option D)(x y:D):b2 g (O0 x) (O0 y)=g x y:=nq _
def b1(g:D->Option D)(x:Option D):Option D:=x.bind g
def e_u(g:D->Option D)(r:FE)(ρ:Rho):uF g r ρ=b1 g (r ρ):=nq _
def e_us(g:D->Option D)(x:D):b1 g (O0 x)=g x:=nq _
def cl1(g:List D->Option D)(x:Option (List D)):Option D:=x.bind g
def kE(g:List D->Option D)(fs:FA)(ρ:Rho):Ag g fs ρ=cl1 g (fs ρ):=nq _
def bT(g:List D->Option D)(ds:List D):cl1 g (O0 ds)=g ds:=nq _
def wN(x:Option D)(y:Option (List D)):Option (List D):=x.bind λd=>y.map (d::·)
def kI(r:FE)(fs:FA)(ρ:Rho):Aa r fs ρ=wN (r ρ) (fs ρ):=nq _
def bU(d:D)(ds:List D):wN (O0 d) (O0 ds)=O0 (d::ds):=nq _
def kJ(ρ:Rho):am ρ=O0 []:=nq _
def tupO(o:Option (List D)):Option D:=o.bind λds=>if ds.length<=sizeLine then O0 (.tup ds) else W1
def lstO(o:Option (List D)):Option D:=o.bind λds=>if ds.length<=sizeLine then O0 (.lst ds) else W1
def wO(fs:FA)(ρ:Rho):RS fs ρ=tupO (fs ρ):=nq _
def kO(fs:FA)(ρ:Rho):pp fs ρ=lstO (fs ρ):=nq _
def kW(a:D):tupO (O0 [a])=O0 (.tup [a]):=nq _
def kZ(a b:D):tupO (O0 [a,b])=O0 (.tup [a,b]):=nq _
def Zv:lstO (O0 [])=O0 (.lst []):=nq _
def kh(a:D):lstO (O0 [a])=O0 (.lst [a]):=nq _
def kj(a b:D):lstO (O0 [a,b])=O0 (.lst [a,b]):=nq _
def km(a b c:D):lstO (O0 [a,b,c])=O0 (.lst [a,b,c]):=nq _
def blO(o:Option D):Option Bool:=match o with | some (.bl b)=>O0 b | _=>W1
def e_bl(f:FE)(ρ:Rho):tx f ρ=blO (f ρ):=nq _
def wQ(b:Bool):blO (O0 (.bl b))=O0 b:=nq _
def andO(o:Option Bool)(d:FT)(ρ:Rho):Option Bool:=match o with | some E3=>d ρ | some ZA=>O0 ZA | none=>W1
def orO(o:Option Bool)(d:FT)(ρ:Rho):Option Bool:=match o with | some E3=>O0 E3 | some ZA=>d ρ | none=>W1
def k_(a b:FT)(ρ:Rho):andT a b ρ=andO (a ρ) b ρ:=nq _
def bV(b:FT)(ρ:Rho):andO (O0 E3) b ρ=b ρ:=nq _
def bW(b:FT)(ρ:Rho):andO (O0 ZA) b ρ=O0 ZA:=nq _
def wR(a b:FT)(ρ:Rho):orT a b ρ=orO (a ρ) b ρ:=nq _
def lA(b:FT)(ρ:Rho):orO (O0 E3) b ρ=O0 E3:=nq _
def lC(b:FT)(ρ:Rho):orO (O0 ZA) b ρ=b ρ:=nq _
def lD(a:FT)(ρ:Rho):Sj a ρ=(a ρ).map (!·):=nq _
def andP(o:Option D)(d:FE)(ρ:Rho):Option D:=match o with | some (.bl E3)=>d ρ | some (.bl ZA)=>O0 (.bl ZA) | _=>W1
def lE(a b:FE)(ρ:Rho):andF a b ρ=andP (a ρ) b ρ:=nq _
def bY(b:FE)(ρ:Rho):andP (O0 (.bl E3)) b ρ=b ρ:=nq _
def ifP(o:Option Bool)(r d:FE)(ρ:Rho):Option D:=match o with | some E3=>r ρ | some ZA=>d ρ | none=>W1
def wU(t:FT)(a b:FE)(ρ:Rho):ifF t a b ρ=ifP (t ρ) a b ρ:=nq _
def lF(a b:FE)(ρ:Rho):ifP (O0 E3) a b ρ=a ρ:=nq _
def lG(a b:FE)(ρ:Rho):ifP (O0 ZA) a b ρ=b ρ:=nq _
def sl3(f:Option D)(l h:Option (Option Int)):Option D:=f.bind λx=>l.bind λr=>h.bind λd=>slD x r d
def e_sl(f:FE)(l h:FO)(ρ:Rho):slF f l h ρ=sl3 (f ρ) (l ρ) (h ρ):=nq _
def wV(x:D)(l h:Option Int):sl3 (O0 x) (O0 l) (O0 h)=slD x l h:=nq _
def wW(ρ:Rho):noO ρ=O0 W1:=nq _
def somO(o:Option D):Option (Option Int):=match o with | some (.int i)=>O0 (O0 i) | _=>W1
def bZ(f:FE)(ρ:Rho):Pp f ρ=somO (f ρ):=nq _
def YF(i:Int):somO (O0 (.int i))=O0 (O0 i):=nq _
def getO(o:Option Slot):Option D:=match o with | some (.fz d)=>O0 d | _=>W1
def getU(o:Option Slot):Option D:=match o with | some (.fz d)=>O0 d | some (.ow d)=>O0 d | _=>W1
def e_v(i:Nat)(ρ:Rho):vF i ρ=getO (ρ[i]?):=nq _
def TU(d:D):getO (O0 (.fz d))=O0 d:=nq _
def e_vU(i:Nat)(ρ:Rho):vU i ρ=getU (ρ[i]?):=nq _
def wX(d:D):getU (O0 (.ow d))=O0 d:=nq _
def e_k(d:D)(ρ:Rho):kF d ρ=O0 d:=nq _
def rngO(o:Option D):Option (List D):=match o with | some (.int j)=>if -(2^62)<=j/\j<2^62 then O0 (Pl j.toNat) else W1 | _=>W1
def Tq(f:FE)(ρ:Rho):QY f ρ=rngO (f ρ):=nq _
def Wf(j:Int)(h : -(2^62)<=j/\j<2^62):rngO (O0 (.int j))=O0 (Pl j.toNat):=by
 show (if _ then _ else _)=_;rw[ZN h]
def forO(o:Option (List D))(tg:FG)(b:FS)(ρ:Rho):Option To:=o.bind λds=>OS (XU tg b) ds ρ
def Tr(d:FI)(tg:FG)(b:FS)(ρ:Rho):Pt d tg b ρ=forO (d ρ) tg b ρ:=nq _
def Oh(ds:List D)(tg:FG)(b:FS)(ρ:Rho):forO (O0 ds) tg b ρ=OS (XU tg b) ds ρ:=nq _
def ccO(o:Option Bool)(e:Option D)(r:Option (List D)):Option (List D):=match o with | some E3=>e.bind λy=>r.map (y::·) | some ZA=>r | none=>W1
def Kl(ρ:Rho)(ga:FT)(fe:FE)(d:D)(r:List D):J_ ρ ga fe (d::r)=ccO (ga (ρ++[.fz d])) (fe (ρ++[.fz d])) (J_ ρ ga fe r):=nq _
def lH(ρ:Rho):OQ ρ=O0 E3:=nq _
def runO(o:Option To):Option D:=match o with | some (.rt d _)=>O0 d | some (.nx _)=>O0 .non | _=>W1
def KJ{g:Nat}{b:FS}{ds:List D}(h:ds.length=g):oo n g b ds=runO (b (Ek n ds)):=by
 unfold oo;rw[ZN h];rfl
def lJ(d:D)(ρ:Rho):runO (O0 (.rt d ρ))=O0 d:=nq _
def lK(ρ:Rho):runO (O0 (.nx ρ))=O0 .non:=nq _
def Lq{d g:Type}(f:d->g)(x:d):Option.map f (O0 x)=O0 (f x):=nq _
def lL{d g:Type}(f:d->Option g)(x:d):Option.bind (O0 x) f=f x:=nq _
def Dr(n:Nat)(ds:List D):Ek n ds=ds.map .fz++si (n-ds.length) .un:=nq _
def truB(b:Bool):truD (.bl b)=O0 b:=nq _
def Qu{d:Type}(l:List d)(k:Nat):atI l (k:Int)=l[k]?:=by
 unfold atI ixN;rw[ZN .(0)]
 by_cases h:k<l.length
 .rw[ZN .(0)];simp
 .rw[OO .(0),qA .(0)];rfl
def ix0(x:D)(r:List D):ixD (.lst (x::r)) (.int 0)=O0 x:=Qu _ 0
def ixt0(x:D)(r:List D):ixD (.tup (x::r)) (.int 0)=O0 x:=Qu _ 0
def ixt1(x y:D)(r:List D):ixD (.tup (x::y::r)) (.int 1)=O0 y:=Qu _ 1
def e_tr(f:FE)(ρ:Rho):trF f ρ=(f ρ).bind truD:=nq _
def Tt(x y:Str):(x++y).length=x.length+y.length:=by
 show (x.cps++y.cps).size=_;simp[yB]
def ABU(z:Str)(h:z.length<=10000000):lenD (.str z)=O0 (.int z.length):=by
 show (if z.length<=sizeLine then O0 (D.int z.length) else W1)=_;rw[ZN (Ip h)]
def wZ(l:List D):lenD (.lst l)=O0 (.int l.length):=nq _
def t6(x:Str)(d:List Str):inD ZA (.str x) (.lst (d.map .str))=O0 (.bl (d.any (λy=>y==x))):=by
 have h:∀d:List Str,Sk (d.map .str)=O0 (d.map V.str):=λd=>by
  induction d with
  |nil=>rfl
  |cons y r g=>simp[Sk,VT,g]
 show ((VT (.str x)).bind λv=>(Sk (d.map .str)).map λG=>D.bl (inV v G))=_;rw[h];show O0 (D.bl (inV (.str x) (d.map V.str)))=_;simp[inV,F5,fN,eqV]
def Lr(n:Nat):(Pl n).length=n:=by simp[Pl]
def gF(ys:List Str):Nu (ys.map .str)=O0 ys:=by
 induction ys with
 |nil=>rfl
 |cons y r d=>simp[Nu,d]
def wg(i:Nat)(ρ:Rho)(o:Option D):Option To:=o.map λd=>.nx (ρ.set i (.ow d))
def Zw(i:Nat)(f:FE)(ρ:Rho):setW i f ρ=wg i ρ (f ρ):=nq _
def Wg(i:Nat)(ρ:Rho)(d:D):wg i ρ (O0 d)=O0 (.nx (ρ.set i (.ow d))):=nq _
def mutO(g:D->D->Option D)(i:Nat)(ρ:Rho)(x v:Option D):Option To:=v.bind λv=>x.bind λx=>(g x v).map λy=>.nx (ρ.set i (.ow y))
def getW(o:Option Slot):Option D:=match o with | some (.ow d)=>O0 d | _=>W1
def wj(g:D->D->Option D)(i:Nat)(f:FE)(ρ:Rho):mutF g i f ρ=mutO g i ρ (getW ρ[i]?) (f ρ):=nq _
def lO(g:D->D->Option D)(i:Nat)(ρ:Rho)(x v:D):mutO g i ρ (O0 x) (O0 v)=(g x v).map λy=>.nx (ρ.set i (.ow y)):=nq _
def Qv(d:D):getW (O0 (.ow d))=O0 d:=nq _
def forB(o:Option To)(b:D->FS)(r:List D):Option To:=match o with
  |some (.nx d)=>OS b r d
  |some (.ct d)=>OS b r d
  |some (.bk d)=>O0 (.nx d)
  |some (.rt e d)=>O0 (.rt e d)
  |none=>W1
def Ds(b:D->FS)(d:D)(r:List D)(ρ:Rho):OS b (d::r) ρ=forB (b d ρ) b r:=nq _
def Dm(b:D->FS)(r:List D)(ρ:Rho):forB (O0 (.nx ρ)) b r=OS b r ρ:=nq _
def Pu(b:D->FS)(r:List D)(d:D)(ρ:Rho):forB (O0 (.rt d ρ)) b r=O0 (.rt d ρ):=nq _
def bndO(o:Option Rho)(b:FS):Option To:=o.bind b
def UU(tg:FG)(b:FS)(d:D)(ρ:Rho):XU tg b d ρ=bndO (tg d ρ) b:=nq _
def Jm(ρ:Rho)(b:FS):bndO (O0 ρ) b=b ρ:=nq _
def J2(i:Nat)(d:D)(ρ:Rho):CW i d ρ=O0 (ρ.set i (.fz d)):=nq _
abbrev FZ:=Rho->Option (D×Rho)
abbrev FZA:=Rho->Option (List D×Rho)
abbrev Ef:=List (Str×Bool×D)
abbrev UQ:=Rho->Ef->Option (Rho×Ef)
abbrev FTE:=Rho->Ef->Option Bool
def Sr(ρ:Rho):Bool:=ρ.all λz=>match z with | .ow _=>ZA | _=>E3
def Tl(g:FS):UQ:=λρ r=>match g ρ with | some (.nx d)=>if Sr d=E3 then O0 (d,r) else W1 | _=>W1
def JG(f:Str)(fe:FE):UQ:=λρ r=>(fe ρ).bind λd=>if (r.lookup f).isNone=E3/\r.length<1000 then O0 (ρ,r++[(f,ZA,d)]) else W1
def Ra(f:Str)(fe:FE):UQ:=λρ r=>(fe ρ).bind λd=>if (r.lookup f).isNone=E3/\r.length<1000 then O0 (ρ,r++[(f,E3,d)]) else W1
def So(f:Str)(d:D):Ef->Ef
 |[]=>[]
 | (g,b,x)::r=>if g=f then (g,b,d)::r else (g,b,x)::So f d r
def Rb(f:Str)(G g:FE):UQ:=λρ r=>(g ρ).bind λv=>(G ρ).bind λk=>match r.lookup f with | some (E3,d)=>(Dp d k v).map λd'=>(ρ,So f d' r) | _=>W1
def Tv(t:FT):FTE:=λρ _=>t ρ
def inTE(f:Str)(g:FE):FTE:=λρ r=>(g ρ).bind λk=>match r.lookup f with | some (E3,.dk d)=>(US k).map λq=>(OY q d).isSome | _=>W1
def orTE(a b:FTE):FTE:=λρ r=>match a ρ r with | some E3=>O0 E3 | some ZA=>b ρ r | none=>W1
def ifE(t:FTE):UQ:=λρ r=>match t ρ r with | some ZA=>O0 (ρ,r) | _=>W1
def nilE:UQ:=λρ r=>O0 (ρ,r)
def Gn(g O:UQ):UQ:=λρ d=>(g ρ d).bind λr=>O r.1 r.2
def Jo(tg:FG)(b:UQ):List D->UQ
 |[],ρ,g=>O0 (ρ,g)
 |d::r,ρ,g=>(tg d ρ).bind λS=>if Sr S=E3 then (b S g).bind λq=>Jo tg b r q.1 q.2 else W1
def forE(d:FI)(tg:FG)(b:UQ):UQ:=λρ r=>(d ρ).bind λds=>Jo tg b ds ρ r
def Tw(n:Nat)(x:Addr)(ds:List D):Rho:=Ek n (.adr x::ds)
def runI(n g:Nat)(b:UQ)(x:Addr)(ds:List D):Option Ef:=if ds.length+1=g then (b (Tw n x ds) []).map (·.2) else W1
def finE(c:Str)(r:Ef):D:=.ob c (r.map λp=>(p.1,p.2.2))
open Classical in
noncomputable def mkI(c:Str)(g:Addr->List D->Option Ef)(fs:FA):FE:=λρ=>(fs ρ).bind λds=>(g 0 ds).bind λr=>if ∀x,g x ds=O0 r then O0 (finE c r) else W1
end PV
variable {g:List PV.D->Option PV.D}{r d W:PV.D}{G:PV.Gx}{ds:List PV.D}{ρ:PV.Rho}{kds:List (L2.Key×PV.D)}{src:PV.FI}{fg:PV.FG}{gs:List (xv×PV.D)}{ga ft:PV.FT}{fe fr:PV.FE}{ε:PV.Ef}
namespace PV
open PySem PySem.Spec L2
open PyProof.Rows hiding St
def YG:df "tuple"=O0 (.type "tuple"):=by decide +kernel
section
variable {x:Addr}
def Rc(x:Addr)(H I:Hp):Prop:=∀b o,b≠x->H b=O0 o->I b=O0 o
def KN(J:x∈A)(s:Rc x H H'):cc (lu A H) (lu A H'):=λb o h=>by
 unfold lu at h ⊢;split at h
 .cases h
 .rename_i I;rw[OO I];exact s b o (λz=>I (z▸J)) h
def YY.other(t:YY G A H q d)(Z:q≠x)(S:x∈A)(s:Rc x H H'):YY G A H' q d:=by
 have J:=KN S s;cases d with
 |lst O=>obtain⟨I,q1,q2⟩:=t;exact⟨I,s _ _ Z q1,q2.mono J⟩
 |dk O=>obtain⟨I,q1,q2,q3⟩:=t;exact⟨I,s _ _ Z q1,q2,q3.mono J⟩
 |dt O=>obtain⟨I,q1,q2,q3⟩:=t;exact⟨I,s _ _ Z q1,q2,q3.mono J⟩
 |ob c T=>obtain⟨C,dx,I,q1,q2,q3⟩:=t;exact⟨C,dx,I,s _ _ Z q1,q2,q3.mono J⟩
 |_=>exact t.elim
end
def DR(h:Sr ρ=E3)(i:Nat)(d:D):ρ[i]?≠O0 (.ow d):=λe=>by
 unfold Sr at h;rw[fI] at h;have:=h _ (sk e);cases this
inductive OW (G:Gx) (A0 A:List Addr) (H:Hp) (x:Addr):List (Str×V)->Ef->List Addr->Prop
 |nil:OW G A0 A H x [] [] []
 |pl {f:Str}{v:V}{d:D}{fs:List (Str×V)}{ε:Ef}{as:List Addr}:uj G (lu A H) v d->OW G A0 A H x fs ε as->OW G A0 A H x ((f,v)::fs) ((f,ZA,d)::ε) as
 |ow {f:Str}{a:Addr}{d:D}{fs:List (Str×V)}{ε:Ef}{as:List Addr}:a∈A->a∉A0->a≠x->a∉as->YY G A H a d->OW G A0 A H x fs ε as->OW G A0 A H x ((f,.ref a)::fs) ((f,E3,d)::ε) (a::as)
section
variable {A':List Addr}{x:Addr}{fs:List (Str×V)}{as:List Addr}
theorem OW.mp(h:OW G A0 A H x fs ε as)(r:∀v d,uj G (lu A H) v d->uj G (lu A' H') v d)(t:∀a∈as,∀d,YY G A H a d->YY G A' H' a d)(s:∀a∈as,a∈A->a∈A'):OW G A0 A' H' x fs ε as:=by
 induction h with
 |nil=>exact .nil
 |pl O _ I=>exact .pl (r _ _ O) (I t s)
 |ow Z Y U T S _ I=>exact .ow (s _ eD Z) Y U T (t _ eD _ S) (I (λa J=>t a (da _ J)) (λa J=>s a (da _ J)))
theorem OW.names(h:OW G A0 A H x fs ε as):fs.map (·.1)=ε.map (·.1):=by
 induction h with
 |nil=>rfl
 |pl _ _ I=>simp[I]
 |ow _ _ _ _ _ _ I=>simp[I]
def OW.len(h:OW G A0 A H x fs ε as):fs.length=ε.length:=by
 have:=UO eS h.names;simpa using this
theorem OW.ne(h:OW G A0 A H x fs ε as):∀a∈as,a∈A/\a∉A0/\a≠x:=by
 induction h with
 |nil=>intro a J;cases J
 |pl _ _ I=>exact I
 |ow T O S _ _ _ I=>
  intro a J
  rcases bX.mp J with z | z
  .subst z;exact⟨T,O,S⟩
  .exact I a z
theorem Qw{f:Str}{v:V}:∀{fs:List (Str×V)},fs.lookup f=W1->L2.putF f v fs=fs++[(f,v)]
 |[],_=>rfl
 | (g,y)::r,h=>by
  by_cases I:f=g
  .subst I;simp[cr] at h
  .have J:(f==g)=ZA:=beq_eq_false_iff_ne.mpr I;simp only[cr,J] at h;show (if g=f then (g,v)::r else (g,y)::L2.putF f v r)=_;rw[OO (λz=>I z.symm),Qw h];rfl
def OW.none(h:OW G A0 A H x fs ε as)(e:ε.lookup f=W1):fs.lookup f=W1:=by
 induction h with
 |nil=>rfl
 | @pl g v d fs ε as _ _ J=>
  by_cases I:f=g
  .subst I;simp[cr] at e
  .have O:(f==g)=ZA:=beq_eq_false_iff_ne.mpr I;simp only[cr,O] at e ⊢;exact J e
 | @ow g a d fs ε as _ _ _ _ _ _ J=>
  by_cases I:f=g
  .subst I;simp[cr] at e
  .have O:(f==g)=ZA:=beq_eq_false_iff_ne.mpr I;simp only[cr,O] at e ⊢;exact J e
theorem OW.snocP(h:OW G A0 A H x fs ε as)(r:uj G (lu A H) v d):OW G A0 A H x (fs++[(f,v)]) (ε++[(f,ZA,d)]) as:=by
 induction h with
 |nil=>exact .pl r .nil
 |pl J _ I=>exact .pl J I
 |ow Y U T S O _ I=>exact .ow Y U T S O I
def OW.snocO(h:OW G A0 A H x fs ε as)(h1:a∈A)(Y:a∉A0)(U:a≠x)(J:a∉as)(t:YY G A H a d):OW G A0 A H x (fs++[(f,.ref a)]) (ε++[(f,E3,d)]) (as++[a]):=by
 induction h with
 |nil=>exact .ow h1 Y U (λz=>nomatch z) t .nil
 |pl O _ I=>exact .pl O (I J)
 | @ow g b e fs ε as q1 q2 q3 S Z _ I=>
  have T:a≠b:=λz=>J (by simp[z]);refine .ow q1 q2 q3 (λz=>?_) Z (I λz=>J (da _ z))
  rcases eR.mp z with z | z
  .exact S z
  .simp at z;exact T z.symm
def OW.get(h:OW G A0 A H x fs ε as)(e:ε.lookup f=O0 (E3,d)):∃a,fs.lookup f=O0 (.ref a)/\a∈as/\a∈A/\a∉A0/\a≠x/\YY G A H a d:=by
 induction h with
 |nil=>cases e
 | @pl g v Z fs ε as _ _ J=>
  by_cases I:f=g
  .subst I;simp[cr] at e
  .have O:(f==g)=ZA:=beq_eq_false_iff_ne.mpr I;simp only[cr,O] at e ⊢;exact J e
 | @ow g a Z fs ε as Y U T _ S _ J=>
  by_cases I:f=g
  .subst I;simp only[cr,OP,F3,rl,true_and] at e ⊢;subst e;exact⟨a,rfl,eD,Y,U,T,S⟩
  .have O:(f==g)=ZA:=beq_eq_false_iff_ne.mpr I;simp only[cr,O] at e ⊢;obtain⟨a',q1,q2,q3⟩:=J e;exact⟨a',q1,da _ q2,q3⟩
def OW.wr{d':D}(h:OW G A0 A H x fs ε as)(e:ε.lookup f=O0 (E3,d))(J:fs.lookup f=O0 (.ref a))(sx:Rc a H H')(Z:a∈A)(t:YY G A H' a d'):OW G A0 A H' x fs (So f d' ε) as:=by
 have Y:=KN Z sx
 induction h with
 |nil=>cases e
 | @pl g v d2 fs ε as rv T S=>
  by_cases I:f=g
  .subst I;simp[cr] at e
  .have U:(f==g)=ZA:=beq_eq_false_iff_ne.mpr I;simp only[cr,U] at e J;unfold So;rw[OO (λz=>I z.symm)];exact .pl (rv.mono Y) (S e J)
 | @ow g b d2 fs ε as h1 h2 h3 O h5 T S=>
  by_cases I:f=g
  .subst I;simp only[cr,OP,F3,V.ref.injEq] at J;subst J;unfold So;rw[ZN rfl];refine .ow h1 h2 h3 O t (T.mp (λv d r=>r.mono Y) (λc hc d t'=>t'.other (λz=>O (by rw[<-z];exact hc)) Z sx) λ_ _ z=>z)
  .have U:(f==g)=ZA:=beq_eq_false_iff_ne.mpr I;simp only[cr,U] at e J;obtain⟨a',q1,q2,_⟩:=T.get e;rw[J] at q1;cases q1;unfold So;rw[OO (λz=>I z.symm)];exact .ow h1 h2 h3 O (h5.other (λz=>O (z▸q2)) Z sx) (S e J)
end
structure EOk (G:Gx) (c:Str) (A0:List Addr) (He:Hp) (x:Addr) (A:List Addr) (σ:St) (H:Hp) (ρ:Rho) (ε:Ef):Prop where
 w:Sb G A0 He A σ H ρ
 no:Sr ρ=E3
 xA:x∈A
 x0:x∉A0
 s0:ρ[0]?=O0 (.fz (.adr x))
 ob:∃C dx fs as,H x=O0 (.ins C dx fs)/\G.cl c=O0 C/\OW G A0 A H x fs ε as
def EOkS(G:Gx)(c:Str)(A0:List Addr)(O:Hp)(x:Addr)(I:St)(H:Hp)(ρ:Rho)(J:Ef):Prop:=∃A,EOk G c A0 O x A I H ρ J
section
variable {x:Addr}
theorem EOk.at0(o:EOk G c A0 He x A σ H ρ ε):σ[0]?=O0 (O0 (.ref x)):=by
 obtain⟨v,J,I⟩:=o.w.ok.fz 0 _ o.s0;cases I;exact J
theorem EOk.mono(o:EOk G c A0 He x A σ H ρ ε)(s:cc H H'):EOk G c A0 He x A σ H' ρ ε:=by
 obtain⟨C,dx,fs,as,J,I,S⟩:=o.ob;exact⟨o.w.mono s,o.no,o.xA,o.x0,o.s0,C,dx,fs,as,s _ _ J,I,S.mp (λv d r=>r.mono (Ba s)) (λa O d t=>t.mono s) λ_ _ z=>z⟩
def lQ(s:cc H H')(fr:∀a∈B,a∈A∨H a=W1):cc (lu A H) (lu B H'):=λb u h=>by
 unfold lu at h;split at h
 .cases h
 .rename_i I;rw[Cg]
  .exact s b u h
  .intro z
   rcases fr b z with q | q
   .exact I q
   .rw[q] at h;cases h
def YY.plain(t:YY G A H a d)(s:cc H H')(p:cc (lu A H) (lu B H')):YY G B H' a d:=by
 cases d with
 |lst J=>obtain⟨I,q1,q2⟩:=t;exact⟨I,s _ _ q1,q2.mono p⟩
 |dk J=>obtain⟨I,q1,q2,q3⟩:=t;exact⟨I,s _ _ q1,q2,q3.mono p⟩
 |dt J=>obtain⟨I,q1,q2,q3⟩:=t;exact⟨I,s _ _ q1,q2,q3.mono p⟩
 |ob c O=>obtain⟨C,dx,I,q1,q2,q3⟩:=t;exact⟨C,dx,I,s _ _ q1,q2,q3.mono p⟩
 |_=>exact t.elim
theorem EOk.frame(o:EOk G c A0 He x A σ H ρ ε):OkS G A H σ H ρ:=⟨A,cc.refl H,λ_ h=>h,λa h=>.inl h,λa I=>(o.w.ok.live a I).ne,o.w.ok,λi d a h _=>QO h (DR o.no i d),λy d _ h=>QO h (DR o.no 0 d)⟩
theorem EOk.unframe{O:St}{I:Rho}(o:EOk G c A0 He x A σ H ρ ε)(w:OkS G A H O H' I)(S:Sr I=E3)(Z:I[0]?=O0 (.fz (.adr x))):EOkS G c A0 He x O H' I ε:=by
 obtain⟨B,w⟩:=w;have T:cc (lu A H) (lu B H'):=lQ w.same w.fr;obtain⟨C,dx,fs,as,h1,Y,U⟩:=o.ob;refine⟨B,⟨o.w.same.trans w.same,λa J=>w.sub a (o.w.sub a J),λa J=>?_,o.w.l0,w.ok,λi d a h _=>QO h (DR S i d),λy d _ h=>QO h (DR S 0 d)⟩,S,w.sub x o.xA,o.x0,Z,C,dx,fs,as,w.same _ _ h1,Y,U.mp (λv d r=>r.mono T) (λa J d t=>t.plain w.same T) λa _ J=>w.sub a J⟩
 rcases w.fr a J with q | q
 .exact o.w.fr a q
 .exact .inr (o.w.same.free q)
theorem EOk.wr{ε':Ef}(o:EOk G c A0 He x A σ H ρ ε)(I:p∈A)(T:p∉A0)(sx:Rc p H H')(O:Nt (H' p))(ob:∃C dx fs as,H' x=O0 (.ins C dx fs)/\G.cl c=O0 C/\OW G A0 A H' x fs ε' as):EOk G c A0 He x A σ H' ρ ε':=by
 have U:He p=W1:=(o.w.fr p I).resolve_left T;have J:=KN I sx;refine⟨⟨λb u h=>sx b u (BZ h U) (o.w.same b u h),o.w.sub,o.w.fr,o.w.l0,⟨o.w.ok.len,λb S=>?_,λj e h=>?_,λj e h=>QO h (DR o.no j e),λi j d e a h _ _ _=>QO h (DR o.no i d)⟩,λi d a h _=>QO h (DR o.no i d),λy d _ h=>QO h (DR o.no 0 d)⟩,o.no,o.xA,o.x0,o.s0,ob⟩
 .by_cases z:b=p
  .rw[z];exact O
  .exact (o.w.ok.live b S).mono λu e=>sx b u z e
 .obtain⟨v,q1,q2⟩:=o.w.ok.fz j e h;exact⟨v,q1,q2.mono J⟩
end
def tE(G:Gx)(c:Str)(A0:List Addr)(O:Hp)(x:Addr)(g:UQ):TS:=λD T H=>∃ρ J r,EOkS G c A0 O x T H ρ J/\g ρ J=O0 r/\∀I S,EOkS G c A0 O x I S r.1 r.2->D.nx I S
def PSE(X:Cx)(G:Gx)(c:Str)(st:Stmt)(g:UQ):Prop:=∀⦃A0⦄ He x,PS X st (tE G c A0 He x g)
def PSEs(X:Cx)(G:Gx)(c:Str)(st:List Stmt)(g:UQ):Prop:=∀⦃A0⦄ He x,PSs X st (tE G c A0 He x g)
def tTE(G:Gx)(c:Str)(A0:List Addr)(S:Hp)(x:Addr)(t:FTE):TT:=λO H Q=>∃A ρ I b,EOk G c A0 S x A O H ρ I/\t ρ I=O0 b/\∀J,cc H J->Q b J
def PTE(X:Cx)(G:Gx)(c:Str)(e:Expr)(t:FTE):Prop:=∀⦃A0⦄ He x,PT X e (tTE G c A0 He x t)
def PWE(X:Cx)(G:Gx)(c:Str)(e:Expr)(t:FTE):Prop:=∀⦃A0⦄ He x,PW X e (tTE G c A0 He x t)
section
variable {a b k it:Expr}{fa fb:FE}{p px:Pos}{rest:List Stmt}{g gs:UQ}{gp:FS}{ta tb:FTE}{tp:FT}
def YH(h1:PSE X G c st g)(h2:PSEs X G c rest gs):PSEs X G c (st::rest) (Gn g gs):=by
 rintro U T x π s Z H D I ⟨O,S,r,o,e,k⟩
 refine Le (@h1 U T x) (@h2 U T x) π s Z H D I ?_;unfold Gn at e;cases J:g O S with
 |none=>simp[J] at e
 |some q=>
  simp only[J,cw] at e;exact⟨O,S,q,o,J,λY H' o'=>⟨q.1,q.2,r,o',e,k⟩⟩
def bh(h1:PSE X G c st g):PSEs X G c [st] g:=λS I x=>R1 (@h1 S I x)
def Tz(h:VW X G st gp)(Z:∀ρ J,gp ρ=O0 (.nx J)->J[0]?=ρ[0]?):PSE X G c st (Tl gp):=by
 rintro A0 He x U s T H D I ⟨ρ,ε,r,⟨A,o⟩,e,k⟩
 unfold Tl at e;split at e
 .rename_i J S;split at e
  .rename_i Y;cases e;refine @h A H U s T H D I ⟨ρ,_,o.frame,S,λO H' w=>k O H' (o.unframe w Y (by rw[Z ρ J S];exact o.s0))⟩
  .cases e
 .cases e
theorem YJ(h:Zl X G e tp):PTE X G c e (Tv tp):=λY U x=>λS s J H Q I ⟨A,O,T,b,o,e,k⟩=>@h A S s J H Q I ⟨O,b,o.w.ok,e,k⟩
def t8(h:PTE X G c a ta):PWE X G c (.BoolOp .Or [a] pos) ta:=λS I x=>iM (@h S I x)
def zE{rest:List Expr}(ha:PTE X G c a ta)(hb:PWE X G c (.BoolOp .Or (b::rest) pos) tb):PWE X G c (.BoolOp .Or (a::b::rest) pos) (orTE ta tb):=λY T x=>jU (v5 (@ha Y T x) (@hb Y T x))<|by
 rintro σ H Q ⟨A,J,O,d,o,e,k⟩
 unfold orTE at e;split at e
 .rename_i S;cases e;exact⟨A,J,O,_,o,S,λU I=>iteT (k U I)⟩
 .rename_i S;exact⟨A,J,O,_,o,S,λU I=>iteF ⟨A,J,O,d,o.mono I,e,λH2 Z=>k H2 (I.trans Z)⟩⟩
 .cases e
theorem PWE.pt(h:PWE X G c a ta):PTE X G c a ta:=λS I x=>(@h S I x).pt
theorem zF{x:Str}{ap:Pos}(hu:X.A.units+1<bP)(J:∀c C,G.cl c=O0 C->Sn X.K C/\BL X.K C f)(hv:PE X (.Name x px) (TR 0))(ha:PF X G a fa)(hb:hZ (.Name x px) f X.env (eval (.Name x px) X.env)=eval (.Name x px) X.env:=by rfl)(hm:gu .In (.Attribute (.Name x px) f ap)=ZA:=by rfl):PTE X G c (.Compare a [.In] [.Attribute (.Name x px) f ap] pos) (inTE f fa):=by
 rintro A0 He y π s σ H Q I ⟨A,U,ε,d,o,e,k⟩
 refine aj (Zo hu) (@ha A) (ZZ hv hb) hm π s σ H Q I ?_;unfold inTE at e;cases T:fa U with
 |none=>simp[T] at e
 |some Z=>
  simp only[T,cw] at e;split at e
  .rename_i r0 e2;cases S:US Z with
   |none=>simp[S] at e
   |some q=>
    simp only[S,iq] at e;cases e;refine⟨U,Z,o.w.ok,T,λv H1 Y r1=>?_⟩;obtain⟨C,dx,fs,as,h1,h2,h3⟩:=(o.mono Y).ob;obtain⟨p,q1,q2,q3,q4,q5,O,t1,t2,t3⟩:=h3.get e2;refine⟨_,o.at0,y,C,dx,fs,_,rfl,h1,(J _ _ h2).1,(J _ _ h2).2,q1,p,O,q,rfl,.of t1,M_ r1 S,?_⟩;rw[(M9 (k:=q) t2 t3).2];exact⟨_,rfl,k H1 Y⟩
  .cases e
def lR(ht:PTE X G c e ta)(h1:UP X G s1 badF):PSE X G c (.If e s1 [] pos) (ifE ta):=by
 rintro S O x U s J H D I ⟨T,Y,r,⟨A,o⟩,e,k⟩
 refine iT (@ht S O x) (@h1 S O) M4 U s J H D I ?_;unfold ifE at e;split at e
 .rename_i Z;cases e;exact⟨A,T,Y,_,o,Z,λH1 s1=>iteF (k J H1 ⟨A,o.mono s1⟩)⟩
 .cases e
def Ls{x:Str}(O:∀c C,G.cl c=O0 C->Sn X.K C/\BL X.K C f)(hv:PE X (.Name x px) (TR 0))(ha:PF X G a fa)(U:gI a (O0 (.Attribute (.Name x px) f pos')) pos.line X.env=pure ZA:=by rfl):
  PSE X G c (.Assign [.Attribute (.Name x px) f pos'] a pos) (JG f fa):=by
 rintro A0 He y π s σ H D I ⟨Z,ε,r,⟨A,o⟩,e,k⟩
 refine i_ hv (@ha A) U π s σ H D I ?_;unfold JG at e;cases Y:fa Z with
 |none=>simp[Y] at e
 |some d=>
  simp only[Y,cw] at e;split at e
  .rename_i hz;cases e;refine⟨Z,d,o.w.ok,Y,λu H1 s1 r1=>?_⟩;have J:=o.mono s1;obtain⟨C,dx,fs,as,h1,T,S⟩:=J.ob;have hn:=S.none (x8.mp hz.1);refine⟨_,o.at0,y,C,dx,fs,rfl,h1,(O _ _ T).1,(O _ _ T).2,by rw[S.len];exact hz.2,?_⟩;rw[Qw hn];have sx:Rc y H1 (mf H1 y (.ins C dx (fs++[(f,u)]))):=λb w hb hw=>by rw[Aj hb];exact hw
   have sm:=KN J.xA sx;refine k _ _ ⟨A,J.wr J.xA J.x0 sx (by rw[Ah];exact Nt.ins) ⟨C,dx,_,as,Ah,T,?_⟩⟩;exact (S.mp (λv d r=>r.mono sm) (λp hp d t=>t.other (S.ne p hp).2.2 J.xA sx) λ_ _ z=>z).snocP (r1.mono sm)
  .cases e
theorem YK{x:Str}(Y:∀c C,G.cl c=O0 C->Sn X.K C/\BL X.K C f)(hv:PE X (.Name x px) (TR 0))(ha:PN X G a fa)(X0:gI a (O0 (.Attribute (.Name x px) f pos')) pos.line X.env=pure ZA:=by rfl):
    PSE X G c (.Assign [.Attribute (.Name x px) f pos'] a pos) (Ra f fa):=by
  rintro A0 He y π s σ H D I ⟨ρ,ε,r,⟨A,o⟩,e,k⟩
  refine i_ hv (@ha A) X0 π s σ H D I ?_;unfold Ra at e;cases e1:fa ρ with
  |none=>simp[e1] at e
  |some d=>
    simp only[e1,cw] at e;split at e
    . rename_i hz
      cases e;refine⟨ρ,d,o.w.ok,e1,λq Z J hq t=>?_⟩;obtain⟨C,dx,fs,as,h1,h2,h3⟩:=o.ob;have O:q∉A:=λz=>(o.w.ok.live q z).ne hq;have pl:cc (lu A H) (lu (q::A) Z):=KH J hq;have hn:=h3.none (x8.mp hz.1);have S0:q∉A0:=λz=>O (o.w.sub q z);have U:q≠y:=λz=>O (z▸o.xA);have r0:q∉as:=λz=>O (h3.ne q z).1;have T:EOk G c A0 He y (q::A) σ Z ρ ε:=⟨⟨o.w.same.trans J,λa ha=>da _ (o.w.sub a ha),λa ha=>by
          rcases bX.mp ha with z | z
          . rw[z];exact .inr (o.w.same.free hq)
          . exact o.w.fr a z,o.w.l0,o.w.ok.fill J hq t.live,λi d a h _=>QO h (DR o.no i d),λy d _ h=>QO h (DR o.no 0 d)⟩,o.no,da _ o.xA,o.x0,o.s0,C,dx,fs,as,J _ _ h1,h2,
          h3.mp (λv d r=>r.mono pl) (λp S d t=>t.plain J pl) λp _ S=>da _ S⟩
      have g1:=J _ _ h1;have g2:=h2;have g3:OW G A0 (q::A) Z y fs ε as:=h3.mp (λv d r=>r.mono pl) (λp S d t=>t.plain J pl) λp _ S=>da _ S;have P1:=g3.none (x8.mp hz.1);refine⟨_,o.at0,y,C,dx,fs,rfl,g1,(Y _ _ g2).1,(Y _ _ g2).2,by rw[g3.len];exact hz.2,?_⟩;rw[Qw P1];have sx:Rc y Z (mf Z y (.ins C dx (fs++[(f,.ref q)]))):=λb w hb hw=>by rw[Aj hb];exact hw
      have sm:=KN T.xA sx;refine k _ _ ⟨q::A,T.wr T.xA T.x0 sx (by rw[Ah];exact Nt.ins) ⟨C,dx,_,as++[q],Ah,g2,?_⟩⟩;exact (g3.mp (λv d r=>r.mono sm) (λp S d t=>t.other (g3.ne p S).2.2 T.xA sx) λ_ _ z=>z).snocO eD S0 U r0 (t.other U T.xA sx)
    . cases e
def YL{x:Str}{ap:Pos}(hu:X.A.units+1<bP)(U:∀c C,G.cl c=O0 C->Sn X.K C/\BL X.K C f)(hv:PE X (.Name x px) (TR 0))(ha:PF X G a fa)(hb:PF X G b fb)(O:hZ (.Name x px) f X.env (eval (.Name x px) X.env)=eval (.Name x px) X.env:=by rfl)(hs:gI b (O0 (.Subscript (.Attribute (.Name x px) f ap) a spos)) pos.line X.env=pure ZA:=by rfl):PSE X G c (.Assign [.Subscript (.Attribute (.Name x px) f ap) a spos] b pos) (Rb f fa fb):=by
 rintro A0 He y π s σ H D I ⟨Y,ε,r,⟨A,o⟩,e,k⟩
 refine V_ hu (ZZ hv O) (@ha A) (@hb A) hs π s σ H D I ?_;unfold Rb at e;cases Z:fb Y with
 |none=>simp[Z] at e
 |some v=>
  cases e2:fa Y with
  |none=>simp[Z,e2] at e
  |some kd=>
   simp only[Z,e2,cw] at e;split at e
   .rename_i d e3;cases J:Dp d kd v with
    |none=>simp[J] at e
    |some d'=>
     simp only[J,iq] at e;cases e;unfold Dp at J;split at J
     .rename_i S0;cases e5:US kd with
      |none=>simp[e5] at J
      |some q=>
       simp only[e5,cw] at J;split at J
       .rename_i hz;cases J;refine⟨Y,v,o.w.ok,Z,λu H1 s1 r1=>?_⟩;have o1:=o.mono s1;obtain⟨C,dx,fs,as,h1,h2,h3⟩:=o1.ob;obtain⟨p,q1,q2,q3,q4,q5,S,t1,t2,t3⟩:=h3.get e3;refine⟨_,o.at0,y,C,dx,fs,_,rfl,h1,(U _ _ h2).1,(U _ _ h2).2,q1,Y,kd,o1.w.ok,e2,λyv H2 T r2=>?_⟩;have ek:=M_ r2 e5;subst ek;have o2:=o1.mono T;obtain⟨C',P1,X0,r0,g1,g2,g3⟩:=o2.ob;rw[T _ _ h1] at g1;cases g1;have hl:S.length<sizeLine:=by
         have:=UO eS t2;rw[aI,aI] at this;omega
        refine⟨p,_,rfl,DPut.k (T _ _ t1) hl,?_⟩;have pk:=WT (k:=q) (r1.mono (Ba T)) t2 (t3.mono (Ba T));have sx:Rc p H2 (mf H2 p (.dK (SW S q u))):=λb w hb hw=>by rw[Aj hb];exact hw
        refine k _ _ ⟨A,o2.wr q3 q4 sx (by rw[Ah];exact Nt.dK) ⟨C,dx,fs,r0,by rw[Aj (cf q5)];exact T _ _ h1,g2,?_⟩⟩;refine g3.wr e3 q1 sx q3 ⟨_,Ah,pk.1,?_⟩;rw[GZ q3];exact pk.2
       .cases J
     .cases J
   .cases e
theorem EOk.frameW{x:Addr}(o:EOk G c A0 He x A σ H ρ ε):Sb G A H A σ H ρ:=⟨cc.refl H,λ_ h=>h,λa h=>.inl h,λa I=>(o.w.ok.live a I).ne,o.w.ok,λi d a h _=>QO h (DR o.no i d),λy d _ h=>QO h (DR o.no 0 d)⟩
theorem bj{gb:UQ}(hp:vE .(3) X.A X.env X.xe)(hc:X.calm=E3)(hi:WU X G ZA tg it src)(hg:PGD X G tg fg)(hk:∀d ρ S,fg d ρ=O0 S->S[0]?=ρ[0]?)(hb:PSEs X G c body gb)(hs:∀x,pS it X.env x=pure x:=by intro _;rfl):PSE X G c (.For tg it body [] pos) (forE src fg gb):=by
 rintro U He x π s σ H D I ⟨ρ,ε,r,⟨A,o⟩,e,k⟩
 cases e1:src ρ with
 |none=>simp[forE,e1] at e
 |some T=>
  have e':Jo fg gb T ρ ε=O0 r:=by simpa [forE,e1] using e
  have Q2:PSs X body (λD σ H=>∃U He x,tE G c U He x gb D σ H):=(by rintro π s σ H D I ⟨U,He,x,q⟩;exact @hb U He x π s σ H D I q);have Y1:PG X tg (λv σ H Q=>∃U He,tGD G U He fg v σ H Q):=(by rintro π s σ H v u Q I r ⟨U,He,q⟩;exact @hg U He π s σ H v u Q I r q);refine ZQ hp hc (@hi A) Y1 Q2 hs π s σ H D I ⟨ρ,T,o.w.ok,e1,λJ H1 s1 sr=>?_⟩;have o1:=o.mono s1;obtain⟨S1,w2⟩:=o1.w.here;generalize S2:lu (A.filter λa=>decide (a∉U)) H1=Hf at S1 w2;have k2:∀O H',EOkS G c U Hf x O H' r.1 r.2->D.nx O H':=(by rintro O H' ⟨B,q⟩;exact k O H' ⟨B,q.w.base S1 o.w.l0,q.no,q.xA,q.x0,q.s0,q.ob⟩);refine⟨λi m O H'=>m=T.length-i/\i<=T.length/\∃S Y,EOkS G c U Hf x O H' S Y/\Jo fg gb (T.drop i) S Y=O0 r,⟨T.length,by simp,gL _,ρ,ε,⟨A,w2,o1.no,o1.xA,o1.x0,o1.s0,o1.ob⟩,by simpa using e'⟩,?_⟩;rintro i m U1 H3 ⟨rfl,U2,X0,P1,⟨B,o3⟩,Z⟩;have pl:cc (lu A H1) (lu B H3):=by rw[<-S2] at o3;exact Sb.plain o.w.sub o3.w
  by_cases r0:i<T.length
  .right;have hd:T[i]?=O0 T[i]:=by simp[r0]
   have ed:T.drop i=T[i]::T.drop (i+1):=x5 r0;rw[ed] at Z;unfold Jo at Z;refine⟨sr.go i H3 (pl.trans Ay) r0,λO H'=>∃S Y,EOkS G c U Hf x O H' S Y/\Jo fg gb (T.drop (i+1)) S Y=O0 r,λO H' q=>⟨T.length-(i+1),by omega,rfl,r0,q⟩,λy H' yy=>?_⟩;obtain⟨sy,rx⟩:=sr.yld i H3 y H' _ (pl.trans Ay) hd yy;have o4:=o3.mono sy;cases e4:fg T[i] X0 with
   |none=>simp[e4] at Z
   |some S0=>
    simp only[e4,cw] at Z;split at Z
    .rename_i no;refine⟨B,H',B,X0,T[i],S0,o4.frameW,rx B o3.w.ok.live pl,e4,λT2 H5 X1=>?_⟩;cases e5:gb S0 P1 with
     |none=>simp[e5] at Z
     |some q=>
      simp only[e5,cw] at Z;exact⟨U,Hf,x,S0,P1,q,o4.unframe X1 no (by rw[hk _ _ _ e4];exact o4.s0),e5,λO H' o'=>⟨q.1,q.2,o',Z⟩⟩
    .cases Z
  .left;have ei:i=T.length:=by omega
   subst ei;rw[Bi] at Z;cases Z;exact⟨sr.stop _ H3 (pl.trans Ay) (aS _),k2 U1 H3 ⟨B,o3⟩⟩
end
def T3:b∈A.filter (λb=>decide (b≠p))↔b∈A/\b≠p:=by simp[nX]
def t_(I:Inv X π σ H s)(hA:a∈A)(t:YY G A H a d):
  ∃H',Inv X π σ H' s/\(∀b,b≠a->H' b=H b)/\cc (lu A H) (lu (A.filter λb=>decide (b≠a)) H')/\uj G (lu (A.filter λb=>decide (b≠a)) H') (.ref a) d:=by
 have S:∀H':Hp,(∀b,b≠a->H' b=H b)->cc (lu A H) (lu (A.filter λb=>decide (b≠a)) H'):=λH' hh b u h=>by
  unfold lu at h;split at h
  .cases h
  .rename_i O;rw[Cg (λz=>O (T3.mp z).1),hh b (λz=>O (z▸hA))];exact h
 have at0:∀H':Hp,lu (A.filter λb=>decide (b≠a)) H' a=H' a:=λH'=>Cg (λz=>(T3.mp z).2 rfl);cases d with
 |lst ds=>
  obtain⟨Y,U,T⟩:=t;have J:=S H λ_ _=>rfl;exact⟨H,I,λ_ _=>rfl,J,.lst (.of (by rw[at0];exact U)) (T.mono J).1 (T.mono J).2⟩
 |dk ds=>
  obtain⟨Y,U,T,Z⟩:=t;obtain⟨o,I'⟩:=Inv.frzK I U;have J:=S _ λb O=>Aj (o:=.frz o (.dK Y)) O;exact⟨_,I',λb O=>Aj O,J,.dk (by rw[at0];exact Ah) T (Z.mono J).2⟩
 |dt ds=>
  obtain⟨Y,U,T,Z⟩:=t;obtain⟨o,I'⟩:=Inv.frzT I U;have J:=S _ λb O=>Aj (o:=.frz o (.dT Y)) O;exact⟨_,I',λb O=>Aj O,J,.dt (by rw[at0];exact Ah) T (Z.mono J).2⟩
 |ob c gs=>
  obtain⟨C,dx,Y,U,T,Z⟩:=t;have J:=S H λ_ _=>rfl;exact⟨H,I,λ_ _=>rfl,J,.ob T.1 (by rw[at0];exact U) T.2 (Z.mono J).2⟩
 |_=>exact t.elim
def OW.frz{x:Addr}{fs:List (Str×V)}{as:List Addr}(h:OW G A0 A H x fs ε as)(I:Inv X π σ H s):
  ∃H' S,Inv X π σ H' s/\(∀b,b∉as->H' b=H b)/\(∀b,b∈S↔b∈A/\b∉as)/\cc (lu A H) (lu S H')/\fy G (lu S H') (fs.map (·.2)) (ε.map λp=>p.2.2):=by
 induction h with
 |nil=>exact⟨H,A,I,λ_ _=>rfl,λb=>by simp,cc.refl _,.nil⟩
 |pl rv _ ih=>
  obtain⟨H',S,i1,U,T,J,i5⟩:=ih;exact⟨H',S,i1,U,T,J,.cons (rv.mono J) i5⟩
 | @ow f a d fs ε as h1 h2 h3 h4 t _ ih=>
  obtain⟨H1,A1,i1,U,T,J,i5⟩:=ih;have ha:a∈A1:=(T a).mpr ⟨h1,h4⟩;have Y:H1 a=H a:=U a h4;have t1:YY G A1 H1 a d:=by
   cases d with
   |lst ds=>obtain⟨O,q1,q2⟩:=t;exact⟨O,by rw[Y];exact q1,q2.mono J⟩
   |dk ds=>obtain⟨O,q1,q2,q3⟩:=t;exact⟨O,by rw[Y];exact q1,q2,q3.mono J⟩
   |dt ds=>obtain⟨O,q1,q2,q3⟩:=t;exact⟨O,by rw[Y];exact q1,q2,q3.mono J⟩
   |ob c gs=>obtain⟨C,dx,O,q1,q2,q3⟩:=t;exact⟨C,dx,O,by rw[Y];exact q1,q2,q3.mono J⟩
   |_=>exact t.elim
  obtain⟨H2,j1,j2,j3,j4⟩:=t_ i1 ha t1;refine⟨H2,A1.filter λb=>decide (b≠a),j1,λb hb=>?_,λb=>?_,J.trans j3,.cons j4 (i5.mono j3)⟩
  .rw[j2 b (λz=>hb (by simp[z])),U b (λz=>hb (da _ z))]
  .rw[T3,T b];simp only[bX,not_or];exact⟨(by rintro ⟨⟨p1,p2⟩,Z⟩;exact ⟨p1,Z,p2⟩),(by rintro ⟨p1,Z,p2⟩;exact ⟨⟨p1,p2⟩,Z⟩)⟩
theorem EOk.whole{x:Addr}(o:EOk G c A0 He x A σ H ρ ε)(I:Inv X π σ H s):
  ∃H',Inv X π σ H' s/\cc He H'/\uj G (lu A0 H') (.ref x) (finE c ε):=by
 obtain⟨C,dx,fs,as,h1,h2,S⟩:=o.ob;obtain⟨H',A',i1,O,i3,i4,Z⟩:=S.frz I;have Y:x∉as:=λz=>(S.ne x z).2.2 rfl;refine⟨H',i1,λb u J=>?_,?_⟩
 .rw[O b (λz=>?_)]
  .exact o.w.same b u J
  .obtain⟨q1,q2,_⟩:=S.ne b z;rw[(o.w.fr b q1).resolve_left q2] at J;cases J
 .have U:∀a∈A0,a∈A':=λa T=>(i3 a).mpr ⟨o.w.sub a T,λz=>(S.ne a z).2.1 T⟩;have en:fs.map (·.1)=(ε.map λp=>(p.1,p.2.2)).map (·.1):=by
   rw[S.names,cp];rfl
  have es:(ε.map λp=>(p.1,p.2.2)).map (·.2)=ε.map λp=>p.2.2:=by rw[cp];rfl
  refine .ob h2 (by rw[Cg o.x0,O x Y];exact h1) en ?_;rw[es];exact (Z.mono (Ji U)).2
def tEI(G:Gx)(c:Str)(A0:List Addr)(S:Hp)(x:Addr)(g:UQ):TS:=λD T H=>∃ρ O r,EOkS G c A0 S x T H ρ O/\g ρ O=O0 r/\∀I J,cc S J->uj G (lu A0 J) (.ref x) (finE c r.2)->D.nx I J
def PSI(X:Cx)(G:Gx)(c:Str)(st:List Stmt)(g:UQ):Prop:=∀⦃A0⦄ He x,PSs X st (tEI G c A0 He x g)
def bu:PSI X G c [] nilE:=by
 rintro A0 Z x S s J H D I ⟨U,Y,r,⟨A,o⟩,e,k⟩
 cases e;obtain⟨O,T,q1,q2⟩:=o.whole I;exact M4 S s J O D T (k J O q1 q2)
def Ed{rest:List Stmt}{g T:UQ}(h1:PSE X G c st g)(h2:PSI X G c rest T):PSI X G c (st::rest) (Gn g T):=by
 rintro Y U x π s σ H D I ⟨O,S,r,o,e,k⟩
 refine Le (@h1 Y U x) (@h2 Y U x) π s σ H D I ?_;unfold Gn at e;cases J:g O S with
 |none=>simp[J] at e
 |some q=>
  simp only[J,cw] at e;exact⟨O,S,q,o,J,λZ H' o'=>⟨q.1,q.2,r,o',e,k⟩⟩
def spI(G:Gx)(c:Str)(g:Addr->List D->Option Ef):Sp:=λvs H Q _=>∃A x I ds O C dx,vs=.ref x::I/\(∀a∈A,Nt (H a))/\x∉A/\H x=O0 (.ins C dx [])/\G.cl c=O0 C/\fy G (lu (x::A) H) I ds/\g x ds=O0 O ∧
 ∀J,Rc x H J->uj G (lu A J) (.ref x) (finE c O)->Q .non J
def Oi(n:Nat)(ds:List D):Sr (Ek n ds)=E3:=by
 unfold Sr Ek;rw[fI];intro z S
 rcases eR.mp S with q | q
 .obtain⟨d,_,rfl⟩:=bv.mp q;rfl
 .rw[(List.mem_replicate.mp q).2]
theorem fn_I{base:Heap}{x:Str}{f:Addr}{k:Nat}{b:UQ}(F:Fun G.K x qual st f fd)(S:fc N ps (Ac st))(hl:ps.length<=N.length)(Z:∀(cdv:ac) (A:aT) (outer:List Env) (s:av) (H:Hp) (E:XK),Room k (A.deeper (io qual (Ac st) s.heap.objs.size f cdv))->PSI (TZ CX0 P w G.K mg base N qual (Ac st) f cdv A outer s H E).nox G c (Bs st) b):
  mu P w G.K mg base CX0 (k+1) f fd ps (spI G c (runI N.length ps.length b)):=by
 refine F.ok S (λvs H Q E h=>?_) (λcdv A outer s H vs Q E hr h=>?_)
 .obtain⟨A,x,J,O,ε,C,dx,rfl,U,Y,hH,hc,r,e,_⟩:=h;unfold runI at e;split at e
  .rename_i hz;rw[cq,r.1];exact hz
  .cases e
 .obtain⟨A1,x,J,O,ε,C,dx,rfl,U,Y,hH,hc,r,e,k⟩:=h;unfold runI at e;split at e
  .rename_i hz;have T:∀a∈x::A1,Nt (H a):=λa I=>by
    rcases bX.mp I with z | z
    .rw[z,hH];exact Nt.ins
    .exact U a z
   have r':fy G (lu (x::A1) H) (.ref x::J) (.adr x::O):=.cons (.adr x) r;obtain⟨B,w⟩:=Pa (N:=N) T r' (by rw[cq,r.1];omega);cases e1:b (Tw N.length x O) [] with
   |none=>simp[e1] at e
   |some q=>
    simp only[e1,iq] at e;cases e;have hzz:=Z cdv A outer s H E hr;refine⟨_,@hzz A1 (lu [x] H) x,Tw N.length x O,[],q,?_,e1,λr0 H' s' rv=>k H' (λb o Z ho=>s' b o (by rw[Cg (by simpa using Z)];exact ho)) rv⟩;refine⟨B,⟨Ay,λa I=>w.sub a (da _ I),λa I=>?_,λa I=>?_,w.ok,λi d a h _=>QO h (DR (Oi _ _) i d),λy d _ h=>QO h (DR (Oi _ _) 0 d)⟩,Oi _ _,w.sub x eD,Y,rfl,C,dx,[],[],hH,hc,.nil⟩
    .rcases w.fr a I with z | z
     .rcases bX.mp z with z | z
      .right;unfold lu;rw[ZN (by simp[z])]
      .exact .inl z
     .right;unfold lu;split
      .rfl
      .exact z
    .rw[Cg (λz=>Y (by simp at z;rw[<-z];exact I))];exact (U a I).ne
  .cases e
section
variable {a b:Expr}{p:Pos}{es:List Expr}{fs:FA}
def T4{k:Nat}{f:Addr}{g:Addr->List D->Option Ef}{x:Str}(S1:G.cl cn=O0 C)(M:Mk X.K C f)(F:mu X.prog X.w X.K X.mg X.base CX0 k f fd ps (spI G cn g))(hr:Room (k+1) X.A)(hg:Gl X x)(hm:X.mg x=O0 (.ref C))(I:OX X.K fd ps [])(ha:PFA X G (a::es) fs)(P1:(x==("__debug__":Str))=ZA:=by decide)(he:aE (a::es) X.env=(ZA,eval a X.env)::aE es X.env:=by rfl)(r0:(dE pos (aE es X.env)).any (·.1)=ZA:=by rfl):
  PF X G (.Call (.Name x p) (a::es) [] pos) (mkI cn g fs):=λA=>Bt (rH M F hr hg hm I .nil Xo (@ha A) P1 he r0)<|by
 rintro σ H Q ⟨ρ,d,o,e,k⟩
 unfold mkI at e;cases T:fs ρ with
 |none=>simp[T] at e
 |some ds=>
  cases e3:g 0 ds with
  |none=>simp[T,e3] at e
  |some ε=>
   simp only[T,e3,cw] at e;split at e
   .rename_i O;cases e;refine⟨ρ,ds,o,T,λvs H1 Y rv=>λy dx S X0 S0=>?_⟩;have U:cc H1 (mf (mf H1 dx (.own y)) y (.ins C dx [])):=(Ao X0 _).trans (Ao (by rw[Aj (cf S0)];exact S) _);have J:=(o.mono Y).live;refine⟨A,y,vs,ds,ε,C,dx,by rw[gg],λb I=>?_,λz=>(J y z).ne S,Ah,S1,rv.mono (KH U S),O y,λH' sx Z=>?_⟩
    .exact (J b I).mono λu e=>U _ _ e
    .refine⟨rfl,k _ H' (λb u I=>sx b u (λz=>?_) (U _ _ (Y _ _ I))) Z⟩;have:=Y _ _ I;rw[z,S] at this;cases this
   .cases e
end
def Wh{f:FE}(ρ I:Rho)(h:I_ f ρ=O0 (.nx I)):I[0]?=ρ[0]?:=by
 unfold I_ at h;cases e:f ρ with
 |none=>simp[e] at h
 |some d=>simp[e] at h;rw[h]
def K0s(g:FGs):Prop:=∀ds ρ I,g ds ρ=O0 I->I[0]?=ρ[0]?
def lU:K0s Pw:=λO J I h=>by
 unfold Pw at h;split at h
 .cases h;rfl
 .cases h
def R_{g:FGs}(J:i≠0)(U:K0s g):K0s (Bb i g):=λS O I h=>by
 unfold Bb at h;split at h
 .rw[U _ _ _ h,gi J]
 .cases h
def lV{g:FGs}(U:K0s g)(d:D)(ρ I:Rho)(h:Pv n g d ρ=O0 I):I[0]?=ρ[0]?:=by
 unfold Pv at h;split at h
 .split at h
  .exact U _ _ _ h
  .cases h
 .split at h
  .exact U _ _ _ h
  .cases h
 .cases h
end PV
namespace PV
open PySem PySem.W PySem.Calls PyProof.Rows L2
def Zx:∀(ns:List Int) (i:Int),i∈ns->i8 i<=F6 (ns.map wl):=by
 intro ns
 induction ns with
 |nil=>intro i h;cases h
 |cons n r I=>
  intro i h;rw[bn];show i8 i<=F7 (.int n)+1+F6 (r.map wl)
  rcases bX.mp h with q | q
  .subst q;have:F7 (.int i)=i8 i:=by unfold F7 i8;rfl
   omega
  .have:=I i q;omega
def uA{l:OpenLaw}{q:cE}{XP:(Str->Option ac)->Heap->Prop}{YP:cb->Heap->Prop}{d:DefRec}(hn:l.most=O0 n)(X0:d.params.defaults=[])(call:∀(w:cb) (J I:av) (mg mb:Str->Option ac) (fa:Addr) (o:Obj) (pm cd doc:ac) (a:Addr) (vs:List ac) (ns:List Int),
   Ground q loose [] XP w J mg mb I.heap->YP w I.heap ->
   I.heap.get? fa=O0 o->o.data=.func (docDef d.name d.params d.body d.scope pm cd doc)->I.heap.CodeRec cd d.name->mg d.name=O0 (.ref fa) ->
   I.heap.get? a=O0 { cls:=.type "list",data:=.seq vs.toArray }->sB vs ns->ns.length<=n->(∀i∈ns,i8 i<=1048576)->I.gens=#[] ->
   fA (ai l.prog w) sM (.call (.ref fa) ⟨[.ref a],[]⟩) (λr s'=>r=.ok (.ret (.bool E3))/\OldK I.heap s'.heap/\s'.os=I.os/\nc s'.gens) I):
  WalkO q loose XP YP l.row.toRowW d [] (λf vs=>F8 f vs):=by
 intro w J I mg mb G Y fa o pm cd doc dV kV ho hd P1 hD S0 hg U1 S1 as S Z X1 r0 Y1;obtain rfl:dV=.none:=Dflts.none hD X0;obtain rfl:kV=.none:=Dflts.noKw hD;obtain⟨a,vs,ns,rfl,rfl,T,O,U⟩:=Att.fL hn S r0;have hb:∀i∈ns,i8 i<=1048576:=λi hi=>by
  have h1:=Zx ns i hi;have h2:F6 (ns.map wl)<=1048576:=by
   have h3:LO (.list (ns.map wl))=E3:=fI.mp Z _ (eD ..);unfold LO at h3;rw[eW] at h3;exact VO h3.2
  omega
 refine enter_call (kQ (call w J I mg mb fa o pm cd doc a vs ns G Y ho (fd_plain hd) P1 S0 T O U hb hg) λr s' hq=>?_);obtain⟨rfl,h2,h3,h4⟩:=hq;exact⟨.inl ⟨.bool E3,.bool E3,[],rfl,λ_=>rfl,.bool E3,Att.fO l _,λ_=>⟨BG,λ_ hm=>(nomatch hm)⟩⟩,h2,h3,h4⟩
theorem lW{l:PySem.W.OpenLaw}{k:Nat}{q:cE}{XP:(Str->Option ac)->Heap->Prop}{YP:cb->Heap->Prop}{d:DefRec}{K:Params->ay}{CX:cb->CXT}{sp:cb->Sp}{x:Str}(hn:l.most=O0 n)(S0:n<=sizeLine)(P1:d.params.defaults=[])(hr:Room k sM)(hY:∀(w:cb) (h:Heap),YP w h->(K w.params).In h)(F:∀(w:cb) (mg:Str->Option ac) (Z:Addr) (h:Heap),(K w.params).In h->h.Ns eB mg->mg d.name=O0 (.ref Z) ->
   ∃fd:ma,(∀(s:av) (u:ac),ya s fd ⟨[u],[]⟩ [(x,u)]) ∧
    ∀base:Heap,(K w.params).In base->base.Ns eB mg->mu l.prog w (K w.params) mg base (CX w) k Z fd [x] (sp w))(r0:∀(w:cb) (H:Hp) (a:Addr) (ns:List Int),ns.length<=n->(∀i∈ns,i8 i<=1048576)->Only H->Qr (K w.params) H a (ns.map V.int)->sp w [.ref a] H (λv _=>v=.bl E3) λ_ _ _=>False)(S1:∀(w:cb) (H:Hp) (s:av) (e:ac) (s':av),CX w [] H s (λ_ _ _=>False) e s'->False):
  PySem.W.WalkO q loose XP YP l.row.toRowW d [] (λf vs=>F8 f vs):=by
 refine uA hn P1 λw U1 S mg mb Z o pm cd Y1 a vs ns G Y ho hd X1 X0 U O I J hg=>?_;have KX:=hY w _ Y;obtain⟨fd,hb,hF⟩:=F w mg Z _ KX G.T.g X0;exact jP KX G.T.g G.T.b G.T.builtins G.T.nolimit hg U O (dA I S0) hr hF hb (λH hO hS=>r0 w H a ns I J hO hS) λH e s'=>S1 w H S e s'
end PV
namespace PV
open PySem PySem.Spec L2
open PyProof.Rows hiding St
structure FunD (K:ay) (x qual:Str) (st:Stmt) (f:Addr) (fd:ma):Prop where
 ex:∃(oc:ac) (od:Option Addr) (dV kV doc pm:ac) (an:Option Addr) (cdv ct:ac) (osl:Array (Option ac)),
  fd=i7 x qual (Dz st) (Bs st) (Ac st) dV kV doc pm an cdv ct/\K.lookup f=O0 ⟨oc,od,.func fd,osl⟩/\og K cdv qual=E3
 kp:fF K (.ref f)=E3
def uB{K:ay}{x:Str}{f:Addr}{I kV:ac}(l:K.lookup f=O0 ⟨oc,od,.func (i7 x qual (Dz st) (Bs st) (Ac st) I kV doc pm an cdv ct),osl⟩)(c:og K cdv qual=E3)(k:fF K (.ref f)=E3):FunD K x qual st f (i7 x qual (Dz st) (Bs st) (Ac st) I kV doc pm an cdv ct):=⟨⟨oc,od,I,kV,doc,pm,an,cdv,ct,osl,rfl,l,c⟩,k⟩
def ABV{base:Heap}{x:Str}{f:Addr}{k:Nat}{b:FS}(F:FunD G.K x qual st f fd)(S:fc N ps (Ac st))(hl:ps.length<=N.length)(hb:∀(cdv:ac) (A:aT) (outer:List Env) (s:av) (H:Hp) (E:XK),Room k (A.deeper (io qual (Ac st) s.heap.objs.size f cdv))->UP (TZ CX0 P w G.K mg base N qual (Ac st) f cdv A outer s H E).nox G (Bs st) b):
  mu P w G.K mg base CX0 (k+1) f fd ps (Po G (oo N.length ps.length b)):=by
 obtain⟨oc,od,dV,kV,X0,pm,an,cdv,ct,S0,rfl,lk,O⟩:=F.ex;refine jD lk O S (λvs H Q E h=>?_) (λA outer s H vs Q E hr h=>?_)
 .obtain⟨A,T,d,Z,r,e,_⟩:=h;unfold oo at e;split at e
  .rename_i J;rw[r.1];exact J
  .cases e
 .obtain⟨A0,T,d,Z,r,e,k⟩:=h;unfold oo at e;split at e
  .rename_i J;have hzz:=hb cdv A outer s H E hr;refine⟨_,(@hzz A0 H).nox,Ek N.length T,?_⟩;cases I:b (Ek N.length T) with
   |none=>simp[I] at e
   |some o=>
    refine⟨o,Pa Z r (by rw[r.1,J];exact hl),rfl,?_⟩;cases o with
    |nx Y=>
     simp only[I] at e;cases e;rintro σ U ⟨A,w⟩;exact k _ U w.same .non
    |rt d' r0=>
     simp only[I] at e;cases e;exact λv σ U A w r'=>k v U w.same (r'.mono (Ji w.sub))
    |bk Y=>simp[I] at e
    |ct Y=>simp[I] at e
  .cases e
def lX(l:List D)(y:D):vb (.lst l) y=ixD (.lst l) y:=nq _
def lY(l:List D)(y:D):vb (.tup l) y=ixD (.tup l) y:=nq _
def NK(k:List (Key×D))(x:Str):vb (.dk k) (.str x)=OY (.inr x) k:=nq _
def Wi(l:List (Key×D)):Pf (.dk l)=O0 (.int l.length):=nq _
def Wj(I:Bool)(x:Int)(k:List (Key×D)):ZU I (.int x) (.dk k)=O0 (.bl (if I then !(OY (.inl x) k).isSome else (OY (.inl x) k).isSome)):=nq _
def Px(o:Option D):Option (List D):=match o with | some (.str x)=>O0 (YB x) | some (.lst ds)=>O0 ds | some (.tup ds)=>O0 ds | some (.dk I)=>O0 (I.map λp=>kDt p.1) | _=>W1
def Ca(f:FE)(ρ:Rho):zv f ρ=Px (f ρ):=by
 unfold zv seqE Px;cases f ρ with
 |none=>rfl
 |some d=>cases d<;>rfl
def DW(l:List D):Px (O0 (.lst l))=O0 l:=nq _
def NP(l:List D):Px (O0 (.tup l))=O0 l:=nq _
def NQ(l:List (Key×D)):Px (O0 (.dk l))=O0 (l.map λp=>kDt p.1):=nq _
def putO(i:Nat)(ρ:Rho)(x y v:Option D):Option To:=v.bind λv=>y.bind λy=>x.bind λx=>(Dp x y v).map λz=>.nx (ρ.set i (.ow z))
def Rf(i:Nat)(J I:FE)(ρ:Rho):putF i J I ρ=putO i ρ (getW ρ[i]?) (J ρ) (I ρ):=nq _
def Lw(i:Nat)(ρ:Rho)(x y v:D):putO i ρ (O0 x) (O0 y) (O0 v)=(Dp x y v).map λz=>.nx (ρ.set i (.ow z)):=nq _
def wk(i:Nat)(ρ:Rho)(x:Option D)(y:Option (List D))(v:Option D):Option To:=v.bind λv=>y.bind λy=>x.bind λx=>(Pk x y v).map λz=>.nx (ρ.set i (.ow z))
def lZ(i:Nat)(J:FA)(I:FE)(ρ:Rho):X8 i J I ρ=wk i ρ (getW ρ[i]?) (J ρ) (I ρ):=nq _
def bw(i:Nat)(ρ:Rho)(x:D)(y:List D)(v:D):wk i ρ (O0 x) (O0 y) (O0 v)=(Pk x y v).map λz=>.nx (ρ.set i (.ow z)):=nq _
def frzO(ρ:Rho)(i:Nat)(o:Option Slot):Rho:=match o with | some (.ow d)=>ρ.set i (.fz d) | _=>ρ
def wu(g:FS)(ρ:Rho):fzS [] g ρ=g ρ:=nq _
def ww(i:Nat)(I:List Nat)(g:FS)(ρ:Rho):fzS (i::I) g ρ=fzS I g (frzO ρ i ρ[i]?):=nq _
def lg(ρ:Rho)(i:Nat)(d:D):frzO ρ i (O0 (.ow d))=ρ.set i (.fz d):=nq _
def Km(i j:Nat)(a b:D)(ρ:Rho):Pv 2 (Bb i (Bb j Pw)) (.tup [a,b]) ρ=O0 ((ρ.set i (.fz a)).set j (.fz b)):=nq _
def Rg(x:Str):kDt (.inr x)=.str x:=nq _
theorem Qx{I:Type}[DecidableEq I]{k:I}:∀{l:List (I×D)},k∉l.map (·.1)->OY k l=W1
 |[],_=>rfl
 |p::r,h=>by
  unfold OY;rw[bn,bX,not_or] at h;rw[OO (λz=>h.1 z.symm)];exact Qx h.2
theorem Wk{I:Type}[DecidableEq I]{k:I}{d:D}:∀{l:List (I×D)},(l.map (·.1)).Nodup->(k,d)∈l->OY k l=O0 d
 |[],_,h=>by cases h
 |p::r,J,h=>by
  unfold OY;rw[bn,mo] at J
  rcases bX.mp h with q | q
  .subst q;rw[ZN rfl]
  .rw[OO (λz=>J.1 (by rw[z];exact bv.mpr ⟨(k,d),q,rfl⟩))];exact Wk J.2 q
def Pi{I:Type}[DecidableEq I]{k:I}{v:D}{l:List (I×D)}(h:k∉l.map (·.1)):UR k v l=l++[(k,v)]:=by
 unfold UR;rw[Qx h];rfl
def Oj(k:List (Key×D))(x:Str)(v:D)(Z:k.length<=1000000):Dp (.dk k) (.str x) v=O0 (.dk (UR (.inr x) v k)):=by
 show (if k.length<sizeLine then O0 (D.dk (UR (.inr x) v k)) else W1)=_;rw[ZN (sN Z .(2))]
def zG(k:List (Key×D))(x:Int)(v:D)(Z:k.length<=1000000):Dp (.dk k) (.int x) v=O0 (.dk (UR (.inl x) v k)):=by
 show (if k.length<sizeLine then O0 (D.dk (UR (.inl x) v k)) else W1)=_;rw[ZN (sN Z .(2))]
def zH(k:List (List Key×D))(x y:Int)(v:D)(Z:k.length<=1000000):Pk (.dt k) [.int x,.int y] v=O0 (.dt (UR [.inl x,.inl y] v k)):=by
 show (if k.length<sizeLine/\2<=sizeLine then O0 (D.dt (UR [.inl x,.inl y] v k)) else W1)=_;rw[ZN ⟨sN Z .(2),by decide⟩]
def Wm{g:FS}{I:Rho}(h:g ρ=O0 (.nx I))(J:Sr I=E3):Tl g ρ ε=O0 (I,ε):=by
 unfold Tl;rw[h];show (if Sr I=E3 then O0 (I,ε) else W1)=_;rw[ZN J]
def wy(r:Option (Rho×Ef))(O:UQ):Option (Rho×Ef):=r.bind λr=>O r.1 r.2
def Gp(g gs:UQ)(ρ:Rho)(I:Ef):Gn g gs ρ I=wy (g ρ I) gs:=nq _
def En(O:UQ)(ρ:Rho)(ε:Ef):wy (O0 (ρ,ε)) O=O ρ ε:=nq _
def lr(ρ:Rho)(I:Ef):nilE ρ I=O0 (ρ,I):=nq _
def lw{tg:FG}{b:UQ}(h:src ρ=O0 ds):forE src tg b ρ ε=Jo tg b ds ρ ε:=by
 unfold forE;rw[h];rfl
section
variable {A:aT}
def btx(w:cb):Bool:=w.params.followText "set-order"
def ObX(h:Heap)(a:Addr)(es:Array (Int×ac))(t:SetTable):Prop:=∃o ep,h.get? a=O0 o/\o.ExactSet/\o.data=.set es ep t
end
section
variable {A:aT}
theorem ABW{T I J:String}{as:List ac}{Q1:ac->av->Prop}(ft:TypeCalled T I J)(hc:checkTypeCall T ⟨as,[]⟩=pure ())(Y:fA (ai prog w) A.in1 (.call (.builtin I) ⟨.type T::as,[]⟩) (wants Q1 E) s)(Z:∀ob s1,Q1 ob s1->s1.TypeIs ob T/\fA (ai prog w) A.in1 (.call (.builtin J) ⟨ob::as,[]⟩) (wants (λr S=>r=.none/\Q ob S) E) s1):ah (ai prog w) A (call (.type T) as) Q E s:=by
 obtain⟨m0,mr,g1⟩:=ft.mro;have g2:=ft.made;have g3:=ft.sub;have g4:=ft.notType;have g5:=ft.canCreate;refine qc (F9 (show ah _ _ (callAny (.type T) _) _ _ _ from aw ⟨zw _ (by decide +kernel),kU F.entry_type_call ?_⟩));rw[Around.under_plain (weight_type_call_type T as []) (units_type_call_type T as [])]
 repeat (any_goals (first | assumption | wp_step))
 refine kQ Y λr s1 q1=>?_
 match r,q1 with
 |.error _,q1=>exact q1
 |.ok .next,q1=>exact q1.elim
 |.ok .brk,q1=>exact q1.elim
 |.ok .cont,q1=>exact q1.elim
 |.ok (.ret ob),q1=>
  obtain⟨ty,O⟩:=Z ob s1 q1;have g6:=ft.init.lookup;have g7:=ft.init.bind ob
  repeat (any_goals (first | assumption | wp_step))
  refine kQ O λU S q2=>?_
  match U,q2 with
  |.error _,q2=>exact q2
  |.ok .next,q2=>exact q2.elim
  |.ok .brk,q2=>exact q2.elim
  |.ok .cont,q2=>exact q2.elim
  |.ok (.ret v),⟨e,q2⟩=>
   subst e
   repeat (any_goals (first | assumption | wp_step))
theorem uC(v:ac){Q:ac->av->Prop}(k:Q (.ref s.heap.objs.size) { s with heap:=s.heap.push { cls:=.type "set",dict:=W1,data:=.set #[] 0 (.fresh 0 0 (!btx w)) } }):fA (ai prog w) A (.call (.builtin "set.__new__") ⟨[.type "set",v],[]⟩) (wants Q E) s:=by
 have J:BH (.type "set") (.type "set")=pure E3:=by rw[qS];kernel_rfl
 refine F9 (show ah _ A.in1 (do zC "set.__new__" ⟨[.type "set",v],[]⟩;again (.builtin "set.__new__" ⟨[.type "set",v],[]⟩)) _ _ s from ?_);refine ag (BB (F.newCall_set_1 v) (aw ⟨qE LP _,kU F.entry_set_new ?_⟩));rw[ti LP _];unfold eC.«set.__new__» Builtin.Frozenset.newClass;obtain⟨h,g,d,tk,I⟩:=s
 wp_walk
 refine x9 (aw ?_);dsimp only [newObj];exact ag (wpAny_alloc (aw (aw k)))
end
open PySem.SetTable (below insertAt Probe Met)
abbrev UY (l:List Nat):Prop:=l.Pairwise (·<·)
theorem T5(xs:Array Nat)(S:UY xs.toList)(j:Nat):∀(f lo hi:Nat),hi-lo<=f->lo<=hi->hi<=xs.size->(∀i (h:i<xs.size),i<lo->xs[i]<j)->(∀i (h:i<xs.size),hi<=i->j<=xs[i]) ->
  lo<=below.go xs j f lo hi/\below.go xs j f lo hi<=hi/\(∀i (h:i<xs.size),i<below.go xs j f lo hi->xs[i]<j)/\(∀i (h:i<xs.size),below.go xs j f lo hi<=i->j<=xs[i])
 |0,lo,hi,hf,hl,hs,O,J=>by
  have:lo=hi:=by omega
  subst this;exact⟨aS _,aS _,O,J⟩
 |f+1,lo,hi,hf,hl,hs,O,J=>by
  have mono:∀a b (Z:a<xs.size) (Y:b<xs.size),a<=b->xs[a]<=xs[b]:=λa b Z Y U=>by
   rcases LS U with h | h
   .have:=xa.mp S a b (by simpa using Z) (by simpa using Y) h;simp at this;omega
   .subst h;exact aS _
  have e0:below.go xs j (f+1) lo hi=if lo<hi then (if xs.getD ((lo+hi)/2) j<j then below.go xs j f ((lo+hi)/2+1) hi else below.go xs j f lo ((lo+hi)/2)) else lo:=rfl
  by_cases c:lo<hi
  .have T:(lo+hi)/2<xs.size:=by omega
   have gd:xs.getD ((lo+hi)/2) j=xs[(lo+hi)/2]:=by simp[T]
   rw[e0,ZN c,gd]
   by_cases d:xs[(lo+hi)/2]<j
   .simp only[ZN d];obtain⟨a,b,e,g⟩:=T5 xs S j f ((lo+hi)/2+1) hi .(0) .(0) hs (λi h I=>sN (mono i _ h T .(0)) d) J;exact⟨by omega,b,e,g⟩
   .simp only[OO d];obtain⟨a,b,e,g⟩:=T5 xs S j f lo ((lo+hi)/2) .(0) .(0) .(0) O (λi h I=>by have:=mono _ i T h I;omega);exact⟨a,by omega,e,g⟩
  .rw[e0,OO c];have:lo=hi:=by omega
   subst this;exact⟨aS _,aS _,O,J⟩
def Py(xs:Array Nat)(I:UY xs.toList)(j:Nat):below xs j<=xs.size/\(∀i (h:i<xs.size),i<below xs j->xs[i]<j)/\(∀i (h:i<xs.size),below xs j<=i->j<=xs[i]):=by
 have:=T5 xs I j xs.size 0 xs.size .(0) .(0) (aS _) (λ_ _ h=>by omega) (λi h J=>by omega);exact this.2
def below_at(xs:Array Nat)(I:UY xs.toList){i j:Nat}(h:xs[i]?=O0 j):below xs j=i:=by
 obtain⟨J,e⟩:=wx.mp h;obtain⟨S,b1,b2⟩:=Py xs I j
 rcases BI (below xs j) i with c | c | c
 .have O:=b2 (below xs j) .(0) (aS _);have:=xa.mp I (below xs j) i (by simp;omega) (by simpa using J) c;simp at this;omega
 .exact c
 .have:=b1 i J c;omega
def Ve{t:SetTable}(I:UY t.place.toList){i j:Nat}(h:t.place[i]?=O0 j):t.slot j=.live i:=by
 unfold LU;rw[below_at _ I h];simp[h]
def Zy{t:SetTable}(I:t.dummies=#[]){j:Nat}(h:j∉t.place.toList):t.slot j=.empty:=by
 unfold LU;have O:¬ (t.place[below t.place j]?==O0 j)=E3:=λz=>by
  have:=eq_of_beq z;exact h (by have:=Array.mem_of_getElem? this;simpa using this)
 have J:LV t.dummies j=ZA:=by rw[I];rfl
 simp only[O,J];rfl
def adv(m:Nat)(p:Probe):Probe:=if p.more > 0 then { p with j:=p.j+1,more:=p.more-1 } else { p with j:=(kX m p.i p.perturb).1,more:=fh m (kX m p.i p.perturb).1-(kX m p.i p.perturb).1,i:=(kX m p.i p.perturb).1,perturb:=(kX m p.i p.perturb).2 }
def l_(t:SetTable)(p:Probe):t.advance p=adv t.mask p:=by
 unfold SetTable.advance adv;split<;>rfl
def way(m:Nat)(p:Probe):Nat->Probe
 |0=>p
 |n+1=>way m (adv m p) n
theorem Vf(m:Nat):∀(n:Nat) (p:Probe),(way m p n).dummy=p.dummy
 |0,_=>rfl
 |n+1,p=>by
  show (way m (adv m p) n).dummy=_;rw[Vf m n];unfold adv;split<;>rfl
theorem YM(t:SetTable)(I:Nat->Int)(h:Int):∀(n f:Nat) (p:Probe),n<f->(∀k,k<n->∃i,t.slot (way t.mask p k).j=.live i/\I i≠h)->t.slot (way t.mask p n).j=.empty->qV t I h f p=O0 (.empty (way t.mask p n).j p.dummy)
 |0,f+1,p,_,_,e=>by
  unfold qV;have e:t.slot p.j=.empty:=e;rw[e];rfl
 |n+1,f+1,p,T,J,e=>by
  obtain⟨i,s,d⟩:=J 0 .(0);have s:t.slot p.j=.live i:=s;have O:=YM t I h n f (adv t.mask p) .(0) (λk S=>J (k+1) .(0)) e;unfold qV;rw[s];show (if (I i==h)=E3 then _ else qV t I h f (t.advance p))=_;rw[OO (by simpa using d),l_,O];rw[show (adv t.mask p).dummy=p.dummy from Vf t.mask 1 p];rfl
theorem bx(t:SetTable)(I:Nat->Int)(h:Int):∀(n f:Nat) (p:Probe) (i:Nat),n<f->(∀k,k<n->∃i,t.slot (way t.mask p k).j=.live i/\I i≠h)->t.slot (way t.mask p n).j=.live i->I i=h->∃Y,qV t I h f p=O0 (.candidate (way t.mask p n).j i Y)
 |0,f+1,p,i,_,_,e,g=>by
  unfold qV;have e:t.slot p.j=.live i:=e;rw[e];show ∃Y,(if (I i==h)=E3 then _ else _)=_;rw[ZN (by simpa using g)];exact⟨_,rfl⟩
 |n+1,f+1,p,S,U,J,e,g=>by
  obtain⟨i,s,d⟩:=J 0 .(0);have s:t.slot p.j=.live i:=s;obtain⟨Y,O⟩:=bx t I h n f (adv t.mask p) S .(0) (λk T=>J (k+1) .(0)) e g;unfold qV;rw[s];show ∃Y,(if (I i==h)=E3 then _ else qV t I h f (t.advance p))=_;rw[OO (by simpa using d),l_,O];exact⟨Y,rfl⟩
def Ps(m:Nat)(h:Int)(n:Nat):Nat:=(way m { j:=i9 h%(m+1),more:=fh m (i9 h%(m+1))-i9 h%(m+1),i:=i9 h%(m+1),perturb:=i9 h,dummy:=W1 } n).j
def Cov(m:Nat)(h:Int):Prop:=∀j,j<=m->∃n,n<10*lh m/\Ps m h n=j
structure Tab (t:SetTable) (hs:List Int):Prop where
 len:t.place.toList.length=hs.length
 rise:UY t.place.toList
 dum:t.dummies=#[]
 mask:∀j∈t.place.toList,j<=t.mask
 room:hs.length<=t.mask
 far:∀q∈t.place.toList.zip hs,∃n,n<10*lh t.mask/\Ps t.mask q.2 n=q.1/\∀k,k<n->Ps t.mask q.2 k∈t.place.toList
def least{P:Nat->Prop}(h:P n):∃m,m<=n/\P m/\∀k,k<m->¬ P k:=by
 induction n using Nat.strongRecOn with
 |ind n J=>
  by_cases c:∃k,k<n/\P k
  .obtain⟨k,I,S⟩:=c;obtain⟨m,a,b,d⟩:=J k I S;exact⟨m,by omega,b,d⟩
  .exact⟨n,aS _,h,λk I S=>c ⟨k,I,S⟩⟩
def Wn{t:SetTable}{hs:List Int}(T:Tab t hs){j:Nat}(h:j∈t.place.toList):∃i,i<hs.length/\t.place.toList[i]?=O0 j/\t.slot j=.live i:=by
 obtain⟨i,I,e⟩:=tm.mp h;have S:t.place.toList[i]?=O0 j:=by rw[dQ I,e]
 exact⟨i,by rw[<-T.len];exact I,S,Ve T.rise (by simpa using S)⟩
theorem ZT:∀{l m:List Nat},l.Nodup->(∀x∈l,x∈m)->l.length<=m.length
 |[],m,_,_=>gL _
 |x::l,m,O,h=>by
  obtain⟨n1,n2⟩:=mo.mp O;have J:=h x .(1);have S:=ZT (m:=m.erase x) n2 λy I=>(BM (show y≠x from λz=>n1 (z▸I))).mpr (h y (by simp[I]));rw[BN J] at S;have:=BO J;simp;omega
def gG(S:UY l)(T:l.length<=m):∃j,j<=m/\j∉l:=by
 refine BQ λc=>?_;have sub:∀j,j<=m->j∈l:=λj O=>BQ λz=>c ⟨j,O,z⟩;have I:(br (m+1)).Nodup:=zD;have:(br (m+1)).length<=l.length:=by
  refine ZT I λx J=>sub x ?_;have:=de.mp J;omega
 rw[oy] at this;omega
theorem Wo{t:SetTable}{hs:List Int}(T:Tab t hs)(J:Nat->Int)(he:∀i h,hs[i]?=O0 h->J i=h)(nd:hs.Nodup){i:Nat}{h:Int}(O:hs[i]?=O0 h):∃j Y,t.probe J h (t.probeStart h)=O0 (.candidate j i Y):=by
 have Z:i<t.place.toList.length:=by rw[T.len];exact (jp.mp O).1
 have hz:(t.place.toList[i],h)∈t.place.toList.zip hs:=by
  refine zI.mpr ⟨i,?_⟩;rw[zS];exact⟨dQ Z,O⟩
 obtain⟨n,hn,hj,hb⟩:=T.far _ hz;simp only at hj hb;obtain⟨m,hm,⟨I,s1,g1⟩,hk⟩:=least (P:=λn=>∃i,t.slot (Ps t.mask h n)=.live i/\J i=h) (n:=n) ⟨i,by rw[hj];exact Ve T.rise (by simp[Z]),he i h O⟩;have S0:∀k,k<m->∃i,t.slot (Ps t.mask h k)=.live i/\J i≠h:=λk r0=>by
  obtain⟨i2,_,_,s2⟩:=Wn T (hb k .(0));exact⟨i2,s2,λz=>hk k r0 ⟨i2,s2,z⟩⟩
 obtain⟨Y,e⟩:=bx t J h m (10*lh t.mask) (t.probeStart h) I .(0) S0 s1 g1;have S:Ps t.mask h m∈t.place.toList:=by
  rcases LS hm with c | c
  .exact hb m c
  .rw[c,hj];exact gX Z
 obtain⟨i3,U,p3,s3⟩:=Wn T S;have ei:I=i3:=by
  have:=s1.symm.trans s3;injection this
 subst ei;have g3:=he I _ (dQ U);have:I=i:=by
  have e1:hs[I]?=O0 h:=by rw[dQ U,<-g3,g1]
  exact (Fa U nd).mp (e1.trans O.symm)
 subst this;exact⟨_,Y,e⟩
theorem YQ{t:SetTable}{hs:List Int}(T:Tab t hs)(O:Nat->Int)(he:∀i h,hs[i]?=O0 h->O i=h){h:Int}(hi:h∉hs)(cv:Cov t.mask h):∃n,n<10*lh t.mask/\Ps t.mask h n∉t.place.toList/\(∀k,k<n->Ps t.mask h k∈t.place.toList)/\t.probe O h (t.probeStart h)=O0 (.empty (Ps t.mask h n) W1):=by
 obtain⟨j,hj,S⟩:=gG (m:=t.mask) T.rise (by rw[T.len];exact T.room);obtain⟨U,Y,e0⟩:=cv j hj;obtain⟨n,hn,p,Z⟩:=least (P:=λn=>Ps t.mask h n∉t.place.toList) (n:=U) (by rw[e0];exact S);have J:∀k,k<n->Ps t.mask h k∈t.place.toList:=λk I=>BQ λz=>Z k I z;refine⟨n,by omega,p,J,?_⟩;refine YM t O h n (10*lh t.mask) (t.probeStart h) .(0) (λk I=>?_) (Zy T.dum p);obtain⟨i,l,p',s⟩:=Wn T (J k I);refine⟨i,s,λz=>hi ?_⟩;have:=he i _ (dQ l);rw[z] at this;rw[this];exact gX l
def T6{I:Type}(xs:Array I)(p:Nat)(x:I):(insertAt xs p x).toList=xs.toList.take p++x::xs.toList.drop p:=by
 unfold insertAt;simp;rw[EI];simp
def Zz{xs:Array Nat}(O:UY xs.toList){j:Nat}(S:j∉xs.toList):(∀a∈xs.toList.take (below xs j),a<j)/\∀a∈xs.toList.drop (below xs j),j<a:=by
 obtain⟨U,b1,b2⟩:=Py xs O j;refine⟨λa J=>?_,λa J=>?_⟩
 .obtain⟨i,I,rfl⟩:=tm.mp J;rw[i6] at I;rw[LW];have:=b1 i (by simp at I;omega) .(0);simpa using this
 .have T:a∈xs.toList:=Fc J;obtain⟨i,I,rfl⟩:=tm.mp J;rw[sq] at I;rw[List.getElem_drop];have:=b2 (below xs j+i) (by simp at I;omega) .(0);have ne:¬ xs.toList[below xs j+i]'(by omega)=j:=λz=>S (z▸gX _);simp at this ne ⊢;omega
def mC{O J:Type}{l:List O}{m:List J}{p:Nat}{q:O×J}(h:q∈(l.take p).zip (m.take p)):q∈l.zip m:=by
 obtain⟨i,I⟩:=zI.mp h;rw[zS] at I;have S:i<p:=by
  have:=(jp.mp I.1).1;rw[i6] at this;omega
 rw[DZ S,DZ S] at I;exact zI.mpr ⟨i,zS.mpr I⟩
def mD{J I:Type}{l:List J}{m:List I}{p:Nat}{q:J×I}(h:q∈(l.drop p).zip (m.drop p)):q∈l.zip m:=by
 obtain⟨i,O⟩:=zI.mp h;rw[zS,EG,EG] at O;exact zI.mpr ⟨p+i,zS.mpr O⟩
theorem Tab.put{t:SetTable}{hs:List Int}(T:Tab t hs){h:Int}{n j:Nat}(hn:n<10*lh t.mask)(ej:Ps t.mask h n=j)(hj:j∉t.place.toList)(hm:j<=t.mask)(hb:∀k,k<n->Ps t.mask h k∈t.place.toList)(rm:hs.length+1<=t.mask):
  Tab (t.put j).1 (hs.take (t.put j).2++h::hs.drop (t.put j).2)/\(t.put j).2<=hs.length:=by
 have S:(t.put j).2=below t.place j:=rfl;have Z:(t.put j).1.place.toList=t.place.toList.take (below t.place j)++j::t.place.toList.drop (below t.place j):=T6 _ _ _;have J:(t.put j).1.mask=t.mask:=rfl;have hd:(t.put j).1.dummies=#[]:=by
  show (if LV t.dummies j then _ else t.dummies)=_;rw[T.dum];rfl
 obtain⟨b0,b1,b2⟩:=Py t.place T.rise j;obtain⟨s1,s2⟩:=Zz T.rise hj;have len:=T.len;have r0:below t.place j<=hs.length:=by rw[<-len];simpa using b0
 have sub:∀x∈t.place.toList,x∈(t.put j).1.place.toList:=λx I=>by
  rw[Z];rw[<-BS (below t.place j) t.place.toList] at I
  rcases eR.mp I with I | I
  .exact vk _ I
  .exact kK _ (da _ I)
 refine⟨⟨?_,?_,hd,?_,?_,?_⟩,by rw[S];exact r0⟩
 .rw[Z,S];simp only[eI,i6,cq,sq];omega
 .rw[Z];have r:=T.rise;rw[<-BS (below t.place j) t.place.toList] at r;obtain⟨r1,r2,r3⟩:=LX.mp r;refine LX.mpr ⟨r1,lj.mpr ⟨s2,r2⟩,λa ha b Y=>?_⟩
  rcases bX.mp Y with z | z
  .rw[z];exact s1 a ha
  .exact r3 a ha b z
 .intro x I;rw[Z] at I;rw[J]
  rcases eR.mp I with I | I
  .exact T.mask x (xb I)
  .rcases bX.mp I with z | z
   .rw[z];exact hm
   .exact T.mask x (Fc z)
 .rw[J,S];simp only[eI,i6,cq,sq];omega
 .intro q U;rw[Z,S,List.zip_append (by simp only[i6];omega),AI] at U;rw[J];have O:∀q∈t.place.toList.zip hs,∃n,n<10*lh t.mask/\Ps t.mask q.2 n=q.1/\∀k,k<n->Ps t.mask q.2 k∈(t.put j).1.place.toList:=λq U=>by
   obtain⟨n,a,b,c⟩:=T.far q U;exact⟨n,a,b,λk J=>sub _ (c k J)⟩
  rcases eR.mp U with U | U
  .exact O q (mC U)
  .rcases bX.mp U with z | z
   .rw[z];exact⟨n,hn,ej,λk J=>sub _ (hb k J)⟩
   .exact O q (mD z)
def stA(m i pt:Nat):Probe:={ j:=i,more:=fh m i-i,i:=i,perturb:=pt,dummy:=W1 }
theorem Pz(m:Nat):∀(a b:Nat) (p:Probe),way m p (a+b)=way m (way m p a) b
 |0,b,p=>by rw[nE];rfl
 |a+1,b,p=>by
  rw[Nat.add_right_comm];exact Pz m a b (adv m p)
theorem Wq(m i pt:Nat):∀(k L:Nat),k<=L->∀c,way m { j:=i+c,more:=L,i:=i,perturb:=pt,dummy:=W1 } k={ j:=i+c+k,more:=L-k,i:=i,perturb:=pt,dummy:=W1 }
 |0,L,_,c=>rfl
 |k+1,L,h,c=>by
  show way m (adv m _) k=_;have:adv m { j:=i+c,more:=L,i:=i,perturb:=pt,dummy:=W1 }={ j:=i+(c+1),more:=L-1,i:=i,perturb:=pt,dummy:=W1 }:=by
   unfold adv;rw[ZN (show L > 0 by omega)];simp[AH]
  rw[this,Wq m i pt k (L-1) .(0) (c+1)];simp;omega
def T7(m i pt:Nat):way m (stA m i pt) (fh m i-i+1)=stA m (kX m i pt).1 (kX m i pt).2:=by
 rw[Pz];have:=Wq m i pt (fh m i-i) (fh m i-i) (aS _) 0;rw[LY] at this;unfold stA;rw[this];show adv m _=_;unfold adv;rw[OO .(1)]
def Wr(m i pt k:Nat)(h:k<=fh m i-i):(way m (stA m i pt) k).j=i+k:=by
 have:=Wq m i pt k (fh m i-i) h 0;rw[LY] at this;unfold stA;rw[this]
def T8(m i:Nat):fh m i+1-i<=10/\i<=fh m i:=by
 unfold fh;split<;>omega
def Full(I:Array (Option Nat))(j:Nat):Prop:=(I.getD j (O0 0)).isNone=ZA
theorem bz(m:Nat)(I:Array (Option Nat)):∀(f i pt j:Nat),A2 m I f i pt=O0 j->∃n,n<10*f/\(way m (stA m i pt) n).j=j/\(I.getD j (O0 0)).isNone=E3/\∀k,k<n->Full I (way m (stA m i pt) k).j
 |0,i,pt,j,h=>by cases h
 |f+1,i,pt,j,h=>by
  obtain⟨r1,Z⟩:=T8 m i;unfold A2 at h;cases e:(br (fh m i+1-i)).find? λk=>(I.getD (i+k) (O0 0)).isNone with
  |some k=>
   rw[e] at h;obtain rfl:i+k=j:=dc h;have T:=BU e;rw[de] at T;have U:=Fh e;refine⟨k,by omega,Wr m i pt k .(0),U,λJ Y=>?_⟩;rw[Wr m i pt J .(0)];obtain⟨as,bs,S,O⟩:=(List.find?_eq_some_iff_append.mp e).2;have:J∈as:=by
    have la:as.length=k:=by
     have:=UO (λl=>l[as.length]?) S;simp only[ku (aS _),sQ,kg] at this;rw[BY (by
      have:=UO eS S;simp at this;omega)] at this
     exact dc this
    have:=UO (λl=>l[J]?) S;simp only[kR (show J<as.length by omega)] at this;rw[BY .(0)] at this;exact sk this.symm
   have:=O J this;unfold Full;simpa using this
  |none=>
   rw[e] at h;obtain⟨n,a,b,c,d⟩:=bz m I f _ _ j h;refine⟨fh m i-i+1+n,by omega,by rw[Pz,T7];exact b,c,λk T=>?_⟩
   by_cases z:k<=fh m i-i
   .rw[Wr m i pt k z];have:=Fk.mp e k (by rw[de];omega);exact Fn.mpr this
   .have O:k=fh m i-i+1+(k-(fh m i-i+1)):=by omega
    rw[O,Pz,T7];exact d _ .(0)
def Ol(m:Nat)(j:Nat):Nat->Nat->Nat->Bool
 |0,_,_=>ZA
 |f+1,i,pt=>(decide (i<=j)&&decide (j<=fh m i))||Ol m j f (kX m i pt).1 (kX m i pt).2
theorem Vg(m:Nat)(I:Array (Option Nat))(j:Nat)(J:(I.getD j (O0 0)).isNone=E3):∀(f i pt:Nat),Ol m j f i pt=E3->∃x,A2 m I f i pt=O0 x
 |0,i,pt,h=>by cases h
 |f+1,i,pt,h=>by
  obtain⟨O,S⟩:=T8 m i;unfold A2;cases e:(br (fh m i+1-i)).find? λk=>(I.getD (i+k) (O0 0)).isNone with
  |some k=>exact⟨_,rfl⟩
  |none=>
   unfold Ol at h
   rcases LZ.mp h with h | h
   .rw[eW,ZO,ZO] at h;have:=Fk.mp e (j-i) (by rw[de];omega);rw[show i+(j-i)=j by omega] at this;exact QO J this
   .exact Vg m I j J f _ _ h
theorem b_(m j:Nat):∀(f i pt:Nat),Ol m j f i pt=E3->∃n,n<10*f/\(way m (stA m i pt) n).j=j
 |0,i,pt,h=>by cases h
 |f+1,i,pt,h=>by
  obtain⟨I,S⟩:=T8 m i;unfold Ol at h
  rcases LZ.mp h with h | h
  .rw[eW,ZO,ZO] at h;exact⟨j-i,by omega,by rw[Wr m i pt (j-i) .(0)];omega⟩
  .obtain⟨n,a,b⟩:=b_ m j f _ _ h;exact⟨fh m i-i+1+n,by omega,by rw[Pz,T7];exact b⟩
def CovR(m:Nat)(h:Int):Prop:=∀j,j<=m->Ol m j (lh m) (i9 h%(m+1)) (i9 h)=E3
def CovR.cov{h:Int}(c:CovR m h):Cov m h:=λj I=>b_ m j _ _ _ (c j I)
theorem zJ{p:Probe}(h:p.j+p.more<=m):(adv m p).j+(adv m p).more<=m:=by
 unfold adv;split
 .simp;omega
 .have Z:(kX m p.i p.perturb).1<=m:=A3 (C0 _ (M0 m));obtain⟨I,S⟩:=T8 m (kX m p.i p.perturb).1;have:fh m (kX m p.i p.perturb).1<=m:=by
   unfold fh;split<;>omega
  simp;omega
theorem mF{m:Nat}:∀(n:Nat) {p:Probe},p.j+p.more<=m->(way m p n).j<=m
 |0,p,h=>by show p.j<=m;omega
 |n+1,p,h=>mF n (zJ h)
def Ws(m:Nat)(h:Int)(n:Nat):Ps m h n<=m:=by
 refine mF n ?_;have Z:i9 h%(m+1)<=m:=A3 (C0 _ (M0 m));obtain⟨I,S⟩:=T8 m (i9 h%(m+1));have:fh m (i9 h%(m+1))<=m:=by
  unfold fh;split<;>omega
 show i9 h%(m+1)+(fh m (i9 h%(m+1))-i9 h%(m+1))<=m;omega
structure Ow (m:Nat) (ow:Array (Option Nat)) (hs:List Int):Prop where
 size:ow.size=m+1
 own:∀i,i<hs.length->∃j:Nat,ow[j]?=O0 (O0 i)
 lt:∀(j i:Nat),ow[j]?=O0 (O0 i)->i<hs.length
 inj:∀(j k i:Nat),ow[j]?=O0 (O0 i)->ow[k]?=O0 (O0 i)->j=k
 far:∀(j i:Nat) (h:Int),ow[j]?=O0 (O0 i)->hs[i]?=O0 h->∃n,n<10*lh m/\Ps m h n=j/\∀k,k<n->∃x,ow[Ps m h k]?=O0 (O0 x)
def Vh(hz:ow.size=m+1){j:Nat}(I:j<=m)(h:Full ow j):∃x,ow[j]?=O0 (O0 x):=by
 have Z:j<ow.size:=by omega
 unfold Full at h;rw[show ow.getD j (O0 0)=ow[j] by simp[Z]] at h;cases e:ow[j] with
 |none=>rw[e] at h;cases h
 |some x=>exact⟨x,by simp[Z,e]⟩
def Ow.free{hs:List Int}(O:Ow m ow hs)(hl:hs.length<=m):∃j,j<=m/\(ow.getD j (O0 0)).isNone=E3:=by
 refine BQ λc=>?_;have T:∀j,j<=m->∃x,ow[j]?=O0 (O0 x):=λj S=>Vh O.size S (by
  unfold Full;exact Fn.mpr λz=>c ⟨j,S,z⟩)
 have Z:((br (m+1)).map λj=>(ow.getD j W1).getD 0).Nodup:=by
  rw[mN,iO];refine ra (R:=λa b=>a<b) (λ{a b} Y U r0 z=>?_) M1;have Y:=de.mp Y;have U:=de.mp U;obtain⟨x,I⟩:=T a .(0);obtain⟨y,J⟩:=T b .(0);have ex:(ow.getD a W1).getD 0=x:=by simp[I]
  have ey:(ow.getD b W1).getD 0=y:=by simp[J]
  rw[ex,ey] at z;subst z;have:=O.inj a b x I J;omega
 have:=ZT (m:=br hs.length) Z λy J=>by
  obtain⟨j,S,rfl⟩:=bv.mp J;obtain⟨x,I⟩:=T j (by have:=de.mp S;omega);rw[show (ow.getD j W1).getD 0=x by simp[I]];exact de.mpr (O.lt j x I)
 simp at this;omega
def SJ(m:Nat)(I:Option (Array (Option Nat)×Nat))(h:Int):Option (Array (Option Nat)×Nat):=do
 let (owner,k) <-I
 let j <-A2 m owner (lh m) (i9 h%(m+1)) (i9 h)
 pure (owner.setIfInBounds j (O0 k),k+1)
def Ow.add{hs:List Int}(O:Ow m ow hs)(hl:hs.length<=m){h:Int}(cv:CovR m h):∃U,SJ m (O0 (ow,hs.length)) h=O0 (U,(hs++[h]).length)/\Ow m U (hs++[h]):=by
 obtain⟨j0,r0,f0⟩:=O.free hl;obtain⟨j,e⟩:=Vg m ow j0 f0 _ _ _ (cv j0 r0);obtain⟨n,hn,hj,fr,bf⟩:=bz m ow _ _ _ j e;have ej:Ps m h n=j:=hj;have jm:j<=m:=ej▸Ws m h n;have Z:j<ow.size:=by rw[O.size];omega
 have nj:ow[j]?=O0 W1:=by
  rw[show ow.getD j (O0 0)=ow[j] by simp[Z]] at fr;have:ow[j]=W1:=by simpa using fr
  simp[Z,this]
 have J:∀k,(ow.setIfInBounds j (O0 hs.length))[k]?=if j=k then O0 (O0 hs.length) else ow[k]?:=λk=>by
  rw[Array.getElem?_setIfInBounds]
  by_cases c:j=k
  .subst c;simp[Z]
  .simp[c]
 refine⟨ow.setIfInBounds j (O0 hs.length),?_,⟨by simp[O.size],λi hi=>?_,λk i I=>?_,λa b i T S=>?_,λk i g I Y=>?_⟩⟩
 .unfold SJ;simp only[M2,cw,e];simp
 .rw[eI,yT] at hi
  by_cases c:i=hs.length
  .exact⟨j,by rw[J,ZN rfl,c]⟩
  .obtain⟨k,I⟩:=O.own i .(0);refine⟨k,?_⟩;rw[J,OO (λz=>?_),I];rw[<-z,nj] at I;cases I
 .rw[J] at I;rw[eI,yT]
  by_cases c:j=k
  .rw[ZN c] at I;have:=dc (dc I);omega
  .rw[OO c] at I;have:=O.lt k i I;omega
 .rw[J] at T S
  by_cases c:j=a
  .by_cases d:j=b
   .omega
   .rw[ZN c] at T;rw[OO d] at S;have:=dc (dc T);have:=O.lt b i S;omega
  .by_cases d:j=b
   .rw[OO c] at T;rw[ZN d] at S;have:=dc (dc S);have:=O.lt a i T;omega
   .rw[OO c] at T;rw[OO d] at S;exact O.inj a b i T S
 .rw[J] at I;have up:∀k:Nat,(∃x,ow[k]?=O0 (O0 x))->∃x,(ow.setIfInBounds j (O0 hs.length))[k]?=O0 (O0 x):=by
   rintro k ⟨x,hx⟩
   rw[J]
   by_cases c:j=k
   .exact⟨_,ZN c⟩
   .exact⟨x,by rw[OO c,hx]⟩
  by_cases c:j=k
  .rw[ZN c] at I;have ei:=dc (dc I);subst ei;rw[ku (aS _),sQ] at Y;have eg:h=g:=by simpa using Y
   subst eg;exact⟨n,hn,by rw[ej];exact c,λk I=>up _ (Vh O.size (Ws m h k) (bf k I))⟩
  .rw[OO c] at I;have hi:=O.lt k i I;rw[kR hi] at Y;obtain⟨n',a,b,d⟩:=O.far k i g I Y;exact⟨n',a,b,λk I=>up _ (d k I)⟩
theorem YS(m:Nat):∀(r hs:List Int) (ow:Array (Option Nat)),Ow m ow hs->hs.length+r.length<=m->(∀h∈r,CovR m h)->∃U,r.foldl (SJ m) (O0 (ow,hs.length))=O0 (U,(hs++r).length)/\Ow m U (hs++r)
 |[],hs,ow,O,_,_=>⟨ow,by simp,by simpa using O⟩
 |h::r,hs,ow,O,Z,S=>by
  simp only[cq] at Z;obtain⟨J,e1,O1⟩:=O.add .(0) (S h .(1));obtain⟨I,Y,O2⟩:=YS m r (hs++[h]) J O1 (by simp;omega) λg T=>S g (by simp[T]);refine⟨I,?_,by simpa using O2⟩;rw[List.foldl_cons,e1,Y];simp
def gH(m:Nat)(hs:Array Int)(Z:hs.size<=m)(T:∀h∈hs.toList,CovR m h):∃ow,Mb m hs=O0 ow/\Ow m ow hs.toList:=by
 have J:∀(j i:Nat),(A4 (m+1) (W1:Option Nat))[j]?=O0 (O0 i)->False:=λj i I=>by
  rw[Array.getElem?_replicate] at I;split at I
  .cases I
  .cases I
 have U:Ow m (A4 (m+1) W1) []:=⟨by simp,λi S=>by simp at S,λj i I=>(J j i I).elim,λj k i I=>(J j i I).elim,λj i h I=>(J j i I).elim⟩;obtain⟨ow,e,O⟩:=YS m hs.toList [] _ U (by simpa using Z) T;refine⟨ow,?_,by simpa using O⟩;have:Mb m hs=(hs.foldl (SJ m) (O0 (A4 (m+1) W1,0))).map (·.1):=rfl;rw[this,<-Array.foldl_toList];rw[show (O0 (A4 (m+1) W1,0):Option (Array (Option Nat)×Nat))=O0 (A4 (m+1) W1,([]:List Int).length) from rfl,e];rfl
def uD(m fi mv:Nat)(ld pl:Bool)(es:Array (Int×ac))(hl:es.size<=m)(hc:∀e∈es.toList,CovR m e.1):∃t ord,Mc m fi mv ld pl (es.map (·.1))=O0 (t,ord)/\t.mask=m/\t.led=ld/\t.plain=pl/\(ord.filterMap (es[·]?)).toList.Perm es.toList/\Tab t ((ord.filterMap (es[·]?)).toList.map (·.1)):=by
 obtain⟨T,e,O⟩:=gH m (es.map (·.1)) (by simpa using hl) (λh hh=>by
  rw[LD] at hh;obtain⟨x,hx,rfl⟩:=bv.mp hh;exact hc x hx)
 have Y:(es.map (·.1)).toList.length=es.size:=by simp
 generalize I:((br (m+1)).filterMap λj=>(T.getD j W1).map (j,·))=live;have S:∀(j i:Nat),(j,i)∈live↔T[j]?=O0 (O0 i):=λj i=>by
  rw[<-I,DD];constructor
  .rintro⟨k,hk,ek⟩;have hk:=de.mp hk;have hs:k<T.size:=by rw[O.size];exact hk
   rw[show T.getD k W1=T[k] by simp[hs]] at ek;cases ec:T[k] with
   |none=>rw[ec] at ek;cases ek
   |some x=>
    rw[ec] at ek;have:=dc ek;simp only[rl] at this;obtain⟨rfl,rfl⟩:=this;simp[hs,ec]
  .intro h;obtain⟨hs,eh⟩:=wx.mp h;refine⟨j,de.mpr (by rw[<-O.size];exact hs),?_⟩;rw[show T.getD j W1=T[j] by simp[hs],eh];rfl
 have J:UY (live.map (·.1)):=by
  rw[<-I,UY,iO];refine List.Pairwise.filterMap _ (R:=λa b=>a<b) (λa b r0 x hx y hy=>?_) M1;obtain⟨u,_,rfl⟩:=kD.mp hx;obtain⟨v,_,rfl⟩:=kD.mp hy;exact r0
 have nd:(live.map (·.2)).Nodup:=by
  rw[mN,iO];rw[UY,iO] at J;refine ra (λ{a b} ha hb r0 z=>?_) J;have h1:=(S a.1 a.2).mp ha;have h2:=(S b.1 b.2).mp hb;rw[<-z] at h2;have:=O.inj _ _ _ h1 h2;omega
 have lt:∀q∈live,q.2<es.size:=λq U=>by
  have:=O.lt q.1 q.2 ((S q.1 q.2).mp U)
  rwa [Y] at this
 have Z:(live.map (·.2)).Perm (br es.size):=by
  refine (List.perm_ext_iff_of_nodup nd zD).mpr λi=>?_;rw[de];constructor
  .intro h;obtain⟨q,U,rfl⟩:=bv.mp h;exact lt q U
  .intro h;obtain⟨j,hj⟩:=O.own i (by rw[Y];exact h);exact bv.mpr ⟨(j,i),(S j i).mpr hj,rfl⟩
 have fm:((live.map (·.2)).toArray.filterMap (es[·]?)).toList=live.map λq=>es.getD q.2 (0,.none):=by
  rw[Array.toList_filterMap];show (live.map (·.2)).filterMap _=_;rw[Ee];have:∀l:List (Nat×Nat),(∀q∈l,q.2<es.size)->l.filterMap ((λi=>es[i]?) ∘ λx=>x.2)=l.map λq=>es.getD q.2 (0,.none):=λl=>by
   induction l with
   |nil=>intro _;rfl
   |cons q r ih=>
    intro h;have U:=h q .(1);rw[List.filterMap_cons_some (b:=es.getD q.2 (0,.none)) (by simp[U]),ih λy hy=>h y (by simp[hy])];rfl
  exact this live lt
 refine⟨{ mask:=m,place:=(live.map (·.1)).toArray,dummies:=#[],finger:=fi,led:=ld,moves:=mv,plain:=pl },(live.map (·.2)).toArray,?_,rfl,rfl,rfl,?_,?_⟩
 .unfold Mc;rw[e];simp only[M2,cw,I];rfl
 .rw[fm];have e1:(live.map λq=>es.getD q.2 (0,.none))=(live.map (·.2)).map λi=>es.getD i (0,.none):=by rw[cp];rfl
  have e2:(br es.size).map (λi=>es.getD i (0,.none))=es.toList:=by
   apply Md
   .simp
   .intro i h1 h2;simp at h1;simp[h1]
  rw[e1,<-e2];exact Z.map _
 .rw[fm,cp];have zl:∀l:List (Nat×Nat),(l.map (·.1)).zip (l.map ((λx:Int×ac=>x.1) ∘ λq=>es.getD q.2 (0,.none)))=l.map λq=>(q.1,(es.getD q.2 (0,.none)).1):=λl=>by
   induction l with
   |nil=>rfl
   |cons q r ih=>rw[bn,bn,AI,ih];rfl
  refine⟨by simp,J,rfl,λj hj=>?_,?_,λq U=>?_⟩
  .have hj:j∈live.map (·.1):=hj;obtain⟨p,hp,rfl⟩:=bv.mp hj;have:=(wx.mp ((S p.1 p.2).mp hp)).1;rw[O.size] at this;show p.1<=m;omega
  .rw[aI];have:=Z.length_eq;rw[aI,oy] at this;show live.length<=m;omega
  .have U:q∈(live.map (·.1)).zip (live.map ((λx:Int×ac=>x.1) ∘ λq=>es.getD q.2 (0,.none))):=U;rw[zl] at U;obtain⟨p,hp,rfl⟩:=bv.mp U;have hm:=(S p.1 p.2).mp hp;have S0:=lt p hp;obtain⟨n,a,b,c⟩:=O.far p.1 p.2 (es.getD p.2 (0,.none)).1 hm (by simp[S0]);refine⟨n,a,b,λk hk=>?_⟩;obtain⟨x,hx⟩:=c k hk;exact bv.mpr ⟨(_,x),(S _ x).mpr hx,rfl⟩
abbrev ui:=Nat×Nat
def kk(p:ui):List Key:=[.inl (p.1:Int),.inl (p.2:Int)]
def hP(p:ui):Int:=CM (AG [(p.1:Int),(p.2:Int)])
def Xs(p:ui):Prop:=p.1<5/\p.2<5
def covB(m:Nat)(h:Int):Bool:=(br (m+1)).all λj=>Ol m j (lh m) (i9 h%(m+1)) (i9 h)
def all5:((br 5).all λa=>(br 5).all λb=>covB 7 (hP (a,b))&&covB 31 (hP (a,b)))=E3:=by decide +kernel
def dif5:((br 25).all λa=>(br 25).all λb=>a==b||!(hP (a/5,a%5)==hP (b/5,b%5)))=E3:=by decide +kernel
def cov5{p:ui}(h:Xs p):CovR 7 (hP p)/\CovR 31 (hP p):=by
 have:=fI.mp (fI.mp all5 p.1 (de.mpr h.1)) p.2 (de.mpr h.2);rw[eW] at this;exact⟨λj I=>fI.mp this.1 j (de.mpr .(0)),λj I=>fI.mp this.2 j (de.mpr .(0))⟩
def inj5{p q:ui}(h:Xs p)(k:Xs q)(e:hP p=hP q):p=q:=by
 obtain⟨a,b⟩:=p;obtain⟨c,d⟩:=q;obtain⟨U,T⟩:a<5/\b<5:=h;obtain⟨S,O⟩:c<5/\d<5:=k;have:=fI.mp (fI.mp dif5 (5*a+b) (de.mpr .(0))) (5*c+d) (de.mpr .(0));rw[show (5*a+b)/5=a by omega,show (5*a+b)%5=b by omega,show (5*c+d)/5=c by omega,show (5*c+d)%5=d by omega,e] at this;simp at this;have J:a=c:=by omega
 have I:b=d:=by omega
 rw[J,I]
section
variable {A:aT}
def uE{p:ui}(h:Xs p):xw (BJ prog w) (kk p)=hP p:=by
 have e:∀n:Nat,n<5->(BJ prog w).hash (.inl (n:Int))=(n:Int):=λn I=>by
  match n,I with
  |0,_=>rfl
  |1,_=>rfl
  |2,_=>rfl
  |3,_=>rfl
  |4,_=>rfl
 unfold xw hP kk;simp only[bn,gy,e p.1 h.1,e p.2 h.2]
def zK{p q:ui}(e:kk p=kk q):p=q:=by
 unfold kk at e;injection e with J I
 injection I with I _
 have S:=xE J;have O:=xE I;exact so .(0) .(0)
abbrev WZ (prog:cE) (w:cb) (h:Heap) (p:ui) (b:Addr):Prop:=Xs p/\AF (BJ prog w) h (kk p) b
def WZ.keep{g:Heap}{p:ui}(x:WZ prog w h p b)(k:∀o,h.get? b=O0 o->g.get? b=O0 o):WZ prog w g p b:=by
 obtain⟨i,o,I,n,J,r⟩:=x;exact⟨i,o,I,n,k o J,r⟩
def WZ.ne{p:ui}{t:SetTable}(x:WZ prog w h p b)(g:h.get? a=O0 o)(d:o.data=.set es ep t):b≠a:=λz=>by
 subst z;obtain⟨_,S,O,n,I,_,J,_⟩:=x;cases g.symm.trans I;cases d.symm.trans J
structure FP (prog:cE) (w:cb) (h:Heap) (es:Array (Int×ac)) (t:SetTable) (qs:List (ui×Addr)):Prop where
 ent:es.toList=qs.map λx=>(hP x.1,bg x.2)
 isp:∀x∈qs,WZ prog w h x.1 x.2
 nd:(qs.map (·.1)).Nodup
 tab:Tab t (es.toList.map (·.1))
 msk:(t.mask=7/\qs.length<=4)∨(t.mask=31/\qs.length<=18)
 led:btx w=ZA->t.led=E3
 pln:t.plain=E3
def SetP(prog:cE)(w:cb)(B:Addr->Prop)(h:Heap)(a:Addr)(ps:List ui):Prop:=∃es t qs,ObX h a es t/\FP prog w h es t qs/\(qs.map (·.1)).Perm ps/\∀x∈qs,B x.2
def FP.len{t:SetTable}{qs:List (ui×Addr)}(f:FP prog w h es t qs):es.size=qs.length:=by
 have:=UO eS f.ent;simpa using this
theorem FP.fits{h:Heap}{es:Array (Int×ac)}{t:SetTable}{qs:List (ui×Addr)}(f:FP prog w h es t qs):t.fits es.size=E3:=by
 have l:=f.tab.len;rw[aI,hJ,hJ] at l;have r:=f.tab.room;rw[aI,hJ] at r;unfold Me Mn;rw[f.tab.dum];simp[l,r]
def FP.hs{t:SetTable}{qs:List (ui×Addr)}(f:FP prog w h es t qs):es.toList.map (·.1)=qs.map λx=>hP x.1:=by
 rw[f.ent,cp];rfl
def FP.hnd{t:SetTable}{qs:List (ui×Addr)}(f:FP prog w h es t qs):(es.toList.map (·.1)).Nodup:=by
 rw[f.hs];have I:=f.nd;rw[mN,iO] at I ⊢;exact ra (λ{a b} S J O z=>O (inj5 (f.isp a S).1 (f.isp b J).1 z)) I
theorem FP.keep{h g:Heap}{es:Array (Int×ac)}{t:SetTable}{qs:List (ui×Addr)}(f:FP prog w h es t qs)(k:∀x∈qs,∀o,h.get? x.2=O0 o->g.get? x.2=O0 o):FP prog w g es t qs:=⟨f.ent,λx I=>(f.isp x I).keep (k x I),f.nd,f.tab,f.msk,f.led,f.pln⟩
def FP.odd{t:SetTable}{qs:List (ui×Addr)}(f:FP prog w h es t qs):t.gaveWay=ZA:=by
 unfold SetTable.gaveWay
 rcases f.msk with ⟨e,_⟩ | ⟨e,_⟩<;>rw[e]<;>rfl
def FP.cov{t:SetTable}{qs:List (ui×Addr)}(f:FP prog w h es t qs){p:ui}(I:Xs p):CovR t.mask (hP p):=by
 rcases f.msk with ⟨e,_⟩ | ⟨e,_⟩<;>rw[e]
 .exact (cov5 I).1
 .exact (cov5 I).2
def cA(n:Nat){p:ui}{b:Addr}{Q:Bool->av->Prop}(x:WZ prog w s.heap p b)(k:Q ZA s):ah (ai prog w) A (C3 (n+1) (.ref b)) Q E s:=by
 have ty:=x.2.typeIs;obtain⟨_,o,O,m,g,_,d,i⟩:=x;unfold C3;refine ag (yn ty ?_);show ah _ _ (if ("tuple"=="tuple")=E3 then _ else _) _ _ s;rw[ZN (show (("tuple":String)=="tuple")=E3 by decide)];refine ag (aw ?_);simp only[lx,ff,YO];refine ag (nN g d ?_);dsimp only;refine ag ?_;rw[<-xB];refine rj _ (λr q z=>q.1=W1/\z=s/\∀v∈r,CU v=E3) _ ?_ ?_ _ _ ⟨rfl,rfl,i.byValue⟩
 .rintro v r q z ⟨e,rfl,I⟩;have J:=I v .(1);have:C3 n v=pure ZA:=by
   cases v with
   |ref a=>cases J
   |_=>first | rfl | (unfold C3;rfl)
  rw[this];refine ag (aw ?_);simp only[ff,YO];exact aw ⟨rfl,rfl,λu T=>I u (by simp[T])⟩
 .rintro⟨q1,q2⟩ z ⟨e,rfl,_⟩;simp only at e;subst e;exact aw k
def zL{p:ui}(x:WZ prog w s.heap p b):∀(vs:List ac) {Q:Bool->av->Prop},(∀v∈vs,∃q c,v=.ref c/\WZ prog w s.heap q c)->Q ZA s->ah (ai prog w) A (Mo (.ref b) vs) Q E s:=by
 intro vs Q S k;unfold Mo;refine ag ?_;refine rj _ (λr q z=>q.1=W1/\z=s/\∀v∈r,∃q c,v=.ref c/\WZ prog w s.heap q c) _ ?_ ?_ _ _ ⟨rfl,rfl,S⟩
 .rintro v r q z ⟨e,rfl,O⟩;obtain⟨q2,c,rfl,y⟩:=O v .(1);have I:∀v∈r,∃q c,v=.ref c/\WZ prog w z.heap q c:=λu T=>O u (by simp[T]);dsimp only
  by_cases J:(b==c)=E3
  .rw[ZN (by simp[J])];exact aw ⟨rfl,rfl,I⟩
  .rw[OO (by simp[J,CU])];refine ag (MA x.2 ?_);simp only[lx,ff,YO];refine ag (MA y.2 ?_);simp only[lx,ff,YO];refine ag (cA 7 x ?_);simp only[ff,YO];refine ag (cA 7 y ?_);simp only[ff,YO];exact aw ⟨rfl,rfl,I⟩
 .rintro⟨q1,q2⟩ z ⟨e,rfl,_⟩;simp only at e;subst e;exact aw k
def ABX{p:ui}{Q:Bool->av->Prop}(x:WZ prog w s.heap p b)(k:Q E3 s):ah (ai prog w) A (C4 8 (.ref b)) Q E s:=by
 have ty:=x.2.typeIs;obtain⟨_,o,Z,m,g,_,d,i⟩:=x;unfold C4;refine ag (nL ty xy.lookup ?_);dsimp only;refine ag (nN g d ?_);refine ag ?_;show ah _ _ (forIn Z _ _) _ _ s;rw[<-xB];refine rj _ (λr q z=>q.1=W1/\z=s/\∀v∈r,∃i t,v=.int i t) _ ?_ ?_ _ _ ⟨rfl,rfl,?_⟩
 .rintro v r q z ⟨e,rfl,U⟩;obtain⟨j,t,rfl⟩:=U v .(1);have:C4 7 (.int j t)=pure E3:=by unfold C4;rfl
  rw[this];refine ag (aw ?_);simp only[lx,ff,YO];exact aw ⟨rfl,rfl,λu hu=>U u (by simp[hu])⟩
 .rintro⟨q1,q2⟩ z ⟨e,rfl,_⟩;simp only at e;subst e;exact aw k
 .have:∀{S:List Key}{O:List ac},ItemsAre (BJ prog w) S O->(∀k∈S,∃i,k=.inl i)->∀v∈O,∃i t,v=nV i t:=λ{S O} it=>by
   induction it with
   |nil=>intro _ v J;simp at J
   | @cons k0 v0 r0 Y h1 _ ih=>
    intro I v J
    rcases bX.mp J with rfl | J
    .obtain⟨i,rfl⟩:=I k0 .(1)
     rcases CG (show RQ (.inl i) v=E3 from h1) with ⟨j,t,_,e⟩ | ⟨y,t,e,_⟩
     .exact⟨j,t,e⟩
     .cases e
    .exact ih (λk T=>I k (by simp[T])) v J
  exact this i λk I=>by
   unfold kk at I;simp only[bX,Lm,or_false] at I
   rcases I with rfl | rfl
   .exact⟨_,rfl⟩
   .exact⟨_,rfl⟩
end
section
variable {A:aT}
abbrev nK (X:Cx):=Ss (BJ X.prog X.w)
theorem SM:∀{bs:List Addr}{us:List ac},gn (bs.map V.ref) us->us=bs.map bg
 |[],_,.nil=>rfl
 |c::bs,_,.cons r t=>by
  obtain rfl:=(show _=bg c from r);rw[SM t];rfl
def tup_is(I:Inv X π σ H s){k:List Key}{c:Addr}(h:Sa X.K H c (k.map kV)):AF (BJ X.prog X.w) s.heap k c:=by
 obtain⟨J,r,⟨o,g,O,n,d⟩,_⟩:=I.tuple (show Qb X.K H c (k.map kV) from h);exact⟨o,J.toArray,n,g,O,d,Qe r⟩
def NT(I:Inv X π σ H s){ks:List (List Key)}{b:Addr}(h:PR X.K H ks b):Ta (BJ X.prog X.w) s.heap ks b:=by
 obtain⟨bs,O,U⟩:=h;obtain⟨J,r,⟨o,g,Y,n,d⟩,T⟩:=I.tuple (show Qb X.K H b (bs.map V.ref) from O);refine⟨o,J.toArray,n,g,Y,d,?_⟩;rw[SM r];show NkI (BJ X.prog X.w) s.heap ks (bs.map bg);clear O r d T
 induction U with
 |nil=>exact .nil
 |cons h _ S=>exact .cons (tup_is I h) S
theorem Z0(I:Inv X π σ H s)(S:H a=O0 (.mem F X.K)):(a==ic)=ZA/\∃xs,s.heap.DictOfH (nK X) a xs/\∀q∈xs,PR X.K H q.1 q.2.1/\Kin q.1/\fx (.int (F q.1)) q.2.2:=by
 obtain⟨hs,xs,J,o,Y,Z,g,T,d,e,O⟩:=(show Bp X.prog X.w H s.heap a (.mem F X.K) from I.hok a _ S);exact⟨hs,xs,⟨o,Y,Z,g,T,d,e,λq U=>NT I (J q U).1,O⟩,J⟩
def num:List (Nat×Nat)->Nat
 |[]=>0
 |p::r=>(5*p.1+p.2+1)+26*num r
theorem mG:∀{ps:List (Nat×Nat)}{n:Nat},ps.length<=n->(∀p∈ps,p.1<5/\p.2<5)->num ps<26^n
 |[],n,_,_=>MB .(1)
 |p::r,0,h,_=>by simp at h
 |p::r,n+1,h,I=>by
  have J:=mG (ps:=r) (n:=n) (by simpa using h) λq U=>I q (by simp[U]);have:=I p .(1);unfold num;rw[Nat.pow_succ];omega
theorem cB:∀{ps qs:List (Nat×Nat)},(∀p∈ps,p.1<5/\p.2<5)->(∀p∈qs,p.1<5/\p.2<5)->num ps=num qs->ps=qs
 |[],[],_,_,_=>rfl
 |[],q::s,_,U,e=>by unfold num at e;omega
 |p::r,[],J,_,e=>by unfold num at e;omega
 |p::r,q::s,J,U,e=>by
  have a:=J p .(1);have b:=U q .(1);unfold num at e;have Y:5*p.1+p.2=5*q.1+q.2:=by omega
  have T:p.1=q.1:=by omega
  have S:p.2=q.2:=by omega
  have O:num r=num s:=by omega
  rw[cB (λx I=>J x (by simp[I])) (λx I=>U x (by simp[I])) O];rw[show p=q from so T S]
theorem mH{ks:List (List (List Key))}(nd:ks.Nodup)(h:∀k∈ks,Kin k):ks.length<=sizeLine:=by
 have:∀k:List (List Key),∃n:Nat,Kin k->∃ps:List (Nat×Nat),k=ps.map (λp=>[.inl (p.1:Int),.inl (p.2:Int)])/\ps.length<=5/\(∀p∈ps,p.1<5/\p.2<5)/\n=num ps:=λk=>by
  by_cases I:Kin k
  .obtain⟨ps,Y,U,S⟩:=I;exact⟨num ps,λ_=>⟨ps,Y,U,S,rfl⟩⟩
  .exact⟨0,λz=>QO z I⟩
 obtain⟨f,Z⟩:=Classical.axiomOfChoice this;have hf:∀k,Kin k->f k<26^5/\∀k',Kin k'->f k=f k'->k=k':=λk I=>by
  obtain⟨ps,Y,U,S,h4⟩:=Z k I;refine⟨by rw[h4];exact mG U S,λk' O e=>?_⟩;obtain⟨qs,g1,g2,g3,g4⟩:=Z k' O;rw[h4,g4] at e;rw[Y,g1,cB S g3 e]
 have J:(ks.map f).Nodup:=by
  rw[mN,iO];exact ra (λ{a b} ha hb T z=>T ((hf a (h a ha)).2 b (h b hb) z)) nd
 have:=ZT (m:=br (26^5)) J λy hy=>by
  obtain⟨k,I,rfl⟩:=bv.mp hy;exact de.mpr (hf k (h k I)).1
 rw[aI,oy] at this;rw[hV];exact dA this .(2)
def Qy(U:A.units+4<bP)(I:Inv X π σ H s)(S:H a=O0 (.mem F X.K))(O:PR X.K H ks b)(h:∀xs tk,s.heap.DictOfH (nK X) a xs->(∀q∈xs,PR X.K H q.1 q.2.1/\Kin q.1/\fx (.int (F q.1)) q.2.2)->Q (.bool (!(eK xs ks).isSome)) { s with toks:=tk }):ah .(3) A (dS .NotIn (.ref b) (.ref a)) Q E s:=by
 obtain⟨hs,xs,J,T⟩:=Z0 I S;exact MC (knd:=nK X) (by show A.units+1+1<bP;omega) (NT I O) hs J (h xs _ J T)
theorem mJ(I:H a=O0 (.mem F X.K)):mf H a (.mem F X.K)=H:=by
 funext c;unfold mf;split
 .rename_i e;rw[e,I]
 .rfl
theorem mem_set{v:ac}{Q:Unit->av->Prop}(hu:A.units+4<bP)(I:Inv X π σ H s)(ha:H a=O0 (.mem F X.K))(hk:PR X.K H ks b)(hi:Kin ks)(rv:fx (.int (F ks)) v)(h:∀xs s',Inv X π σ H s'->s'.heap.DictOfH (nK X) a xs->(∀q∈xs,PR X.K H q.1 q.2.1/\Kin q.1/\fx (.int (F q.1)) q.2.2)->(eK xs ks).isSome=E3->Q () s'):ah .(3) A (setItem (.ref a) (.ref b) v) Q E s:=by
 obtain⟨hs,xs,dd,al⟩:=Z0 I ha;have nd:(xs.map (·.1)).Nodup:=let ⟨_,_,_,_,_,_,_,_,z⟩:=dd;z;have S:=mH nd λk hk=>by
  obtain⟨q,U,rfl⟩:=bv.mp hk;exact (al q U).2.1
 rw[aI] at S;refine KP (knd:=nK X) (by show A.units+1+1<bP;omega) (NT I hk) dd (λh' T sb=>?_) S;have Y:∀q∈yY xs ks b v,PR X.K H q.1 q.2.1/\Kin q.1/\fx (.int (F q.1)) q.2.2:=λq U=>by
  unfold yY at U;split at U
  .obtain⟨x,Z,e⟩:=bv.mp U;have ax:=al x Z;unfold putAt at e;split at e
   .rename_i ek;rw[<-e];exact⟨ax.1,ax.2.1,ek▸rv⟩
   .rw[<-e];exact ax
  .rcases eR.mp U with U | U
   .exact al q U
   .obtain rfl:q=(ks,b,v):=by simpa using U
    exact⟨hk,hi,rv⟩
 have O:(eK (yY xs ks b v) ks).isSome=E3:=by
  cases J:eK xs ks with
  |none=>
   rw[storedH_new J];unfold eK;rw[zd,MD];exact⟨(ks,b,v),by simp,by simp⟩
  |some p=>
   rw[storedH_old J];unfold eK at J ⊢;obtain⟨x,Z,e⟩:=kD.mp J;rw[zd,MD];have X0:=BU Z;have S0:=Fh Z;refine⟨putAt ks v x,bv.mpr ⟨x,X0,rfl⟩,?_⟩;have:x.1=ks:=VO S0;unfold putAt;rw[ZN this];simpa using this
 obtain⟨o',S1,U1,g',P1,d',e',X1,r0⟩:=id T;have I':=I.write (x:=a) (e:=a) (o:=.mem F X.K) (t':=s.toks+(nK X).draws ks) (by rw[ha];exact trivial) (.inl rfl) (λc q J z=>(sb.2 c J).trans z) ⟨o',g'⟩ (by
  rw[mJ ha];exact⟨hs,_,Y,o',S1,U1,g',P1,d',e',r0⟩)
 rw[mJ ha] at I';exact h _ _ I' T Y O
def cC{xs:List (List (List Key)×Addr×ac)}(hu:A.units+4<bP)(I:Inv X π σ H s)(T:PR X.K H ks b)(dd:s.heap.DictOfH (nK X) a xs)(al:∀q∈xs,PR X.K H q.1 q.2.1/\Kin q.1/\fx (.int (F q.1)) q.2.2)(S:(eK xs ks).isSome=E3)(h:∀u tk,fx (.int (F ks)) u->Q u { s with toks:=tk }):ah .(3) A (oj (.ref a) (.ref b)) Q E s:=by
 obtain⟨p,J⟩:=AW.mp S;refine KO (knd:=nK X) (by show A.units+1+1<bP;omega) (NT I T) dd J (h _ _ ?_);unfold eK at J;obtain⟨x,O,e⟩:=kD.mp J;have Y:=(al x (BU O)).2.2;have Z:=Fh O;have U:x.1=ks:=VO Z;rw[<-e,<-U];exact Y
end
open PyProof.Rows (isTrue_and isTrue_not isTrue_and_nil)
def prD:D->Option ui
 |.tup [.int i,.int j]=>if 0<=i/\i<5/\0<=j/\j<5 then O0 (i.toNat,j.toNat) else W1
 |_=>W1
def VZ:List D->Option (List ui)
 |[]=>O0 []
 |d::r=>(prD d).bind λp=>(VZ r).map (p::·)
def Wp:D->Option (List ui)
 |.tup ds=>(VZ ds).bind λps=>if ps.length<=5 then O0 ps else W1
 |_=>W1
abbrev YR (ps:List ui):List (List Key):=ps.map kk
section
def zM{A:List Addr}{p:ui}(r:uj G H v d)(e:prD d=O0 p):Xs p/\∃c,v=.ref c/\Sa G.K H c ((kk p).map kV):=by
 unfold prD at e;split at e
 .rename_i i j;split at e
  .rename_i h;cases e;cases r with
   | @tup c I Y J U S=>
    refine⟨⟨by show i.toNat<5;omega,by show j.toNat<5;omega⟩,c,rfl,?_⟩;have:I=[.int i,.int j]:=by
     match I,U,S with
     |[x,y],_,S=>
      have T:=S 0 x (.int i) rfl rfl;have O:=S 1 y (.int j) rfl rfl;cases T;cases O;rfl
    rw[this] at J;show Qb G.K H c [.int ((i.toNat:Nat):Int),.int ((j.toNat:Nat):Int)];rw[Fs h.1,Fs h.2.2.1];exact J
  .cases e
 .cases e
theorem SN{H:Hp}:∀{ds:List D}{xs:List V}{ps:List ui},fy G H xs ds->VZ ds=O0 ps->(∀p∈ps,Xs p)/\∃bs:List Addr,xs=bs.map V.ref/\n9 (λk c=>Sa G.K H c (k.map kV)) (YR ps) bs
 |[],xs,ps,r,e=>by
  cases e;have:xs=[]:=qv.mp r.1;subst this;exact⟨by simp,[],rfl,.nil⟩
 |d::ds,xs,ps,r,e=>by
  obtain⟨x,ys,rfl,Y,T⟩:=r.uncons;unfold VZ at e;cases J:prD d with
  |none=>rw[J] at e;cases e
  |some p=>
   rw[J] at e;cases I:VZ ds with
   |none=>rw[I] at e;cases e
   |some qs=>
    rw[I] at e;cases e;obtain⟨i1,c,rfl,S⟩:=zM (A:=[]) Y J;obtain⟨Z,bs,rfl,O⟩:=SN T I;refine⟨λq U=>?_,c::bs,rfl,.cons S O⟩
    rcases bX.mp U with rfl | U
    .exact i1
    .exact Z q U
def uG{ps:List ui}(r:uj G H v d)(e:Wp d=O0 ps):∃b,v=.ref b/\PR G.K H (YR ps) b/\Kin (YR ps):=by
 unfold Wp at e;split at e
 .rename_i Y;cases I:VZ Y with
  |none=>rw[I] at e;cases e
  |some J=>
   rw[I] at e;have e:(if J.length<=5 then O0 J else W1)=O0 ps:=e;split at e
   .rename_i O;cases e;cases r with
    | @tup b xs _ U T S=>
     obtain⟨Z,bs,rfl,t⟩:=SN (G:=G) (H:=H) ⟨T,S⟩ I;exact⟨b,rfl,⟨bs,U,t⟩,ps,rfl,O,Z⟩
   .cases e
 .cases e
def Iv{K:ay}(s:cc H H')(h:PR K H ks b):PR K H' ks b:=by
 have U:∀{c:Addr}{xs:List V},Sa K H c xs->Sa K H' c xs:=λ{c xs} z=>by
  rcases z with (z | ⟨o,z⟩) | z
  .exact .inl (.inl (s _ _ z))
  .exact .inl (.inr ⟨o,s _ _ z⟩)
  .exact .inr z
 obtain⟨bs,J,I⟩:=h;exact⟨bs,U J,Paired.mapP I λ_ _ z=>U z⟩
def JH{x:Str}(hN:X.N[i]?=O0 x)(Y:Vis X.env.scope x)(S:(x==("__debug__":Str))=ZA)(T:(x==("__classdict__":Str))=ZA)(I:Inv X π σ H s)(e:σ[i]?=O0 (O0 v))(k:∀u,fx v u->Q u s):ah .(3) X.A (eval (.Name x pos) X.env) Q E s:=by
 obtain⟨m,Z,hl⟩:=I.loc;obtain⟨u,r,l⟩:=hl i x v hN e Y
 rcases l with ⟨O,hm⟩ | ⟨O,c,U,J⟩
 .exact vn (IG I.ok.kind O Z hm (k u r)) S
 .rcases O with O | O
  .exact vn (IH I.ok.kind O U J (k u r)) S
  .exact vn (II I.ok.kind O U J (k u r) T) S
structure Fm (X:Cx) (σ:St) (H:Hp) (i:Nat) (f:Str) (m:Addr) (F:List (List Key)->Int):Prop where
 at_:∃a C dx fs,σ[i]?=O0 (O0 (.ref a))/\H a=O0 (.ins C dx fs)/\Sn X.K C/\BL X.K C f/\fs.lookup f=O0 (.ref m)
 mem:H m=O0 (.mem F X.K)
def Fm.mono{m:Addr}(h:Fm X σ H i f m F)(s:cc H H'):Fm X σ H' i f m F:=by
 obtain⟨⟨a,C,dx,fs,O,J,S⟩,I⟩:=h;exact⟨⟨a,C,dx,fs,O,s _ _ J,S⟩,s _ _ I⟩
theorem Om{x:Str}{m:Addr}(hN:X.N[i]?=O0 x)(T:Vis X.env.scope x)(Y:(x==("__debug__":Str))=ZA)(J:(x==("__classdict__":Str))=ZA)(Z:hZ (.Name x p1) f X.env (eval (.Name x p1) X.env)=eval (.Name x p1) X.env)(I:Inv X π σ H s)(h:Fm X σ H i f m F)(k:∀tk,Q (.ref m) { s with toks:=tk }):ah .(3) X.A (eval (.Attribute (.Name x p1) f p2) X.env) Q E s:=by
 obtain⟨⟨a,C,dx,fs,h1,h2,c,n,l⟩,_⟩:=h;refine R4 Z (JH hN T Y J I h1 λu r=>?_);obtain rfl:u=bg a:=r;obtain⟨mA,O,r,_,_,_⟩:=O7 I.hok h2;obtain⟨u,U,S⟩:=Se.some_of (v:=.ref m) (o:=mA f) (by rw[<-l];exact r f);obtain rfl:u=bg m:=S;exact V4 I.kIn O (c.get f) c.hd n U (M5 (v:=.ref m) rfl) (k _)
theorem mK(hG:G.K=X.K)(I:∀c C,G.cl c=O0 C->Sn X.K C/\BL X.K C f)(o:WV G A σ H ρ)(e:uF (kc f) (vF i) ρ=O0 (.mem F)):∃m,Fm X σ H i f m F:=by
 obtain⟨T,O,J⟩:=Hi e;have S:ρ[i]?=O0 (.fz T):=by
  unfold vF at O;split at O
  .rename_i z S;cases O;exact S
  .cases O
 obtain⟨v,h1,h2⟩:=o.fz i T S;unfold kc at J;split at J
 .rename_i cn gs;cases h2 with
  | @ob a C dx c fs _ q1 q2 q3 U=>
   have Z:=UO eS q3;rw[aI,aI] at Z;obtain⟨v2,l1,Y⟩:=Qq (f:=f) (d:=.mem F) (G:=G) q3 ⟨by rw[aI,aI];exact Z,U⟩ J;cases Y with
   | @mem m _ hm=>exact⟨m,⟨a,C,dx,fs,h1,Ay _ _ q2,(I _ _ q1).1,(I _ _ q1).2,l1⟩,by rw[<-hG];exact Ay _ _ hm⟩
 .cases J
def Lx{ps:List ui}(Y:G.K=X.K)(o:WV G A σ H ρ)(e:vF j ρ=O0 d)(U:Wp d=O0 ps):∃b,σ[j]?=O0 (O0 (.ref b))/\PR X.K H (YR ps) b/\Kin (YR ps):=by
 have S:ρ[j]?=O0 (.fz d):=by
  unfold vF at e;split at e
  .rename_i z S;cases e;exact S
  .cases e
 obtain⟨v,T,O⟩:=o.fz j d S;obtain⟨b,rfl,J,I⟩:=uG O U;exact⟨b,T,by rw[<-Y];exact Iv Ay J,I⟩
def memR(i:Nat)(f:Str)(j:Nat)(I:FE):FS:=λρ=>match uF (kc f) (vF i) ρ,(vF j ρ).bind Wp,I ρ with
 |some (.mem F),O0 ps,O0 (.int v)=>if v=F (YR ps) then O0 (.rt (.int v) ρ) else W1
 |_,_,_=>W1
def memZ(i:Nat)(f:Str)(j:Nat)(ft:FT):FS:=λρ=>match uF (kc f) (vF i) ρ,(vF j ρ).bind Wp,ft ρ with
 |some (.mem F),O0 ps,O0 t=>if t=E3∨F (YR ps)=0 then O0 (.nx ρ) else W1
 |_,_,_=>W1
theorem mL{x y:Str}{J:Expr}{fv:FE}{S0 r0:Pos}(hu:X.A.units+64<bP)(hG:G.K=X.K)(X2:∀c C,G.cl c=O0 C->Sn X.K C/\BL X.K C f)(hN:X.N[i]?=O0 x)(hv:Vis X.env.scope x)(X1:X.N[j]?=O0 y)(X0:Vis X.env.scope y)(hval:PF X G J fv)(hs:gI J (O0 (.Subscript (.Attribute (.Name x p5) f p6) (.Name y p7) p8)) p9.line X.env=pure ZA:=by rfl)(hm:gu .NotIn (.Attribute (.Name x p2) f p3)=ZA:=by rfl)(U2:NoSl (.Name y p13):=by intro _ _;rfl)(hd:(x==("__debug__":Str))=ZA:=by decide)(S1:(x==("__classdict__":Str))=ZA:=by decide)(P1:(y==("__debug__":Str))=ZA:=by decide)(T:(y==("__classdict__":Str))=ZA:=by decide)(hb:∀p,hZ (.Name x p) f X.env (eval (.Name x p) X.env)=eval (.Name x p) X.env:=by intro _;rfl):
    UP X G [.If (.Compare (.Name y p1) [.NotIn] [.Attribute (.Name x p2) f p3] p4) [.Assign [.Subscript (.Attribute (.Name x p5) f p6) (.Name y p7) p8] J p9] [] p10,.Return (O0 (.Subscript (.Attribute (.Name x p11) f p12) (.Name y p13) S0)) r0] (memR i f j fv):=by
  rintro A0 He π s σ H D I ⟨ρ,o,⟨A,w⟩,e,k⟩
  unfold memR at e;split at e
  . rename_i F ps v ef ek ev
    split at e
    . rename_i hF
      cases e;obtain⟨dk,Y3,S3⟩:=A5.mp ek;obtain⟨m,fm⟩:=mK (X:=X) hG X2 w.ok ef;obtain⟨b,U1,mk,kin⟩:=Lx (X:=X) hG w.ok Y3 S3;have Y2:∀(S:Hp) (s':av) (O:List (List (List Key)×Addr×ac)),cc H S->Inv X π σ S s'->s'.heap.DictOfH (nK X) m O->(∀q∈O,PR X.K S q.1 q.2.1/\Kin q.1/\fx (.int (F q.1)) q.2.2)->(eK O (YR ps)).isSome=E3 ->
          ah .(3) X.A (exec (.Return (O0 (.Subscript (.Attribute (.Name x p11) f p12) (.Name y p13) S0)) r0) X.env) (SP X π D) X.xe s':=λS s' O U Z dd al pr=>by
        refine AQ (aq EW.lookup U2 (Om hN hv hd S1 (hb _) Z (fm.mono U) λtk=>JH X1 X0 P1 T (Z.tok tk) U1 λu r=>⟨dd.typeIs,?_⟩));obtain rfl:u=bg b:=r;refine cC (F:=F) .(0) (Z.tok tk) (Iv U mk) dd al pr λu Y ru=>⟨.int v,σ,S,(Z.tok tk).tok Y,by rw[hF];exact ru,?_⟩;exact k (.int v) σ S A (w.mono U) (.int v)
      have rest:∀(S:Hp) (s':av) (O:List (List (List Key)×Addr×ac)),cc H S->Inv X π σ S s'->s'.heap.DictOfH (nK X) m O->(∀q∈O,PR X.K S q.1 q.2.1/\Kin q.1/\fx (.int (F q.1)) q.2.2)->(eK O (YR ps)).isSome=E3 ->
          ah .(3) X.A (jv [.Return (O0 (.Subscript (.Attribute (.Name x p11) f p12) (.Name y p13) S0)) r0] X.env) (SP X π D) X.xe s':=λS s' O U Z dd al pr=>by
        refine lP (py (Y2 S s' O U Z dd al pr) λfl s1 q=>?_);cases fl with
        |next=>
          obtain⟨Q2,H2,I2,q⟩:=q;exact M4 (X:=X) π s1 Q2 H2 D I2 q
        |ret v=>exact q
        |brk=>exact q
        |cont=>exact q
      refine lP (xL (vt (JH X1 X0 P1 T I U1 λu r=>Om hN hv hd S1 (hb _) I fm λtk=>?_) hm));obtain rfl:u=bg b:=r;refine Qy (F:=F) .(0) (I.tok tk) fm.mem mk λO Y dd al=>kB ?_;cases pr:(eK O (YR ps)).isSome with
      |true=>
        show ah _ _ (jv [] X.env) _ _ _;exact kq (rest H _ O (cc.refl H) ((I.tok tk).tok Y) dd al pr)
      |false=>
        show ah _ _ (jv [_] X.env) _ _ _;have I2:=(I.tok tk).tok Y;refine lP (B2 (py (@hval A π _ σ H (λx H1=>cc H H1/\x=.int v) I2 ⟨ρ,_,w.ok,ev,λv1 H1 s1 r1=>⟨s1,by cases r1;rfl⟩⟩) λr1 s1 q0=>?_) hs);obtain⟨v1,H1,I1,rv,U,P3⟩:=q0;subst P3;refine Om hN hv hd S1 (hb _) I1 (fm.mono U) λY1=>JH X1 X0 P1 T (I1.tok Y1) U1 λu r=>?_;obtain rfl:u=bg b:=r;refine mem_set (F:=F) .(0) (I1.tok Y1) (U _ _ fm.mem) (Iv U mk) kin (by rw[<-hF];exact rv) λS2 s' Z P4 S4 T2=>?_;exact kq (rest H1 s' S2 U Z P4 S4 T2)
    . cases e
  . cases e
theorem mQ{x y:Str}{T:Expr}{jj:Nat}(hu:X.A.units+64<bP)(hG:G.K=X.K)(Y1:∀c C,G.cl c=O0 C->Sn X.K C/\BL X.K C f)(hN:X.N[i]?=O0 x)(hv:Vis X.env.scope x)(U1:X.N[j]?=O0 y)(S0:Vis X.env.scope y)(ht:Zl X G T ft)(hs:gI (.Constant (.int 0) jj p9) (O0 (.Subscript (.Attribute (.Name x p5) f p6) (.Name y p7) p8)) p10.line X.env=pure ZA:=by rfl)(hm:gu .NotIn (.Attribute (.Name x p2) f p3)=ZA:=by rfl)(hd:(x==("__debug__":Str))=ZA:=by decide)(P1:(x==("__classdict__":Str))=ZA:=by decide)(X0:(y==("__debug__":Str))=ZA:=by decide)(U:(y==("__classdict__":Str))=ZA:=by decide)(hb:∀p,hZ (.Name x p) f X.env (eval (.Name x p) X.env)=eval (.Name x p) X.env:=by intro _;rfl):
  VW X G (.If (.BoolOp .And [.Compare (.Name y p1) [.NotIn] [.Attribute (.Name x p2) f p3] p4,.UnaryOp .Not T p11] p12) [.Assign [.Subscript (.Attribute (.Name x p5) f p6) (.Name y p7) p8] (.Constant (.int 0) jj p9) p10] [] p13) (memZ i f j ft):=by
 rintro A0 He π s Z H D I ⟨ρ,o,⟨A,w⟩,e,k⟩
 unfold memZ at e;split at e
 .rename_i F ps t ef ek et;split at e
  .rename_i hF;cases e;obtain⟨dk,S2,Q2⟩:=A5.mp ek;obtain⟨m,fm⟩:=mK (X:=X) hG Y1 w.ok ef;obtain⟨b,S1,mk,kin⟩:=Lx (X:=X) hG w.ok S2 Q2;have J:∀(O:Hp) (s':av),cc H O->Inv X π Z O s'->SP X π D .next s':=λO s' S I'=>⟨Z,O,I',k Z O ⟨A,w.mono S⟩⟩;have put:∀(O:Hp) (s':av),cc H O->Inv X π Z O s'->F (YR ps)=0->ah .(3) X.A (jv [.Assign [.Subscript (.Attribute (.Name x p5) f p6) (.Name y p7) p8] (.Constant (.int 0) jj p9) p10] X.env) (SP X π D) X.xe s':=λO s' S I' h0=>by
    refine lP (B2 (D6 ?_) hs);have Y:=I'.tok (s'.toks+1);refine Om hN hv hd P1 (hb _) Y (fm.mono S) λr0=>JH U1 S0 X0 U (Y.tok r0) S1 λu r=>?_;obtain rfl:u=bg b:=r;refine mem_set (F:=F) .(0) (Y.tok r0) (S _ _ fm.mem) (Iv S mk) kin (by rw[h0];exact⟨_,rfl⟩) λT2 s2 I3 X2 Y2 U2=>?_;exact kq (J O s2 S I3)
   refine xL (vv (vt (JH U1 S0 X0 U I S1 λu r=>Om hN hv hd P1 (hb _) I fm λtk=>?_) hm));obtain rfl:u=bg b:=r;refine Qy (F:=F) .(0) (I.tok tk) fm.mem mk λxs X1 dd al=>kB ?_;have Y:=(I.tok tk).tok X1;cases pr:(eK xs (YR ps)).isSome with
   |true=>
    show ah _ _ (jv [] X.env) _ _ _;exact kq (J H _ (cc.refl H) Y)
   |false=>
    show ah _ _ (pj _ _ _) _ _ _;refine vv (D8 (py (@ht A π _ Z H (λb H1=>cc H H1/\b=t) Y ⟨ρ,_,w.ok,et,λH1 s1=>⟨s1,rfl⟩⟩) λb s1 q9=>?_));obtain⟨H1,I1,S,eb⟩:=q9;subst eb;cases b with
    |true=>
     show ah _ _ (jv [] X.env) _ _ _;exact kq (J H1 s1 S I1)
    |false=>
     refine D7 ?_;show ah _ _ (jv [_] X.env) _ _ _;exact put H1 s1 S I1 (hF.resolve_left .(1))
  .cases e
 .cases e
def memE(I:Rho->Option (List (List Key)->Int)):FE:=λρ=>(I ρ).map .mem
theorem zN{O:Rho->Option (List (List Key)->Int)}(Z:G.K=X.K):PF X G (.Dict [] [] pos) (memE O):=by
 rintro A π s σ H Q I ⟨ρ,d,o,e,k⟩
 unfold memE at e;obtain⟨F,_,rfl⟩:=kD.mp e;have Y:(s.heap.objs.size==ic)=ZA:=(show Bp X.prog X.w (mf H s.heap.objs.size (.dK [])) _ _ (.dK []) from Xn s.heap I.big).2.1;have J:H s.heap.objs.size=W1:=I.hok.fresh (aS _);obtain⟨S,es,ep,g1,ex,d1,e1,_,T⟩:=Heap.DictOfH.new (knd:=nK X) s.heap;refine EF ⟨.ref s.heap.objs.size,_,I.laid (a:=s.heap.objs.size) (o:=.mem F X.K) (t':=s.toks) (λ_ _ q=>bo _ q) (aS _) ⟨Y,[],by simp,S,es,ep,g1,ex,d1,e1,T⟩,rfl,k _ _ (Ao J _) (.mem ?_)⟩;unfold lu;rw[OO,Z]
 .exact Ah
 .intro U;have:=o.live _ U;rw[J] at this;exact QO rfl this.1
end
def addQ(ps:List ui)(p:ui):List ui:=if p∈ps then ps else ps++[p]
section
variable {A:aT}
def zO{h:Int}(e:(es.toList.map (·.1))[i]?=O0 h):∃v,es[i]?=O0 (h,v):=by
 rw[db] at e;obtain⟨x,I,rfl⟩:=kD.mp e;exact⟨x.2,by rw[<-Fu];exact I⟩
theorem uH{t:SetTable}{qs:List (ui×Addr)}{p:ui}{Q:SetFound->av->Prop}(hu:A.units<bP)(g:s.heap.get? a=O0 o)(d:o.data=.set es ep t)(f:FP prog w s.heap es t qs)(y:WZ prog w s.heap p b)(k1:p∈qs.map (·.1)->Q (.there W1) s)(k2:p∉qs.map (·.1)->∀n,n<10*lh t.mask->Ps t.mask (hP p) n∉t.place.toList->(∀k,k<n->Ps t.mask (hP p) k∈t.place.toList)->Q (.free (Ps t.mask (hP p) n) ZA) s):ah (ai prog w) A (setSearch a (.ref b) (hP p) (adding:=E3)) Q E s:=by
  unfold setSearch FB;refine ag (oP g d f.fits ?_);dsimp only;rw[f.odd];simp only[ff,YO];have ha:∀(i:Nat) (h:Int),(es.toList.map (·.1))[i]?=O0 h->(es[i]?.map (·.1)).getD 0=h:=λi h e=>by
    obtain⟨v,U⟩:=zO e;rw[U];rfl
  by_cases m:p∈qs.map (·.1)
  . obtain⟨x,I,J⟩:=bv.mp m
    obtain⟨i,hi,ei⟩:=tm.mp I;have hh:(es.toList.map (·.1))[i]?=O0 (hP p):=by
      rw[f.hs,db,dQ hi,ei,<-J];rfl
    obtain⟨j,nx,e⟩:=Wo f.tab _ ha f.hnd hh;have e':t.probe (λi=>(es[i]?.map (·.1)).getD 0) (hP p) (C5 W1 (t.probeStart (hP p)))=O0 (.candidate j i nx):=e;have ev:es[i]?=O0 (hP x.1,bg x.2):=by
      rw[<-Fu,f.ent,db,dQ hi,ei];rfl
    have yx:=f.isp x I;have rest:ah (ai prog w) A (do
        let O0 (_,y):=es[i]? | FC "internal:set-entry"
        let equal <-lS [y] (eqBool y (.ref b))
        let (es',_,t') <-setState a
        if E3&&equal then return SetFound.there W1
        let O0 same:=t'.sameMemory t.moves t.mask | FC "set.changed-during-lookup:is-the-new-block-at-the-old-address"
        let still <-match (if same then t'.slot j else .empty) with
          |.live S=>match es'[S]? with
            |some (_,y')=>do pure (if <-isSame y' y then O0 S else W1)
            |none=>pure W1
          |_=>pure W1
        match still with
        |none=>rule "set.search.anew";FB a (.ref b) (hP p) E3 99999 W1
        |some S=>if equal then return .there (O0 S) else FB a (.ref b) (hP p) E3 99999 (O0 nx)) Q E s:=by
      rw[ev];dsimp only;refine ag (wpAny_holding (Ic hu yx.2 y.2 ?_));rw[SO (show kk x.1=kk p by rw[J])];refine ag (oP g d f.fits ?_);dsimp only;simp only[Bool.and_self,XO];exact aw (k1 m)
    show ah _ _ (match t.probe (λi=>(es[i]?.map (·.1)).getD 0) (hP p) (C5 W1 (t.probeStart (hP p))) with | some O=>_ | _=>_) _ _ _;rw[e'];dsimp only
    by_cases ld:t.led=E3
    . rw[ld]
      simp only[lx,ff,YO];exact rest
    . have T:t.led=ZA:=by simpa using ld
      rw[T];simp only[Iq,XO];refine ag (zL y _ (λv U=>?_) ?_)
      . obtain⟨e1,S0,rfl⟩:=bv.mp U
        have:e1∈es.toList:=by
          have:=DE.mp S0;rw[Array.mem_filter] at this;exact DE.mpr this.1
        rw[f.ent] at this;obtain⟨z,hz,rfl⟩:=bv.mp this;exact⟨z.1,z.2,rfl,f.isp z hz⟩
      . simp only[ff,YO]
        exact rest
  . have hn:hP p∉es.toList.map (·.1):=λz=>by
      rw[f.hs] at z;obtain⟨x,I,J⟩:=bv.mp z;exact m (bv.mpr ⟨x,I,inj5 (f.isp x I).1 y.1 J⟩)
    obtain⟨n,r0,Z,Y,e⟩:=YQ f.tab _ ha hn (f.cov y.1).cov;have e':t.probe (λi=>(es[i]?.map (·.1)).getD 0) (hP p) (C5 W1 (t.probeStart (hP p)))=O0 (.empty (Ps t.mask (hP p) n) W1):=e;show ah _ _ (match t.probe (λi=>(es[i]?.map (·.1)).getD 0) (hP p) (C5 W1 (t.probeStart (hP p))) with | some O=>_ | _=>_) _ _ _;rw[e'];dsimp only;exact aw (k2 m n r0 Z Y)
end
section
variable {A:aT}
def mR{I:Array (Int×ac)}{t t':SetTable}{Q:Unit->av->Prop}(g:s.heap.get? a=O0 o)(O:o.ExactSet)(d:o.data=.set es ep t)(z:I.size<=100)(k:∀h' J,g9 a s.heap h'->h'.get? a=O0 J->J.ExactSet->J.data=.set I (ep+1) t'->Q () { s with heap:=h' }):ah (ai prog w) A (storeSet a I t') Q E s:=by
 refine wpAny_storeSet_of g d (k _ { o with data:=.set I (ep+1) t' } (A7 _ _ _) ?_ O rfl) (dA z .(2));have u:=mI (Obj.putSet I t') g (by rw[putSet_of I t' d];rfl)
 rwa [putSet_of I t' d] at u
def ABY(n:Nat)(h:n<=18):ME n=n*4:=by
 unfold ME;rw[OO .(0)]
def mU:FD 20=32:=by decide +kernel
def YT{J β:Type}{f:J->β}{l:List β}{m:List J}(h:l.Perm (m.map f)):∃k:List J,l=k.map f/\k.Perm m:=by
 generalize e:m.map f=x at h
 induction h generalizing m with
 |nil=>
  have:m=[]:=by simpa using e
  subst this;exact⟨[],rfl,A8 _⟩
 | @cons a l1 l2 _ ih=>
  cases m with
  |nil=>cases e
  |cons y r=>
   rw[bn] at e;injection e with e1 I
   obtain⟨k,ek,pk⟩:=ih I;exact⟨y::k,by rw[bn,e1,ek],C6 _ pk⟩
 |swap a c l1=>
  match m,e with
  |y::z::r,e=>
   rw[bn,bn] at e;injection e with e1 I
   injection I with I e3
   exact⟨z::y::r,by rw[bn,bn,e1,I,e3],MG _ _ _⟩
 |trans _ _ U T=>
  obtain⟨k2,Y,O⟩:=T e;obtain⟨k1,Z,S⟩:=U Y.symm;exact⟨k1,Z,S.trans O⟩
theorem ABZ{B:Addr->Prop}{ps:List ui}{p:ui}{Q:Bool->av->Prop}(hu:A.units<bP)(x:SetP prog w B s.heap a ps)(y:WZ prog w s.heap p b)(yb:B b)(r:ps.length<=17)(c:∀v h',g9 a s.heap h'->SetP prog w B h' a (addQ ps p)->Q v { s with heap:=h' }):ah (ai prog w) A (setAddHashed a (.ref b) (hP p)) Q E s:=by
 obtain⟨S,t,J,⟨o,ep,g,ex,d⟩,f,pm,bq⟩:=x;have lq:J.length=ps.length:=by have:=pm.length_eq;simpa using this
 have le:=f.len;unfold setAddHashed setAddHashedIn;refine wpAny_holding (ag (oP g d f.fits ?_));dsimp only;rw[OO (show ¬ byScan (.ref b) S=E3 by unfold byScan Value.scannable;simp)];refine ag (uH hu g d f y (λm=>?_) λm n P5 X2 S4=>?_)
 .dsimp only;have mp:p∈ps:=pm.mem_iff.mp m;refine aw ?_;have:=c ZA s.heap (EZ a _) (by unfold addQ;rw[ZN mp];exact⟨S,t,J,⟨o,ep,g,ex,d⟩,f,pm,bq⟩);exact this
 .dsimp only;have mp:p∉ps:=λz=>m (pm.mem_iff.mpr z);refine ag (oP g d f.fits ?_);dsimp only;generalize hj:Ps t.mask (hP p) n=j at X2;have jm:j<=t.mask:=hj▸Ws _ _ _;have hl:(S.toList.map (·.1)).length=J.length:=by rw[aI,hJ,le]
  have rm:(S.toList.map (·.1)).length+1<=t.mask:=by
   rw[hl]
   rcases f.msk with ⟨e,z⟩ | ⟨e,z⟩<;>omega
  obtain⟨T1,pl⟩:=f.tab.put P5 hj X2 jm S4 rm;have Y1:(t.put j).1.plain=E3:=f.pln;rw[Y1];simp only[XO];refine ag (ABX y ?_);simp only[XO];rw[hl] at pl;have Z:(insertAt S (t.put j).2 (hP p,bg b)).toList=(J.take (t.put j).2++(p,b)::J.drop (t.put j).2).map λx=>(hP x.1,bg x.2):=by
   rw[T6,f.ent,<-tq,<-A9,f6,bn]
  have pq:(J.take (t.put j).2++(p,b)::J.drop (t.put j).2).Perm (J++[(p,b)]):=by
   refine FH.trans ?_;rw[BS];exact (List.perm_append_singleton _ _).symm
  have P3:∀x∈J.take (t.put j).2++(p,b)::J.drop (t.put j).2,B x.2:=λx O=>by
   rcases eR.mp (pq.mem_iff.mp O) with O | O
   .exact bq x O
   .obtain rfl:x=(p,b):=by simpa using O
    exact yb
  have T:(insertAt S (t.put j).2 (hP p,bg b)).size=J.length+1:=by
   have:=UO eS Z;rw[aI,pq.length_eq] at this;simpa using this
  have S3:∀x∈J,x.2≠a:=λx O=>(f.isp x O).ne g d;have Y3:b≠a:=y.ne g d;have X0:∀h',g9 a s.heap h'->∀x∈J.take (t.put j).2++(p,b)::J.drop (t.put j).2,WZ prog w h' x.1 x.2:=λh' sb x O=>by
   have O:=pq.mem_iff.mp O
   rcases eR.mp O with O | O
   .exact (f.isp x O).keep λo' g'=>(sb.2 x.2 (S3 x O)).trans g'
   .obtain rfl:x=(p,b):=by simpa using O
    exact y.keep λo' g'=>(sb.2 b Y3).trans g'
  have T2:((J.take (t.put j).2++(p,b)::J.drop (t.put j).2).map (·.1)).Nodup:=by
   rw[(pq.map (·.1)).nodup_iff,f6];refine fR.mpr ⟨f.nd,by simp,λu hu v hv e=>?_⟩;have:v=p:=by simpa using hv
   exact m (this▸e▸hu)
  have X1:((J.take (t.put j).2++(p,b)::J.drop (t.put j).2).map (·.1)).Perm (addQ ps p):=by
   unfold addQ;rw[OO mp];refine (pq.map (·.1)).trans ?_;rw[f6];exact pm.append_right _
  have P4:(insertAt S (t.put j).2 (hP p,bg b)).toList.map (·.1)=(S.toList.map (·.1)).take (t.put j).2++hP p::(S.toList.map (·.1)).drop (t.put j).2:=by
   rw[T6,f6,bn,tq,A9]
  have U1:Tab (t.put j).1 ((insertAt S (t.put j).2 (hP p,bg b)).toList.map (·.1)):=by rw[P4];exact T1
  have U:(t.put j).1.fill=J.length+1:=by
   unfold Mn;rw[U1.dum];have:=U1.len;rw[aI,hJ,hJ,T] at this;simpa using this
  have Y:(t.put j).1.mask=t.mask:=rfl;refine ag (mR g ex d (by rw[T];omega) λh1 o1 P1 g1 Y2 d1=>?_)
  by_cases I:(t.put j).1.tooFull=E3
  .rw[ZN (by simp[I])];have m7:t.mask=7/\J.length=4:=by
    unfold MH at I;rw[U,Y] at I;simp at I
    rcases f.msk with ⟨e,z⟩ | ⟨e,z⟩
    .rw[e] at I;exact⟨e,by omega⟩
    .rw[e] at I;omega
   have e5:S.size+1=5:=by omega
   rw[e5,ABY 5 .(0)];refine ag ?_;unfold setRelay;have P6:(t.put j).1.fits (insertAt S (t.put j).2 (hP p,bg b)).size=E3:=by
    unfold Me;rw[U,Y,T];have:=U1.len;rw[aI,hJ,hJ,T] at this;simp[this];omega
   refine ag (oP g1 d1 P6 ?_);dsimp only;rw[show FD (5*4)=32 from mU];rw[OO .(2)];have cv:∀e∈(insertAt S (t.put j).2 (hP p,bg b)).toList,CovR 31 e.1:=λe he=>by
    rw[Z] at he;obtain⟨x,O,rfl⟩:=bv.mp he;exact (cov5 (X0 s.heap (EZ a _) x O).1).2
   obtain⟨t2,S0,el,l1,l2,l3,l4,l5⟩:=uD 31 (t.put j).1.finger ((t.put j).1.movedTo 31) (t.put j).1.led (t.put j).1.plain (insertAt S (t.put j).2 (hP p,bg b)) (by rw[T];omega) cv;have u8:(t.put j).1.relaid ((insertAt S (t.put j).2 (hP p,bg b)).map (·.1)) (5*4)=O0 (t2,S0):=by
    unfold SetTable.relaid;rw[show FD (5*4)=32 from mU];exact el
   have Q2:(S0.filterMap λi=>(insertAt S (t.put j).2 (hP p,bg b))[i]?).size=J.length+1:=by
    have:=l4.length_eq;rw[hJ,hJ,T] at this;exact this
   generalize P8:insertAt S (t.put j).2 (hP p,bg b)=es1 at *;rw[u8];refine ag (show ah _ _ (if ((S0.filterMap λi=>es1[i]?).size != es1.size)=E3 then _ else pure ((S0.filterMap λi=>es1[i]?),t2)) _ _ _ from ?_);rw[OO (by simp[Q2,T])];refine aw ?_;dsimp only;refine mR g1 Y2 d1 (by rw[Q2];omega) λh2 o2 S2 g2 P7 d2=>aw (c E3 h2 (P1.trans S2) ?_);obtain⟨S1,f8,r0⟩:∃S1:List (ui×Addr),(S0.filterMap λi=>es1[i]?).toList=S1.map (λx=>(hP x.1,bg x.2))/\S1.Perm (J.take (t.put j).2++(p,b)::J.drop (t.put j).2):=by
    have U2:=l4;rw[Z] at U2;obtain⟨q2,e2,p2⟩:=YT U2;exact⟨q2,e2,p2⟩
   refine⟨_,_,S1,⟨o2,_,g2,P7,d2⟩,⟨f8,λx O=>X0 h2 (P1.trans S2) x (r0.mem_iff.mp O),(r0.map (·.1)).nodup_iff.mpr T2,l5,?_,λz=>l2.trans (f.led z),l3.trans Y1⟩,(r0.map (·.1)).trans X1,λx O=>P3 x (r0.mem_iff.mp O)⟩;right;rw[r0.length_eq,pq.length_eq,eI,yT];exact⟨l1,by omega⟩
  .rw[OO (by simp[I])];refine aw (c E3 h1 P1 ⟨_,_,_,⟨o1,ep+1,g1,Y2,d1⟩,⟨Z,X0 h1 P1,T2,U1,?_,f.led,Y1⟩,X1,P3⟩);rw[pq.length_eq,eI,yT,Y];unfold MH at I;rw[U,Y] at I;simp at I
   rcases f.msk with ⟨e,z⟩ | ⟨e,z⟩
   .left;rw[e] at I;exact⟨e,by omega⟩
   .right;exact⟨e,by omega⟩
end
section
variable {A:aT}{R:nv->av->Prop}{I:Addr}{wr:List Addr}{P:Nat->ac->Prop}{Sx:Nat->Heap->Prop}{B:Addr->Prop}
theorem SetP.keep{h h':Heap}{a:Addr}{ps:List ui}(x:SetP prog w B h a ps)(e:∀b,B b->∀o,h.get? b=O0 o->h'.get? b=O0 o)(ea:∀o,h.get? a=O0 o->h'.get? a=O0 o):SetP prog w B h' a ps:=by
 obtain⟨Z,t,O,⟨o,ep,g,q⟩,f,S,J⟩:=x;exact⟨Z,t,O,⟨o,ep,ea o g,q⟩,f.keep λx U T Y=>e x.2 (J x U) T Y,S,J⟩
def metP(val:Nat->ui)(i:Nat):List ui:=((br i).map val).foldl addQ []
def Qz(val:Nat->ui)(i:Nat):metP val (i+1)=addQ (metP val i) (val i):=by simp[metP,EJ,List.foldl_append]
theorem YW(val:Nat->ui):∀i,(metP val i).length<=i
 |0=>aS _
 |i+1=>by
  have q:=YW val i;rw[Qz];unfold addQ;split<;>simp<;>omega
theorem ABa(hu:A.units+1<bP)(W:oC prog w A.in1 I fp wr n P Sx){S:Addr}(nS:S∉fp)(val:Nat->ui)(bs:Nat->Addr)(hv:∀i v,P i v->v=.ref (bs i))(hB:∀i,i<n->B (bs i))(nB:∀b,B b->b∉wr/\b≠S)(hb:n<=17):
    ∀(m i:Nat) (s:av),i+m=n->Sx i s.heap->SetP prog w B s.heap S (metP val i)->(∀i,i<n->WZ prog w s.heap (val i) (bs i)) ->
      (∀h' tk,(∀b o,b∉wr->b≠S->s.heap.get? b=O0 o->h'.get? b=O0 o)->SetP prog w B h' S (metP val n)->R (.ok (.ret .none)) { s with heap:=h',toks:=tk }) ->
      fA (ai prog w) A (.builtin "set.update.loop" ⟨[.ref S,.ref I],[]⟩) R s:=by
  have nW:S∉wr:=λz=>nS (W.sub S z);have J:∀{s:av},ah (ai prog w) A.in1 (do
        let O0 x <-hU (.ref I) | ret .none
        let _ <-lS [x] (setAdd S x)
        again (.builtin "set.update.loop" ⟨[.ref S,.ref I],[]⟩))
      (λX0 Z=>match X0 with | .done f=>R (.ok f) Z | .again c'=>c'.quiet=E3/\fA (ai prog w) A c' R Z) (λe Z=>R (.error e) Z) s->fA (ai prog w) A (.builtin "set.update.loop" ⟨[.ref S,.ref I],[]⟩) R s:=λq=>by
    refine kU PyProof.Rows.F.entry_set_update_loop ?_;rw[ti MI _];exact q
  intro m
  induction m with
  |zero=>
    intro i s e st x _ k;have:i=n:=by omega
    subst this;exact J (ag (W.done s _ _ st λh' tk O=>aw (k h' tk (λb o nb _ q=>O b o nb q) (x.keep (λb hb o q=>O b o (nB b hb).1 q) λo q=>O S o nW q))))
  |succ m ih=>
    intro i s e st x al k;refine J (ag (W.item i s _ _ .(0) st λv h1 tk pv r0 O=>?_));obtain rfl:=hv i v pv;have x1:SetP prog w B h1 S (metP val i):=x.keep (λb hb o q=>O b o (nB b hb).1 q) λo q=>O S o nW q;have Y:∀i,i<n->WZ prog w h1 (val i) (bs i):=λi U=>(al i U).keep λo q=>O _ o (nB _ (hB i U)).1 q;have hl:=YW val i;have y:=Y i .(0);refine ag (wpAny_holding (wpAny_holding (ag (HZ (s:={ s with heap:=h1,toks:=tk }) (show A.in1.units<bP from hu) y.2 ?_))));rw[uE y.1];refine ABZ (s:={ s with heap:=h1,toks:=tk+((kk (val i)).length+1) }) (w:=w) (show A.in1.units<bP from hu) x1 y (hB i .(0)) .(0) λb h2 sb x2=>aw ⟨qE MI _,?_⟩;rw[<-Qz] at x2;refine ih (i+1) { s with heap:=h2,toks:=tk+((kk (val i)).length+1) } .(0) (W.frame _ _ _ r0 λb m o q=>(sb.2 b λz=>nS (z▸m)).trans q) x2 (λi U=>(Y i U).keep λo q=>(sb.2 _ (nB _ (hB i U)).2).trans q) λh3 t3 S0 x3=>?_;exact k h3 t3 (λb o nb T q=>S0 b o nb T ((sb.2 b T).trans (O b o nb q))) x3
structure PrsAt (prog:cE) (w:cb) (T:String) (l:Addr) (n:Nat) (bs:Nat->Addr) (h0:Heap):Prop where
 ty:∀s:av,(∀o,h0.get? l=O0 o->s.heap.get? l=O0 o)->s.TypeIs (.ref l) T
 ns:BH (.type T) (.type "set")=pure ZA
 nf:BH (.type T) (.type "frozenset")=pure ZA
 nd:(ly T==ly "dict")=ZA
 lt:l<h0.objs.size
 it:∀(A:aT) (E:ac->av->Prop) (s:av) (Q:ac->av->Prop),A.handled=W1->(∀o,h0.get? l=O0 o->s.heap.get? l=O0 o)->l<s.heap.objs.size ->
  (∀(oI:Obj) (Sx:Nat->Heap->Prop) (P:Nat->ac->Prop),(∀A':aT,A'.handled=W1->oC prog w A' s.heap.objs.size [s.heap.objs.size,l] [s.heap.objs.size] n P Sx)->Sx 0 (s.heap.push oI)->(∀i v,P i v->v=.ref (bs i))->Q (.ref s.heap.objs.size) { s with heap:=s.heap.push oI }) ->
  ah (ai prog w) A (pE (.ref l)) Q E s
def Z1(h:Heap):SetP prog w B (h.push { cls:=.type "set",dict:=W1,data:=.set #[] 0 (.fresh 0 0 (!btx w)) }) h.objs.size []:=
 ⟨#[],_,[],⟨_,0,ci _ rfl,⟨rfl,rfl,rfl⟩,rfl⟩,⟨rfl,by simp,by simp,⟨rfl,by simp[FK,UY],rfl,by simp[FK],by simp,by simp⟩,.inl ⟨rfl,by simp⟩,λb=>by simp[FK,b],rfl⟩,by simp,by simp⟩
theorem uI{B:Addr->Prop}{T:String}{l:Addr}{val:Nat->ui}{bs:Nat->Addr}(hu:A.units+4<bP)(hh:A.handled=W1)(X:PrsAt prog w T l n bs s.heap)(al:∀i,i<n->WZ prog w s.heap (val i) (bs i))(O:n<=17)(hB:∀i,i<n->B (bs i))(Z:∀b,B b->b<s.heap.objs.size)(k:∀h' tk,SetP prog w B h' s.heap.objs.size (metP val n)->(∀b o,s.heap.get? b=O0 o->h'.get? b=O0 o)->Q (.ref s.heap.objs.size) { s with heap:=h',toks:=tk }):ah (ai prog w) A (call (.type "set") [.ref l]) Q E s:=by
 refine ABW (Q1:=λob U=>ob=.ref s.heap.objs.size/\U={ s with heap:=s.heap.push { cls:=.type "set",dict:=W1,data:=.set #[] 0 (.fresh 0 0 (!btx w)) } }) F.called_set (F.typeCall_set_1 _) (uC _ ⟨rfl,rfl⟩) λob U q0=>?_;obtain⟨e1,e2⟩:=q0;subst e1 e2;have ob:=ci s.heap (o:={ cls:=.type "set",dict:=W1,data:=.set #[] 0 (.fresh 0 0 (!btx w)) }) rfl;refine⟨⟨_,ob,rfl⟩,xh F.called_set.init.plain F.entry_set_init (check_set_init_1 ⟨_,ob,rfl⟩ ?_)⟩;have kl:∀o,s.heap.get? l=O0 o->(s.heap.push { cls:=.type "set",dict:=W1,data:=.set #[] 0 (.fresh 0 0 (!btx w)) }).get? l=O0 o:=λo q=>bo _ q;have ty:=X.ty { s with heap:=s.heap.push { cls:=.type "set",dict:=W1,data:=.set #[] 0 (.fresh 0 0 (!btx w)) } } kl;have U:=X.ns;have s2:=X.nf;have s3:=X.nd;unfold eC.«set.__init__» noKeywords Builtin.Frozenset.updateFrom;generalize hp:pE=PI
 wp_walk
 subst hp;refine X.it _ _ _ _ (by simp[hh]) kl (by rw[iE];exact ny X.lt) λoI Sx P W st hv=>?_;refine ag (C7 ?_);have J:(s.heap.push { cls:=.type "set",dict:=W1,data:=.set #[] 0 (.fresh 0 0 (!btx w)) }).objs.size=s.heap.objs.size+1:=iE _ _;have x0:SetP prog w B ((s.heap.push { cls:=.type "set",dict:=W1,data:=.set #[] 0 (.fresh 0 0 (!btx w)) }).push oI) s.heap.objs.size (metP val 0):=(Z1 s.heap).keep (λb _ o q=>bo _ q) λo q=>bo _ q;refine ABa (by simp;omega) (W _ (by simp[hh])) (S:=s.heap.objs.size) (λz=>?_) val bs hv hB (λb O=>⟨λz=>?_,bS (Z b O)⟩) O n 0 _ .(0) st x0 (λi hi=>(al i hi).keep λo q=>bo _ (bo _ q)) λh' tk kp x=>?_
 .rcases bX.mp z with z | z
  .rw[J] at z;exact QO z (bS (y9 _))
  .exact QO (ke.mp z) (pw X.lt)
 .have e:=ke.mp z;rw[J] at e;exact QO e (bS (ny (Z b O)))
 .show ah _ _ _ _ _ _;refine aw (show ah _ _ (ret eA) _ _ _ from aw ⟨rfl,k h' tk x λb o q=>?_⟩);have Y:b<s.heap.objs.size:=bE q;exact kp b o (λz=>by have e:=ke.mp z;rw[J] at e;exact QO e (bS (ny Y))) (bS Y) (bo _ (bo _ q))
end
end PV
namespace PV
open PySem PySem.W PyProof.Rows
section
variable {key:Nat->Nat}
def Ya(n:Nat)(I:Nat->Nat){J:Type}:KasT J->(J->Prop)->Prop
 |.ret a,Q=>Q a
 |.ask i j k,Q=>i<n/\j<n/\Ya n I (k (decide (I i<I j))) Q
theorem Ya.bind{I J:Type}{f:I->KasT J}{Q:J->Prop}{R:I->Prop}:∀{t:KasT I},Ya n key t R->(∀a,R a->Ya n key (f a) Q)->Ya n key (t.bind f) Q
 |.ret a,h,k=>k a h
 |.ask i j g,h,k=>⟨h.1,h.2.1,Ya.bind h.2.2 k⟩
theorem Ya.wp{I:Type}{cmp:Nat->Nat->(Bool->av->Prop)->av->Prop}{s:av}(O:∀i j C,i<n->j<n->C (decide (key i<key j)) s->cmp i j C s){Q:I->Prop}{R:I->av->Prop}(J:∀a,Q a->R a s):∀{t:KasT I},Ya n key t Q->t.kasWp cmp R s
 |.ret a,h=>J a h
 |.ask i j k,h=>O i j _ h.1 h.2.1 (Ya.wp O J h.2.2)
structure Od (n:Nat) (p:Array Nat):Prop where
 sz:p.size=n
 pm:p.toList.Perm (br n)
theorem Od.lt{p:Array Nat}(o:Od n p){i:Nat}(h:i<n):p.getD i 0<n:=by
 have I:i<p.size:=by rw[o.sz];exact h
 rw[show p.getD i 0=p[i] by simp[I]];have:p[i]∈p.toList:=by simp
 exact de.mp (o.pm.mem_iff.mp this)
theorem Od.inj{p:Array Nat}(o:Od n p){i j:Nat}(T:i<n)(S:j<n)(e:p.getD i 0=p.getD j 0):i=j:=by
 have I:i<p.size:=by rw[o.sz];exact T
 have J:j<p.size:=by rw[o.sz];exact S
 rw[show p.getD i 0=p[i] by simp[I],show p.getD j 0=p[j] by simp[J]] at e;have O:p.toList.Nodup:=o.pm.nodup_iff.mpr zD;refine (Fa (l:=p.toList) (by simpa using I) O).mp ?_;rw[dQ (by simpa using I),dQ (by simpa using J)];simpa using e
def Asc(I:Nat->Nat)(p:Array Nat)(m:Nat):Prop:=∀i j,i<j->j<m->I (p.getD i 0)<I (p.getD j 0)
def Dsc(I:Nat->Nat)(p:Array Nat)(m:Nat):Prop:=∀i j,i<j->j<m->I (p.getD j 0)<I (p.getD i 0)
variable (inj:∀i j,i<n->j<n->key i=key j->i=j)
include inj
theorem mV{p:Array Nat}(o:Od n p){i j:Nat}(J:i<n)(I:j<n)(h:i≠j):key (p.getD i 0)≠key (p.getD j 0):=λe=>h (o.inj J I (inj _ _ (o.lt J) (o.lt I) e))
theorem Z2{p:Array Nat}(o:Od n p):∀(f m:Nat),1<=m->m+f<=n->Asc key p m->Ya n key (kas_asc p f m) λr=>m<=r/\r<=m+f/\Asc key p r/\(r<m+f->key (p.getD r 0)<key (p.getD (r-1) 0))
 |0,m,T,S,a=>⟨aS _,aS _,a,λz=>QO z .(0)⟩
 |f+1,m,T,S,a=>by
  refine⟨o.lt .(0),o.lt .(0),?_⟩
  by_cases c:key (p.getD m 0)<key (p.getD (m-1) 0)
  .rw[SO c];dsimp only;rw[ZN rfl];exact⟨aS _,by omega,a,λ_=>c⟩
  .rw[RO c];dsimp only;rw[OO .(1)];have ne:=mV inj o (i:=m) (j:=m-1) .(0) .(0) .(0);have Y:Asc key p (m+1):=λi j I Z=>by
    by_cases e:j=m
    .subst e
     by_cases U:i=j-1
     .subst U;omega
     .have:=a i (j-1) .(0) .(0);omega
    .exact a i j I .(0)
   have:=Z2 o f (m+1) .(0) .(0) Y;have J:∀{t:KasT Nat},Ya n key t (λr=>m+1<=r/\r<=m+1+f/\Asc key p r/\(r<m+1+f->key (p.getD r 0)<key (p.getD (r-1) 0)))->Ya n key t λr=>m<=r/\r<=m+(f+1)/\Asc key p r/\(r<m+(f+1)->key (p.getD r 0)<key (p.getD (r-1) 0)):=λ{t}=>by
    induction t with
    |ret r=>exact λh=>⟨by have:=h.1;omega,by have:=h.2.1;omega,h.2.2.1,λz=>h.2.2.2 .(0)⟩
    |ask i j k O=>exact λh=>⟨h.1,h.2.1,O _ h.2.2⟩
   exact J this
theorem cD{p:Array Nat}(o:Od n p):∀(f m:Nat),1<=m->m+f<=n->Dsc key p m->Ya n key (kas_desc f p m 0) λr=>r.1=p/\r.2.2=0/\m<=r.2.1/\r.2.1<=m+f/\Dsc key p r.2.1
 |0,m,T,S,a=>⟨rfl,rfl,aS _,aS _,a⟩
 |f+1,m,T,S,a=>by
  refine⟨o.lt .(0),o.lt .(0),?_⟩;have ne:=mV inj o (i:=m) (j:=m-1) .(0) .(0) .(0)
  by_cases c:key (p.getD m 0)<key (p.getD (m-1) 0)
  .rw[SO c];dsimp only;rw[ZN rfl,OO .(0)];have Y:Dsc key p (m+1):=λi j I Z=>by
    by_cases e:j=m
    .subst e
     by_cases U:i=j-1
     .subst U;omega
     .have:=a i (j-1) .(0) .(0);omega
    .exact a i j I .(0)
   have:=cD o f (m+1) .(0) .(0) Y;have J:∀{t:KasT (Array Nat×Nat×Nat)},Ya n key t (λr=>r.1=p/\r.2.2=0/\m+1<=r.2.1/\r.2.1<=m+1+f/\Dsc key p r.2.1)->Ya n key t λr=>r.1=p/\r.2.2=0/\m<=r.2.1/\r.2.1<=m+(f+1)/\Dsc key p r.2.1:=λ{t}=>by
    induction t with
    |ret r=>exact λh=>⟨h.1,h.2.1,by have:=h.2.2.1;omega,by have:=h.2.2.2.1;omega,h.2.2.2.2⟩
    |ask i j k O=>exact λh=>⟨h.1,h.2.1,O _ h.2.2⟩
   exact J this
  .rw[RO c];dsimp only;rw[OO .(1)];refine⟨o.lt .(0),o.lt .(0),?_⟩;rw[SO (show key (p.getD (m-1) 0)<key (p.getD m 0) by omega)];dsimp only;rw[ZN rfl];exact⟨rfl,rfl,aS _,Nat.le_add_right m (f+1),a⟩
omit inj
theorem Od.rev{p:Array Nat}(o:Od n p)(m:Nat):Od n (Ap p 0 m):=⟨(mirror_size _ _ _ _).trans o.sz,(ML.mp (mirror_perm p 0 m _)).trans o.pm⟩
theorem mW{p:Array Nat}(I:m<=p.size){k:Nat}(J:k<m):(Ap p 0 m).getD k 0=p.getD (m-1-k) 0:=by
 have e:=getElem?_mirror (xs:=p) (i:=0) (j:=m) I ((m-0)/2) .(0) k;have:(Ap p 0 m)[k]?=p[m-1-k]?:=by
  unfold Ap;rw[e];split
  .congr 1;omega
  .congr 1;omega
 simp only[MM,this]
include inj
theorem mX{p:Array Nat}(o:Od n p)(m:Nat)(h1:1<=m)(J:m<=n)(d:Dsc key p m):Ya n key (kas_tail3 m n p) λr=>Od n r.2/\1<=r.1/\r.1<=n/\Asc key r.2 r.1:=by
 have I:=o.rev m;have a:Asc key (Ap p 0 m) m:=λi j T S=>by
  rw[mW (by rw[o.sz];exact J) (by omega:i<m),mW (by rw[o.sz];exact J) S];exact d _ _ .(0) .(0)
 unfold kas_tail3;exact Ya.bind (Z2 inj I (n-m) m h1 .(0) a) λr O=>⟨I,by omega,by omega,O.2.2.1⟩
theorem mY(h1:1<=n){p:Array Nat}(o:Od n p):Ya n key (kas_count n p) λr=>Od n r.2/\1<=r.1/\r.1<=n/\Asc key r.2 r.1:=by
 unfold kas_count;refine Ya.bind (Z2 inj o (n-1) 1 (aS _) .(0) λi j I hj=>by omega) λm hm=>?_;obtain⟨J,m2,a,Y⟩:=hm
 by_cases c:(m==n)=E3
 .rw[ZN c];exact⟨o,J,by omega,a⟩
 .rw[OO c];have c':m≠n:=by simpa using c
  by_cases O:m > 1
  .rw[ZN O];refine⟨o.lt .(0),o.lt .(0),?_⟩;rw[SO (a 0 (m-1) .(0) .(0))];dsimp only;rw[ZN rfl];exact⟨o,J,by omega,a⟩
  .rw[OO O];have e1:m=1:=by omega
   subst e1;have Z:=Y .(0);unfold kas_descPart;have d:Dsc key p 2:=λi j I hj=>by
    have:i=0:=by omega
    have:j=1:=by omega
    subst i j;exact Z
   refine Ya.bind (cD inj o (n-(1+1)) (1+1) .(0) .(0) d) λr hr=>?_;obtain⟨U,T,r3,r4,S⟩:=hr;rw[T,OO .(0),U];exact mX inj o r.2.1 .(0) .(0) S
omit inj
theorem T9{p:Array Nat}(o:Od n p){k:Nat}(S:k<n)(a:Asc key p k):∀(f l r:Nat),r-l<=f->l<=r->r<=k->(∀i,i<l->¬ key (p.getD k 0)<key (p.getD i 0))->(∀i,r<=i->i<k->key (p.getD k 0)<key (p.getD i 0))->Ya n key (kas_place p k f l r) λx=>x<=k/\(∀i,i<x->¬ key (p.getD k 0)<key (p.getD i 0))/\(∀i,x<=i->i<k->key (p.getD k 0)<key (p.getD i 0))
 |0,l,r,Y,Z,U,O,J=>⟨by omega,O,λi T I=>J i .(0) I⟩
 |f+1,l,r,Y,Z,U,O,J=>by
  unfold kas_place
  by_cases c:l≥r
  .rw[ZN c];exact⟨by omega,O,λi T I=>J i .(0) I⟩
  .rw[OO c];refine⟨o.lt S,o.lt .(0),?_⟩
   by_cases d:key (p.getD k 0)<key (p.getD ((l+r)/2) 0)
   .rw[SO d];dsimp only;rw[ZN rfl];refine T9 o S a f l ((l+r)/2) .(0) .(0) .(0) O λi T I=>?_
    by_cases e:i=(l+r)/2
    .subst e;exact d
    .have:=a ((l+r)/2) i .(0) I;omega
   .rw[RO d];dsimp only;rw[OO .(1)];refine T9 o S a f ((l+r)/2+1) r .(0) .(0) U (λi T=>?_) J
    by_cases e:i=(l+r)/2
    .subst e;exact d
    .have:=a i ((l+r)/2) .(0) .(0);omega
include inj
theorem mZ:∀(f:Nat) {p:Array Nat}{k:Nat},Od n p->k+f=n->Asc key p k->Ya n key (kas_bin f p k) λq=>Od n q/\Asc key q n
 |0,p,k,o,e,a=>⟨o,by rw[<-e];exact a⟩
 |f+1,p,k,o,e,a=>by
  unfold kas_bin;refine Ya.bind (T9 o .(0) a k 0 k .(0) .(0) (aS _) (λi hi=>by omega) λi h1 h2=>by omega) λl hl=>?_;obtain⟨l1,l2,Z⟩:=hl;have hs:k<p.size:=by rw[o.sz];omega
  have Y:Od n (bubble p k (k-l)):=⟨(bubble_size _ _ _).trans o.sz,(ML.mp (bubble_perm p k _)).trans o.pm⟩;have J:∀i,(bubble p k (k-l)).getD i 0=if i=l then p.getD k 0 else if l<i/\i<=k then p.getD (i-1) 0 else p.getD i 0:=λi=>by
   have e:=getElem?_bubble hs (k-l) .(0) i;rw[show k-(k-l)=l by omega] at e;simp only[MM,e];split
   .rfl
   .split<;>rfl
  refine mZ f Y .(0) λi j r0 hj=>?_;rw[J i,J j];have I:∀x,x<k->key (p.getD k 0)≠key (p.getD x 0):=λx hx=>mV inj o .(0) .(0) .(0)
  by_cases U:i=l
  .rw[ZN U,OO .(0),ZN .(0)];exact Z (j-1) .(0) .(0)
  .rw[OO U]
   by_cases T:j=l
   .rw[ZN T,OO .(0)];have:=l2 i .(0);have:=I i .(0);omega
   .rw[OO T]
    by_cases S:l<i/\i<=k
    .rw[ZN S,ZN .(0)];exact a _ _ .(0) .(0)
    .rw[OO S]
     by_cases O:l<j/\j<=k
     .rw[ZN O]
      by_cases e2:i=j-1
      .omega
      .exact a _ _ .(0) .(0)
     .rw[OO O];exact a _ _ .(0) .(0)
theorem uJ(h1:1<=n):Ya n key (kas_sort n) λq=>Od n q/\Asc key q n:=by
 have o:Od n (MO (br n)):=⟨by simp,by simp⟩;unfold kas_sort;refine Ya.bind (mY inj h1 o) λr O=>?_;obtain⟨J,T,S,I⟩:=O
 by_cases c:r.1<n
 .rw[ZN c,show max r.1 1=r.1 by omega];exact mZ inj (n-r.1) J .(0) I
 .rw[OO c];have:r.1=n:=by omega
  exact⟨J,this▸I⟩
end
open PySem.Spec L2
def VU(p:ui):Nat:=5*p.1+p.2
section
variable {A:aT}
theorem WZ.items{p:ui}(x:WZ prog w h p b):∃o n t u,h.get? b=O0 o/\o.cls=.type "tuple"/\o.data=.seq #[.int (p.1:Int) t,.int (p.2:Int) u] n:=by
 obtain⟨_,o,S,n,g,c,d,i⟩:=x;unfold kk at i;generalize e:S.toList=l at i;cases i with
 | @cons _ v1 _ O Y i=>
  cases i with
  | @cons _ v2 _ J U i=>
   cases i;have f:∀{k:Int}{v:ac},(BJ prog w).is (.inl k) v=E3->∃t,v=.int k t:=λ{k v} T=>by
    rcases CG (show RQ (.inl k) v=E3 from T) with ⟨j,t,I,Z⟩ | ⟨y,t,I,_⟩
    .have:=xE I;subst this;exact⟨t,Z⟩
    .cases I
   obtain⟨t,rfl⟩:=f Y;obtain⟨u,rfl⟩:=f U;refine⟨o,n,t,u,g,c,?_⟩;rw[d];congr 1;exact ES.mp e
def ABb{p q:ui}{c:Addr}{Q:Bool->av->Prop}(x:WZ prog w s.heap p b)(y:WZ prog w s.heap q c)(k:Q (decide (VU p<VU q)) s):ah (ai prog w) A (keyLt' (tuples' E3) (.ref b) (.ref c)) Q E s:=by
 have J:=x.1;have Z:=y.1;obtain⟨o,n,t,u,g,_,d⟩:=x.items;obtain⟨o2,n2,O,u2,S,_,d2⟩:=y.items;obtain⟨U,T⟩:=p;obtain⟨q1,q2⟩:=q;obtain⟨h1,h2⟩:U<5/\T<5:=J;obtain⟨h3,h4⟩:q1<5/\q2<5:=Z;unfold VU at k;simp only at k;refine kat_lt g d S d2 ?_;show KatLex _ _ _ _ _ _ [(.int (U:Int) t,.int (q1:Int) O),(.int (T:Int) u,.int (q2:Int) u2)] 0 s;refine kat_cons (D0 (kat_go (λe=>?_) λe=>?_))
 .have Y:U=q1:=by have:=eq_of_beq e;omega
  refine kat_yes (kat_cons (D0 (kat_go (λI=>?_) λI=>?_)))
  .have e3:T=q2:=by have:=eq_of_beq I;omega
   refine kat_yes (kat_nil ?_);rw[RO .(0)] at k;exact k
  .refine kat_no (kat_one _ _ (PyProof.Rows.lt_int ?_));show Q (decide ((T:Int)<(q2:Int))) s;rw[show decide ((T:Int)<(q2:Int))=decide (5*U+T<5*q1+q2) by rw[decide_eq_decide];omega];exact k
 .have Y:U≠q1:=λz=>by rw[z] at e;simp at e
  refine kat_no (oneLt_int ?_);rw[show decide ((U:Int)<(q1:Int))=decide (5*U+T<5*q1+q2) by rw[decide_eq_decide];omega];exact k
theorem mj{h:Heap}:∀{qs:List (ui×Addr)},(∀x∈qs,WZ prog w h x.1 x.2)->∃fs:List ac,KatTups h (qs.map λx=>.ref x.2) fs/\fs.length=qs.length/\∀v∈fs,∃i t,v=nV i t
 |[],_=>⟨[],KatTups.nil,rfl,by simp⟩
 |x::r,J=>by
  obtain⟨fs,a,b,c⟩:=mj (qs:=r) λy O=>J y (by simp[O]);obtain⟨o,n,t,u,g,S,d⟩:=(J x .(1)).items;refine⟨.int (x.1.1:Int) t::fs,KatTups.cons g S d rfl a,by simp[b],λv I=>?_⟩
  rcases bX.mp I with rfl | I
  .exact⟨_,_,rfl⟩
  .exact c v I
def cF{p q:ui}(a:Xs p)(b:Xs q)(e:VU p=VU q):p=q:=by
 obtain⟨U,T⟩:=p;obtain⟨q1,q2⟩:=q;obtain⟨O,J⟩:U<5/\T<5:=a;obtain⟨S,I⟩:q1<5/\q2<5:=b;unfold VU at e;simp only at e;have:U=q1:=by omega
 have:T=q2:=by omega
 rw[‹U=q1›,‹T=q2›]
theorem cG{I:Type}:∀l:List I,(l.zip l).map (·.2)=l
 |[]=>rfl
 |x::r=>by rw[AI,bn,cG r]
theorem T_{qs:List (ui×Addr)}{P:Fin->av->Prop}(ho:s.heap.get? a=O0 (seqObj "list" (qs.map λx=>bg x.2).toArray n))(U:∀x∈qs,WZ prog w s.heap x.1 x.2)(nd:(qs.map (·.1)).Nodup)(Y2:qs.length<64)(k:∀r0:List (ui×Addr),r0.Perm qs->(r0.map λx=>VU x.1).Pairwise (·<·)->P (.done (.ret .none)) { s with heap:=sortedHeap s.heap a (qs.map λx=>bg x.2) (r0.map λx=>bg x.2).toArray }):
  ah (ai prog w) A (eC.«list.sort» ⟨[.ref a],[]⟩) P E s:=by
 generalize Y:(qs.map λx=>bg x.2)=vs at ho k;have lv:vs.length=qs.length:=by rw[<-Y,aI]
 rw[list_sort_plain];have ha:a<s.heap.objs.size:=bE ho;refine ag (listItems_at ho rfl ?_);refine ag (FL ho rfl ?_ (by rw[cS,hV];omega) (gL _));obtain⟨e1,U1⟩:∃e1,(s.heap.update a (kS λ_=>#[])).get? a=O0 (seqObj "list" #[] e1):=⟨_,get?_update_seq ho (λ_=>#[])⟩;refine ag (FR U1 rfl ?_);refine ag (wpAny_newTuple ?_ (by show vs.length<=_;rw[hV];omega));refine ag (xi ?_ (gL _));refine wpAny_holding ?_;generalize hg:((s.heap.update a (kS λ_=>#[])).push (seqObj "tuple" vs.toArray 0)).push (seqObj "list" #[] 0)=g6;have Z:g6.get? a=O0 (seqObj "list" #[] e1):=by
  rw[<-hg];exact bo _ (bo _ U1)
 have J:∀x∈qs,WZ prog w g6 x.1 x.2:=λx hx=>(U x hx).keep λo g=>by
  rw[<-hg];have ne:x.2≠a:=λz=>by
   obtain⟨o2,_,_,_,g2,c2,_⟩:=(U x hx).items;rw[z] at g2;cases g2.symm.trans ho;have c3:ly "list"=ly "tuple":=c2;injection c3 with c3
   exact QO c3 .(2)
  exact bo _ (bo _ ((ka _ _ (cf ne)).trans g))
 have hG:sortedHeap s.heap a vs=λP1=>g6.update a (kS λ_=>P1):=by funext P1;rw[<-hg];rfl
 dsimp only
 by_cases h2:vs.toArray.size<2
 .rw[ZN h2,ZN h2];refine ag (aw ?_);rw[StateT.run_pure];refine ag (aw ?_);dsimp only;refine ag (FR Z rfl ?_);refine ag (FL Z rfl ?_ (hsz2:=by rw[Array.size_map];show (pairsOf vs).size<=_;rw[PyProof.Rows.pairsOf_size,hV];omega));simp only[bne_self_eq_false,ff,YO];refine aw ?_;have:=k qs (A8 _) (by
   rw[cS,lv] at h2
   match qs,h2 with
   |[],_=>exact BG
   |[x],_=>exact List.pairwise_singleton _ _)
  rw[Y,hG] at this;have ez:(arrOf (MQ general' (vs.toArray.zip vs.toArray) #[] 7 W1)).map (·.2)=vs.toArray:=by
   show (vs.toArray.zip vs.toArray).map (·.2)=vs.toArray;apply ES.mp;simp[cG]
  rw[show (vs.toArray.zip vs.toArray)=pairsOf vs from rfl] at ez;show P _ { s with heap:=g6.update a (kS λ_=>(arrOf (MQ general' (pairsOf vs) #[] 7 W1)).map (·.2)) };rw[ez];exact this
 .rw[OO h2,OO h2];have l2:2<=vs.length:=by rw[cS] at h2;omega
  obtain⟨fs,t1,t2,t3⟩:=mj J;rw[Y] at t1;refine ag (kat_kind (s:={ s with heap:=g6 }) (T:=ly "int") t1 (by rw[t2,<-lv];omega) (λv hv=>?_) .(2) ?_)
  .obtain⟨i,t,rfl⟩:=t3 v hv;exact .now
  show ah (ai prog w) A _ P E { s with heap:=g6 };rw[show (ly "int" != ly "tuple")=E3 by decide];have S0:∀i (h:i<qs.length),vs.getD i eA=.ref qs[i].2:=λi h=>by
   rw[<-Y];simp[h]
  have inj:∀i j,i<vs.length->j<vs.length->(λi=>VU (qs.getD i ((0,0),0)).1) i=(λi=>VU (qs.getD i ((0,0),0)).1) j->i=j:=λi j I O e=>by
   rw[lv] at I O;simp only[show qs.getD i ((0,0),0)=qs[i] by simp[I],show qs.getD j ((0,0),0)=qs[j] by simp[O]] at e;have e2:=cF (U _ (gX I)).1 (U _ (gX O)).1 e;refine (Fa (l:=qs.map (·.1)) (by simpa using I) nd).mp ?_;rw[db,db,dQ I,dQ O];exact UO O0 e2
  have Q2:=Ya.wp (cmp:=kas_ask prog w A (tuples' E3) vs) (s:={ s with heap:=g6 }) (λi j C I O hC=>by
   rw[lv] at I O;unfold kas_ask;rw[S0 i I,S0 j O];refine ABb (J _ (gX I)) (J _ (gX O)) ?_;simp only[show qs.getD i ((0,0),0)=qs[i] by simp[I],show qs.getD j ((0,0),0)=qs[j] by simp[O]] at hC;exact hC) (Q:=λq=>Od vs.length q/\Asc (λi=>VU (qs.getD i ((0,0),0)).1) q vs.length) (R:=λq z=>z={ s with heap:=g6 }/\Od vs.length q/\Asc (λi=>VU (qs.getD i ((0,0),0)).1) q vs.length) (λq hq=>⟨rfl,hq⟩) (uJ inj .(0))
  refine ag (gE (kat_run (Q:=λS z=>z={ s with heap:=g6 }/\∃p:Array Nat,arrOf S=p.map (kas_item (vs.toArray.zip vs.toArray))/\failedOf S=W1/\Od vs.length p/\Asc (λi=>VU (qs.getD i ((0,0),0)).1) p vs.length) rfl l2 .(0) (λp S z a1 a2 a3 a4=>⟨a4.1,p,a2,a3,a4.2.1,a4.2.2⟩) Q2) ?_ λ_ _ e=>e);rintro⟨⟨⟩,S⟩ z ⟨rfl,p,U2,hf,od,X2⟩;dsimp only;have S1:=kat_snds (ks:=vs) (vs:=vs) rfl U2;have oq:(MO (p.toList.map λi=>vs.getD i eA))=((p.toList.map λi=>qs.getD i ((0,0),0)).map λx=>bg x.2).toArray:=by
   rw[cp];congr 1;refine tf λi I=>?_;have I:=de.mp (od.pm.mem_iff.mp I);rw[lv] at I;rw[S0 i I];simp[I]
  rw[S1,oq];have X0:(p.toList.map λi=>qs.getD i ((0,0),0)).Perm qs:=by
   have e:(br vs.length).map (λi=>qs.getD i ((0,0),0))=qs:=by
    apply Md
    .simp[lv]
    .intro i h1 h2;simp[h2]
   have:=od.pm.map λi=>qs.getD i ((0,0),0)
   rwa [e] at this
  have Y1:((p.toList.map λi=>qs.getD i ((0,0),0)).map λx=>VU x.1).Pairwise (·<·):=by
   rw[cp,iO,xa];intro i j I O S2;have T2:i<p.size:=by simpa using I
   have X1:j<p.size:=by simpa using O
   have:=X2 i j S2 (by rw[<-od.sz];exact X1);rw[show p.getD i 0=p[i] by simp[T2],show p.getD j 0=p[j] by simp[X1]] at this;simpa using this
  refine ag (FR Z rfl ?_);refine ag (FL Z rfl ?_ (hsz2:=by
   rw[cS,aI,X0.length_eq,hV];omega))
  rw[hf];simp only[bne_self_eq_false,ff,YO];have:=k _ X0 Y1;rw[hG] at this;exact aw this
end
theorem NZ:MR "set_iterator" "__next__" "set_iterator.__next__":=
 .of (owner:="set_iterator") (n:="__next__") (by rw[typeLookup_type,MS];kernel_rfl) (by decide +kernel) (by decide +kernel) (by decide +kernel) (by first | exact .inl (by decide +kernel) | exact .inr (by decide +kernel)) (by rw[qS];kernel_rfl)
def YX:zi table "set_iterator.__next__"=O0 eC.«set_iterator.__next__»:=entryFor_of_tree (by kernel_rfl)
def mq:Manifest.owners.lookup (String.ofList ['r','o','t','a','r','e','t','i','_','t','e','s'].reverse)=O0 Manifest.sig_set_iterator:=by kernel_rfl
theorem cH(a:ac):oB "set_iterator.__next__" ⟨[a],[]⟩:=by
 unfold oB;rw[signature?_of (id:="set_iterator.__next__") (n:=['_','_','t','x','e','n','_','_']) (o:=['r','o','t','a','r','e','t','i','_','t','e','s']) (by kernel_rfl) mq]
 kernel_rfl
section
variable {A:aT}{I T:Addr}{first:ac}{t:SetTable}
def ItX(h:Heap)(I q:Addr)(first:ac)(j n ep:Nat):Prop:=∃o,h.get? I=O0 o/\o.cls=.type "set_iterator"/\o.data=.fields #[first,.int j 0,.ref q,.int n 0,.int ep 0]
def Ly(h:Heap)(q:Addr)(es:Array (Int×ac))(ep:Nat)(t:SetTable):Prop:=∃o,h.get? q=O0 o/\o.ExactSet/\o.data=.set es ep t
theorem ItX.ty(x:ItX s.heap I q first j n ep):s.TypeIs (.ref I) "set_iterator":=let ⟨o,g,c,_⟩:=x;⟨o,g,c⟩
def ItX.put0(x:ItX h I q first j n ep)(J:ac):ItX (h.update I (sR (·.setIfInBounds 0 J))) I q J j n ep:=by
 obtain⟨o,g,c,d⟩:=x;exact⟨_,mI _ g (B4 (sT d _)),(B5 ..).trans c,by rw[sT d];simp⟩
def ItX.put1(x:ItX h I q first j n ep):ItX (h.update I (sR (·.setIfInBounds 1 (dL ((j:Int)+1))))) I q first (j+1) n ep:=by
 obtain⟨o,g,c,d⟩:=x;exact⟨_,mI _ g (B4 (sT d _)),(B5 ..).trans c,by rw[sT d];simp[dL]⟩
def Wt{a:Addr}(z:s.heap=h)(x:ItX h I q first j n ep){i:Nat}(J:i<5){v:ac}{Q:Unit->av->Prop}(k:Q () { s with heap:=h.update I (sR (·.setIfInBounds i v)) }):ah (ai prog w) A (B6 (.ref I) i v) Q E s:=by
 subst z;obtain⟨o,g,_,d⟩:=x;exact om g d (by simpa using J) k
theorem uK{sl:Int}{v:ac}{Y:Nat}{Q:Option ac->av->Prop}(x:ItX s.heap I q (.int sl 0) j n ep)(y:Ly s.heap q es ep t)(S:t.fits es.size=E3)(O:es.size=n)(J:∀(B:aT) (E2:ac->av->Prop) (R:Option (ac×Nat)->av->Prop),R (O0 (v,Y)) s->ah (ai prog w) B (rb q sl.toNat j ep) R E2 s)(k:∀h',g9 I s.heap h'->ItX h' I q (.int Y 0) (j+1) n ep->Q (O0 v) { s with heap:=h' }):ah (ai prog w) A (hU (.ref I)) Q E s:=by
 obtain⟨o,g,c,d⟩:=id x;obtain⟨oq,U,_,Z⟩:=y;unfold hU;refine ag (As (sA (name:=eJ "__next__") x.ty NZ (ja NZ x.ty YX ?_ (cH _))));unfold eC.«set_iterator.__next__»;refine ag (aw (ag (wpAny_fieldsOf g d ?_)));dsimp only;refine ag (FU U Z S ?_);rw[OO (by rw[O];simp),ip,ip];refine ag (J _ _ _ ?_);refine ag (Wt (a:=I) rfl x .(2) (ag (Wt (a:=I) rfl (x.put0 (dL Y)) .(2) (aw ⟨v,rfl,aw ?_⟩))));exact k _ ((A7 ..).trans (A7 ..)) (x.put0 (dL Y)).put1
theorem uL{Q:Option ac->av->Prop}{z:av}(S:A.handled=W1)(k:∀h',(∀b o,z.heap.get? b=O0 o->h'.get? b=O0 o)->Q W1 { z with heap:=h' }):
  ah (ai prog w) A.in1 (newExc (.type "StopIteration") [] >>= λe=>(raiseNew e:Sem Fin)) (λO s'=>∃v,O=Fin.done (Flow.ret v)/\ah (ai prog w) A (pure (O0 v)) Q E s')
   (λe s'=>ah (ai prog w) A (oS e (.type "StopIteration") >>= λb=>if b=E3 then pure W1 else throw e) Q E s') z:=by
 refine ag ?_;simp only[newExc,Au];refine ag (iF ?_ (by size_fits));refine ag (m:=C8 _ _) (BB (a:=eA) (by first | rfl | (simp only[C8];rfl)) (iF ?_ (by size_fits)));unfold raiseNew;refine ag (wpAny_handled ?_);rw[show A.in1.handled=W1 from S];refine ag (aw (wpAny_throw ?_));have ty:∀(J:Heap) (ob:Obj),ob.cls=.type "StopIteration"->ob.isFreed=ZA->Shared.TypeIs { z with heap:=J.push ob } (.ref J.objs.size) "StopIteration":=λJ ob c f=>⟨ob,ci _ f,c⟩;refine ag (vc (T:="StopIteration") (b:=E3) (ty _ _ rfl rfl) isSubtype_stop ?_);refine aw (k _ λb o e=>?_);exact bo _ (bo _ e)
theorem uM{sl:Int}{Q:Option ac->av->Prop}(Y:A.handled=W1)(x:ItX s.heap I q (.int sl 0) j n ep)(y:Ly s.heap q es ep t)(Z:t.fits es.size=E3)(U:es.size=n)(S:∀(B:aT) (E2:ac->av->Prop) (R:Option (ac×Nat)->av->Prop),R W1 s->ah (ai prog w) B (rb q sl.toNat j ep) R E2 s)(k:∀h',(∀b o,b≠I->s.heap.get? b=O0 o->h'.get? b=O0 o)->Q W1 { s with heap:=h' }):ah (ai prog w) A (hU (.ref I)) Q E s:=by
 obtain⟨o,g,c,d⟩:=id x;obtain⟨oq,gq,_,dq⟩:=y;unfold hU;refine ag (As (sA (name:=eJ "__next__") x.ty NZ (ja NZ x.ty YX ?_ (cH _))));unfold eC.«set_iterator.__next__»;refine ag (aw (ag (wpAny_fieldsOf g d ?_)));dsimp only;refine ag (FU gq dq Z ?_);rw[OO (by rw[U];simp),ip,ip];refine ag (S _ _ _ (ag (Wt (a:=I) rfl x .(2) (uL Y λh' O=>k h' λb o J e=>O b o ?_))));exact (ka _ _ (cf J)).trans e
end
def Ko(a:Str):ltS a a=ZA:=by
 unfold ltS;exact RO (List.lt_irrefl _)
def Q0{a b:Str}(h1:ltS a b=E3)(I:ltS b c=E3):ltS a c=E3:=by
 unfold ltS at *;exact SO (List.lt_trans (VO h1) (VO I))
def cI{a b:Str}(h1:ltS a b=ZA)(O:a≠b):ltS b a=E3:=by
 unfold ltS at *;have I:=of_decide_eq_false h1;have S:b.cps.toList<=a.cps.toList:=MU.mp I
 rcases Decidable.em (b.cps.toList<a.cps.toList) with h | h
 .exact SO h
 .exfalso;have J:a.cps.toList<=b.cps.toList:=MU.mp h;have e:a.cps.toList=b.cps.toList:=List.le_antisymm J S;apply O;cases a;cases b;simp at e;rw[e]
def Up(l:List Str):Prop:=l.Pairwise λa b=>ltS a b=E3
theorem UG(x y:Str):∀l:List Str,y∈insS x l↔y=x∨y∈l
 |[]=>by simp[insS]
 |z::r=>by
  unfold insS;split
  .simp
  .split
   .rename_i _ e;subst e;simp
   .simp[UG x y r];constructor
    .rintro (h | h | h)
     .exact .inr (.inl h)
     .exact .inl h
     .exact .inr (.inr h)
    .rintro (h | h | h)
     .exact .inr (.inl h)
     .exact .inl h
     .exact .inr (.inr h)
theorem cJ(x:Str):∀{l:List Str},Up l->Up (insS x l)
 |[],_=>by simp[insS,Up]
 |z::r,h=>by
  obtain⟨S,U⟩:=lj.mp h;unfold insS;split
  .rename_i J;exact lj.mpr ⟨λy I=>by
    rcases bX.mp I with rfl | I
    .exact J
    .exact Q0 J (S y I),h⟩
  .rename_i T;split
   .exact h
   .rename_i O;refine lj.mpr ⟨λy I=>?_,cJ x U⟩
    rcases (UG x y r).mp I with rfl | I
    .exact cI (by simpa using T) O
    .exact S y I
def Lz(l:List Str):Up (Fq l):=by
 unfold Fq
 induction l with
 |nil=>exact BG
 |cons x r I=>exact cJ x I
def Iw(y:Str)(l:List Str):y∈Fq l↔y∈l:=by
 unfold Fq
 induction l with
 |nil=>simp
 |cons x r I=>rw[C9,UG,I];simp
def YZ{l:List Str}(h:Up l):l.Nodup:=h.imp λ{a b} O e=>by
 subst e;rw[Ko] at O;cases O
theorem Zp:∀{l m:List Str},l.Nodup->(∀x∈l,x∈m)->l.length<=m.length
 |[],_,_,_=>gL _
 |x::r,m,h,hs=>by
  obtain⟨S,O⟩:=mo.mp h;have J:x∈m:=hs x eD;have:=Zp (l:=r) (m:=m.erase x) O λy I=>(BM (λe=>by subst e;exact S I)).mpr (hs y (da _ I));rw[BN J] at this;have T:0<m.length:=BO J;simp;omega
theorem Z3:∀{l m:List Str},Up l->Up m->(∀x,x∈l↔x∈m)->l=m
 |[],[],_,_,_=>rfl
 |[],y::s,_,_,h=>by have:=(h y).mpr eD;simp at this
 |x::r,[],_,_,h=>by have:=(h x).mp eD;simp at this
 |x::r,y::s,U,T,h=>by
  obtain⟨J,Y⟩:=lj.mp U;obtain⟨b1,b2⟩:=lj.mp T;have e:x=y:=by
   rcases bX.mp ((h x).mp eD) with e | O
   .exact e
   .rcases bX.mp ((h y).mpr eD) with e | I
    .exact e.symm
    .have:=Q0 (J y I) (b1 x O);rw[Ko] at this;cases this
  subst e;have:r=s:=Z3 Y b2 λz=>by
   constructor
   .intro S
    rcases bX.mp ((h z).mp (da _ S)) with e | q
    .subst e;have:=J z S;rw[Ko] at this;cases this
    .exact q
   .intro S
    rcases bX.mp ((h z).mpr (da _ S)) with e | q
    .subst e;have:=b1 z S;rw[Ko] at this;cases this
    .exact q
  rw[this]
theorem cL:MR "set_iterator" "__iter__" "set_iterator.__iter__":=
 .of (owner:="set_iterator") (n:="__iter__") (by rw[typeLookup_type,MS];kernel_rfl) (by decide +kernel) (by decide +kernel) (by decide +kernel) (by first | exact .inl (by decide +kernel) | exact .inr (by decide +kernel)) (by rw[qS];kernel_rfl)
def my:zi table "set_iterator.__iter__"=O0 eC.«dict_keyiterator.__iter__»:=entryFor_alias (id':="dict_keyiterator.__iter__") (by kernel_rfl) rfl (by decide +kernel) (by kernel_rfl)
theorem uN(a:ac):oB "set_iterator.__iter__" ⟨[a],[]⟩:=by
 unfold oB;rw[signature?_of (id:="set_iterator.__iter__") (n:=['_','_','r','e','t','i','_','_']) (o:=['r','o','t','a','r','e','t','i','_','t','e','s']) (by kernel_rfl) mq]
 kernel_rfl
def Wu:zi table "set.__iter__"=O0 eC.«frozenset.__iter__»:=entryFor_alias (id':="frozenset.__iter__") (by kernel_rfl) rfl (by decide +kernel) (by kernel_rfl)
section
variable {A:aT}{I T:Addr}{first:ac}{t:SetTable}
theorem JK{J:Type}:∀{l:List J}{i:Nat}(h:i<l.length),(l[i]::l.eraseIdx i).Perm l
 |x::r,0,_=>A8 _
 |x::r,i+1,h=>(MG x (r[i]'(by simpa using h)) _).trans (C6 x (JK (by simpa using h)))
def mz{J:Source}{Q:Nat->av->Prop}(O:n≠0)(k:∀i d,i<n->Q i { s with drawn:=d }):ah M A (choose J n) Q E s:=λS p _=>by
 show Sem.wp M S (.choose J n .pure) _ _ p s;rw[Sem.wp_choose];exact⟨O,k _ _ (C0 _ (MB O))⟩
theorem UJ{J:Type}{M:Model}:∀(m:Nat) (xs:List J) (s:av) {Q:List J->av->Prop},xs.length=m->(∀ys d,ys.Perm xs->Q ys { s with drawn:=d })->ah M A (drawOrder m xs) Q E s
 |0,xs,s,Q,Z,k=>by
  have:xs=[]:=qv.mp Z;subst this;exact aw (k [] s.drawn (A8 _))
 |m+1,[],s,Q,Z,k=>by simp at Z
 |m+1,x::r,s,Q,Z,k=>by
  show ah M A (choose .order (x::r).length >>= _) Q E s;refine ag (mz .(1) λi d O=>?_);have U:(x::r)[i]?=O0 (x::r)[i]:=by simp
  simp only[U];refine ag (UJ m ((x::r).eraseIdx i) _ (by rw[MV,ZN O];simp at Z ⊢;omega) λys Y S=>aw (k _ Y ?_));exact (C6 _ S).trans (JK O)
def Vi{O:Type}(f:Nat->Nat)(xs:Array O):(rc f xs).toList.Perm xs.toList:=by
 have go:∀(m k:Nat) (l:List O) (J:Array O),l.length=m->(FV f m k l J).toList.Perm (J.toList++l):=by
  intro m
  induction m with
  |zero=>intro k l J Z;have:l=[]:=qv.mp Z;subst this;simp[FV]
  |succ m U=>
   intro k l J Z;have S:f k%l.length<l.length:=C0 _ .(0);have Y:l[f k%l.length]?=O0 l[f k%l.length]:=by simp[S]
   unfold FV;simp only[Y];refine (U _ _ _ (by rw[MV,ZN S];omega)).trans ?_;rw[Array.toList_push,Bz];exact List.Perm.append_left _ (JK S)
 have:=go xs.size 0 xs.toList #[] .(1);simpa [rc] using this
theorem Ly.keep(y:Ly h q es ep t)(e:∀o,h.get? q=O0 o->h'.get? q=O0 o):Ly h' q es ep t:=let ⟨o,g,r⟩:=y;⟨o,e o g,r⟩
theorem ItX.keep(x:ItX h I q first j n ep)(e:∀o,h.get? I=O0 o->h'.get? I=O0 o):ItX h' I q first j n ep:=let ⟨o,g,r⟩:=x;⟨o,e o g,r⟩
def uO(x:ItX s.heap I q first j n ep)(k:Q (.ref I) s):ah (ai prog w) A (pE (.ref I)) Q E s:=by
 refine MX x.ty cL (ja cL x.ty my ?_ (uN _));show ah _ _ (ret (.ref I)) _ _ s;exact aw ⟨_,rfl,"set_iterator",_,x.ty,NZ.lookup,k⟩
end
section
variable {A:aT}{I T:Addr}
theorem m6{Q:Bool->av->Prop}(ty:s.TypeIs (.ref q) "set")(k:Q ZA s):ah (ai prog w) A (MY (.ref q)) Q E s:=by
 unfold MY;refine ag (nL ty F.slot_set_len.lookup ?_);generalize J:("set.__len__":String)=sid
 wp_delta
 rw[show splitId sid=O0 ("set","__len__") by subst J;decide +kernel];subst J;refine ag (vc (T:="set") (b:=E3) ty (by rw[qS];kernel_rfl) ?_);refine wpAny_ite_split (λz=>QO z .(2)) λ_=>wpAny_ite_split (λ_=>ag (yn ty (aw k))) λz=>QO (by decide +kernel) z
end
section
variable {A:aT}{I:Addr}{t:SetTable}
structure FQ (w:cb) (es:Array (Int×ac)) (t:SetTable) (qs:List (ui×Addr)):Prop where
 ent:es.toList=qs.map λx=>(hP x.1,bg x.2)
 rise:UY t.place.toList
 len:t.place.size=es.size
 fits:t.fits es.size=E3
 led:btx w=ZA->t.led=E3
 pln:t.plain=E3
 sz:qs.length<=18
def FP.toQ{qs:List (ui×Addr)}(f:FP prog w h es t qs):FQ w es t qs:=by
 have l:=f.tab.len;rw[aI,hJ,hJ] at l;exact⟨f.ent,f.tab.rise,l,f.fits,f.led,f.pln,by rcases f.msk with ⟨_,z⟩ | ⟨_,z⟩<;>omega⟩
def WS(w:cb)(h:Heap)(a:Addr)(qs:List (ui×Addr)):Prop:=∃es t,ObX h a es t/\FQ w es t qs
def WS.keep{qs:List (ui×Addr)}(x:WS w h a qs)(e:∀o,h.get? a=O0 o->h'.get? a=O0 o):WS w h' a qs:=by
 obtain⟨J,t,⟨o,O,g,q⟩,f⟩:=x;exact⟨J,t,⟨o,O,e o g,q⟩,f⟩
theorem Yb(xs:Array Nat)(J:UY xs.toList){v i:Nat}(T:i<=xs.size)(h1:∀a (h:a<xs.size),a<i->xs[a]<v)(O:∀a (h:a<xs.size),i<=a->v<=xs[a]):AA xs v=i:=by
 obtain⟨S,b1,b2⟩:=Py xs J v;generalize AA xs v=b at S b1 b2
 rcases BI b i with c | c | c
 .have:=b2 b .(0) (aS _);have:=h1 b .(0) c;omega
 .exact c
 .have:=b1 i .(0) c;have:=O i .(0) (aS _);omega
def Z4(xs:Array Nat)(J:UY xs.toList){i:Nat}(U:i<=xs.size):AA xs (if i=0 then 0 else xs.getD (i-1) 0+1)=i:=by
 have mono:∀a b (Z:a<xs.size) (Y:b<xs.size),a<b->xs[a]<xs[b]:=λa b Z Y T=>by
  have:=xa.mp J a b (by simpa using Z) (by simpa using Y) T;simpa using this
 by_cases h0:i=0
 .rw[ZN h0];exact Yb xs J U (λa h S=>by omega) λa h _=>gL _
 .have O:i-1<xs.size:=by omega
  rw[OO h0,show xs.getD (i-1) 0=xs[i-1] by simp[O]];refine Yb xs J U (λa h S=>?_) λa h r0=>?_
  .by_cases e:a=i-1
   .subst e;omega
   .have:=mono a (i-1) h O .(0);omega
  .have:=mono (i-1) a O h .(0);omega
def m8{sl:Nat->Nat}(U:q≠I)(hf:t.fits es.size=E3)(hL:vs.length=es.size)(hx:∀(i:Nat) (z:av),i<=es.size->Ly z.heap q es ep t->(∃v,vs[i]?=O0 v/\i<es.size/\∀(B:aT) (O:ac->av->Prop) (R:Option (ac×Nat)->av->Prop),R (O0 (v,sl (i+1))) z->ah (ai prog w) B (rb q (sl i) i ep) R O z)
   ∨ (es.size<=i/\∀(B:aT) (O:ac->av->Prop) (R:Option (ac×Nat)->av->Prop),R W1 z->ah (ai prog w) B (rb q (sl i) i ep) R O z)):
  ∀A':aT,A'.handled=W1->oC prog w A' I [I,q] [I] vs.length (λi v=>vs[i]?=O0 v) (λi h=>ItX h I q (.int (sl i) 0) i es.size ep/\Ly h q es ep t):=λA' hh=>{
 sub:=λb m=>by simp at m;simp[m]
 frame:=λi h S J e=>⟨J.1.keep (e I .(1)),J.2.keep (e q .(1))⟩
 item:=λi z Q O hi J k=>by
  rcases hx i z .(0) J.2 with ⟨v,hv,_,Y⟩ | ⟨S0,_⟩
  .refine uK J.1 J.2 hf rfl (λB Z R y=>by rw[ip];exact Y B Z R y) λS sb it=>k v S z.toks hv ⟨it,J.2.keep λo g=>(sb.2 q U).trans g⟩ λb o T g=>(sb.2 b λe=>T (by simp[e])).trans g
  .omega
 done:=λz Q O J k=>by
  rcases hx vs.length z .(0) J.2 with ⟨v,_,r0,_⟩ | ⟨_,Y⟩
  .omega
  .exact uM hh J.1 J.2 hf rfl (λB Z R y=>by rw[ip];exact Y B Z R y) λS kp=>k S z.toks λb o T g=>kp b o (λe=>T (by simp[e])) g
 self:=λi z Q O J k=>uO J.1 k }
def ItP(prog:cE)(w:cb)(s:av)(q:Addr)(qs:List (ui×Addr))(I:Addr)(h':Heap):Prop:=∃(L:List (ui×Addr)) (fp:List Addr) (Sx:Nat->Heap->Prop),L.Perm qs/\s.heap.objs.size<=I/\(∀b∈fp,b=q∨s.heap.objs.size<=b)/\(∀b o,s.heap.get? b=O0 o->h'.get? b=O0 o) ∧
 (∀S:aT,S.handled=W1->oC prog w S I fp [I] L.length (λi v=>(L.map λx=>bg x.2)[i]?=O0 v) Sx)/\Sx 0 h'
theorem gJ{qs:List (ui×Addr)}(x:WS w s.heap q qs)(k:∀I h',ItP prog w s q qs I h'->Q (.ref I) { s with heap:=h' }):ah (ai prog w) A (pE (.ref q)) Q E s:=by
  obtain⟨J,t,⟨o,O,g,ex,d⟩,f⟩:=x;have ty:s.TypeIs (.ref q) "set":=⟨o,g,ex.1⟩;have y:Ly s.heap q J O t:=⟨o,g,ex,d⟩;have lq:q<s.heap.objs.size:=bE g;have r0:J.size=qs.length:=by have:=UO eS f.ent;simpa using this
  refine MX ty MZ (ja MZ ty Wu ?_ (F.args_set_iter_1 _));unfold eC.«frozenset.__iter__»;refine ag (show ah _ _ (pure q) _ _ s from aw ?_);refine ag (show ah _ _ (setEntries q >>= λr=>pure r.size) _ _ s from ag (FU g d f.fits (aw ?_)));have Z:∀(Y:ac),(∀h',h'=s.heap.push { cls:=.type "set_iterator",data:=.fields #[Y,.int 0 0,.ref q,.int J.size 0,.int O 0] }->ItX h' s.heap.objs.size q Y 0 J.size O->Ly h' q J O t->ItP prog w s q qs s.heap.objs.size h') ->
      ah (ai prog w) A.in1 (do ret (<-newFields "set_iterator" [Y,dL 0,.ref q,dL J.size,dL (<-setEpoch q)])) (λZ z=>∃v,Z=.done (.ret v)/\∃T' r,z.TypeIs v T'/\wb (.type T') "__next__"=pure (O0 r)/\Q v z) E s:=λY w1=>by
    refine ag (wpAny_setEpoch_of g d f.fits (ag (iF (aw ⟨_,rfl,"set_iterator",_,⟨_,ci _ rfl,rfl⟩,NZ.lookup,k _ _ (w1 _ rfl ⟨_,ci _ rfl,rfl,rfl⟩ (y.keep λo' g'=>bo _ g'))⟩))))
  have dr:∀{R:Bool->av->Prop},R ZA s->ah (ai prog w) A.in1 (setDrawn q) R E s:=λ{R} hr=>by
    unfold setDrawn;refine ag (oP g d f.fits ?_);refine ag (show ah _ A.in1 Cb _ E s from ag (x9 (aw (aw ?_))));show R (!(ai prog w).w.params.followText "set-order"&&(!t.plain&&decide (J.size > 1))) s;rw[f.pln];simpa using hr
  refine ag (dr ?_);simp only[ff,YO];have S0:∀b∈[s.heap.objs.size,q],b=q∨s.heap.objs.size<=b:=λb m=>by simp at m;rcases m with m | m;exact .inr (AV m.symm);exact .inl m
  cases bq:btx w with
  |true=>
    refine ag (aw (Z _ λh' eh it sa=>?_));subst eh;obtain⟨L,eL,pL⟩:=YT (f:=λx:ui×Addr=>(hP x.1,bg x.2)) (l:=(rc (w.params.setOrder q O) J).toList) (m:=qs) (by rw[<-f.ent];exact Vi _ J);have eV:(L.map λx=>bg x.2)=(rc (w.params.setOrder q O) J).toList.map (·.2):=by rw[eL,cp];rfl
    have pz:(rc (w.params.setOrder q O) J).size=J.size:=by have:=(Vi (w.params.setOrder q O) J).length_eq;simpa using this
    refine⟨L,[s.heap.objs.size,q],(λi h=>ItX h s.heap.objs.size q (.int (((λ_=>0:Nat->Nat) i:Nat):Int) 0) i J.size O/\Ly h q J O t),pL,aS _,S0,λb o z=>bo _ z,?_,it,sa⟩;have lv:(L.map λx=>bg x.2).length=L.length:=aI ..;rw[<-lv];refine m8 (sl:=λ_=>0) (es:=J) (t:=t) (ep:=O) (bS lq) f.fits (by rw[lv,pL.length_eq,r0]) λi z P1 q0=>?_;obtain⟨oz,gz,_,dz⟩:=q0;have U:∀(B:aT) (S:ac->av->Prop) (R:Option (ac×Nat)->av->Prop),R (((rc (w.params.setOrder q O) J)[i]?).map λe=>(e.2,0)) z->ah (ai prog w) B (rb q 0 i O) R S z:=λB S R T=>by
      unfold rb setWalk;refine ag (oP gz dz f.fits ?_);refine ag (show ah _ B Cb _ S z from ag (x9 (aw ?_)));rw[show (ai prog w).w.params.followText "set-order"=E3 from bq];dsimp only;rw[ZN rfl,OO .(1)];refine ag (ag (oP gz dz f.fits (ag (show ah _ B Cb _ S z from ag (x9 (aw ?_))))));rw[show (ai prog w).w.params.followText "set-order"=E3 from bq];dsimp only;rw[ZN rfl];exact ag (x9 (aw (aw T)))
    by_cases hi:i<J.size
    . have hz:i<(rc (w.params.setOrder q O) J).size:=by omega
      refine .inl ⟨(rc (w.params.setOrder q O) J)[i].2,?_,hi,λB S R T=>U B S R ?_⟩
      . rw[eV,db]
        simp[hz]
      . rw[FX hz]
        exact T
    . refine .inr ⟨by omega,λB S R T=>U B S R ?_⟩
      rw[N0 .(0)];exact T
  |false=>
    have X0:t.led=E3:=f.led bq;refine ag (aw (Z _ λh' eh it sa=>?_));subst eh;refine⟨qs,[s.heap.objs.size,q],(λi h=>ItX h s.heap.objs.size q (.int (((λi=>if i=0 then 0 else t.place.getD (i-1) 0+1:Nat->Nat) i:Nat):Int) 0) i J.size O/\Ly h q J O t),A8 _,aS _,S0,λb o z=>bo _ z,?_,it,sa⟩;have lv:(qs.map λx=>bg x.2).length=qs.length:=aI ..;rw[<-lv];refine m8 (sl:=λi=>if i=0 then 0 else t.place.getD (i-1) 0+1) (es:=J) (t:=t) (ep:=O) (bS lq) f.fits (by rw[lv,r0]) λi z P1 q9=>?_;obtain⟨oz,gz,_,dz⟩:=q9;have U:∀(sl:Nat) (B:aT) (S:ac->av->Prop) (R:Option (ac×Nat)->av->Prop),R (match J[AA t.place sl]?,t.place[AA t.place sl]? with | some (_,x),O0 j=>O0 (x,j+1) | _,_=>W1) z->ah (ai prog w) B (rb q sl i O) R S z:=λsl B S R T=>by
      unfold rb;refine ag (oP gz dz f.fits ?_);refine ag (show ah _ B Cb _ S z from ag (x9 (aw ?_)));rw[show (ai prog w).w.params.followText "set-order"=ZA from bq];dsimp only;rw[OO dP];split
      . rename_i hd
        have S1:(!t.plain&&decide (J.size > 1))=E3:=hd;rw[f.pln] at S1;simp at S1
      . refine ag (show ah _ B (if (!t.led&&!J.isEmpty)=E3 then FC "set:maker-not-led" else pure ()) _ S z from ?_)
        rw[OO (by rw[X0];simp)];exact aw (aw T)
    have eb:=Z4 t.place f.rise (i:=i) (by rw[f.len];exact P1)
    by_cases hi:i<J.size
    . have hp:i<t.place.size:=by rw[f.len];exact hi
      refine .inl ⟨J[i].2,?_,hi,λB S R T=>U _ B S R ?_⟩
      . have ev:(qs.map λx=>bg x.2)=J.toList.map (·.2):=by rw[f.ent,cp];rfl
        rw[ev,db];simp[hi]
      . rw[eb,FX hi,FX hp]
        have:(if i+1=0 then 0 else t.place.getD (i+1-1) 0+1)=t.place[i]+1:=by
          rw[OO .(0),Nat.add_sub_cancel];simp[hp]
        rw[this] at T;exact T
    . refine .inr ⟨by omega,λB S R T=>U _ B S R ?_⟩
      rw[eb,N0 .(0)];exact T
end
section
variable {A:aT}{I T:Addr}
theorem WS.ty{qs:List (ui×Addr)}(x:WS w s.heap q qs):s.TypeIs (.ref q) "set":=let ⟨_,_,⟨o,_,g,ex,_⟩,_⟩:=x;⟨o,g,ex.1⟩
theorem Wv{ks:List (ui×Addr)}{Q:List ac->av->Prop}(hh:A.handled=W1)(x:WS w s.heap q ks)(hz:ks.length<=4000)(k:∀(L:List (ui×Addr)) (h':Heap) (tk:Nat),L.Perm ks->s.heap.objs.size<=h'.objs.size->(∀b o,s.heap.get? b=O0 o->h'.get? b=O0 o)->Q (L.map λx=>bg x.2) { s with heap:=h',toks:=tk }):
  ah (ai prog w) A (tz (.ref q)) Q E s:=by
 obtain⟨lq⟩:Nonempty (q<s.heap.objs.size):=let ⟨_,_,⟨_,_,g,_⟩,_⟩:=x;⟨bE g⟩;unfold tz;refine ag (C7 (kU FY (show ah _ _ (do again (.builtin "list.__iadd__" ⟨[<-newList [],.ref q],[]⟩)) _ _ s from ?_)));refine ag (xi (aw ⟨zw _ (by decide +kernel),kU G0 (show ah _ _ (AB (.ref s.heap.objs.size) (.ref q) (.ref s.heap.objs.size)) _ _ _ from ?_)⟩));have Y:WS w (s.heap.push { cls:=.type "list",data:=.seq ([]:List ac).toArray }) q ks:=x.keep λo g=>bo _ g;unfold AB;refine ag (yn (T:="set") (WS.ty (s:={ s with heap:=s.heap.push { cls:=.type "list",data:=.seq ([]:List ac).toArray } }) Y) ?_);have nr:N1 (.ref s.heap.objs.size) (.ref q)=ZA:=by simp[N1,pw lq]
 rw[OO (by rw[nr];decide)];refine ag (gJ (s:={ s with heap:=s.heap.push { cls:=.type "list",data:=.seq ([]:List ac).toArray } }) Y λI h' p0=>?_);obtain⟨L,fp,Sx,hL,r0,S0,kp,W,st⟩:=p0;have x2:WS w h' q ks:=Y.keep λo g=>kp q o g;refine ag (wpAny_holding (m6 (s:={ s with heap:=h' }) (WS.ty (s:={ s with heap:=h' }) x2) ?_));have gS:h'.get? s.heap.objs.size=O0 { cls:=.type "list",dict:=W1,data:=.seq #[] 0,slots:=#[] }:=kp _ _ (ci _ rfl);have O:(s.heap.push { cls:=.type "list",data:=.seq ([]:List ac).toArray }).objs.size=s.heap.objs.size+1:=iE _ _;have nS:s.heap.objs.size∉fp:=λm=>by
  rcases S0 _ m with z | z
  .exact QO z (pw lq)
  .have z':(s.heap.push { cls:=.type "list",data:=.seq ([]:List ac).toArray }).objs.size<=s.heap.objs.size:=z;rw[O] at z';exact QO z' (Nat.not_succ_le_self _)
 have S:s.heap.objs.size+1<=I:=by rw[<-O];exact r0
 rw[ZN (by decide +kernel)];refine ag (uS (ag (show ah _ _ (BA s.heap.objs.size (·.push .none) >>= λ_=>BA s.heap.objs.size (·.pop)) _ _ _ from ag (zo gS rfl ?_))));have g1:=mI (kS (·.push eA)) gS rfl;refine zo (hz:=by seq_fits) g1 rfl ?_;have g2:=mI (kS (·.pop)) g1 rfl;have oth:∀b o,b≠s.heap.objs.size->h'.get? b=O0 o->((h'.update s.heap.objs.size (kS (·.push eA))).update s.heap.objs.size (kS (·.pop))).get? b=O0 o:=λb o nb g=>(ka _ _ (cf nb)).trans ((ka _ _ (cf nb)).trans g);have Z:=(W A hh).frame 0 _ _ st λb m o g=>oth b o (λz=>nS (z▸m)) g;refine aw ⟨qE PySem.F.plain_extend_loop _,codeAny_extend_loopS (W _ (by simp[hh])).toS (dA (by rw[hL.length_eq];exact hz) .(2)) s.heap.objs.size nS _ L.length 0 { s with heap:=(h'.update s.heap.objs.size (kS (·.push eA))).update s.heap.objs.size (kS (·.pop)) } #[] _ rfl (gL _) Z g2 (ItemsOf.nil _) λs' J c' hm U ha=>?_⟩;rw[Moved.eq_with hm];show ah _ A (load s.heap.objs.size >>= _) _ _ _;have ev:J.toList=L.map λx=>bg x.2:=by
  apply Lc;intro i;have hl:J.toList.length=L.length:=by rw[hJ];exact ha.1
  by_cases c:i<L.length
  .have ga:J.toList[i]?=O0 (J.toList[i]'(by omega)):=dQ .(0);rw[ga];exact (ha.2 i _ (by rw[<-Fu];exact ga)).symm
  .rw[qA .(0),qA (by rw[aI];omega)]
 refine ag (xS U (aw (ev▸k L s'.heap s'.toks hL (vj (bE U)) λb o g=>?_)));have lb:b<s.heap.objs.size:=bE g;refine hm.heap b o (λm=>?_) (oth b o (bS lb) (kp b o (bo _ g)))
 rcases bX.mp m with z | z
 .exact QO z (bS lb)
 .exact QO (ke.mp z) (bS (fE lb (Nat.le_of_succ_le S)))
theorem Yc{qs:List (ui×Addr)}(hh:A.handled=W1)(x:WS w s.heap q qs)(U:∀x∈qs,WZ prog w s.heap x.1 x.2)(nd:(qs.map (·.1)).Nodup)(k:∀(L:List (ui×Addr)) (e:Nat) (l:Addr) (h':Heap) (tk:Nat),L.Perm qs->(L.map λx=>VU x.1).Pairwise (·<·)->h'.get? l=O0 (rd "list" (L.map λx=>bg x.2).toArray e)->s.heap.objs.size<=l->(∀b o,s.heap.get? b=O0 o->h'.get? b=O0 o)->Q (.ref l) { s with heap:=h',toks:=tk }):
  ah (ai prog w) A (call (.builtin "sorted") [.ref q]) Q E s:=by
 have sz:qs.length<=18:=let ⟨_,_,_,f⟩:=x;f.sz;refine G1 Gc GA GB (GE _) ?_;unfold eC.«sorted»;refine ag (m:=GG "sorted" 1 1 _) (aw (ag (Wv (A:=A.in1) hh x .(0) λL h1 tk O le S=>?_)));have J:(L.map λx=>bg x.2).length<=60:=by rw[aI,O.length_eq];omega
 refine ag (xi ?_ (dA J .(2)));have Y:(h1.push { cls:=.type "list",data:=.seq (L.map λx=>bg x.2).toArray }).get? h1.objs.size=O0 (rd "list" (L.map λx=>bg x.2).toArray 0):=ci _ rfl;refine ag (wpAny_holding (ja GH ⟨_,Y,rfl⟩ GI (T_ Y (λx hx=>(U x (O.mem_iff.mp hx)).keep λo g=>bo _ (S _ o g)) ((O.map (·.1)).nodup_iff.mpr nd) (by rw[O.length_eq];omega) λL2 p2 s2=>⟨_,rfl,?_⟩) (GL _)));obtain⟨c,hc⟩:=GM (out:=(L2.map λx=>bg x.2).toArray) Y;refine aw ⟨_,rfl,k L2 c _ _ tk (p2.trans O) s2 hc le λb o g=>?_⟩;have Z:=bE (S b o g);rw[GN (bS Z) (by rw[iE];exact ny Z)];exact bo _ (S b o g)
end
theorem P0:∀{r:List Str}{p:Str},N3 p r=E3->(p::r).Nodup->Up (p::r)
 |[],p,_,_=>by simp[Up]
 |x::r,p,h,I=>by
  unfold N3 at h;rw[eW] at h;obtain⟨O,J⟩:=h;obtain⟨n1,n2⟩:=mo.mp I;have u:=P0 J n2;have lt:ltS p x=E3:=cI (by unfold ltS;simpa [PyProof.Rows.ltCps_eq] using O) (λe=>n1 (by rw[<-e];exact eD));refine lj.mpr ⟨λy m=>?_,u⟩
  rcases bX.mp m with e | m
  .rw[e];exact lt
  .exact Q0 lt ((lj.mp u).1 y m)
def Ww{l:List Str}(h:PyProof.Rows.sortedS l=E3)(I:l.Nodup):Up l:=by
 cases l with
 |nil=>exact BG
 |cons p r=>exact P0 h I
open L2
section
variable {a:Expr}{fa:FE}
theorem Vj:∀{xs:List Str}{us:List ac},Cc us xs->gn (xs.map V.str) us
 |_,_,.nil=>.nil
 |_,_,.cons _ u r=>.cons ⟨u,rfl⟩ (Vj r)
def m9{I:List Str}(r:fy G H xs ds)(h:Nu ds=O0 I):xs=I.map V.str:=X6 r h
end
end PV
namespace PV
open PySem PySem.Spec L2
open PyProof.Rows hiding St
section
variable {a b:Expr}{fa fb:FE}{es:List Expr}{fs:FA}
def vr(i:Nat){x:Str}(S:X.N[i]?=O0 x:=by rfl)(J:Vis X.env.scope x:=by first | exact eP rfl | exact d6 (eP rfl) | exact d6 (d6 rfl))(O:(x==("__debug__":Str))=ZA:=by decide)(I:(x==("__classdict__":Str))=ZA:=by decide):PF X G (.Name x pos) (vF i):=yZ i (pv i S J O I)
def vp(i:Nat){x:Str}(S:X.N[i]?=O0 x:=by rfl)(J:Vis X.env.scope x:=by first | exact eP rfl | exact d6 (eP rfl) | exact d6 (d6 rfl))(O:(x==("__debug__":Str))=ZA:=by decide)(I:(x==("__classdict__":Str))=ZA:=by decide):PU X G (.Name x pos) (vF i):=PF.pu (vr i S J O I)
def vq(i:Nat){x:Str}(S:X.N[i]?=O0 x:=by rfl)(J:Vis X.env.scope x:=by first | exact eP rfl | exact d6 (eP rfl) | exact d6 (d6 rfl))(O:(x==("__debug__":Str))=ZA:=by decide)(I:(x==("__classdict__":Str))=ZA:=by decide):PU X G (.Name x pos) (vU i):=yc i (pv i S J O I)
def pU{f:FE}(h:PF X G e f):PU X G e f:=PF.pu h
def iP{i j}:PU X G (.Constant (.int i) j pos) (kF (.int i)):=PF.pu Qg
def sP{x j}:PU X G (.Constant (.str x) j pos) (kF (.str x)):=PF.pu TX
def iX{k:Nat}(I:Room k X.A)(O:PU X G a fa)(J:PU X G b fb)(Y:G.K=X.K:=by rfl)(hs:O9 b:=by exact λ_ _=>rfl):PF X G (.Subscript a b pos) (bF vb fa fb):=yu (Hr I) Y O J hs
def iD(J:PU X G a fa)(I:PU X G b fb)(Y:G.K=X.K:=by rfl)(hs:O9 b:=by exact λ_ _=>rfl):PF X G (.Subscript a b pos) (bF ixD fa fb):=ABM Y J I hs
def SU(J:PU X G a fa)(I:PU X G b fb)(Y:G.K=X.K:=by rfl):PF X G (.BinOp a .Add b pos) (bF OT fa fb):=Ga sY (by rw[<-Y];exact sZ) J I
def bSub(J:PU X G a fa)(I:PU X G b fb):PF X G (.BinOp a .Sub b pos) (bF subD fa fb):=Ga yM sS J I
def bMul(J:PU X G a fa)(I:PU X G b fb):PF X G (.BinOp a .Mult b pos) (bF mulD fa fb):=Ga sU sV J I
def RY(J:PU X G a fa)(I:PU X G b fb):PF X G (.BinOp a .FloorDiv b pos) (bF Cr fa fb):=Ga rD jV J I
def OZ(J:PU X G a fa)(I:PU X G b fb):PF X G (.BinOp a .Mod b pos) (bF rz fa fb):=Ga yN sX J I
def cEq{k:Nat}(I:Room k X.A)(O:PU X G a fa)(J:PU X G b fb)(Y:G.K=X.K:=by rfl):PF X G (.Compare a [.Eq] [b] pos) (bF (sd ZA) fa fb):=Zj (jb Y I.unitsW) (WP ZA) O J (Oa _)
def VQ{k:Nat}(I:Room k X.A)(O:PU X G a fa)(J:PU X G b fb)(Y:G.K=X.K:=by rfl):Zl X G (.Compare a [.Eq] [b] pos) (tx (bF (sd ZA) fa fb)):=JB (jb Y I.unitsW) (WP ZA) O J (Oa _)
def cNe{k:Nat}(I:Room k X.A)(O:PU X G a fa)(J:PU X G b fb)(Y:G.K=X.K:=by rfl):PF X G (.Compare a [.NotEq] [b] pos) (bF (sd E3) fa fb):=Zj (jc Y I.unitsW) (WP E3) O J (Oa _)
def tNe{k:Nat}(I:Room k X.A)(O:PU X G a fa)(J:PU X G b fb)(Y:G.K=X.K:=by rfl):Zl X G (.Compare a [.NotEq] [b] pos) (tx (bF (sd E3) fa fb)):=JB (jc Y I.unitsW) (WP E3) O J (Oa _)
def cIn{k:Nat}(I:Room k X.A)(S:PU X G a fa)(O:PU X G b fb)(Y:G.K=X.K:=by rfl)(J:gu .In b=ZA:=by with_unfolding_all rfl):PF X G (.Compare a [.In] [b] pos) (bF (ZU ZA) fa fb):=Zj ((jY.or (Zo (Hr I))).or (j5 Y I.units)) (by rw[<-Y];exact Wc ZA) S O J
def tIn{k:Nat}(I:Room k X.A)(S:PU X G a fa)(O:PU X G b fb)(Y:G.K=X.K:=by rfl)(J:gu .In b=ZA:=by with_unfolding_all rfl):Zl X G (.Compare a [.In] [b] pos) (tx (bF (ZU ZA) fa fb)):=JB ((jY.or (Zo (Hr I))).or (j5 Y I.units)) (by rw[<-Y];exact Wc ZA) S O J
def tNi{k:Nat}(I:Room k X.A)(S:PU X G a fa)(O:PU X G b fb)(Y:G.K=X.K:=by rfl)(J:gu .NotIn b=ZA:=by with_unfolding_all rfl):Zl X G (.Compare a [.NotIn] [b] pos) (tx (bF (ZU E3) fa fb)):=JB ((fU.or (fu (Hr I))).or (gD Y I.units)) (by rw[<-Y];exact Wc E3) S O J
def tLt(J:PU X G a fa)(I:PU X G b fb):Zl X G (.Compare a [.Lt] [b] pos) (tx (bF ltD fa fb)):=JB AAv ye J I (Oa _)
def tGt(J:PU X G a fa)(I:PU X G b fb):Zl X G (.Compare a [.Gt] [b] pos) (tx (bF gtD fa fb)):=JB AAw yf J I (Oa _)
def tGe(J:PU X G a fa)(I:PU X G b fb):Zl X G (.Compare a [.GtE] [b] pos) (tx (bF geD fa fb)):=JB AAx yg J I (Oa _)
def sF(T:X.N.Nodup)(i:Nat){x:Str}{p:Pos}(S:PF X G a fa)(J:X.N[i]?=O0 x:=by rfl)(I:Loc X.env.scope x:=by first | exact eP rfl | exact d6 rfl)(hs:gI a (O0 (.Name x p)) pos.line X.env=pure ZA:=by rfl)(O:X.fn x=E3∨X.env.scope.names.lookup x=O0 .local :=by first | exact .inl rfl | exact .inr rfl | assumption):VW X G (.Assign [.Name x p] a pos) (jl i fa):=tL (λ_ h=>iV T J I h hs O) S
def sW(U:X.N.Nodup)(i:Nat){x:Str}{p:Pos}(T:PN X G a fa)(O:X.N[i]?=O0 x:=by rfl)(J:Loc X.env.scope x:=by first | exact eP rfl | exact d6 rfl)(hs:gI a (O0 (.Name x p)) pos.line X.env=pure ZA:=by rfl)(S:X.fn x=E3∨X.env.scope.names.lookup x=O0 .local :=by first | exact .inl rfl | exact .inr rfl | assumption)(I:i≠0:=by decide):VW X G (.Assign [.Name x p] a pos) (setW i fa):=jo (λ_ h=>iV U O J h hs S) T I
def gN(S:X.N.Nodup)(i:Nat){x:Str}(J:X.N[i]?=O0 x:=by rfl)(I:Loc X.env.scope x:=by first | exact eP rfl | exact d6 rfl)(O:X.fn x=E3∨X.env.scope.names.lookup x=O0 .local :=by first | exact .inl rfl | exact .inr rfl | assumption):PG X (.Name x pos) (Hq i):=rB S J I O
def cO{t:Str}(I:X.N=N)(hs:X.env.scope=sc)(h:bI N sc scope t=E3:=by decide +kernel):TQ X scope t:=fY I hs h
abbrev nT (N:List Str) (t:Str):List Str:=N++[t]
structure Dx (K:ay) (mg:Str->Option ac) (x:Str) (st:Stmt) (ps:List Str) where
 f:Addr
 fd:ma
 F:FunD K x x st f fd
 B:OX K fd ps []
 m:mg x=O0 (.ref f)
abbrev VX (P:cE) (w:cb) (base:Heap) {K:ay}{mg:Str->Option ac}{x:Str}{st:Stmt}{ps:List Str}(d:Dx K mg x st ps) (k:Nat) (sp:Sp):Prop:=mu P w K mg base CX0 k d.f d.fd ps sp
theorem fX{k:Nat}{x:Str}{p:Pos}{d:Dx X.K X.mg x st ps}(F:mu X.prog X.w X.K X.mg X.base CX0 k d.f d.fd ps (Po G g))(S:Room k' X.A)(Y:PFA X G (a::es) fs)(J:k<=k':=by omega)(U:Gl X x:=by rfl)(O:(x==("__debug__":Str))=ZA:=by decide)(T:aE (a::es) X.env=(ZA,eval a X.env)::aE es X.env:=by rfl)(I:(dE pos (aE es X.env)).any (·.1)=ZA:=by rfl):PF X G (.Call (.Name x p) (a::es) [] pos) (Ag g fs):=ABN F (S.mono J) U d.m d.F.kp d.B Y O T I
end
section
variable {K:ay}{x:Str}{f:Addr}{dV kV:ac}
theorem VS{base:Heap}{k:Nat}{b:FS}(d:Dx G.K mg x st ps)(S:fc N ps (Ac st))(I:∀(cdv:ac) (A:aT) (outer:List Env) (s:av) (H:Hp) (E:XK),Room k (A.deeper (io x (Ac st) s.heap.objs.size d.f cdv))->UP (TZ CX0 P w G.K mg base N x (Ac st) d.f cdv A outer s H E).nox G (Bs st) b)(Z:ps.length<=N.length:=by decide):
  mu P w G.K mg base CX0 (k+1) d.f d.fd ps (Po G (oo N.length ps.length b)):=ABV d.F S Z I
def dx(X:K.In h)(N:h.Ns eB mg)(a:oQ K eB x=O0 (O0 (.ref f)))(l:K.lookup f=O0 ⟨oc,od,.func (i7 x x (Dz st) (Bs st) (Ac st) .none kV doc pm an cdv ct),osl⟩)(c:og K cdv x=E3)(k:fF K (.ref f)=E3)(b:∀(kV doc pm:ac) (an:Option Addr) (cdv ct:ac) (us:List ac),us.length=ps.length->w9 (i7 x x (Dz st) (Bs st) (Ac st) .none kV doc pm an cdv ct) ⟨us,[]⟩=pure (ps.zip us)):Dx K mg x st ps:=⟨f,_,uB l c k,(Oc l c k).binds b,mP X N a⟩
structure Ix (K:ay) (C:Addr) (qual:Str) (st:Stmt) (ps:List Str) where
 f:Addr
 fd:ma
 F:Fun K "__init__" qual st f fd
 B:OX K fd ps []
 mM:Mk K C f
def ix(X:K.In h)(m:DL K C=E3)(I:fF K (.ref C)=E3)(a:dn K (.ref C) "__init__"=O0 (O0 (.ref f)))(i:nk K (.ref f)=E3)(l:K.lookup f=O0 ⟨oc,od,.func (i7 "__init__" qual (Dz st) (Bs st) (Ac st) .none kV doc pm an cdv ct),osl⟩)(c:og K cdv qual=E3)(k:fF K (.ref f)=E3)(b:∀(kV doc pm:ac) (an:Option Addr) (cdv ct:ac) (us:List ac),us.length=ps.length->w9 (i7 "__init__" qual (Dz st) (Bs st) (Ac st) .none kV doc pm an cdv ct) ⟨us,[]⟩=pure (ps.zip us)):Ix K C qual st ps:=⟨f,_,Oc l c k,(Oc l c k).binds b,m,a,i,I⟩
structure Sx (mg:Str->Option ac) (x:Str) (f:Tok->ac) where
 t:Tok
 m:mg x=O0 (f t)
structure Kx (G:Gx) (mg:Str->Option ac) (x:Str) (c:D) where
 a:Addr
 m:mg x=O0 (.ref a)
 r:uj G (λ_=>W1) (.ref a) c
def sx{t:Tok}{f:Tok->ac}(X:K.In h)(N:h.Ns eB mg)(a:oQ K eB x=O0 (O0 (f t))):Sx mg x f:=⟨t,mP X N a⟩
def gx1(K:ay)(cn:Str)(C:Addr):Gx:={ K:=K,cl:=λc=>if c=cn then O0 C else W1 }
def cls(X:K.In h)(O:y6 K C kN=E3)(S:vT K C=E3)(J:DH K C=E3)(I:dn K (.ref C) "__setattr__"=O0 (O0 (.builtin "object.__setattr__"))):Sn K C:=⟨O,S,J,I⟩
def rtx{g:Addr}{I:Array ac}{xs:List Str}(X:K.In h)(l:K.lookup g=O0 ⟨.type "tuple",od,.seq I n,osl⟩)(hz:I.size<=sizeLine)(r:gn (xs.map V.str) I.toList):uj (gx1 K cn C) (λ_=>W1) (.ref g) (.tup (xs.map .str)):=Ql l hz r
def kx{cn:Str}{g:Addr}{n:Nat}{I:Array ac}{xs:List Str}(X:K.In h)(N:h.Ns eB mg)(a:oQ K eB x=O0 (O0 (.ref g)))(l:K.lookup g=O0 ⟨.type "tuple",od,.seq I n,osl⟩)(hz:I.size<=sizeLine)(r:gn (xs.map V.str) I.toList):Kx (gx1 K cn C) mg x (.tup (xs.map .str)):=⟨g,mP X N a,rtx X l hz r⟩
end
def Yd:D->Option D
 |.int i=>if 0<=i/\i<=1000000 then O0 (.lst (Pl i.toNat)) else W1
 |_=>W1
theorem cM{I:Type}(f:I->Bool):∀l:List I,UX (l.map λx=>.bl (f x))=O0 (l.map f)
 |[]=>rfl
 |x::r=>by rw[bn,UX,cM f r];rfl
section
variable {a:Expr}{fa:FE}{es:List Expr}{fs:FA}
theorem gK:Dy X (.type "range") (λxs H Q=>∃i:Int,xs=[.int i]/\∀l,H l=W1->Q (.ref l) (mf H l (.rng 0 i))):=by
 intro S s O H xs T Q I r h;obtain⟨i,rfl,q⟩:=h;obtain⟨u,rfl,J⟩:=r.one;obtain⟨t,rfl⟩:=J;refine call_range_1 ?_;exact⟨.ref s.heap.objs.size,_,I.laid (λb o e=>bo _ e) (aS _) (show Bp X.prog X.w _ _ _ (.rng 0 i) from⟨_,_,_,ci _ rfl⟩),rfl,q _ (I.hok.fresh (aS _))⟩
theorem cP:∀{xs:List V}{us:List ac},us.length=xs.length->(∀(j:Nat) x u,xs[j]?=O0 x->us[j]?=O0 u->fx x u)->gn xs us
 |[],us,Z,_=>by
  rw[BE Z];exact .nil
 |x::r,[],Z,_=>by simp at Z
 |x::r,u::us,Z,h=>.cons (h 0 x u rfl rfl) (cP (by simpa using Z) λj y v a b=>h (j+1) y v (by simpa using a) (by simpa using b))
theorem U9(hc:X.calm=E3):Dy X (.type "list") (λxs H Q=>∃(p:Addr) (n:Nat),xs=[.ref p]/\H p=O0 (.rng 0 n)/\n<=1000000/\∀l,H l=W1->Q (.ref l) (mf H l (.lst ((br n).map λ(k:Nat)=>V.int k)))):=by
 intro π s σ H xs us Q I r h;obtain⟨p,n,rfl,e,hn,q⟩:=h;obtain⟨u,rfl,Z⟩:=r.one;cases Z;obtain⟨t,u,v,hr⟩:=(show Bp X.prog X.w H s.heap p (.rng 0 n) from I.hok p _ e);have rs:IR 0 n 1=(n:Int):=by rw[rangeSize_one];split<;>omega
 refine call_list_range (I.ok.hd hc) hr (small_one .(2) .(2) .(0) .(0)) rs .(0) λh' tk O c' kp J S=>?_;have Y:gn ((br n).map λ(k:Nat)=>V.int k) O.toList:=by
  refine cP (by simp[S.1]) λj x u T U=>?_;obtain⟨tk,rfl⟩:=S.2 j u (by simpa using U);have hj:j<n:=by
   have:=(jp.mp U).1;rw[hJ,S.1] at this;exact this
  rw[db,BY hj] at T;cases T;exact⟨tk,by simp⟩
 exact⟨.ref s.heap.objs.size,_,I.laid (t':=tk) kp (aS _) (show Bp X.prog X.w _ h' _ (.lst _) from⟨by rw[aI,oy];exact dA hn .(2),O.toList,c',Y,by simpa using J⟩),rfl,q _ (I.hok.fresh (aS _))⟩
def m_:df "range"=O0 (.type "range"):=by decide +kernel
def uP{p q:Pos}(hg:Gl X "list")(hm:X.mg "list"=W1)(Z:Gl X "range")(I:X.mg "range"=W1)(ha:PU X G a fa)(hc:X.calm=E3:=by rfl)(he:aE [a] X.env=[(ZA,eval a X.env)]:=by rfl)(S:aE [.Call (.Name "range" q) [a] [] pos2] X.env=[(ZA,eval (.Call (.Name "range" q) [a] [] pos2) X.env)]:=by rfl):
  PN X G (.Call (.Name "list" p) [.Call (.Name "range" q) [a] [] pos2] [] pos) (uF Yd fa):=λA=>Bt (HR (U9 hc) hg hm Pg (Bl (HR gK Z I m_ (Bl (@ha A) DK he) .(2) .(2) he rfl) DK S) .(2) .(2) S rfl)<|by
 rintro σ H Q ⟨ρ,d,o,e,k⟩
 obtain⟨dx,e1,J⟩:=Hi e;refine⟨ρ,dx,o,e1,λv H1 U r1=>?_⟩;unfold Yd at J;split at J
 .rename_i i;split at J
  .rename_i hi;cases J;rw[r1.int];refine⟨i,rfl,λl hl=>⟨l,i.toNat,rfl,by rw[Ah,Fs hi.1],by omega,λm I=>?_⟩⟩;have o1:=(o.mono U);have n1:l≠m:=λz=>by rw[<-z,Ah] at I;cases I
   have Y:H1 m=W1:=by rw[Aj (cf n1)] at I;exact I
   refine k m _ (U.trans ((Ao hl _).trans (Ao I _))) (U.free Y) ⟨(br i.toNat).map λ(k:Nat)=>V.int k,Ah,by simp[Pl],λj x d O T=>?_⟩;unfold Pl at T;rw[db] at O T;cases q:(br i.toNat)[j]? with
   |none=>rw[q] at O;cases O
   |some z=>rw[q] at O T;cases O;cases T;exact .int z
  .cases J
 .cases J
def uQ{p q:Pos}(U:Gl X "list")(J:X.mg "list"=W1)(Z:Gl X "range")(I:X.mg "range"=W1)(Y:PU X G a fa)(T:X.calm=E3:=by rfl)(O:aE [a] X.env=[(ZA,eval a X.env)]:=by rfl)(S:aE [.Call (.Name "range" q) [a] [] pos2] X.env=[(ZA,eval (.Call (.Name "range" q) [a] [] pos2) X.env)]:=by rfl):
  PF X G (.Call (.Name "list" p) [.Call (.Name "range" q) [a] [] pos2] [] pos) (uF Yd fa):=PN.pf (uP U J Z I Y T O S)
end
section
variable {A:aT}{T:String}{r d:Addr}{P:Nat->ac->Prop}{OK:Heap->Prop}
theorem Ye{R:List ac->av->Prop}(K:PySem.W.KdlSrc prog w T r d n P OK)(hh:A.handled=W1)(S:OK s.heap)(hn:n<=sizeLine)(h:∀(h':Heap) (tk:Nat) (Z:Array ac),(∀b o,s.heap.get? b=O0 o->h'.get? b=O0 o)->s.heap.objs.size<=h'.objs.size->ItemsOf P Z n->R Z.toList { s with heap:=h',toks:=tk }):
  ah (ai prog w) A (tz (.ref r)) R E s:=by
 obtain⟨hr,hd⟩:=K.there _ S;have gS:(s.heap.push { cls:=.type "list",data:=.seq ([]:List ac).toArray }).get? s.heap.objs.size=O0 { cls:=.type "list",data:=.seq #[] }:=ci _ rfl;unfold tz;refine ag (C7 (kU FY ?_));rw[ti PySem.F.plain_proto_collect _];show ah _ A.in1 (newList [] >>= λl=>again (.builtin "list.__iadd__" ⟨[l,.ref r],[]⟩)) _ _ s;refine ag (iF (aw ⟨qE N4 _,kU G0 ?_⟩));rw[ti N4 _];show ah _ A.in1 (AB (.ref s.heap.objs.size) (.ref r) (.ref s.heap.objs.size)) _ _ _;have r0:=PySem.W.kdl_extend (A:=A) (s:={ s with heap:=s.heap.push { cls:=.type "list",data:=.seq ([]:List ac).toArray } }) K
  (R:=λq s'=>∃(h':Heap) (tk:Nat) (I:Array ac) (O:Nat),q=.ok (.ret (.ref s.heap.objs.size))/\s'={ s with heap:=h',toks:=tk }/\(∀b o,s.heap.get? b=O0 o->h'.get? b=O0 o)/\h'.get? s.heap.objs.size=O0 { cls:=.type "list",dict:=W1,data:=.seq I O,slots:=#[] }/\ItemsOf P I n)
  hh (K.keep _ _ S λb _ o e=>bo _ e) s.heap.objs.size (pw hr) (pw hd) (.ref s.heap.objs.size) 0 gS
  (λh' tk I O U J Y=>⟨h',tk,I,O,rfl,rfl,λb o e=>U b o (bS (bE e)) (bo _ e),J,Y⟩) hn
 refine gE r0 (λS0 s' x=>?_) λe s' x=>?_
 .cases S0 with
  |done f=>
   obtain⟨h',tk,I,O,e,rfl,U,J,Y⟩:=x;cases e;show ah _ A (load s.heap.objs.size >>= _) _ _ _;exact ag (xS J (aw (h h' tk I U (vj (bE J)) Y)))
  |again c=>
   refine⟨x.1,kQ x.2 λr2 s2 y=>?_⟩;obtain⟨h',tk,I,O,e,rfl,U,J,Y⟩:=y;cases e;show ah _ A (load s.heap.objs.size >>= _) _ _ _;exact ag (xS J (aw (h h' tk I U (vj (bE J)) Y)))
 .obtain⟨h',tk,I,O,e,_⟩:=x;cases e
end
section
variable {A:aT}
theorem gM{ks:List Str}{v:ac}(nd:ks.Nodup)(T:ks.length<=60)(J:∀(R:List ac->av->Prop) (E':ac->av->Prop),(∀(vs:List ac) (h':Heap) (tk:Nat),Cc vs ks->s.heap.objs.size<=h'.objs.size->(∀b o,s.heap.get? b=O0 o->h'.get? b=O0 o)->R vs { s with heap:=h',toks:=tk })->ah (ai prog w) A.in1 (tz v) R E' s)(k:∀(its:List ac) (e:Nat) (l:Addr) (h':Heap) (tk:Nat),Cc its (Fq ks)->h'.get? l=O0 (rd "list" its.toArray e)->s.heap.objs.size<=l->(∀b o,s.heap.get? b=O0 o->h'.get? b=O0 o)->Q (.ref l) { s with heap:=h',toks:=tk }):
  ah (ai prog w) A (call (.builtin "sorted") [v]) Q E s:=by
 refine G1 Gc GA GB (GE _) ?_;unfold eC.«sorted»;refine ag (m:=GG "sorted" 1 1 _) (aw (ag (J _ _ λvs O tk Y le kp=>?_)));have I:vs.length<=60:=by rw[Y.length];exact T
 refine ag (xi ?_ (dA I .(2)));have U:(O.push { cls:=.type "list",data:=.seq vs.toArray }).get? O.objs.size=O0 (rd "list" vs.toArray 0):=ci _ rfl;refine ag (wpAny_holding (ja GH ⟨_,U,rfl⟩ GI (PyProof.Rows.list_sort_treeK PyProof.Rows.strKind_oneLt U Y.keysOf (λa b r e=>PyProof.Rows.keyKind_strs (by rw[<-e];exact Y)) .(0) λS a1 a2=>⟨_,rfl,?_⟩) (GL _)));obtain⟨ss,o1,Z,o3⟩:=PyProof.Rows.sorted_out_str Y a1 a2;have e:ss=Fq ks:=Z3 (Ww o3 (Z.nodup_iff.mpr nd)) (Lz ks) λy=>by rw[Iw,Z.mem_iff]
 subst e;obtain⟨c,J⟩:∃c,(PyProof.Rows.sortedHeap (O.push { cls:=.type "list",data:=.seq vs.toArray }) O.objs.size vs ((GO S).map (·.2))).get? O.objs.size=O0 (rd "list" ((GO S).map (·.2)).toList.toArray c):=by
  obtain⟨c,J⟩:=GM (out:=(GO S).map (·.2)) U;exact⟨c,by rw[J,Array.toArray_toList]⟩
 refine aw ⟨_,rfl,k _ c _ _ tk o1 J le λb o g=>?_⟩;have lb:=bE (kp b o g);rw[GN (bS lb) (by rw[iE];exact ny lb)];exact bo _ (kp b o g)
end
open L2
section
variable {a:Expr}{p:Pos}
theorem P_:∀{I:List Str}{us:List ac},gn (I.map V.str) us->Cc us I
 |[],_,.nil=>.nil
 |_::_,_,.cons r t=>by obtain⟨u,rfl⟩:=r;exact .cons _ _ (P_ t)
theorem Nx(hc:X.calm=E3):Dy X (.builtin "sorted") (λxs H Q=>∃p kvs J,xs=[.ref p]/\Rd H p (.dK kvs)/\kvs.map (λq=>kV q.1)=J.map V.str/\J.Nodup/\J.length<=60/\∀l,H l=W1->Q (.ref l) (mf H l (.lst ((Fq J).map V.str)))):=by
 intro π s σ H xs us Q I r h;obtain⟨p,kvs,J,rfl,e,ez,nd,hz,k⟩:=h;obtain⟨u,rfl,ru⟩:=r.one;cases ru;obtain⟨z,hd,vs,O,Y⟩:=PL I.hok e;obtain⟨ep,Y⟩:=Y.dictAt;have hl:kvs.length=vs.length:=O.length;refine gM (ks:=J) nd hz (λR E' hR=>Ye (LI (knd:=BJ X.prog X.w) (kvs:=vs) (ep:=ep) hd) (I.ok.hd hc) Y .(0) λh' tk Z T S hi=>hR _ h' tk ?_ S T) λU e2 l h' tk hS g S T=>?_
 .have va:gn (kvs.map λq=>kV q.1) Z.toList:=by
   refine Wa (P:=X.prog) (w:=X.w) (by simp[hi.1,hl]) λj u hu=>?_;obtain⟨k,x,h1,h2⟩:=hi.2 j u (by simpa using hu);have hj:j<kvs.length:=by rw[hl];exact (jp.mp h1).1
   refine⟨kvs[j],by simp[hj],?_⟩;rw[(Pj O (by simp[hj]) h1).1];exact h2
  rw[ez] at va;exact P_ va
 .have hv:=Vj hS;refine⟨.ref l,_,I.laid (a:=l) (o:=.lst ((Fq J).map V.str)) (t':=tk) T S ⟨?_,U,e2,hv,g⟩,rfl,k l (I.hok.fresh S)⟩;rw[aI];have:=Zp (YZ (Lz J)) (m:=J) λy m=>(Iw y J).mp m;exact dA this (dA hz .(2))
def sdkL(J:List (Key×D)):Option D:=(Nu (J.map λp=>kDt p.1)).bind λI=>if I.Nodup/\I.length<=60 then O0 (.lst ((Fq I).map .str)) else W1
def sdkD:D->Option D
 |.dk I=>sdkL I
 |_=>W1
def cQ:SndC G (λxs H Q=>∃p kvs I,xs=[.ref p]/\Rd H p (.dK kvs)/\kvs.map (λq=>kV q.1)=I.map V.str/\I.Nodup/\I.length<=60/\∀l,H l=W1->Q (.ref l) (mf H l (.lst ((Fq I).map V.str)))) sdkD:=by
 intro A H x dx d Q lv r e k;cases dx with
 |dk O=>
  have e:sdkL O=O0 d:=e;obtain⟨p,kvs,rfl,J,S,h3⟩:=r.dk;unfold sdkL at e;cases T:Nu (O.map λp=>kDt p.1) with
  |none=>rw[T] at e;cases e
  |some I=>
   rw[T] at e;have U:(if I.Nodup/\I.length<=60 then O0 (D.lst ((Fq I).map .str)) else W1)=O0 d:=e;split at U
   .rename_i Y;cases U;refine⟨p,kvs,I,rfl,J,m9 (G:=G) (H:=lu A H) (jw S) T,Y.1,Y.2,λl Z=>k _ _ (Ao Z _) (Er lv Z ⟨by simp,λi v d J S=>?_⟩)⟩;rw[db] at J S;cases q:(Fq I)[i]? with
    |none=>rw[q] at J;cases J
    |some z=>rw[q] at J S;cases J;cases S;exact .str z
   .cases U
 |_=>cases e
end
open EX
def CX1(P:cE)(w:cb):CXT:=λouter H s E v I=>∃(e:Addr) (J:Hp),v=.ref e/\I.os=s.os/\nc I.gens/\Un (frs outer) [] H J s.heap I.heap/\Ts P w J I.heap/\E v W1 J
structure Exc (G:Gx) (He H:Hp) (e:Addr) (tb:Option Addr) (c:Str) (gs:List (Str×D)):Prop where
 ex:∃C od fs,G.xcl c=O0 C/\H e=O0 (excO e C od tb)/\XdA H od fs/\FsV fs gs/\∀dx,od=O0 dx->He dx=W1
 same:cc He H
 new:He e=W1
 tbk:∀T,tb=O0 T->H T=O0 (tbO T .none)/\He T=W1
theorem Exc.base{e:Addr}(x:Exc G Hf H e tb c gs)(s:cc He Hf):Exc G He H e tb c gs:=
 ⟨let ⟨C,dx,fs,q1,q2,q3,q4,q5⟩:=x.ex;⟨C,dx,fs,q1,q2,q3,q4,λd h=>s.free (q5 d h)⟩,s.trans x.same,s.free x.new,λT h=>⟨(x.tbk T h).1,s.free (x.tbk T h).2⟩⟩
section
variable {e:Addr}
def Yg{Q:Unit->av->Prop}(S:X.stack=X.env::X.outer)(hf:X.env.frame=O0 L)(I:Inv X π σ H s)(x:Exc G He H e tb c gs)(k:∀T H' s',Inv X π σ H' s'->Exc G He H' e (O0 T) c gs->Q () s'):
  ah M X.A (zh (.ref e) X.env) (λ_ J=>ah M X.A (t5 (.ref e) W1) Q E J) E s:=by
 obtain⟨C,dx,fs,q1,q2,q3,Y,Z⟩:=x.ex;refine sO S hf I q2 (λT h=>(x.tbk T h).1) λT H' s' n=>k T H' s' n.inv ?_;have O:∀b u,H b=O0 u->(∀U,u≠.ext U)->b≠e/\tb≠O0 b:=λb u q z=>⟨λw=>by subst w;rw[q2] at q;cases q;exact z _ rfl,λw=>by
  have:=(x.tbk b w).1;rw[this] at q;cases q;exact z _ rfl⟩
 refine⟨⟨C,dx,fs,q1,n.exc,(by cases dx with | none=>exact q3 | some dx=>exact n.rest dx _ (O dx _ q3 λ_ z=>nomatch z).1 (O dx _ q3 λ_ z=>nomatch z).2 q3),Y,Z⟩,λb u h=>n.rest b u (λz=>by rw[z,x.new] at h;cases h) (λz=>by rw[(x.tbk b z).2] at h;cases h) (x.same b u h),x.new,λT' h=>?_⟩;cases h;exact⟨n.tbk,x.same.free n.new⟩
end
def Rz(X:Cx)(G:Gx)(A0:List Addr)(T:Hp)(c:Str)(S:List (Str×D))(ρ:Rho):Prop:=∀O I J H s e tb,Inv X O I H s->OkS G A0 T I J ρ->Exc G J H e tb c S->X.xe (.ref e) s
def Pe:D->Option (Str×List (Str×D))
 |.exc c O=>O0 (c,O)
 |_=>W1
def RzO(X:Cx)(G:Gx)(A0:List Addr)(I:Hp)(d:D)(ρ:Rho):Prop:=∀c O,Pe d=O0 (c,O)->Rz X G A0 I c O ρ
def OutX(X:Cx)(G:Gx)(A0:List Addr)(I:Hp):To->Prop
 |.rt d ρ=>RzO X G A0 I d ρ
 |_=>True
def tSZ(X:Cx)(G:Gx)(A0:List Addr)(I:Hp)(g:FS):TS:=λD J H=>∃ρ o,OkS G A0 I J H ρ/\g ρ=O0 o/\Tg G A0 I D o/\OutX X G A0 I o
def PSZ(X:Cx)(G:Gx)(st:Stmt)(g:FS):Prop:=∀⦃A0⦄ He,PS X st (tSZ X G A0 He g)
def PSZs(X:Cx)(G:Gx)(st:List Stmt)(g:FS):Prop:=∀⦃A0⦄ He,PSs X st (tSZ X G A0 He g)
def tFZ(X:Cx)(G:Gx)(A0:List Addr)(J:Hp)(f:FE):TE:=λO H Q=>∃ρ d A,Sb G A0 J A O H ρ/\f ρ=O0 d/\(∀v I,cc H I->uj G (lu A I) v d->Q v I)/\RzO X G A0 J d ρ
def PFZ(X:Cx)(G:Gx)(e:Expr)(f:FE):Prop:=∀⦃A0⦄ He,PE X e (tFZ X G A0 He f)
def L_(f:FE):FS:=λρ=>(f ρ).map λd=>match Pe d with | some _=>.rt d ρ | none=>.nx ρ
section
variable {a c:Expr}{fa:FE}{rest:List Stmt}{g gs:FS}
def VW.x(h:VW X G st g):PSZ X G st g:=by rintro U T S s J H D I ⟨O,o,ok,e,k,_⟩;exact @h U T S s J H D I ⟨O,o,ok,e,k⟩
def Nb:PSZs X G [] Pc:=by rintro U T S s J H D I ⟨O,o,ok,e,k,_⟩;exact BK T S s J H D I ⟨O,o,ok,e,k⟩
def DX(h1:PSZ X G st g):PSZs X G [st] g:=λS I=>R1 (@h1 S I)
theorem Gq(h1:PSZ X G st g)(h2:PSZs X G rest gs):PSZs X G (st::rest) (bc g gs):=by
 rintro Y U π s σ H D I ⟨T,o,ok,e,k,kx⟩
 refine Le (@h1 Y U) (@h2 Y U) π s σ H D I ?_;unfold bc at e;split at e
 .rename_i J e1;exact⟨T,_,ok,e1,λZ H' O=>⟨J,o,O,e,k,kx⟩,trivial⟩
 .rename_i S;refine⟨T,o,ok,e,?_,kx⟩;cases o with
  |nx J=>exact QO e (S J)
  |rt d J=>exact k
  |bk J=>exact k
  |ct J=>exact k
def Q3{T:List Stmt}(ht:Zl X G c ga)(h1:PSZs X G s1 g)(h2:PSZs X G T gs):PSZ X G (.If c s1 T pos) (OV ga g gs):=by
 rintro U S Z s Y H D I ⟨J,o,⟨A,w⟩,e,k,kx⟩
 refine iT (@ht A) (@h1 U S) (@h2 U S) Z s Y H D I ?_;unfold OV at e;split at e
 .rename_i O;exact⟨J,_,w.ok,O,λH1 s1=>iteT ⟨J,o,⟨A,w.mono s1⟩,e,k,kx⟩⟩
 .rename_i O;exact⟨J,_,w.ok,O,λH1 s1=>iteF ⟨J,o,⟨A,w.mono s1⟩,e,k,kx⟩⟩
 .cases e
def nA(r:uj G H v d):Pe d=W1:=by cases r<;>rfl
def cR(ha:PFZ X G a fa):PSZ X G (.Return (O0 a) pos) (im fa):=by
 rintro A0 Z T s O H D I ⟨S,o,⟨A,w⟩,e,k,kx⟩
 refine iR (@ha A0 Z) T s O H D I ?_;unfold im at e;cases J:fa S with
 |none=>simp[J] at e
 |some d=>
  simp only[J,iq] at e;cases e;exact⟨S,d,A,w,J,λv H1 U Y=>k v O H1 A (w.mono U) Y,kx⟩
def Hu(ha:PFZ X G a fa)(hs:gI a W1 pos.line X.env=pure ZA:=by rfl):PSZ X G (.Expr a pos) (L_ fa):=by
 rintro A0 He Z s Y H D I ⟨S,o,⟨A,w⟩,e,k,kx⟩
 refine R3 (@ha A0 He) hs Z s Y H D I ?_;unfold L_ at e;cases O:fa S with
 |none=>simp[O] at e
 |some d=>
  simp only[O,iq] at e;cases J:Pe d with
  |none=>
   simp only[J] at e;cases e;exact⟨S,d,A,w,O,λv H1 T U=>k _ _ ⟨A,w.mono T⟩,λc gs z=>by rw[J] at z;cases z⟩
  |some q=>
   simp only[J] at e;cases e;exact⟨S,d,A,w,O,λv H1 T U=>QO J (by rw[nA U];simp),kx⟩
end
def nC(X:Cx)(J:St):XK:=λv _ S=>∀O I,Inv X O J S I->X.xe v I
def XW(G:Gx)(J:Hp)(d:D)(E:XK):Prop:=∀c O,Pe d=O0 (c,O)->∀e T I,Exc G J I e (O0 T) c O->E (.ref e) W1 I
def spZ(G:Gx)(g:List D->Option D):Sp:=λvs H Q E=>∃A ds d,(∀a∈A,Nt (H a))/\fy G (lu A H) vs ds/\g ds=O0 d/\(∀v I,cc H I->uj G (lu A I) v d->Q v I)/\XW G H d E
section
variable {k:Nat}{f:Addr}{sp:Sp}{x m:Str}{p:Pos}{o:Expr}{es:List Expr}{ta:TE}{t:TA}
def uR{Q:VK}{vs:List V}(F:mu X.prog X.w X.K X.mg X.base (CX1 X.prog X.w) k f fd ps sp)(T:Room k X.A)(hb:OX X.K fd ps [])(I:Inv X π σ H s)(r:gn vs us)(h:sp vs H Q (nC X σ)):ah .(3) X.A (call (.ref f) us) (EP X π σ Q) X.xe s:=by
 have Y:us.length=ps.length:=by rw[<-r.length];exact F.len _ _ _ _ h
 have J:=hb s us I.kIn (by rw[gg];exact Y);rw[gg] at J;refine qc (kQ (F.run X.A X.stack s H ⟨us,[]⟩ us vs Q _ T I.env0 J r h) λr O U=>?_);cases r with
 |error v=>
  obtain⟨e,H',rfl,q1,q2,q3,S,Z⟩:=U;exact Z π O (I.call' q1 q3 S q2 λ_ z=>nomatch z)
 |ok fl=>
  cases fl with
  |ret u=>exact I.after U
  |next=>exact gv U
  |brk=>exact gv U
  |cont=>exact gv U
def zP(X:Cx)(sp:Sp)(t:TA):TE:=λI H Q=>t I H λvs J=>sp vs J Q (nC X I)
def nD(F:mu X.prog X.w X.K X.mg X.base (CX1 X.prog X.w) k f fd ps sp)(Y:Room k X.A)(hg:Gl X x)(Z:X.mg x=O0 (.ref f))(hk:fF X.K (.ref f)=E3)(hb:OX X.K fd ps [])(ha:PA X (e::es) t)(O:(x==("__debug__":Str))=ZA:=by decide)(he:aE (e::es) X.env=(ZA,eval e X.env)::aE es X.env:=by rfl)(J:(dE pos (aE es X.env)).any (·.1)=ZA:=by rfl):
  PE X (.Call (.Name x p) (e::es) [] pos) (zP X sp t):=by
 intro U s T H Q I h;refine qf (Jg I hg Z ?_ O);refine wa (h₀:=X.base) I.ok.mod.kin hk (py (ha pos U s T H _ I h) λus s1 ⟨vs,H1,S,r,q⟩=>⟨S.kIn,?_⟩) he J;exact uR F Y hb S r q
end
section
variable {a ob:Expr}{es:List Expr}{fs:FA}{fo:FE}{p:Pos}
def ABc(w:Sb G A0 He A σ H1 ρ)(kx:RzO X G A0 He d ρ):XW G H1 d (nC X σ):=λc S z e T U x J O I=>kx c S z J σ H1 U O e (O0 T) I ⟨A,w⟩ x
def zQ{k:Nat}{f:Addr}{x:Str}(F:mu X.prog X.w X.K X.mg X.base (CX1 X.prog X.w) k f fd ps (spZ G g))(hr:Room k X.A)(hg:Gl X x)(hm:X.mg x=O0 (.ref f))(hk:fF X.K (.ref f)=E3)(hb:OX X.K fd ps [])(ha:PFA X G (a::es) fs)(S:(x==("__debug__":Str))=ZA:=by decide)(he:aE (a::es) X.env=(ZA,eval a X.env)::aE es X.env:=by rfl)(O:(dE pos (aE es X.env)).any (·.1)=ZA:=by rfl):
  PFZ X G (.Call (.Name x p) (a::es) [] pos) (Ag g fs):=by
 rintro A0 He π s Z H Q I ⟨Y,d,A,w,e,k,kx⟩
 refine nD F hr hg hm hk hb (@ha A) S he O π s Z H Q I ?_;unfold Ag at e;cases T:fs Y with
 |none=>simp[T] at e
 |some U=>
  have e':g U=O0 d:=by simpa [T] using e
  exact⟨Y,U,w.ok,T,λvs H1 J r1=>⟨A,U,d,(w.mono J).ok.live,r1,e',λv H2 s2 r2=>k v H2 (J.trans s2) r2,ABc (w.mono J) kx⟩⟩
def Es(c m:Str):D->Bool
 |.ob I O=>I==c&&(O.lookup m).isNone
 |_=>ZA
def Fz(c m:Str)(g:List D->Option D)(I:FE)(fs:FA):FE:=λρ=>(I ρ).bind λo=>if Es c m o=E3 then (fs ρ).bind λds=>g (o::ds) else W1
def Q4{fs:List (Str×V)}{m:Str}(h:fs.map (·.1)=gs.map (·.1))(n:gs.lookup m=W1):fs.lookup m=W1:=by
 induction fs generalizing gs with
 |nil=>rfl
 |cons p r I=>
  cases gs with
  |nil=>cases h
  |cons q t=>
   obtain⟨a,b⟩:=p;obtain⟨S,O⟩:=q;simp only[bn,xC] at h;obtain⟨rfl,J⟩:=h;simp only[ce] at n ⊢;split at n
   .cases n
   .exact I J n
end
theorem zR{base:Heap}{f:Addr}{O:ac}{A:aT}{E:XK}(h:XW G H d E):
  RzO (TZ (CX1 P w) P w G.K mg base N qual scope f O A outer s H E) G A0 H d ρ:=by
 rintro c Y z π Z H1 H2 s2 e tb I ⟨A1,ok⟩ x
 show ah _ _ (leaving _ _) _ _ _;unfold leaving;refine ag (Yg (X:=TZ (CX1 P w) P w G.K mg base N qual scope f O A outer s H E) rfl rfl I (x.base ok.same) λT S s' J U=>?_);exact⟨e,S,rfl,J.os,J.bare,J.base,J.hok,h c Y z e T S U⟩
end PV
namespace EX
open PySem PySem.W PyProof.Rows PySem.Calls
section
variable {A:aT}{g:Array GenState}{d:Drawn}{t:Nat}{os:OsState}{R:nv->av->Prop}
variable {nm q:Str}{N:Addr}{bs bm bmB:List ac}{hdct:Bool}{sn:List Str}{sub:List ac}{ab:Bool}{col:Option Bool}{dd:Option Addr}{k0 k1 k2 k3 k5:Option ac}{B newId initId:String}
abbrev IK (C a:Addr):Obj:={ cls:=.ref C,data:=.fields #[.ref a,.none,.none,.none,.bool ZA,.none] }
abbrev HW (rest:List ac):Obj:={ cls:=.type "tuple",data:=.seq rest.toArray }
def UL(F:ExcBaseFacts B newId initId bmB)(T:OwnTail h bmB bm){rest:List ac}{I:ac}{Q:Fin->av->Prop}(Y:h.get? C=O0 (GS nm q C N bs bm hdct sn sub ab col dd k0 k1 k2 k3 k5 newId))(hi:Looks (ai prog w) h (wb (.ref C) "__init__") (O0 I))(hb:∀J,Looks (ai prog w) h (bindSpecial I J) (I,[J]))(hq:fA (ai prog w) A (.call I ⟨.ref (h.objs.size+1)::rest,[]⟩) (λr s'=>match r with
   |.ok (.ret v)=>v=.none/\Q (.done (.ret (.ref (h.objs.size+1)))) s'
   |.ok _=>False
   |.error e=>E e s') ⟨(h.push (HW rest)).push (IK C h.objs.size),g,d,t,os⟩)(O:rest.length<=sizeLine:=by size_fits):
  ah (ai prog w) A (eC.«type.__call__» ⟨.ref C::rest,[]⟩) Q E ⟨h,g,d,t,os⟩:=by
 repeat (first | with_reducible refine wpAny_loadPart_at Y ?_ | with_reducible refine wpAny_madeBy_exc Y ?_ | wp_step)
 refine codeAny_call_builtin_code (zw _ F.quiet) (wpAny_check_new_subT F T Y ?_);refine codeAny_exc_new_subT F T Y ?_ O;show ah _ _ _ _ _ _;have k:∀b o,h.get? b=O0 o->((h.push (HW rest)).push (IK C h.objs.size)).get? b=O0 o:=λb o e=>bo _ (bo _ e);have S:=k _ _ Y;have U:((h.push (HW rest)).push (IK C h.objs.size)).get? (h.objs.size+1)=O0 (IK C h.objs.size):=by heap_get
 have Z:(bg C::bm).contains (.ref C)=E3:=by simp
 have i1:=hi.keeps k;have b1:=(hb (.ref (h.objs.size+1))).keeps k;unfold oS
 repeat (first | with_reducible refine wpAny_loadPart_at U ?_ | (with_reducible refine GT S ?_;rw[Z]) | wp_step)
 show ah _ _ (wb (.ref C) _) _ _ _;refine i1.at ?_;dsimp only;refine wpAny_holding (ag (b1.at ?_));dsimp only;refine ag (qc (kQ hq λr s' z=>?_))
 rcases r with e | (v | _ | _ | _)<;>first | exact z | exact z.elim | skip
 obtain⟨rfl,z⟩:=z;exact aw (aw z)
def Yh(F:ExcBaseFacts B newId initId bmB)(T:OwnTail h bmB bm){rest:List ac}{I:ac}(Y:h.get? C=O0 (GS nm q C N bs bm hdct sn sub ab col dd k0 k1 k2 k3 k5 newId))(S:Looks (ai prog w) h (wb (.ref C) "__init__") (O0 I))(Z:∀J,Looks (ai prog w) h (bindSpecial I J) (I,[J]))(U:fA (ai prog w) (A.under (.builtin "type.__call__" ⟨.ref C::rest,[]⟩)) (.call I ⟨.ref (h.objs.size+1)::rest,[]⟩) (InitBack (h.objs.size+1) R) ⟨(h.push (HW rest)).push (IK C h.objs.size),g,d,t,os⟩)(O:rest.length<=sizeLine):
  fA (ai prog w) A (.call (.ref C) ⟨rest,[]⟩) R ⟨h,g,d,t,os⟩:=by
 have f1:=tc_lookup;have f2:=tc_bind (.ref C);have hT:(⟨h,g,d,t,os⟩:av).TypeIs (.ref C) "type":=⟨_,Y,rfl⟩;refine F9 ?_;show ah _ _ (callAny (.ref C) _) _ _ _
 repeat (any_goals (first | assumption | with_reducible refine wpAny_loadPart_at Y ?_ | wp_step))
 refine⟨rfl,?_⟩;refine codeAny_call_builtin_at (zw _ (by decide +kernel)) entry_typeCall (wpAny_check_type_call_sub Y (UL F T Y S Z (kQ U λr s' z=>?_) O))
 rcases r with e | (v | _ | _ | _)<;>first | exact z | exact z.elim
end
open PySem.Spec
section
variable {A:aT}{K:Frag}{x:Addr}{ox:Obj}{od:Option Obj}{name:Str}{v:ac}
theorem uT{J:Bool}(X:K.In s.heap)(I:InstAt s.heap x ox C od)(X0:rf K (.ref C) "__getattribute__"=O0 (O0 (.builtin "BaseException.__getattribute__")))(S0:rf K (.ref C) "__getattr__"=O0 W1)(S:subIn K (.ref C) (.type "BaseException")=O0 E3)(hf:findObj K C od name=O0 (.value v))(hh:handedIn v=E3)(h:Q v { s with toks:=s.toks+1 }):ah (ai prog w) A (w4 (.ref x) name J) Q E s:=by
 obtain⟨U,g,d,t,T⟩:=s;have L0:=I.type (M:=ai prog w);have L1:=AC (M:=ai prog w) X X0;have L2:=AC (M:=ai prog w) X S0;have L3:=looks_find (M:=ai prog w) X I hf;have L4:=looks_subIn (M:=ai prog w) X S;have f3:=Cf.ga.bind (.ref x);have hk:EQ "BaseException.__getattribute__"=O0 .slot:=by decide +kernel
 have O:splitId "BaseException.__getattribute__"=O0 ("BaseException","__getattribute__"):=by decide +kernel
 have Z:(mS "BaseException.__getattribute__"==mS "object.__getattribute__")=ZA:=by decide +kernel
 have r0:(onTheHeap (bg C)&&mS "BaseException.__getattribute__"==mS "object.__getattribute__")=ZA:=by rw[Z];rfl
 have P1:(J&&onTheHeap (mS "BaseException.__getattribute__"))=ZA:=by cases J<;>rfl
 unfold w4 getAttrBy;refine ag (wpAny_mkText (wpAny_holding (ag (L0.at (ag (L1.at ?_))))));dsimp only;rw[r0,OO .(2)];have ck:∀(Q:Unit->av->Prop) (B:aT) (E':ac->av->Prop),Q () ⟨U,g,d,t+1,T⟩->ah (ai prog w) B (zC "BaseException.__getattribute__" ⟨[.ref x,.str name t],[]⟩) Q E' ⟨U,g,d,t+1,T⟩:=λQ B E' hq=>by
  have ha:=N9 (.ref x) (.str name t);simp only[zC,hk,O];refine ag ?_;unfold oS;refine ag (L0.at (L4.at ?_))
  repeat (any_goals (first | assumption | wp_step))
 have Y:∀(B:aT) (R:nv->av->Prop),R (.ok (.ret v)) ⟨U,g,d,t+1,T⟩->fA (ai prog w) B (.call (.builtin "BaseException.__getattribute__") ⟨[.ref x,.str name t],[]⟩) R ⟨U,g,d,t+1,T⟩:=λB R hq=>
  xh Cf.ga.plain Na (ck _ _ _ (by
   unfold eC.«object.__getattribute__»
   repeat (any_goals (first | assumption | with_reducible refine L0.at ?_ | with_reducible refine L3.at ?_ | wp_step))))
 repeat (any_goals (first | assumption | with_reducible refine L2.at ?_ | wp_step))
 refine Y _ _ ?_;show ah _ _ (handedOut v) _ _ _;rw[handedOut_of hh];exact aw h
open Builtin Builtin.ObjectAttr in
theorem uU{R:Addr}{cd:ClassData}{vs:Array ac}{Q:Unit->av->Prop}(X:K.In s.heap)(I:InstAt s.heap x ox C W1)(P1:ox.data=.fields vs)(hs:rf K (.ref C) "__setattr__"=O0 (O0 (.builtin "object.__setattr__")))(hc:clsIn K C=O0 cd)(hm:cd.mro=[.ref C,.ref R,.type "ValueError",.type "Exception",.type "BaseException",.type "object"])(hd:cd.hasDict=E3)(ht:rf K (.ref C) name=O0 W1)(h:∀h':Heap,h'.get? x=O0 { ox with dict:=O0 s.heap.objs.size }->h'.Ns1 s.heap.objs.size (λy=>if y=name then O0 v else W1)->(∀b o,b≠x->s.heap.get? b=O0 o->h'.get? b=O0 o)->Q () { s with heap:=h',toks:=s.toks+2 }):
  ah (ai prog w) A (setAttr (.ref x) name v) Q E s:=by
 obtain⟨J,g,d,t,os⟩:=s;have SF:=F.store_object;have VF:=F.store_ValueError;have O:refuseLoop (.ref x) "__setattr__" cd.mro=pure ():=by rw[hm,refuseLoop_ref,refuseLoop_ref];exact VF.passes _
 have sub:Looks (ai prog w) J (oS (.ref x) (.type "object")) E3:=I.type.andThen (looks_mroIn X (by unfold mroIn;rw[hc,cw,hm];rfl));have lm:Looks (ai prog w) J (mroOf (.ref C)) cd.mro:=(looks_clsIn X hc).andThen .now;have la:=AC (M:=ai prog w) X ht;have lt:=I.type (M:=ai prog w);have lc:=looks_clsIn (M:=ai prog w) X hc;refine set_plain X I hs (xh SF.slot.plain SF.entry ?_);refine @check_slot (ai prog w) _ _ ⟨J,g,d,t+1,os⟩ "object.__setattr__" "object" "__setattr__" (.ref x) [.str name t,v] [] _ SF.kind SF.split sub (SF.args (.ref x) (.str name t) v) ?_;rw[osa_eq,refuse_eq];refine ag (ag (lt.at (ag (lm.at ?_))));rw[O];refine aw (ag (lt.at (ag (la.at (ag (aw ?_))))));dsimp only;obtain⟨hx,U1,hn,S1⟩:=I;obtain⟨oc,T,T2,S⟩:=ox;dsimp only at U1 S1 P1;subst U1 P1;have Y1:T=W1:=by
  cases T with
  |none=>rfl
  |some z=>exact S1.elim
 subst Y1;have U:x≠J.objs.size:=bS (bE hx);have Y:(J.push { cls:=.type "dict",data:=.dict #[] }).get? x=O0 ⟨.ref C,W1,.fields vs,S⟩:=bo _ hx;unfold storeInOwnDict;refine ag (aw (ag (ag (DJ hx (ag (lc.at ?_))))));rw[hd];refine ag (wpAny_alloc' (ag (wpAny_update' Y (aw ?_))));have X0:((J.push { cls:=.type "dict",data:=.dict #[] }).update x λo=>{ cls:=o.cls,dict:=O0 J.objs.size,data:=o.data,slots:=o.slots }).get? J.objs.size=O0 { cls:=.type "dict",data:=.dict #[] }:=(ka _ _ U).trans (ci _ rfl);have S0:((J.push { cls:=.type "dict",data:=.dict #[] }).update x λo=>{ cls:=o.cls,dict:=O0 J.objs.size,data:=o.data,slots:=o.slots }).get? x=O0 ⟨.ref C,O0 J.objs.size,.fields vs,S⟩:=mI _ Y rfl;have ho:∀b o,b≠x->J.get? b=O0 o->((J.push { cls:=.type "dict",data:=.dict #[] }).update x λo=>{ cls:=o.cls,dict:=O0 J.objs.size,data:=o.data,slots:=o.slots }).get? b=O0 o:=λb o nb z=>(ka _ _ (cf nb)).trans (bo _ z);generalize (J.push { cls:=.type "dict",data:=.dict #[] }).update x (λo=>{ cls:=o.cls,dict:=O0 J.objs.size,data:=o.data,slots:=o.slots })=h2 at X0 S0 ho ⊢;have hnd:h2.Ns J.objs.size (λ_=>W1):=⟨_,#[],_,X0,rfl,λe he=>QO he .(1),λ_=>rfl⟩;show ah _ _ (storeInDict J.objs.size (.str name t) name v) _ _ _;unfold storeInDict newKeyGuard;refine ag (aw (ag (wpAny_nsSet1 (JI hnd) λh' r0 Z=>?_)));obtain⟨oD,U2,X2,X1,Q2,S2⟩:=r0.count (Within.cons name v Within.nil);refine ag (Jn X1 (by rw[Q2];exact JA (dA S2 (by rw[cq,mB,hV];omega))) ?_);exact aw (h h' ((Z.2 x U).trans S0) r0 λb o nb z=>(Z.2 b (bS (bE z))).trans (ho b o nb z))
end
end EX
namespace EX
open PySem PySem.Spec L2
open PyProof.Rows hiding St
abbrev bmV:List ac:=[.type "ValueError",.type "Exception",.type "BaseException",.type "object"]
def excX(K:ay)(C:Addr):Bool:=match K.lookup C with
 |some ⟨.type "type",_,.cls cd,sl⟩=>(match cd.mro,sl.toList with
  |.ref J::I,[_,_,_,_,O0 (.builtin n),_]=>J==C&&n=="ValueError.__new__"&&!cd.hasDel&&PySem.W.tailIn K bmV I
  |_,_=>ZA)
 |_=>ZA
theorem KQ{K:ay}(X:K.In h)(q:excX K C=E3):∃nm S N bs bm J O sub ab I dd k0 Z Y U T,h.get? C=O0 (GS nm S C N bs bm J O sub ab I dd k0 Z Y U T "ValueError.__new__")/\OwnTail h bmV bm:=by
 unfold excX at q;split at q
 .rename_i dd cd sl ho;split at q
  .rename_i C' bm k0 Z Y U n T hm hs;simp only[eW,WO,Bool.not_eq_true'] at q;obtain⟨⟨⟨e1,e2⟩,e3⟩,e4⟩:=q;subst e1 e2;obtain⟨nm,bs,r0,ns,S,hd,O,sub,ab,I,S0⟩:=cd;obtain⟨l⟩:=sl;simp only at hm hs e3;subst hm e3 hs;exact⟨nm,S,ns,bs,bm,hd,O,sub,ab,I,dd,k0,Z,Y,U,T,X _ _ ho,PySem.W.tail_of_in X e4⟩
  .cases q
 .cases q
structure XC (K:ay) (C R:Addr):Prop where
 obj:excX K C=E3
 sa:dn K (.ref C) "__setattr__"=O0 (O0 (.builtin "object.__setattr__"))
 ga:dn K (.ref C) "__getattribute__"=O0 (O0 (.builtin "BaseException.__getattribute__"))
 gt:dn K (.ref C) "__getattr__"=O0 W1
 cd:(GU K C).any (λcd=>cd.mro==[.ref C,.ref R,.type "ValueError",.type "Exception",.type "BaseException",.type "object"]&&cd.hasDict)=E3
def XC.cls{K:ay}{R:Addr}(x:XC K C R):∃I,GU K C=O0 I/\I.mro=[.ref C,.ref R,.type "ValueError",.type "Exception",.type "BaseException",.type "object"]/\I.hasDict=E3:=by
 obtain⟨I,O,J⟩:=IZ x.cd;simp only[eW,WO] at J;exact⟨I,O,J.1,J.2⟩
theorem UT{o:HO}(h:H a=O0 o):mf H a o=H:=by
 funext b;unfold mf;split
 .rename_i e;rw[e,h]
 .rfl
section
variable {e R dx:Addr}{A:aT}
theorem nF(I:Inv X π σ H s)(O:H e=O0 (excO e C od tb))(x:XC X.K C R)(hQ:∀s',Inv X π σ H s'->Q .none s'):
  ah .(3) A (call (.builtin "ValueError.__init__") [.ref e,u]) Q E s:=by
 have F:=GV;obtain⟨⟨o,Y,q1,q2,q3,J,q5,q6⟩,_⟩:=I.hok e _ O;obtain⟨nm,qn,N,bs,bm,Z,sn,sub,ab,r0,dd,k0,k1,k2,k3,k5,hC,T⟩:=KQ I.kIn x.obj;have I1:=I.kept (h':=s.heap.push { cls:=.type "tuple",data:=.seq [u].toArray }) (t':=s.toks) λb v z=>bo _ z;have U:=bo (h:=s.heap) { cls:=.type "tuple",data:=.seq [u].toArray } q1;have I2:=M6 (u':=excO e C od tb) (i:=0) (v:=.ref s.heap.objs.size) I1 O trivial U J λh' o' r1 r2 r3 r4=>ExcP.ok ⟨o',_,r1,r2.trans q2,r3.trans q3,r4,by simpa using q5,by rw[Nc .(2)];exact q6⟩;rw[UT O] at I2;obtain⟨hp,g,d,t,os⟩:=s;have S:∃v0,Y[0]?=O0 v0:=⟨Y[0]'(by omega),by simp⟩;obtain⟨v0,S⟩:=S;refine qc (xh F.init.plain F.initEntry (Nd F T hC q1 q2 ?_));unfold eC.«BaseException.__init__»;dsimp only;rw[OO .(1)];unfold Au Nl;refine ag (iF (ag (ag (wpAny_field U J S (ag (om U J .(0) ?_))))) (by show 1<=sizeLine;decide));have z:=hQ _ I2;cases v0<;>first | exact tj (aw z) | exact aw (aw z)
def uV{Q:Unit->av->Prop}(I:Inv X π σ H s)(O:H e=O0 (excO e C W1 tb))(x:XC X.K C R)(n:BL X.K C f)(ry:fx y u)(h:∀dx s',H dx=W1->Inv X π σ (mf (mf H dx (.xd [(f,y)])) e (excO e C (O0 dx) tb)) s'->Q () s'):ah .(3) A (setAttr (.ref e) f u) Q E s:=by
 obtain⟨⟨o,vs,q1,q2,q3,q4,q5,q6⟩,_⟩:=I.hok e _ O;obtain⟨cd,c1,c2,c3⟩:=x.cls;have ia:AU s.heap e o C W1:=⟨q1,q2,by unfold Co;rw[q4],by rw[q3];trivial⟩;refine uU I.kIn ia q4 x.sa c1 c2 c3 n λh' r1 r2 Z=>h s.heap.objs.size _ I.fresh ?_;have hf:=I.fresh;have ne:e≠s.heap.objs.size:=BZ O hf;have hs:∃o',h'.get? s.heap.objs.size=O0 o':=let ⟨o',_,_,z,_⟩:=r2;⟨o',z⟩;have nx:∀b v,H b=O0 v->(∀φ,v≠.ext φ)->b≠e/\b≠s.heap.objs.size:=λb v q z=>⟨λw=>by rw[w,O] at q;cases q;exact z _ rfl,BZ q hf⟩;have T:∀b v,H b=O0 v->(∀φ,v≠.ext φ)->mf (mf H s.heap.objs.size (.xd [(f,y)])) e (excO e C (O0 s.heap.objs.size) tb) b=O0 v:=λb v q z=>by rw[Aj (nx b v q z).1,Aj (nx b v q z).2];exact q
 refine I.un ⟨λb ob z J _ _=>Z b ob (cf (BZ O J)) z,λb ob z J _ _=>⟨ob.slots,Z b ob (cf (BZ O J)) z⟩,λb ob z J _=>?_,λb ob z _=>?_,λb xs z=>T b _ z (λ_ z=>nomatch z),λb o' u' z=>T b _ z (λ_ z=>nomatch z),λb ps z=>⟨#[],by rw[T b _ z (λ_ z=>nomatch z)];simp⟩⟩ λb v z=>?_
 .rw[Aj (cf (BZ O J)),Aj (bS (bE z))];exact J
 .by_cases S:b=e
  .rw[S];exact⟨_,r1⟩
  .exact⟨ob,Z b ob S z⟩
 .by_cases S:b=e
  .subst S;rw[Ah] at z;cases z;exact ExcP.ok ⟨_,vs,r1,q2,rfl,q4,q5,q6⟩
  .rw[Aj S] at z
   by_cases Y:b=s.heap.objs.size
   .subst Y;rw[Ah] at z;cases z;refine⟨_,r2,λg=>?_⟩
    by_cases hg:g=f
    .subst hg;simp[ce];exact ry
    .have:(g==f)=ZA:=beq_eq_false_iff_ne.mpr hg;simp[ce,this,hg];trivial
   .rw[Aj Y] at z;refine (I.hok b v z).stay (λc w U k=>Z c w ?_ k) (λc q=>T c _ q (λ_ z=>nomatch z)) (λc xs tu q=>T c _ q (λ_ z=>by rw[z] at tu;exact tu))
    rcases U with U | U
    .rw[U];exact S
    .exact (nx c _ U (λ_ z=>nomatch z)).1
theorem uW{b:Bool}{fs:List (Str×V)}(I:Inv X π σ H s)(he:H e=O0 (excO e C (O0 dx) tb))(hd:H dx=O0 (.xd fs))(x:XC X.K C R)(n:BL X.K C f)(l:fs.lookup f=O0 v)(h:∀u s',Inv X π σ H s'->fx v u->Q u s'):ah .(3) A (w4 (.ref e) f b) Q E s:=by
 obtain⟨⟨o,vs,q1,q2,q3,S,q5,q6⟩,_⟩:=I.hok e _ he;obtain⟨mA,U,r⟩:=I.hok dx _ hd;obtain⟨u,Z,J⟩:=Se.some_of (v:=v) (o:=mA f) (by rw[<-l];exact r f);obtain⟨T,g1,g2⟩:=QZ U;obtain⟨cd,O,c2,c3⟩:=x.cls;have Y:AU s.heap e o C (O0 T):=⟨q1,q2,by unfold Co;rw[S],by rw[q3];exact g1⟩;have hh:vT X.K C=E3:=by unfold vT;rw[O];exact c3
 refine uT I.kIn Y x.ga x.gt ?_ (IY hh n rfl (by rw[g2,Z])) (M5 J) (h u _ (I.tok _) J);show Ct X.K C _=_;unfold Ct;rw[O,cw,c2];rfl
end
section
variable {a:Expr}{es:List Expr}{t:TA}{p:Pos}{x:Str}{R:Addr}
def PP(X:Cx)(c:St->Prop)(e:Expr):Prop:=∀(J:QP) (s:av) (I:St) (H:Hp),Inv X J I H s->c I ->
 ah .(3) X.A (eval e X.env) (λv O=>∃y t,v=.str y t/\y.length<=2000000/\Inv X J I H O) X.xe s
def zT{c:St->Prop}{j}(h:z.length<=2000000:=by decide):PP X c (.Constant (.str z) j pos):=λO s J H I _=>IJ ⟨z,_,rfl,h,I.tok _⟩
def nG(i:Nat)(I:St):Prop:=∃n:Int,I[i]?=O0 (O0 (.int n))/\n.natAbs.log2<1920
def zU(h:PE X e (TR i)):PP X (nG i) (.FormattedValue e (-1) W1 pos):=by
 rintro S s O H I ⟨n,U,J⟩
 refine wpAny_FormattedValue_plain (py (h S s O H (λv Z=>v=.int n/\Z=H) I ⟨_,U,rfl,rfl⟩) λu s1 q0=>?_);obtain⟨v,H1,Y,T,q1,q2⟩:=q0;subst q1 q2;obtain⟨t,rfl⟩:=(show ∃t,u=nV n t from T);refine wpAny_formatField_int J ⟨_,_,rfl,?_,Y.tok _⟩;have:=int_text_length_le (k:=1920) .(2) J;rw[PySem.ofString_length];omega
def cT(y:Str):(kN++y).length=y.length:=by rw[PV.Tt];simp[yB,kN]
def tTxt(c:St->Prop):TE:=λI H Q=>c I/\∀y,Q (.str y) H
def nH{c:St->Prop}{Y O:Expr}(h1:PP X c Y)(h2:PP X c O):PE X (.JoinedStr [Y,O] pos) (tTxt c):=by
 rintro T s S H Q I ⟨U,q⟩
 refine wpAny_JoinedStr ?_;refine py (h1 T s S H I U) λv s1 ⟨y,t,e,l,I1⟩=>⟨y,t,e,PV.Ip (by rw[cT];omega),?_⟩;have b2:∀J:Str,J.length<=2000000->(kN++y++J).length<=sizeLine:=λJ Z=>PV.Ip (by rw[PV.Tt,cT];omega);exact py (h2 T s1 S H I1 U) (by rintro v s2 ⟨J,t2,O,Z,I2⟩;exact ⟨J,t2,O,b2 J Z,b2 J Z,⟨.str _,H,I2.tok _,⟨_,rfl⟩,q _⟩⟩)
def tSup(K:ay)(t:TA):TE:=λJ H Q=>t J H λvs I=>∃e y C R od tb,vs=[.ref e,.str y]/\I e=O0 (excO e C od tb)/\XC K C R/\Q .non I
theorem nJ{pl:Sem Bool}(hg:Gl X x)(hm:X.mg x=O0 (.ref R))(h1:CA X.K (.ref R) "__getattribute__"=O0 (O0 (.builtin "type.__getattribute__")))(h2:GW X.K R (.type "type")=E3)(h3:GY X.K (.ref R) (.type "type") "__init__"=O0 (.val (.builtin "ValueError.__init__")))(ha:PA X (a::es) t)(S:(x==("__debug__":Str))=ZA:=by decide)(J:aE (a::es) X.env=(ZA,eval a X.env)::aE es X.env:=by rfl)(O:(dE pos (aE es X.env)).any (·.1)=ZA:=by rfl)(ht:eval (.Call (.Attribute (.Name x p) "__init__" apos) (a::es) [] pos) X.env=(do
   let ov <-eval (.Name x p) X.env
   o0 apos.atName
   let (f,first) <-lS [ov] (pV ov "__init__" pl)
   se pos f first (dE pos (aE (a::es) X.env)) (md pos (jS [] X.env))):=by rfl):
  PE X (.Call (.Attribute (.Name x p) "__init__" apos) (a::es) [] pos) (tSup X.K t):=by
 intro U s T H Q I h;refine DT (pl:=pl) (Jg I hg hm ?_ S) ht;refine PySem.W.method_cls I.kIn h1 (PySem.W.cls_value I.kIn h2 h3 rfl ?_);refine callWith_builtin1 (py (ha pos U _ T H _ (I.tok _) h) λus s1 q9=>?_) J O;obtain⟨vs,H1,I1,r,e,y,C,R',od,tb,ev,he,Y,q⟩:=q9;subst ev;cases r with
 |cons Z r=>
  cases r with
  |cons r2 r=>
   cases r;obtain rfl:=(show _=bg e from Z);exact nF I1 he Y λs' I'=>⟨.non,H1,I',rfl,q⟩
end
section
variable {o value:Expr}{ta tv:TE}
def sXf(K:ay)(S O:TE)(f:Str):TS:=λD I H=>O I H λy T=>S I T λx J=>∃e C R tb,x=.ref e/\J e=O0 (excO e C W1 tb)/\XC K C R/\BL K C f ∧
 ∀dx,J dx=W1->D.nx I (mf (mf J dx (.xd [(f,y)])) e (excO e C (O0 dx) tb))
def uX(ha:PE X o ta)(Y:PE X value tv)(hs:gI value (O0 (.Attribute o f pos')) pos.line X.env=pure ZA):PS X (.Assign [.Attribute o f pos'] value pos) (sXf X.K ta tv f):=by
 intro O s J H D I h;refine JJ (py (Y O s J H _ I h) λu S ⟨y,H1,I1,T,q⟩=>py (ha O S J H1 _ I1 q) λU s2 p0=>?_) hs;obtain⟨x,H2,I2,rx,e,C,R,tb,ex,ea,c,n,q2⟩:=p0;subst ex;obtain rfl:U=bg e:=rx;exact uV I2 ea c n T λdx s3 Z I3=>⟨J,_,I3,q2 dx Z⟩
end
def spE(K:ay)(f:Str)(c:V->Prop):Sp:=λvs H Q _=>∃e y C R,vs=[.ref e,y]/\H e=O0 (excO e C W1 W1)/\XC K C R/\BL K C f/\c y/\∀dx,H dx=W1->Q .non (mf (mf H dx (.xd [(f,y)])) e (excO e C (O0 dx) W1))
def gO{K:ay}{c:V->Prop}{cs:St->Prop}{vs:List V}{Q:VK}{E:XK}(h:spE K f c vs H Q E)(S:N.length=2)(O:∀e y,c y->cs [O0 (.ref e),O0 y]):
  tSeq (v6 (tSup K (S8 (TR 0) (S8 (tTxt cs) tNil)))) (sXf K (TR 0) (TR 1) f) { nx:=λ_ H'=>Q .non H',rt:=Q } (start N vs) H:=by
 obtain⟨e,y,C,R,rfl,I,Y,n,T,q⟩:=h;have J:start N [.ref e,y]=[O0 (.ref e),O0 y]:=by unfold L2.start;rw[S];rfl
 rw[J];exact⟨_,rfl,O e y T,λz=>⟨e,z,C,R,W1,W1,rfl,I,Y,_,rfl,_,rfl,e,C,R,W1,rfl,I,Y,n,q⟩⟩
def uY{K:ay}{c:V->Prop}{vs:List V}{Q:VK}{E:XK}(h:spE K f c vs H Q E):vs.length=2:=by
 obtain⟨e,y,C,R,rfl,_⟩:=h;rfl
def okI(y:V):Prop:=∃n:Int,y=.int n/\n.natAbs.log2<1920
def zV(e:Addr)(y:V)(h:okI y):nG 1 [O0 (.ref e),O0 y]:=by obtain⟨n,rfl,h⟩:=h;exact⟨n,rfl,h⟩
section
variable {R fi:Addr}{k:Nat}{c:V->Prop}
theorem Inv.exc(I:Inv X π σ H s):Inv X π σ (mf H (s.heap.objs.size+1) (excO (s.heap.objs.size+1) C W1 W1)) { s with heap:=(s.heap.push (HW us)).push (IK C s.heap.objs.size) }:=by
 have J:=I.kept (h':=s.heap.push (HW us)) (t':=s.toks) λb v z=>bo _ z;have hs:(s.heap.push (HW us)).objs.size=s.heap.objs.size+1:=by simp[iE]
 refine J.laid (a:=s.heap.objs.size+1) (h':=(s.heap.push (HW us)).push (IK C s.heap.objs.size)) (t':=s.toks) (λb v z=>bo _ z) (AV hs) ?_;have g:=ci (s.heap.push (HW us)) (o:=IK C s.heap.objs.size) rfl;rw[hs] at g;exact ExcP.ok ⟨_,_,g,rfl,rfl,rfl,rfl,rfl⟩
theorem uZ{Q:VK}(x:XC X.K C R)(hi:dn X.K (.ref C) "__init__"=O0 (O0 (.ref fi)))(hf:nk X.K (.ref fi)=E3)(n:BL X.K C f)(F:mu X.prog X.w X.K X.mg X.base CX0 k fi fd ps (spE X.K f c))(hr:Room (k+1) X.A)(hb:OX X.K fd ps [])(I:Inv X π σ H s)(r:gn [y] us)(cy:c y)(h:∀e dx,H e=W1->H dx=W1->dx≠e->Q (.ref e) (mf (mf H dx (.xd [(f,y)])) e (excO e C (O0 dx) W1))):ah .(3) X.A (call (.ref C) us) (EP X π σ Q) X.xe s:=by
 have I2:=Inv.exc (C:=C) (us:=us) I;have r0:H (s.heap.objs.size+1)=W1:=I.hok.fresh (kr _);have sp:spE X.K f c [.ref (s.heap.objs.size+1),y] (mf H (s.heap.objs.size+1) (excO (s.heap.objs.size+1) C W1 W1)) (λv H2=>v=.non/\Q (.ref (s.heap.objs.size+1)) H2) E0:=by
  refine⟨_,y,C,R,rfl,Ah,x,n,cy,λdx S=>⟨rfl,?_⟩⟩;have ne:dx≠s.heap.objs.size+1:=λz=>by rw[z,Ah] at S;cases S
  rw[Aj ne] at S;have:=h _ dx r0 S ne;have e:mf (mf (mf H (s.heap.objs.size+1) (excO (s.heap.objs.size+1) C W1 W1)) dx (.xd [(f,y)])) (s.heap.objs.size+1) (excO (s.heap.objs.size+1) C (O0 dx) W1)=mf (mf H dx (.xd [(f,y)])) (s.heap.objs.size+1) (excO (s.heap.objs.size+1) C (O0 dx) W1):=by
   funext b;unfold mf;split<;>rfl
  rw[e];exact this
 have r2:gn [V.ref (s.heap.objs.size+1),y] (bg (s.heap.objs.size+1)::us):=.cons rfl r;have hl:(bg (s.heap.objs.size+1)::us).length=ps.length:=by rw[<-r2.length];exact F.len _ _ _ _ sp
 have U:=hb { s with heap:=(s.heap.push (HW us)).push (IK C s.heap.objs.size) } (bg (s.heap.objs.size+1)::us) I2.kIn (by rw[gg];exact hl);rw[gg] at U;have Z:us.length<=sizeLine:=by rw[<-r.length];exact PV.Ip (by show 1<=_;decide)
 obtain⟨nm,qn,N,bs,bm,S0,sn,sub,ab,X0,dd,k0,k1,k2,k3,k5,hC,T⟩:=KQ I.kIn x.obj;have KI:=I.kIn;have Y:=F.run _ X.stack _ _ ⟨bg (s.heap.objs.size+1)::us,[]⟩ (bg (s.heap.objs.size+1)::us) _ _ E0 (hr.make C us []) (I2.env0.make C us []) U r2 sp;obtain⟨hp,g,d,t,os⟩:=s;refine qc (Yh GV T hC (DM KI hi) (λO=>JE KI O (beq_iff_eq.mp hf)) (kQ Y λr s' J=>?_) Z);cases r with
 |error e=>exact J.elim
 |ok fl=>
  cases fl with
  |ret u=>
   obtain⟨v,H',I3,rv,ev,q3⟩:=I2.after J;subst ev;exact⟨rv,⟨V.ref (hp.objs.size+1),H',I3,rfl,q3⟩⟩
  |next=>exact gv J
  |brk=>exact gv J
  |cont=>exact gv J
end
section
variable {A:aT}{K:ay}
def Yi{x:Sem ac}{Q:Flow->av->Prop}(hh:A.handled=W1)(h:ah M A x (λv I=>∃e C od,v=.ref e/\ExcP e C od W1 I.heap/\K.In I.heap/\excX K C=E3/\E (.ref e) I) E s):ah M A (raiseStmt env (O0 x) W1) Q E s:=by
 unfold raiseStmt;refine ag (gE h (λv I U=>?_) λ_ _ x=>x);obtain⟨e,C,od,rfl,⟨o,Z,q1,q2,q3,O,q5,q6⟩,KI,hx,hE⟩:=U;obtain⟨nm,qn,N,bs,bm,S,sn,sub,ab,P1,dd,k0,k1,k2,k3,k5,Y,T⟩:=KQ KI hx;have J:(bg C::bm).contains (.type "BaseException")=E3:=by rw[Nn,T.hasType (by decide +kernel:bmV.contains (.type "BaseException")=E3),Nw]
 obtain⟨hp,g,d,tk,os⟩:=I;obtain⟨oc,S0,X0,r0⟩:=o;dsimp only at q2 q3 O;subst q2 O;have h6:Z[1]?=O0 eA:=q6
 repeat (first | with_reducible refine wpAny_loadPart_at q1 ?_ | with_reducible refine wpAny_loadPart_at Y ?_ | (with_reducible refine GT Y ?_;rw[J]) | with_reducible refine wpAny_field q1 rfl h6 ?_ | wp_step)
 exact wpAny_raiseNew_none hh hE
end
end EX
namespace PV
open PySem PySem.Spec L2 EX
open PyProof.Rows hiding St
def excF(c f:Str)(ok:D->Bool)(I:FE):FE:=λρ=>(I ρ).bind λd=>if ok d=E3 then O0 (.exc c [(f,d)]) else W1
section
variable {a:Expr}{fa:FE}{np cpos:Pos}{R fi:Addr}{k:Nat}{cx:Str}{c:V->Prop}{ok:D->Bool}
def nM(r:uj G H v d)(h:VT d=O0 y):v=y:=by
 cases r<;>first | (cases h;rfl) | (cases h)
theorem gP(x:XC X.K C R)(hi:dn X.K (.ref C) "__init__"=O0 (O0 (.ref fi)))(hf:nk X.K (.ref fi)=E3)(kp:fF X.K (.ref C)=E3)(n:BL X.K C f)(F:mu X.prog X.w X.K X.mg X.base CX0 k fi fd ps (spE X.K f c))(hr:Room (k+1) X.A)(hb:OX X.K fd ps [])(hg:Gl X cx)(hm:X.mg cx=O0 (.ref C))(P1:G.xcl cn=O0 C)(hc:X.calm=E3)(S0:∀d,ok d=E3->∃y,VT d=O0 y/\c y)(ha:PF X G a fa)(X0:(cx==("__debug__":Str))=ZA:=by decide)(he:aE [a] X.env=[(ZA,eval a X.env)]:=by rfl)(r0:(dE cpos (aE [] X.env)).any (·.1)=ZA:=by rfl):
  PSZ X G (.Raise (O0 (.Call (.Name cx np) [a] [] cpos)) W1 pos) (im (excF cn f ok fa)):=by
 rintro A0 He π s Y H D I ⟨ρ,o,⟨A,w⟩,e,k,kx⟩
 unfold im excF at e;cases e1:fa ρ with
 |none=>simp[e1] at e
 |some d=>
  rw[e1] at e
  by_cases hd:ok d=E3
  .simp only[cw,hd,XO,iq] at e;cases e;obtain⟨y,hy,cy⟩:=S0 d hd;have kx:Rz X G A0 He cn [(f,d)] ρ:=kx cn [(f,d)] rfl;have call:ah .(3) X.A (eval (.Call (.Name cx np) [a] [] cpos) X.env) (λv J=>∃e C od,v=.ref e/\ExcP e C od W1 J.heap/\X.K.In J.heap/\excX X.K C=E3/\X.xe (.ref e) J) X.xe s:=by
    refine qf (Jg I hg hm ?_ X0);have pa:=Bl (@ha A) DK he cpos π s Y H (λvs O=>vs=[y]/\Sb G A0 He A Y O ρ) I ⟨ρ,d,w.ok,e1,λv O Z r1=>⟨by rw[nM r1 hy],w.mono Z⟩⟩;refine wa (h₀:=X.base) I.ok.mod.kin kp (py pa λus Z ⟨vs,O,I1,r,ev,w1⟩=>⟨I1.kIn,?_⟩) he r0
    .subst ev;refine py (uZ (Q:=λv H2=>∃e dx,v=.ref e/\O e=W1/\O dx=W1/\dx≠e/\H2=mf (mf O dx (.xd [(f,y)])) e (excO e C (O0 dx) W1)) x hi hf n F hr hb I1 r cy λe dx U S h3=>⟨e,dx,rfl,U,S,h3,rfl⟩) λu s2 q0=>?_;obtain⟨v2,H2,I2,r2,e,dx,ev,U,S,h3,eH⟩:=q0;subst ev eH;obtain rfl:u=bg e:=r2;refine⟨e,C,O0 dx,rfl,(I2.hok e _ Ah).1,I2.kIn,x.obj,?_⟩;refine kx π Y O _ s2 e W1 I2 ⟨A,w1⟩ ⟨⟨C,O0 dx,[(f,y)],P1,Ah,(show mf (mf O dx (.xd [(f,y)])) e (excO e C (O0 dx) W1) dx=_ by rw[Aj h3];exact Ah),?_,λd q=>by cases q;exact S⟩,λb u q=>?_,U,λT z=>nomatch z⟩
     .simp[FsV,hy]
     .rw[Aj (BZ q U),Aj (BZ q S)];exact q
   show ah _ _ (exec (.Raise (O0 (.Call (.Name cx np) [a] [] cpos)) W1 pos) X.env) _ _ _;rw[arm_exec_Raise];refine ag (sg (Yi (K:=X.K) (I.ok.hd hc) ?_));exact ag (py call λv Z q=>ag (sg (aw q)))
  .simp[hd] at e
end
end PV
namespace EX
open PySem PySem.Spec L2
open PyProof.Rows hiding St
abbrev Cx.mk2 (X:Cx) (e:Addr):Cx:={ X with A:=X.A.mark (O0 (.ref e)),calm:=ZA,xe:=λ_ _=>False }
section
variable {e R:Addr}{K:ay}
def Yj(I:Inv X π σ H s):Inv (Cx.mk2 X e) π σ H s:=
 ⟨⟨I.ok.mod,I.ok.kind,I.ok.glob,I.ok.blt,I.ok.above,I.ok.inj,I.ok.has,I.ok.cab,(λz=>nomatch z),I.ok.frames,I.ok.stk,I.ok.exf,I.ok.bs,I.ok.bsz,I.ok.noex,I.ok.exfs,I.ok.funs,I.ok.frf⟩,I.os,I.bare,I.base,I.loc,I.cell,I.free,I.freeC,I.pin,I.hok,I.len⟩
def UV(ok:X.Ok)(I:Inv (Cx.mk2 X e) π σ H s):Inv X π σ H s:=⟨ok,I.os,I.bare,I.base,I.loc,I.cell,I.free,I.freeC,I.pin,I.hok,I.len⟩
abbrev Cx.tr (X:Cx) (E:ac->av->Prop) (pn:QP):Cx:={ X with xe:=E,pn:=pn }
def ABd{I:QP}(ok:X.Ok):(Cx.tr X E I).Ok:=⟨ok.mod,ok.kind,ok.glob,ok.blt,ok.above,ok.inj,ok.has,ok.cab,ok.hd,ok.frames,ok.stk,ok.exf,ok.bs,ok.bsz,ok.noex,ok.exfs,ok.funs,ok.frf⟩
def zX(I:Inv X π σ H s):Inv (Cx.tr X E (X.pn++π)) [] σ H s:=⟨ABd I.ok,I.os,I.bare,I.base,I.loc,I.cell,I.free,I.freeC,λp J=>I.pin p (by simpa using J),I.hok,I.len⟩
def MF(ok:X.Ok)(I:Inv (Cx.tr X E (X.pn++π)) pins' σ H s):Inv X π σ H s:=⟨ok,I.os,I.bare,I.base,I.loc,I.cell,I.free,I.freeC,λp J=>I.pin p (vk _ J),I.hok,I.len⟩
def SQ{D:Ends}{f:Flow}(ok:X.Ok)(h:SP (Cx.tr X E (X.pn++π)) pins' D f s'):SP X π D f s':=by
 cases f with
 |next=>obtain⟨J,O,I,q⟩:=h;exact⟨J,O,MF ok I,q⟩
 |brk=>obtain⟨J,O,I,q⟩:=h;exact⟨J,O,MF ok I,q⟩
 |cont=>obtain⟨J,O,I,q⟩:=h;exact⟨J,O,MF ok I,q⟩
 |ret u=>obtain⟨v,J,O,I,r,q⟩:=h;exact⟨v,J,O,MF ok I,r,q⟩
theorem nO{A:aT}{Q:Unit->av->Prop}{T:Addr}(I:Inv X π σ H s)(he:H e=O0 (excO e C od (O0 T)))(J:H T=O0 (tbO T .none))(k:∀s',Inv X π σ H s'->Q () s'):ah M A (t5 (.ref e) W1) Q E s:=by
 obtain⟨⟨o,vs,q1,q2,q3,q4,q5,q6⟩,_⟩:=I.hok e _ he;obtain⟨⟨oT,ts,O,S,r3,r4⟩,_⟩:=I.hok T _ J;have Y:3<ts.size:=(wx.mp r3).1;unfold t5;refine ag (wpAny_field q1 q4 q6 ?_);rw[ZN (show (tbV (O0 T) != eA)=E3 from by simp[tbV])];refine om O S Y (k _ ?_);have I1:=M6 (u':=tbO T .none) (i:=3) (v:=(W1:Option Addr).elim eA λf=>dL f) I J trivial O S λh' o' y1 Z y3 U=>TbP.ok ⟨o',_,y1,U,by simp[Y],Z.trans r4⟩
 rwa [UT J] at I1
theorem cU{A:aT}{Q:Unit->av->Prop}{n:Str}(I:Inv X π σ H s)(hN:X.N.Nodup)(hi:X.N[i]?=O0 n)(hk:X.env.kindOf n=O0 .local)(h:∀s',Inv X π (σ.set i W1) H s'->Q () s'):ah M A (do bindName X.env n .none;unbindBehindTheSuite X.env n pos) Q E s:=by
 obtain⟨m,hn,hl⟩:=I.loc;have U:(X.env.scope.kind==.class||(X.env.scope.kind==.module&&X.env.locals != X.env.globals))=ZA:=by rw[I.ok.kind];rfl
 have cne:=I.cne;obtain⟨oL,_,_,r0,_⟩:=id hn;refine wpAny_nameGoes_keeps hk hn U λh' v Z hs=>h _ ?_;have ne:∀b o,X.s₀.heap.get? b=O0 o->b≠X.env.locals:=λb o z=>bS (fE (bE z) I.ok.above);refine⟨I.ok,I.os,I.bare,⟨λb o z n hb T=>(hs.2 b (ne b o z)).trans (I.base.keep b o z n hb T),λb o z n hb T=>?_,I.base.free,λb o z T=>?_,I.base.tups,I.base.frzs,I.base.tbls⟩,⟨_,Z,λj y v' S O e3=>?_⟩,λy c z=>?_,I.free,I.freeC,λp hp=>?_,λb ob z=>?_,by simpa using I.len⟩
 .obtain⟨sl,S⟩:=I.base.slot b o z n hb T;exact⟨sl,(hs.2 b (ne b o z)).trans S⟩
 .obtain⟨o',S⟩:=I.base.there b o z T;exact⟨o',(hs.2 b (ne b o z)).trans S⟩
 .by_cases hj:j=i
  .subst hj;rw[NA] at O;split at O
   .split at O<;>cases O
   .rename_i z;exact QO rfl z
  .rw[gi (cf hj)] at O;obtain⟨u',r',q⟩:=hl j y v' S O e3;refine⟨u',r',?_⟩
   rcases q with ⟨k,z⟩ | ⟨k,c,z,Y⟩
   .refine .inl ⟨k,?_⟩;have:y≠n:=λw=>hj (Ld hN S (w▸hi));simp[this,z]
   .exact .inr ⟨k,c,z,Y.sameBut hs (cne y c z)⟩
 .obtain⟨w',Y⟩:=I.cell y c z;exact⟨w',Y.sameBut hs (cne y c z)⟩
 .obtain⟨z,n,ne,nf,d⟩:=I.pin p hp;exact⟨(hs.2 p.1 ne).trans z,n,ne,nf,d⟩
 .refine (I.hok b ob z).stay (λc w' J q=>(hs.2 c ?_).trans q) (λ_ q=>q) λ_ _ _ q=>q;rintro rfl
  rcases J with J | J
  .rw[<-J,I.free] at z;cases z
  .rw[I.free] at J;cases J
theorem Wx{A:aT}{Q:Bool->av->Prop}{O:Obj}(KI:K.In s.heap){Z:Addr}(hR:excX K R=E3)(xc:XC K C Z)(I:R=Z∨R=C)(he:s.heap.get? e=O0 O)(U:O.cls=.ref C)(hq:Q E3 s):
  ah M A (excMatches (.ref e) (.ref R)) Q E s:=by
 obtain⟨nm,qn,N,bs,bm,S,sn,sub,ab,r0,dd,k0,k1,k2,k3,k5,Y,T⟩:=KQ KI hR;obtain⟨cd,c1,c2,c3⟩:=xc.cls;have L:PySem.W.Looks M s.heap (BH (.ref C) (.ref R)) E3:=PySem.W.looks_subIn KI (by show Ct K C _=_;unfold Ct;rw[c1,cw,c2];rcases I with rfl | rfl<;>simp);have J:(bg R::bm).contains (.type "BaseException")=E3:=by rw[Nn,T.hasType (by decide +kernel:bmV.contains (.type "BaseException")=E3),Nw]
 have f:=tc_notTuple;obtain⟨hp,g,d,t,os⟩:=s;unfold excMatches
 repeat (first | (with_reducible refine wpAny_loadPart_at he ?_;rw[U]) | with_reducible refine wpAny_loadPart_at Y ?_ | (with_reducible refine GT Y ?_;rw[J]) | with_reducible refine L.at ?_ | wp_step)
 exact hq
end
end EX
namespace PV
open PySem PySem.Spec L2 EX
open PyProof.Rows hiding St
def offO(i:Nat)(o:Option To):Option To:=match o with
 |some (.nx ρ)=>O0 (.nx (ρ.set i .un))
 |some (.rt d ρ)=>O0 (.rt d (ρ.set i .un))
 |_=>W1
def tryO(cs:List Str)(i:Nat)(h:FS)(o:Option To):Option To:=match o with
 |some (.rt d ρ)=>(match Pe d with
  |some (c,O)=>if cs.contains c=E3 then offO i (h (ρ.set i (.fz (.err c O)))) else W1
  |none=>O0 (.rt d ρ))
 |o=>o
def tryF(cs:List Str)(i:Nat)(g h:FS):FS:=λρ=>tryO cs i h (g ρ)
section
theorem Sb.unset(w:Sb G A0 He A σ H ρ)(i:Nat):Sb G A0 He A (σ.set i W1) H (ρ.set i .un):=by
 have J:∀(j:Nat) (z:Slot),z≠.un->(ρ.set i .un)[j]?=O0 z->j≠i/\ρ[j]?=O0 z:=λj z nz h=>by
  by_cases I:j=i
  .subst I;rw[NA] at h;split at h
   .split at h
    .cases h;exact QO rfl nz
    .cases h
   .rename_i q;exact QO rfl q
  .rw[gi (cf I)] at h;exact⟨I,h⟩
 have S:∀(j:Nat),j≠i->(σ.set i W1)[j]?=σ[j]?:=λj I=>gi (cf I);refine⟨w.same,w.sub,w.fr,w.l0,⟨by rw[qB,qB];exact w.ok.len,w.ok.live,λj d h=>?_,λj d h=>?_,λj k d e a O T Z Y=>?_⟩,λj d a O T=>?_,λx d hx U=>?_⟩
 .obtain⟨I,h⟩:=J j _ .(1) h;rw[S j I];exact w.ok.fz j d h
 .obtain⟨I,h⟩:=J j _ .(1) h;rw[S j I];exact w.ok.ow j d h
 .obtain⟨I,O⟩:=J j _ .(1) O;obtain⟨hk,T⟩:=J k _ .(1) T;rw[S j I] at Z;rw[S k hk] at Y;exact w.ok.inj j k d e a O T Z Y
 .obtain⟨I,O⟩:=J j _ .(1) O;rw[S j I] at T;exact w.ow0 j d a O T
 .obtain⟨I,U⟩:=J 0 _ .(1) U;rw[S 0 I];exact w.lt x d hx U
theorem uc{cs:List Str}{n rx:Str}{R:Addr}{O:List Stmt}{b0:Stmt}{np U:Pos}{g h:FS}(S1:X.stack=X.env::X.outer)(hf:X.env.frame=O0 X.env.locals)(hN:X.N.Nodup)(hi:X.N[i]?=O0 n)(hk:X.env.kindOf n=O0 .local)(hg:Gl X rx)(hm:X.mg rx=O0 (.ref R))(hR:excX X.K R=E3)(X1:∀c C,cs.contains c=E3->G.xcl c=O0 C->∃R',XC X.K C R'/\(R=R'∨R=C))(hb:∀E pn,PSZs (Cx.tr X E pn) G body g)(hs:∀e,UP (Cx.mk2 X e) G (b0::O) h)(U1:(rx==("__debug__":Str))=ZA:=by decide):
  VW X G (.Try body [.ExceptHandler (O0 (.Name rx np)) (O0 n) (b0::O) U] [] [] pos) (tryF cs i g h):=by
 rintro A0 He π s σ H D I ⟨ρ,o,ok,e,k⟩
 refine wpAny_Try_except ?_;unfold tryF at e;cases e1:g ρ with
 |none=>rw[e1] at e;cases e
 |some o1=>
  rw[e1] at e;have Q2:∀{E':ac->av->Prop}(f:Flow) (S:av),SP (Cx.tr X E' (X.pn++π)) [] D f S->(match f with | .next=>ah .(3) X.A (jv [] X.env) (SP X π D) X.xe S | f=>SP X π D f S):=λf S q=>by
   cases f with
   |next=>exact kq (SQ I.ok q)
   |brk=>exact SQ I.ok q
   |cont=>exact SQ I.ok q
   |ret u=>exact SQ I.ok q
  refine gE (hb (λe S=>ah .(3) X.A (zh e X.env) (λ_ s2=>ah .(3) X.A (t5 e W1) (λ_ s3=>ah .(3) X.A (handleBy e X.env [.ExceptHandler (O0 (.Name rx np)) (O0 n) (b0::O) U]) (SP X π D) X.xe s3) X.xe s2) X.xe S) (X.pn++π) He [] s σ H D (zX I) ⟨ρ,o1,ok,e1,?_,?_⟩) (λf S q=>Q2 f S q) λe S q=>q
  .cases o1 with
   |nx J=>cases e;exact k
   |bk J=>cases e;exact k
   |ct J=>cases e;exact k
   |rt d J=>
    cases e2:Pe d with
    |none=>simp only[tryO,e2] at e;cases e;exact k
    |some q=>exact λv S0 H' A w r=>QO e2 (by rw[nA r];simp)
  .cases o1 with
   |nx J=>trivial
   |bk J=>trivial
   |ct J=>trivial
   |rt d J=>
    intro c gs e2 P1 S2 H1 H2 s2 Y tb I2 ⟨A1,w1⟩ x;simp only[tryO,e2] at e
    by_cases hc:cs.contains c=E3
    .rw[ZN hc] at e;have I2:=MF I.ok I2;refine Yg S1 hf I2 x λT H3 s3 I3 x3=>?_;obtain⟨C,dx,fs,y1,y2,y3,y4,y5⟩:=x3.ex;obtain⟨R',xc,Y1⟩:=X1 c C hc y1;have w3:=w1.mono x3.same;obtain⟨⟨oe,vs,q1,q2,q3,q4,q5,q6⟩,_⟩:=I3.hok Y _ y2;refine wpAny_handleBy_cons (codeAny_handlers_test ?_) (by intro q;cases q);refine Jg (X:=Cx.mk2 X Y) (Yj I3) hg hm ?_ U1;refine Wx I3.kIn hR xc Y1 q1 q2 ?_;refine codeAny_handlers_suite_as (nO I3 y2 (x3.tbk T rfl).1 λs4 I4=>?_);have X0:∀b,H1 b=W1->b∉A1:=λb z q=>(w1.ok.live b q).ne z;have rp:uj G (lu A1 H3) (.ref Y) (.err c gs):=.err y1 (by rw[Cg (X0 Y x3.new)];exact y2) (by cases dx with | none=>exact y3 | some dx=>exact (by show lu A1 H3 dx=_;rw[Cg (X0 dx (y5 dx rfl))];exact y3)) y4;refine Sv (X:=Cx.mk2 X Y) (Yj I4) hN hi (eP hk) (show fx (.ref Y) (.ref Y) from rfl) (λs5 I5=>?_) (.inr hk);cases e5:h (J.set i (.fz (.err c gs))) with
     |none=>rw[e5] at e;cases e
     |some o5=>
      rw[e5] at e;refine gE (hs Y He π s5 _ H3 { nx:=λS0 H'=>D.nx (S0.set i W1) H',rt:=D.rt } I5 ⟨_,o5,⟨A1,w3.set rp i⟩,e5,?_⟩) (λf s6 q=>?_) λ_ _ z=>z.elim
      .cases o5 with
       |nx r0=>cases e;rintro Z H6 ⟨A6,w6⟩;exact k _ _ ⟨A6,w6.unset i⟩
       |rt d5 r0=>cases e;exact λv Z H6 A6 w6 r6=>k v _ H6 A6 (w6.unset i) r6
       |bk r0=>cases e
       |ct r0=>cases e
      .cases f with
       |next=>
        obtain⟨Z,H6,I6,q⟩:=q;exact cU (UV I.ok I6) hN hi hk λs7 I7=>⟨_,H6,I7,q⟩
       |ret u=>
        obtain⟨v,Z,H6,I6,r,q⟩:=q;exact cU (UV I.ok I6) hN hi hk λs7 I7=>⟨v,_,H6,I7,r,q⟩
       |brk=>obtain⟨_,_,_,q⟩:=q;exact q.elim
       |cont=>obtain⟨_,_,_,q⟩:=q;exact q.elim
    .rw[OO hc] at e;cases e
end
end PV
namespace EX
open PySem PySem.W PySem.Spec PyProof.Rows PySem.Calls
section
variable {A:aT}{K:Frag}{x:Addr}{ox:Obj}{od:Option Obj}
theorem gQ{Q:Option ac->av->Prop}(X:K.In s.heap)(I:InstAt s.heap x ox C od)(X0:rf K (.ref C) "__getattribute__"=O0 (O0 (.builtin "BaseException.__getattribute__")))(S0:rf K (.ref C) "__getattr__"=O0 W1)(S:subIn K (.ref C) (.type "BaseException")=O0 E3)(S1:(clsIn K C).isSome=E3)(ha:rf K (.ref C) "__class__"=O0 (O0 (.builtin "object.__class__")))(hn:specialIn K (.builtin "object.__class__") "__get__"=O0 (O0 (.builtin "getset_descriptor.__get__")))(r0:takesIn K (.builtin "object.__class__")=O0 E3)(hm:mroIn K C (.type "object")=O0 E3)(h:Q (O0 (.ref C)) { s with toks:=s.toks+1 }):ah (ai prog w) A (getAttr? (.ref x) "__class__") Q E s:=by
 have hf:findObj K C od "__class__"=O0 (.bind (.builtin "getset_descriptor.__get__") (.builtin "object.__class__")):=by (obtain⟨U1,P1⟩:=AW.mp S1;unfold findObj;rw[P1,cw,ha,cw];simp[hn,r0])
 obtain⟨T,g,d,t,J⟩:=s;have L0:=I.type (M:=ai prog w);have L1:=AC (M:=ai prog w) X X0;have L2:=AC (M:=ai prog w) X S0;have L3:=looks_find (M:=ai prog w) X I hf;have L4:=looks_subIn (M:=ai prog w) X S;have f3:=Cf.ga.bind (.ref x);have hk:EQ "BaseException.__getattribute__"=O0 .slot:=by decide +kernel
 have O:splitId "BaseException.__getattribute__"=O0 ("BaseException","__getattribute__"):=by decide +kernel
 have Z:(mS "BaseException.__getattribute__"==mS "object.__getattribute__")=ZA:=by decide +kernel
 have Y:(onTheHeap (bg C)&&mS "BaseException.__getattribute__"==mS "object.__getattribute__")=ZA:=by rw[Z];rfl
 unfold getAttr? getAttrBy? getAttrBy;refine ag (wpAny_mkText (ag (As (wpAny_holding (ag (L0.at (ag (L1.at ?_))))))));dsimp only;rw[Y,OO .(2)];have ck:∀(Q:Unit->av->Prop) (B:aT) (E':ac->av->Prop),Q () ⟨T,g,d,t+1,J⟩->ah (ai prog w) B (zC "BaseException.__getattribute__" ⟨[.ref x,.str "__class__" t],[]⟩) Q E' ⟨T,g,d,t+1,J⟩:=λQ B E' hq=>by
  have ha:=N9 (.ref x) (.str "__class__" t);simp only[zC,hk,O];refine ag ?_;unfold oS;refine ag (L0.at (L4.at ?_))
  repeat (any_goals (first | assumption | wp_step))
 have U:∀(B:aT) (R:nv->av->Prop),R (.ok (.ret (.ref C))) ⟨T,g,d,t+1,J⟩->fA (ai prog w) B (.call (.builtin "BaseException.__getattribute__") ⟨[.ref x,.str "__class__" t],[]⟩) R ⟨T,g,d,t+1,J⟩:=λB R hq=>
  xh Cf.ga.plain Na (ck _ _ _ (by
   unfold eC.«object.__getattribute__»
   repeat (any_goals (first | assumption | with_reducible refine L0.at ?_ | with_reducible refine L3.at ?_ | wp_step))
   exact class_get (s:=⟨T,g,d,t+1,J⟩) (ox:=ox) (od:=od) X I hm (aw hq)))
 repeat (any_goals (first | assumption | with_reducible refine L2.at ?_ | wp_step))
 refine U _ _ ?_;show ah _ _ (handedOut (.ref C)) _ _ _;rw[handedOut_of rfl];exact aw (aw h)
structure XK2 (K:Frag) (C:Addr):Prop where
 ha:rf K (.ref C) "__class__"=O0 (O0 (.builtin "object.__class__"))
 hn:specialIn K (.builtin "object.__class__") "__get__"=O0 (O0 (.builtin "getset_descriptor.__get__"))
 htk:takesIn K (.builtin "object.__class__")=O0 E3
theorem nP{R:Addr}(Y:XC K C R)(k:XK2 K C):KitX K (.ref x) (.ref C) (λh=>∃ox od,InstAt h x ox C od):=by
 obtain⟨cd,J,c2,c3⟩:=Y.cls;have mi:∀v,(cd.mro.contains v)=E3->mroIn K C v=O0 E3:=λv hv=>by unfold mroIn;rw[J,cw,hv,c2];rfl
 refine⟨(by rintro M h _ ⟨ox,od,I⟩;exact I.type),λM h X _=>?_,λh tp dd S0 n sl X T=>?_,λ{r0 w A E Q s} X ⟨ox,od,I⟩ h=>gQ X I Y.ga Y.gt (mi _ (by rw[c2];rfl)) (by rw[J];rfl) k.ha k.hn k.htk (mi _ (by rw[c2];rfl)) h⟩
 .have O:=J;unfold clsIn at O;split at O
  .rename_i c' d' Z S U;intro A' Q' E' s' k q;unfold isType loadHead;exact ag (DJ (k _ _ (X _ _ U)) (aw q))
  .cases O
 .have O:=J;refine Fn.mpr λq=>?_;have e:C=tp:=Value.ref.inj (beq_iff_eq.mp q);subst e;unfold clsIn at O;split at O
  .rename_i c' d' Z S U;have z:=(X _ _ U).symm.trans T;cases z
  .cases O
end
end EX
namespace PV
open PySem PySem.Spec L2 EX
open PyProof.Rows hiding St
structure XT (G:Gx) (cs:List Str) (R:Addr):Prop where
 xc:∀c C,cs.contains c=E3->G.xcl c=O0 C->XC G.K C R
 xk:∀c C,cs.contains c=E3->G.xcl c=O0 C->XK2 G.K C
def isxD(cs S:List Str):D->Option D
 |.non=>O0 (.bl (S.contains "NoneType"))
 |.bl _=>O0 (.bl (S.contains "bool"))
 |.int _=>O0 (.bl (S.contains "int"))
 |.str _=>O0 (.bl (S.contains "str"))
 |.err c _=>if cs.contains c=E3 then O0 (.bl (S.contains c)) else W1
 |_=>W1
def kitB(K:ay)(I:List (Str×Addr))(J:List ac)(S:List Str):Bool:=
 (["NoneType","bool","int","str"]:List String).all (λn=>ib K (.type n) J==O0 (S.contains (eJ n)))&&I.all λp=>ib K (.ref p.2) J==O0 (S.contains p.1)
structure Kit (G:Gx) (cs:List Str) (cv:List ac) (ns:List Str):Prop where
 non:ib G.K (.type "NoneType") cv=O0 (ns.contains "NoneType")
 bl:ib G.K (.type "bool") cv=O0 (ns.contains "bool")
 int:ib G.K (.type "int") cv=O0 (ns.contains "int")
 str:ib G.K (.type "str") cv=O0 (ns.contains "str")
 err:∀c C,cs.contains c=E3->G.xcl c=O0 C->ib G.K (.ref C) cv=O0 (ns.contains c)
inductive SpecV (H:Hp):V->List ac->Prop
 |cls (C:Addr):SpecV H (.ref C) [.ref C]
 |ty (T:String):SpecV H (.ty T) [.type T]
 |tup {p:Addr}{Cs:List Addr}:H p=O0 (.tup (Cs.map V.ref))->SpecV H (.ref p) (Cs.map bg)
theorem Vk:∀{I:List Addr}{ws:List ac},gn (I.map V.ref) ws->ws=I.map bg
 |[],_,.nil=>rfl
 |_::_,_,.cons r t=>by rw[Vk t,(show _=bg _ from r)];rfl
def cV(J:List ac):TE:=λ_ H Q=>∀v I,cc H I->SpecV I v J->Q v I
def cW(I:List Addr):TA:=λ_ H Q=>Q (I.map V.ref) H
section
variable {a sp:Expr}{es:List Expr}{fa:FE}{p:Pos}{cs ns:List Str}{cv:List ac}{R:Addr}{Cs:List Addr}
theorem Q5{x:Str}(U:Gl X x)(I:X.mg x=O0 (.ref C))(J:(x==("__debug__":Str))=ZA:=by decide):PE X (.Name x pos) (cV [.ref C]):=Bt (Jh (v:=.ref C) U I rfl J) λO H Q h=>h _ H (cc.refl H) (.cls C)
theorem nQ{x:Str}{T:String}(U:Gl X x)(O:X.mg x=W1)(I:df x=O0 (.type T))(J:x≠"__name__":=by decide)(S:(x==("__debug__":Str))=ZA:=by decide):PE X (.Name x pos) (cV [.type T]):=Bt (q9 (v:=.ty T) U O I rfl J S) λY H Q h=>h _ H (cc.refl H) (.ty T)
def gR:PA X [] (cW []):=DK
theorem Kp{x:Str}(J:X.mg x=O0 (.ref C))(I:PA X es (cW Cs))(U:Gl X x:=by rfl)(O:(x==("__debug__":Str))=ZA:=by decide)(hs:aE (.Name x pos::es) X.env=(ZA,eval (.Name x pos) X.env)::aE es X.env:=by rfl):PA X (.Name x pos::es) (cW (C::Cs)):=Bl (Jh (v:=.ref C) U J rfl O) I hs
def gU{x1}(h:PA X es (cW Cs))(hz:Nat.ble Cs.length 1000=E3:=by rfl):PE X (.Tuple es x1 pos) (cV (Cs.map bg)):=Bt (V5 h) λJ H Q h=>⟨by rw[aI];exact Ip (dA (Nat.le_of_ble_eq_true hz) .(2)),λp I=>h _ _ (Ao I _) (.tup Ah)⟩
def cX{K:ay}{t c:ac}{b:Bool}(h:ib K t [c]=O0 b):PySem.W.kitOne K t c=O0 b:=by
 unfold ib at h;split at h
 .rename_i e;rw[e];exact h
 .rename_i e;rw[e];exact h
 .cases h
def QB{x t:ac}{b:Bool}{HH:Heap->Prop}{A:aT}(I:Inv X π σ H s)(Z:PySem.W.KitX X.K x t HH)(S:HH s.heap)(e:ib X.K t cv=O0 b)(O:x≠.builtin "__main__.__loader__#opaque")(sv:SpecV H v cv)(J:fx v u)(h:∀tk,Q (.bool b) { s with toks:=tk }):ah .(3) A (call (.builtin "isinstance") [x,u]) Q E s:=by
 cases sv with
 |cls C=>obtain rfl:=(show u=bg C from J);exact NC Z I.kIn S (cX e) O h
 |ty T=>obtain rfl:=(show u=ly T from J);exact NC Z I.kIn S (cX e) O h
 |tup hp=>
  obtain rfl:=(show u=bg _ from J);obtain⟨_,X0,r,o,g1,Y,n,U⟩:=I.hok _ _ hp;have:=Vk r;subst this;obtain⟨oc,od,S0,r0⟩:=o;dsimp only at Y U;subst Y U;exact PySem.W.kia_tup Z I.kIn S g1 e O h
def nR{e:Addr}{fs:List (Str×V)}(I:Inv X π σ H s)(O:H e=O0 (excO e C od tb))(T:XdA H od fs):∃ox oD,AU s.heap e ox C oD:=by
 obtain⟨⟨o,Y,q1,q2,q3,J,q5,Z⟩,_⟩:=I.hok e _ O;cases od with
 |none=>exact⟨o,W1,q1,q2,by unfold Co;rw[J],by rw[q3];trivial⟩
 |some dx=>
  obtain⟨mA,S,r⟩:=I.hok dx _ T;obtain⟨oD,U,g2⟩:=QZ S;exact⟨o,O0 oD,q1,q2,by unfold Co;rw[J],by rw[q3];exact U⟩
theorem nU(Y:G.K=X.K)(t:XT G cs R)(T:Kit G cs cv ns):Dy X (.builtin "isinstance") (λxs H Q=>∃x v A d b,xs=[x,v]/\uj G (lu A H) x d/\isxD cs ns d=O0 (.bl b)/\SpecV H v cv/\Q (.bl b) H):=by
 rintro π s σ H xs us Q I r ⟨x,v,A,d,b,rfl,rp,e,O,q⟩;cases r with
 |cons rx r=>
  cases r with
  |cons S r=>
   cases r;have J:∀tk,EP X π σ Q (.bool b) { s with toks:=tk }:=λtk=>⟨.bl b,H,I.tok _,rfl,q⟩;cases rp with
   |non=>obtain rfl:=(show _=eA from rx);cases e;exact QB I PySem.W.kitx_none kP (Y▸T.non) (λz=>nomatch z) O S J
   |bl y=>obtain rfl:=(show _=rS y from rx);cases e;exact QB I PySem.W.kitx_bool kP (Y▸T.bl) (λz=>nomatch z) O S J
   |int i=>obtain⟨t',rfl⟩:=(show ∃t,_=nV i t from rx);cases e;exact QB I PySem.W.kitx_int kP (Y▸T.int) (λz=>nomatch z) O S J
   |str i=>obtain⟨t',rfl⟩:=(show ∃t,_=vi i t from rx);cases e;exact QB I PySem.W.kitx_str kP (Y▸T.str) (λz=>nomatch z) O S J
   | @err a C dx tb c fs gs Z h1 h2 h3=>
    obtain rfl:=(show _=bg a from rx);have e':(if cs.contains c=E3 then O0 (D.bl (ns.contains c)) else W1)=O0 (.bl b):=e;split at e'
    .rename_i U;cases e';exact QB I (nP (Y▸t.xc c C U Z) (Y▸t.xk c C U Z)) (nR I (Ay _ _ h1) (h2.mono Ay)) (Y▸T.err c C U Z) (λz=>nomatch z) O S J
    .cases e'
   |tup=>cases e
   |lst=>cases e
   |dk=>cases e
   |dt=>cases e
   |adr=>cases e
   |ob=>cases e
   |mem=>cases e
def zY{d':D}(h:isxD cs ns d=O0 d'):∃b,d'=.bl b:=by
 unfold isxD at h;split at h
 .cases h;exact⟨_,rfl⟩
 .cases h;exact⟨_,rfl⟩
 .cases h;exact⟨_,rfl⟩
 .cases h;exact⟨_,rfl⟩
 .split at h
  .cases h;exact⟨_,rfl⟩
  .cases h
 .cases h
def UW{x:Str}(hG:G.K=X.K)(t:XT G cs R)(kt:Kit G cs cv ns)(hg:Gl X x)(hm:X.mg x=W1)(hv:df x=O0 (.builtin "isinstance"))(ha:PF X G a fa)(T:PE X sp (cV cv))(hn:x≠"__name__":=by decide)(I:(x==("__debug__":Str))=ZA:=by decide)(Y:aE [a,sp] X.env=(ZA,eval a X.env)::aE [sp] X.env:=by rfl)(S:aE [sp] X.env=(ZA,eval sp X.env)::aE [] X.env:=by rfl):
  PF X G (.Call (.Name x p) [a,sp] [] pos) (uF (isxD cs ns) fa):=λA=>Bt (Lf (nU hG t kt) hg hm hv (Bl (@ha A) (Bl T DK S) Y) hn I Y (by rw[S];rfl))<|by
 rintro σ H Q ⟨O,d,o,e,k⟩
 unfold uF at e;cases J:fa O with
 |none=>simp[J] at e
 |some dx=>
  rw[J] at e;have Z:isxD cs ns dx=O0 d:=e;obtain⟨b,rfl⟩:=zY Z;exact⟨O,dx,o,J,λv H1 s1 r1=>λw H2 U sv=>⟨v,w,A,dx,b,rfl,r1.mono (Ba U),Z,sv,k _ H2 (s1.trans U) (.bl b)⟩⟩
def fldE(cs:List Str)(f:Str):D->Option D
 |.err c O=>if cs.contains c=E3 then O.lookup f else W1
 |_=>W1
def ud{fs:List (Str×V)}(h:FsV fs gs)(l:gs.lookup f=O0 d):∃y,fs.lookup f=O0 y/\VT d=O0 y:=by
 unfold FsV at h
 induction fs generalizing gs with
 |nil=>cases gs with
  |nil=>cases l
  |cons q t=>cases h
 |cons q t I=>
  cases gs with
  |nil=>cases l
  |cons J U=>
   obtain⟨k,v⟩:=q;obtain⟨Y,T⟩:=J;simp only[bn,xC,rl] at h;obtain⟨⟨rfl,S⟩,O⟩:=h;simp only[ce] at l ⊢;split at l
   .cases l;exact⟨v,rfl,S.symm⟩
   .exact I O l
def nY(h:VT d=O0 y):uj G H y d:=by
 cases d<;>first | (cases h;constructor) | cases h
def ue(hG:G.K=X.K)(t:XT G cs R)(ha:PF X G a fa)(n:∀c C,cs.contains c=E3->G.xcl c=O0 C->BL G.K C f)(hb:hZ a f X.env (eval a X.env)=eval a X.env:=by rfl):
  PF X G (.Attribute a f pos) (uF (fldE cs f) fa):=by
 rintro A π s σ H Q I ⟨Y,d,o,e,k⟩
 unfold uF at e;cases O:fa Y with
 |none=>simp[O] at e
 |some U=>
  rw[O] at e;have e2:fldE cs f U=O0 d:=e;refine R4 hb (py (@ha A π s σ H (λv J=>cc H J/\uj G (lu A J) v U) I ⟨Y,U,o,O,λv J Z r1=>⟨Z,r1⟩⟩) λu Z q0=>?_);obtain⟨v,J,I1,rv,S,rp⟩:=q0;cases rp with
  | @err ae C dx tb c fs gs hC h1 h2 h3=>
   obtain rfl:=(show u=bg ae from rv);have T:(if cs.contains c=E3 then gs.lookup f else W1)=O0 d:=e2;split at T
   .rename_i hc;obtain⟨y,l1,l2⟩:=ud h3 T;cases dx with
    |none=>cases h2;cases l1
    |some dx=>exact uW I1 (Ay _ _ h1) (Ay _ _ h2) (hG▸t.xc c C hc hC) (hG▸n c C hc hC) l1 λu' s2 I2 ru=>⟨y,J,I2,ru,k y J S (nY l2)⟩
   .cases T
  |_=>cases e2
end
def ABe{base:Heap}{x:Str}{f:Addr}{k:Nat}{b:FS}(F:FunD G.K x qual st f fd)(S:fc N ps (Ac st))(hl:ps.length<=N.length)(hb:∀(cdv:ac) (A:aT) (outer:List Env) (s:av) (H:Hp) (E:XK),Room k (A.deeper (io qual (Ac st) s.heap.objs.size f cdv))->PSZs (TZ (CX1 P w) P w G.K mg base N qual (Ac st) f cdv A outer s H E) G (Bs st) b):
  mu P w G.K mg base (CX1 P w) (k+1) f fd ps (spZ G (oo N.length ps.length b)):=by
 obtain⟨oc,od,dV,kV,X0,pm,an,cdv,ct,S0,rfl,lk,O⟩:=F.ex;refine jD lk O S (λvs H Q E h=>?_) (λA outer s H vs Q E hr h=>?_)
 .obtain⟨A,T,d,Z,r,e,_⟩:=h;unfold oo at e;split at e
  .rename_i J;rw[r.1];exact J
  .cases e
 .obtain⟨A0,T,d,Z,r,e,k,kx⟩:=h;unfold oo at e;split at e
  .rename_i J;have hzz:=hb cdv A outer s H E hr;refine⟨_,@hzz A0 H,Ek N.length T,?_⟩;cases I:b (Ek N.length T) with
   |none=>simp[I] at e
   |some o=>
    refine⟨o,Pa Z r (by rw[r.1,J];exact hl),rfl,?_⟩;cases o with
    |nx Y=>
     simp only[I] at e;cases e;exact⟨(by rintro σ U ⟨A,w⟩;exact k _ U w.same .non),trivial⟩
    |rt d' r0=>
     simp only[I] at e;cases e;exact⟨λv σ U A w r'=>k v U w.same (r'.mono (Ji w.sub)),zR kx⟩
    |bk Y=>simp[I] at e
    |ct Y=>simp[I] at e
  .cases e
def okID:D->Bool
 |.int n=>decide (n.natAbs.log2<1920)
 |_=>ZA
def uf(d:D)(h:okID d=E3):∃y,VT d=O0 y/\okI y:=by
 cases d with
 |int n=>exact⟨_,rfl,n,rfl,VO h⟩
 |_=>cases h
structure Mx (K:ay) (C:Addr) (m qual:Str) (st:Stmt) (ps:List Str) where
 f:Addr
 fd:ma
 F:Fun K m qual st f fd
 B:OX K fd ps []
 me:Meth K C m f
structure Rx (K:ay) (mg:Str->Option ac) (rn:Str) where
 R:Addr
 m:mg rn=O0 (.ref R)
 x:excX K R=E3
 h1:CA K (.ref R) "__getattribute__"=O0 (O0 (.builtin "type.__getattribute__"))
 h2:GW K R (.type "type")=E3
 h3:GY K (.ref R) (.type "type") "__init__"=O0 (.val (.builtin "ValueError.__init__"))
structure Xx (G:Gx) (mg:Str->Option ac) (R:Addr) (cn f qual:Str) (st:Stmt) (ps:List Str) where
 C:Addr
 fi:Addr
 fd:ma
 g:G.xcl cn=O0 C
 xc:XC G.K C R
 hi:dn G.K (.ref C) "__init__"=O0 (O0 (.ref fi))
 hf:nk G.K (.ref fi)=E3
 kp:fF G.K (.ref C)=E3
 na:BL G.K C f
 m:mg cn=O0 (.ref C)
 F:Fun G.K "__init__" qual st fi fd
 B:OX G.K fd ps []
section
variable {a ob:Expr}{es:List Expr}{fs:FA}{fa fo:FE}{p np cpos:Pos}
theorem fZ{k:Nat}{x:Str}{d:Dx X.K X.mg x st ps}(F:mu X.prog X.w X.K X.mg X.base (CX1 X.prog X.w) k d.f d.fd ps (spZ G g))(S:Room k' X.A)(Y:PFA X G (a::es) fs)(J:k<=k':=by omega)(U:Gl X x:=by rfl)(O:(x==("__debug__":Str))=ZA:=by decide)(T:aE (a::es) X.env=(ZA,eval a X.env)::aE es X.env:=by rfl)(I:(dE pos (aE es X.env)).any (·.1)=ZA:=by rfl):PFZ X G (.Call (.Name x p) (a::es) [] pos) (Ag g fs):=zQ F (S.mono J) U d.m d.F.kp d.B Y O T I
theorem mO{k:Nat}{m:Str}{d:Mx X.K C m qual st ps}{pl:Sem Bool}(hc:G.cl c=O0 C)(cl:Sn X.K C)(F:mu X.prog X.w X.K X.mg X.base CX0 k d.f d.fd ps (Po G g))(hr:Room k' X.A)(ho:PF X G ob fo)(S:k<=k':=by omega)(ht:eval (.Call (.Attribute ob m apos) [] [] pos) X.env=(do
   let ov <-eval ob X.env
   o0 apos.atName
   let (f,first) <-lS [ov] (pV ov m pl)
   se pos f first (dE pos (aE [] X.env)) (md pos (jS [] X.env))):=by rfl):
  PF X G (.Call (.Attribute ob m apos) [] [] pos) (Fz c m g fo am):=λA=>Bt (jB (@ho A) cl d.me F (hr.mono S) d.B .nil Xo ht)<|by
 rintro σ H Q ⟨O,dd,o,e,k⟩
 unfold Fz at e;cases T:fo O with
 |none=>simp[T] at e
 |some J=>
  rw[T] at e;have U:(if Es c m J=E3 then (am O).bind λds=>g (J::ds) else W1)=O0 dd:=e;split at U
  .rename_i I;have e2:g [J]=O0 dd:=U;refine⟨O,J,o,T,λv H1 Y r1=>?_⟩;cases J with
   |ob c' gs=>
    simp only[Es,eW,WO,x8] at I;obtain⟨rfl,hn⟩:=I;cases r1 with
    |ob hC h1 Z r2=>
     rw[hc] at hC;cases hC;exact⟨_,_,_,rfl,Ay _ _ h1,Q4 Z hn,A,[.ob c' gs],dd,(o.mono Y).live,.cons (.ob hc h1 Z r2) .nil,e2,λv H3 s3 r4=>k v H3 (Y.trans s3) r4⟩
   |_=>simp[Es] at I
  .cases U
theorem rZ{R:Addr}{x:Xx G X.mg R cn f qual st ps}{k:Nat}{c:V->Prop}{ok:D->Bool}(F:mu X.prog X.w X.K X.mg X.base CX0 k x.fi x.fd ps (spE X.K f c))(T:Room k' X.A)(J:∀d,ok d=E3->∃y,VT d=O0 y/\c y)(ha:PF X G a fa)(O:k+1<=k':=by omega)(Y:G.K=X.K:=by rfl)(U:Gl X cn:=by rfl)(hc:X.calm=E3:=by rfl)(S:(cn==("__debug__":Str))=ZA:=by decide)(Z:aE [a] X.env=[(ZA,eval a X.env)]:=by rfl)(I:(dE cpos (aE [] X.env)).any (·.1)=ZA:=by rfl):PSZ X G (.Raise (O0 (.Call (.Name cn np) [a] [] cpos)) W1 pos) (im (excF cn f ok fa)):=
 gP (Y▸x.xc) (Y▸x.hi) (Y▸x.hf) (Y▸x.kp) (Y▸x.na) F (T.mono O) (Y▸x.B) U x.m x.g hc J ha S Z I
end
section
variable {x:Str}{base:Heap}{k:Nat}{b:FS}
theorem fnZ(d:Dx G.K mg x st ps)(S:fc N ps (Ac st))(I:∀(cdv:ac) (A:aT) (outer:List Env) (s:av) (H:Hp) (E:XK),Room k (A.deeper (io x (Ac st) s.heap.objs.size d.f cdv))->PSZs (TZ (CX1 P w) P w G.K mg base N x (Ac st) d.f cdv A outer s H E) G (Bs st) b)(Z:ps.length<=N.length:=by decide):
  mu P w G.K mg base (CX1 P w) (k+1) d.f d.fd ps (spZ G (oo N.length ps.length b)):=ABe d.F S Z I
end
def gx2(K:ay)(cn:Str)(C:Addr)(l:List (Str×Addr)):Gx:={ K:=K,cl:=λc=>if c=cn then O0 C else W1,xcl:=λc=>l.lookup c }
section
variable {K:ay}{x m:Str}{f R:Addr}{kV:ac}{l:List (Str×Addr)}
theorem Ua{P:Addr->Prop}:∀{l:List (Str×Addr)},(∀p∈l,P p.2)->∀{c:Str}{C:Addr},l.lookup c=O0 C->P C
 |[],_,_,_,h=>nomatch h
 | (k,v)::r,I,c,C,h=>by
  simp only[ce] at h;split at h
  .cases h;exact I (k,v) eD
  .exact Ua (λp J=>I p (da _ J)) h
theorem zZ{cs:List Str}(X:K.In h)(I:∀p∈l,dn K (.ref p.2) x=O0 W1):∀c J,cs.contains c=E3->(gx2 K cn C l).xcl c=O0 J->BL (gx2 K cn C l).K J x:=λc J _ g=>Ua (P:=λC=>dn K (.ref C) x=O0 W1) I g
theorem nZ{J:List ac}{S:List Str}:∀{l:List (Str×Addr)},(∀p∈l,ib K (.ref p.2) J=O0 (S.contains p.1))->∀{c:Str}{C:Addr},l.lookup c=O0 C->ib K (.ref C) J=O0 (S.contains c)
 |[],_,_,_,h=>nomatch h
 | (k,v)::r,I,c,C,h=>by
  simp only[ce] at h;split at h
  .rename_i e;have:c=k:=by simpa using e
   cases h;subst this;exact I (c,v) eD
  .exact nZ (λp O=>I p (da _ O)) h
def ug{cs ns:List Str}{J:List ac}(X:K.In h)(h1:ib K (.type "NoneType") J=O0 (ns.contains "NoneType"))(T:ib K (.type "bool") J=O0 (ns.contains "bool"))(S:ib K (.type "int") J=O0 (ns.contains "int"))(O:ib K (.type "str") J=O0 (ns.contains "str"))(I:∀p∈l,ib K (.ref p.2) J=O0 (ns.contains p.1)):Kit (gx2 K cn C l) cs J ns:=⟨h1,T,S,O,λc U _ g=>nZ I g⟩
def kx2{g:Addr}{n:Nat}{I:Array ac}{xs:List Str}(X:K.In h)(N:h.Ns eB mg)(a:oQ K eB x=O0 (O0 (.ref g)))(J:K.lookup g=O0 ⟨.type "tuple",od,.seq I n,osl⟩)(hz:I.size<=sizeLine)(r:gn (xs.map V.str) I.toList):Kx (gx2 K cn C l) mg x (.tup (xs.map .str)):=⟨g,mP X N a,Ql J hz r⟩
def mx(X:K.In h)(a:dn K (.ref C) m=O0 (O0 (.ref f)))(i:nk K (.ref f)=E3)(I:K.lookup f=O0 ⟨oc,od,.func (i7 m qual (Dz st) (Bs st) (Ac st) .none kV doc pm an cdv ct),osl⟩)(c:og K cdv qual=E3)(k:fF K (.ref f)=E3)(b:∀(kV doc pm:ac) (an:Option Addr) (cdv ct:ac) (us:List ac),us.length=ps.length->w9 (i7 m qual (Dz st) (Bs st) (Ac st) .none kV doc pm an cdv ct) ⟨us,[]⟩=pure (ps.zip us)):Mx K C m qual st ps:=⟨f,_,Oc I c k,(Oc I c k).binds b,a,i,k⟩
def rx(X:K.In h)(N:h.Ns eB mg)(a:oQ K eB x=O0 (O0 (.ref R)))(e:excX K R=E3)(h1:CA K (.ref R) "__getattribute__"=O0 (O0 (.builtin "type.__getattribute__")))(I:GW K R (.type "type")=E3)(S:GY K (.ref R) (.type "type") "__init__"=O0 (.val (.builtin "ValueError.__init__"))):Rx K mg x:=⟨R,mP X N a,e,h1,I,S⟩
def U_:df "ValueError"=O0 (.type "ValueError"):=by decide +kernel
end
def ABf:R2:=λx y H Q=>∃a kvs k b,y=.ref a/\Rd H a (.dT kvs)/\x=.ref b/\H b=O0 (.tup (k.map kV))/\Q (.bl (SV kvs k).isSome) H
def inTO(ds:Option (List D))(y:Option D):Option D:=ds.bind λds=>y.bind λy=>match y with
 |.dt I=>if ds.length<=sizeLine then (Lp ds).map λk=>.bl (OY k I).isSome else W1
 |_=>W1
def inTF(fs:FA)(I:FE):FE:=λρ=>inTO (fs ρ) (I ρ)
section
variable {b:Expr}{fb:FE}{es:List Expr}{fs:FA}
def uh(T:X.A.units+1<bP):PZ X (dS .In) ABf:=by
 intro Z s Y H x y v u Q I rx O h;obtain⟨a,J,k,b,rfl,e,rfl,S,q⟩:=h;cases O;exact d_in T I (.inr ⟨J,k,b,e,rfl,S,rfl⟩) rx λs' U=>⟨.bl _,H,U,rfl,q⟩
def ni{x1}{k:Nat}(hr:Room k X.A)(ha:PFA X G es fs)(hb:PU X G b fb)(hm:gu .In b=ZA:=by with_unfolding_all rfl):PF X G (.Compare (.Tuple es x1 p1) [.In] [b] pos) (inTF fs fb):=λA=>Bt (aa (uh (Hr hr)) (V5 (@ha A)) (@hb A) hm)<|by
 rintro σ H Q ⟨J,d,o,e,k⟩
 unfold inTF inTO at e;cases O:fs J with
 |none=>simp[O] at e
 |some T=>
  cases Z:fb J with
  |none=>simp[O,Z] at e
  |some y=>
   rw[O,Z] at e;cases y with
   |dt I=>
    have S:(if T.length<=sizeLine then (Lp T).map λk=>D.bl (OY k I).isSome else W1)=O0 d:=e;split at S
    .rename_i hz;cases Y:Lp T with
     |none=>simp[Y] at S
     |some ks=>
      rw[Y] at S;cases S;refine⟨J,T,o,O,λxs H1 s1 r1=>⟨by rw[r1.1];exact hz,λp hp=>?_⟩⟩;have ex:=Qn r1 Y;have s2:cc H1 (mf H1 p (.tup xs)):=Ao hp _;refine⟨J,.dt I,o.mono (s1.trans s2),Z,λv H3 s3 r3=>?_⟩;obtain⟨a,U,rfl,h1,h2,r⟩:=r3.dt;have h3:=(M9 (k:=ks) h2 r).2;refine⟨a,U,ks,p,rfl,h1,rfl,by rw[s3 _ _ Ah,ex],?_⟩;rw[h3];exact k _ H3 ((s1.trans s2).trans s3) (.bl _)
    .cases S
   |_=>cases e
end
structure Ax (mg:Str->Option ac) (x:Str) where
 a:Addr
 m:mg x=O0 (.ref a)
def ax{K:ay}{h:Heap}{I:Str->Option ac}{x:Str}{C:Addr}(X:K.In h)(N:h.Ns eB I)(a:oQ K eB x=O0 (O0 (.ref C))):Ax I x:=⟨C,mP X N a⟩
def nxD(d:D):Option D:=match Pe d with | none=>O0 d | some _=>W1
def noX(g:List D->Option D):List D->Option D:=λds=>(g ds).bind nxD
section
variable {K:ay}{base:Heap}{k:Nat}{f:Addr}{sp sp':Sp}
def ul(F:mu P w K mg base (CX1 P w) k f fd ps sp)(h:∀vs H Q E,sp' vs H Q E->sp vs H Q λ_ _ _=>False):mu P w K mg base CX0 k f fd ps sp':=
 ⟨λvs H Q E q=>F.len vs H Q _ (h _ _ _ _ q),λA I s H J O vs Q E T U Y S hs=>kQ (F.run A I s H J O vs Q _ T U Y S (h _ _ _ _ hs)) λr s' q=>by
  cases r with
  |error v=>obtain⟨_,_,_,_,_,_,_,z⟩:=q;exact z.elim
  |ok Z=>cases Z<;>exact q⟩
def Yk(e:noX g ds=O0 d):g ds=O0 d/\Pe d=W1:=by
 unfold noX nxD at e;cases I:g ds with
 |none=>simp[I] at e
 |some J=>
  rw[I,cw] at e;split at e
  .rename_i z;cases e;exact⟨rfl,z⟩
  .cases e
def cY(F:mu P w K mg base (CX1 P w) k f fd ps (spZ G g)):mu P w K mg base CX0 k f fd ps (Po G (noX g)):=
 ul F λO H Q E ⟨A,J,d,I,r,e,q⟩=>⟨A,J,d,I,r,(Yk e).1,q,λc S z=>by rw[(Yk e).2] at z;cases z⟩
end
end PV
namespace L2
end L2
namespace PV
open PySem PySem.Spec L2
section
variable {es l1:List Expr}{a b c:Expr}
def Rh{k j}:aE (.Constant k j pos::es) env=(ZA,eval (.Constant k j pos) env)::aE es env:=rfl
def SX{x}:aE (.Name x pos::es) env=(ZA,eval (.Name x pos) env)::aE es env:=rfl
def Et{o}:aE (.BinOp a o b pos::es) env=(ZA,eval (.BinOp a o b pos) env)::aE es env:=rfl
def Oo{o}:aE (.Compare a o l1 pos::es) env=(ZA,eval (.Compare a o l1 pos) env)::aE es env:=rfl
def Az:aE (.Subscript a b pos::es) env=(ZA,eval (.Subscript a b pos) env)::aE es env:=rfl
def Bm{x}:aE (.Attribute a x pos::es) env=(ZA,eval (.Attribute a x pos) env)::aE es env:=rfl
def nu{x}:aE (.Tuple l1 x pos::es) env=(ZA,eval (.Tuple l1 x pos) env)::aE es env:=rfl
def CK{k}:aE (.Call a l1 k pos::es) env=(ZA,eval (.Call a l1 k pos) env)::aE es env:=rfl
def Hv{g sc}:aE (.ListComp a g sc pos::es) env=(ZA,eval (.ListComp a g sc pos) env)::aE es env:=rfl
end
section
variable {es:List Expr}{fs:FA}
def iS{i j}(h:PFA X G es fs):PFA X G (.Constant (.str i) j pos::es) (Aa (kF (.str i)) fs):=Ae TX h Rh
def iI{i j}(h:PFA X G es fs):PFA X G (.Constant (.int i) j pos::es) (Aa (kF (.int i)) fs):=Ae Qg h Rh
end
section
variable {cs:List Str}{R:Addr}
def um(x:XT G cs R):∀c C,cs.contains c=E3->G.xcl c=O0 C->∃Z,EX.XC G.K C Z/\(R=Z∨R=C):=λc C h g=>⟨R,x.xc c C h g,.inl rfl⟩
end
open PyProof.Rows hiding St
open EX
section
variable {a:Expr}{fa:FE}{np cpos p:Pos}{gb:FS}{es:List Expr}{fs:FA}
theorem OutX.base{A0:List Addr}{J T:Hp}{o:To}(k:OutX X G A0 J o)(s:cc J T)(Z:∀a∈A0,J a≠W1):OutX X G A0 T o:=by
 cases o with
 |rt d ρ=>rintro c gs z S O H1 H Y e U I ⟨A,w⟩ x;exact k c gs z S O H1 H Y e U I ⟨A,w.base s Z⟩ x
 |_=>trivial
theorem Wy{it:Expr}(hp:vE .(3) X.A X.env X.xe)(hc:X.calm=E3)(hi:WU X G ZA tg it src)(hg:PGD X G tg fg)(hb:PSZs X G body gb)(hs:∀x,pS it X.env x=pure x:=by intro _;rfl):PSZ X G (.For tg it body [] pos) (Pt src fg gb):=by
 rintro U He π s σ H D I ⟨ρ,o,⟨A,w⟩,e,k,kx⟩
 cases e1:src ρ with
 |none=>simp[Pt,e1] at e
 |some O=>
  have e':OS (λd ρ=>(fg d ρ).bind gb) O ρ=O0 o:=by
   have e2:OS (XU fg gb) O ρ=O0 o:=by simpa [Pt,e1] using e
   exact e2
  have Q2:PSs X body (λD σ H=>∃U He,tSZ X G U He gb D σ H):=(by rintro π s σ H D I ⟨U,He,q⟩;exact @hb U He π s σ H D I q);have Y1:PG X tg (λv σ H Q=>∃U He,tGD G U He fg v σ H Q):=(by rintro π s σ H v u Q I r ⟨U,He,q⟩;exact @hg U He π s σ H v u Q I r q);refine ZQ hp hc (@hi A) Y1 Q2 hs π s σ H D I ⟨ρ,O,w.ok,e1,λJ H1 s1 sr=>?_⟩;obtain⟨P1,w2⟩:=(w.mono s1).here;have k2:=k.base P1 w.l0;have kx2:=kx.base P1 w.l0;generalize S2:lu (A.filter λa=>decide (a∉U)) H1=Hf at P1 w2 k2 kx2;refine⟨λi m S H'=>m=O.length-i/\i<=O.length/\∃Z,OkS G U Hf S H' Z/\OS (λd ρ=>(fg d ρ).bind gb) (O.drop i) Z=O0 o,⟨O.length,by simp,gL _,ρ,⟨A,w2⟩,by simpa using e'⟩,?_⟩;rintro i m U1 H3 ⟨rfl,U2,S1,⟨B,w3⟩,T⟩;have pl:cc (lu A H1) (lu B H3):=by rw[<-S2] at w3;exact Sb.plain w.sub w3
  by_cases S0:i<O.length
  .right;have hd:O[i]?=O0 O[i]:=by simp[S0]
   have ed:O.drop i=O[i]::O.drop (i+1):=x5 S0;rw[ed] at T;unfold OS at T;refine⟨sr.go i H3 (pl.trans Ay) S0,λS H'=>∃Z,OkS G U Hf S H' Z/\OS (λd ρ=>(fg d ρ).bind gb) (O.drop (i+1)) Z=O0 o,λS H' q=>⟨O.length-(i+1),by omega,rfl,S0,q⟩,λx H' y=>?_⟩;obtain⟨sy,rx⟩:=sr.yld i H3 x H' _ (pl.trans Ay) hd y;refine⟨U,Hf,B,S1,O[i],?_⟩;cases e4:fg O[i] S1 with
   |none=>simp[e4] at T
   |some X0=>
    refine⟨X0,w3.mono sy,rx B w3.ok.live pl,rfl,λT2 H5 X1=>⟨U,Hf,X0,?_⟩⟩;cases e5:gb X0 with
    |none=>simp[e4,e5] at T
    |some o5=>
     refine⟨o5,X1,rfl,?_⟩;cases o5 with
     |nx Y=>
      simp only[e4,e5,cw] at T;exact⟨λS H' r0=>⟨Y,r0,T⟩,trivial⟩
     |ct Y=>
      simp only[e4,e5,cw] at T;exact⟨λS H' r0=>⟨Y,r0,T⟩,trivial⟩
     |bk Y=>
      simp only[e4,e5,cw] at T;cases T;exact⟨λS H' r0=>k2 S H' r0,trivial⟩
     |rt d5 Y=>
      simp only[e4,e5,cw] at T;cases T;exact⟨k2,kx2⟩
  .left;have ei:i=O.length:=by omega
   subst ei;rw[Bi] at T;cases T;exact⟨sr.stop _ H3 (pl.trans Ay) (aS _),k2 U1 H3 ⟨B,w3⟩⟩
end
end PV
namespace EX
open PySem PySem.W PySem.Spec PyProof.Rows PySem.Calls
section
variable {A:aT}{K:Frag}{x:Addr}{ox:Obj}{name:Str}{v:ac}
open Builtin Builtin.ObjectAttr in
end
end EX
namespace EX
open PySem PySem.Spec L2
open PyProof.Rows hiding St
end EX
namespace PV
open PySem PySem.Spec L2 EX
open PyProof.Rows hiding St
structure Xx2 (G:Gx) (mg:Str->Option ac) (R:Addr) (cn f g qual:Str) (st:Stmt) (ps:List Str) where
 C:Addr
 fi:Addr
 fd:ma
 gc:G.xcl cn=O0 C
 xc:XC G.K C R
 hi:dn G.K (.ref C) "__init__"=O0 (O0 (.ref fi))
 hf:nk G.K (.ref fi)=E3
 kp:fF G.K (.ref C)=E3
 na:BL G.K C f
 nb:BL G.K C g
 m:mg cn=O0 (.ref C)
 F:Fun G.K "__init__" qual st fi fd
 B:OX G.K fd ps []
end PV
namespace EX
open PySem PySem.Spec L2
open PyProof.Rows hiding St
section
variable {R:Addr}
theorem n6{Q:VK}(x:XC X.K C R)(hi:dn X.K (.ref C) "__init__"=O0 (O0 (.builtin "ValueError.__init__")))(I:Inv X π σ H s)(r:gn [y] us)(h:∀e,H e=W1->Q (.ref e) (mf H e (excO e C W1 W1))):ah .(3) X.A (call (.ref C) us) (EP X π σ Q) X.xe s:=by
 obtain⟨u,rfl⟩:∃u,us=[u]:=by
  cases r with
  |cons a b=>cases b;exact⟨_,rfl⟩
 have I2:=Inv.exc (C:=C) (us:=[u]) I;have O:H (s.heap.objs.size+1)=W1:=I.hok.fresh (kr _);have hq:=h _ O;have Z:[u].length<=sizeLine:=by show 1<=sizeLine;decide
 obtain⟨nm,qn,N,bs,bm,X0,sn,sub,ab,Y2,dd,k0,k1,k2,k3,k5,hC,T⟩:=KQ I.kIn x.obj;obtain⟨X1,U1,N',P3,S3,U,S1,r0,Y3,P1,X2,U2,T2,S2,Q2,Y1,Y,T'⟩:=KQ I2.kIn x.obj;have KI:=I.kIn;have F:=GV;have S:(mf H (s.heap.objs.size+1) (excO (s.heap.objs.size+1) C W1 W1)) (s.heap.objs.size+1)=O0 (excO (s.heap.objs.size+1) C W1 W1):=Ah;obtain⟨⟨o,vs,q1,q2,q3,J,q5,q6⟩,_⟩:=I2.hok _ _ S;have I3:=I2.kept (h':=((s.heap.push (HW [u])).push (IK C s.heap.objs.size)).push { cls:=.type "tuple",data:=.seq [u].toArray }) (t':=s.toks) λb v z=>bo _ z;have g1:=bo (h:=(s.heap.push (HW [u])).push (IK C s.heap.objs.size)) { cls:=.type "tuple",data:=.seq [u].toArray } q1;have I4:=M6 (u':=excO (s.heap.objs.size+1) C W1 W1) (i:=0) (v:=.ref ((s.heap.push (HW [u])).push (IK C s.heap.objs.size)).objs.size) I3 S trivial g1 J λh' o' r1 r2 r3 r4=>ExcP.ok ⟨o',_,r1,r2.trans q2,r3.trans q3,r4,by simpa using q5,by rw[Nc .(2)];exact q6⟩;rw[UT S] at I4;obtain⟨hp,g,d,t,os⟩:=s;have h0:∃v0,vs[0]?=O0 v0:=⟨vs[0]'(by omega),by simp⟩;obtain⟨v0,h0⟩:=h0;refine qc (Yh F T hC (DM KI hi) (λS0=>by rw[F.init.bind];exact .now) (xh F.init.plain F.initEntry (Nd F T' Y q1 q2 ?_)) Z);unfold eC.«BaseException.__init__»;dsimp only;rw[OO .(1)];unfold Au Nl;refine ag (iF (ag (ag (wpAny_field g1 J h0 (ag (om g1 J .(0) ?_))))) (by show 1<=sizeLine;decide));have z:EP X π σ Q (.ref (hp.objs.size+1)) _:=⟨V.ref (hp.objs.size+1),_,I4,rfl,hq⟩;cases v0<;>first | exact tj (aw ⟨rfl,z⟩) | exact aw (aw ⟨rfl,z⟩)
end
end EX
namespace PV
open PySem PySem.Spec L2 EX
open PyProof.Rows hiding St
structure Xx0 (G:Gx) (mg:Str->Option ac) (R:Addr) (cn:Str) where
 C:Addr
 gc:G.xcl cn=O0 C
 xc:XC G.K C R
 hi:dn G.K (.ref C) "__init__"=O0 (O0 (.builtin "ValueError.__init__"))
 kp:fF G.K (.ref C)=E3
 m:mg cn=O0 (.ref C)
def Yl(cn:Str)(I:FE):FE:=λρ=>(I ρ).map λ_=>.exc cn []
section
variable {a:Expr}{fa:FE}{np cpos:Pos}{R:Addr}
theorem rZ0(x:Xx0 G X.mg R cn)(ha:PF X G a fa)(Y:G.K=X.K:=by rfl)(hg:Gl X cn:=by rfl)(hc:X.calm=E3:=by rfl)(S0:(cn==("__debug__":Str))=ZA:=by decide)(he:aE [a] X.env=[(ZA,eval a X.env)]:=by rfl)(r0:(dE cpos (aE [] X.env)).any (·.1)=ZA:=by rfl):
  PSZ X G (.Raise (O0 (.Call (.Name cn np) [a] [] cpos)) W1 pos) (im (Yl cn fa)):=by
 rintro A0 He π s U H D I ⟨ρ,o,⟨A,w⟩,e,k,kx⟩
 unfold im Yl at e;cases e1:fa ρ with
 |none=>simp[e1] at e
 |some d=>
  rw[e1] at e;cases e;have kx:Rz X G A0 He cn [] ρ:=kx cn [] rfl;have call:ah .(3) X.A (eval (.Call (.Name cn np) [a] [] cpos) X.env) (λv J=>∃e C od,v=.ref e/\ExcP e C od W1 J.heap/\X.K.In J.heap/\excX X.K C=E3/\X.xe (.ref e) J) X.xe s:=by
   refine qf (Jg I hg x.m ?_ S0);have pa:=Bl (@ha A) DK he cpos π s U H (λvs O=>(∃y,vs=[y])/\Sb G A0 He A U O ρ) I ⟨ρ,d,w.ok,e1,λv O Z r1=>⟨⟨v,rfl⟩,w.mono Z⟩⟩;refine wa (h₀:=X.base) I.ok.mod.kin (Y▸x.kp) (py pa λus Z ⟨vs,O,I1,r,⟨y,ev⟩,w1⟩=>⟨I1.kIn,?_⟩) he r0;subst ev;refine py (n6 (Q:=λv H2=>∃e,v=.ref e/\O e=W1/\H2=mf O e (excO e x.C W1 W1)) (Y▸x.xc) (Y▸x.hi) I1 r λe S=>⟨e,rfl,S,rfl⟩) λu s2 q0=>?_;obtain⟨v2,H2,I2,r2,e,ev,S,eH⟩:=q0;subst ev eH;obtain rfl:u=bg e:=r2;refine⟨e,x.C,W1,rfl,(I2.hok e _ Ah).1,I2.kIn,Y▸x.xc.obj,?_⟩;exact kx π U O _ s2 e W1 I2 ⟨A,w1⟩ ⟨⟨x.C,W1,[],x.gc,Ah,rfl,rfl,λd q=>by cases q⟩,Ao S _,S,λT z=>nomatch z⟩
  show ah _ _ (exec (.Raise (O0 (.Call (.Name cn np) [a] [] cpos)) W1 pos) X.env) _ _ _;rw[arm_exec_Raise];refine ag (sg (Yi (K:=X.K) (I.ok.hd hc) ?_));exact ag (py call λv Z q=>ag (sg (aw q)))
end
def PY{P:List Str}(a:sc.kind=.function:=by rfl)(b:sc.isCoroutine=ZA:=by rfl)(c:sc.isGenerator=ZA:=by rfl)(d:N.Nodup:=by decide +kernel)(e:N.take P.length=P:=by rfl)(f:∀x∈P,sc.names.lookup x=O0 .local ∨sc.names.lookup x=O0 .cell :=by decide +kernel)(g:∀y∈sc.names,y.2≠.free :=by decide +kernel):fc N P sc:=⟨a,b,c,d,e,f,g⟩
def fk{es:List Expr}{fs:FA}{x:Str}{J:Pos}(i:Nat)(h:PFA X G es fs)(T:X.N[i]?=O0 x:=by rfl)(O:Vis X.env.scope x:=by first | exact eP rfl | exact d6 (eP rfl) | exact d6 (d6 rfl))(S:(x==("__debug__":Str))=ZA:=by decide)(I:(x==("__classdict__":Str))=ZA:=by decide):PFA X G (.Name x J::es) (Aa (vF i) fs):=Ae (vr i T O S I) h SX
section
variable {K:ay}{x:Str}{R f:Addr}{l:List (Str×Addr)}{cs ns:List Str}{cv:List ac}
def xcB(K:ay)(R C:Addr):Bool:=excX K C&&decide (dn K (.ref C) "__setattr__"=O0 (O0 (.builtin "object.__setattr__")))&&decide (dn K (.ref C) "__getattribute__"=O0 (O0 (.builtin "BaseException.__getattribute__")))&&decide (dn K (.ref C) "__getattr__"=O0 W1) &&
 (GU K C).any (λI=>I.mro==[.ref C,.ref R,.type "ValueError",.type "Exception",.type "BaseException",.type "object"]&&I.hasDict)&&decide (dn K (.ref C) "__class__"=O0 (O0 (.builtin "object.__class__")))
def xtB(K:ay)(R:Addr)(l:List (Str×Addr)):Bool:=l.all (λp=>xcB K R p.2)&&decide (CA K (.builtin "object.__class__") "__get__"=O0 (O0 (.builtin "getset_descriptor.__get__")))&&decide (PySem.W.takesIn K (.builtin "object.__class__")=O0 E3)
def Wz(e:xtB K R l=E3):∀p∈l,XC K p.2 R/\XK2 K p.2:=λp J=>by
 unfold xtB at e;simp only[eW,fI,ZO] at e;obtain⟨⟨T,S⟩,O⟩:=e;have q:=T p J;unfold xcB at q;simp only[eW,ZO] at q;obtain⟨⟨⟨⟨⟨q1,q2⟩,q3⟩,I⟩,Z⟩,Y⟩:=q;exact⟨⟨q1,q2,q3,I,Z⟩,⟨Y,S,O⟩⟩
theorem n8(e:xtB K R l=E3)(g:l.lookup x=O0 f):XC K f R:=(Ua (P:=λC=>XC K C R/\XK2 K C) (Wz e) g).1
def n_(X:K.In h)(e:kitB K l cv ns=E3):Kit (gx2 K cn C l) cs cv ns:=by
 unfold kitB at e;simp only[eW,wf,List.all_nil,fI,WO,and_true] at e;obtain⟨⟨T,S,O,J⟩,I⟩:=e;exact ug X T S O J I
def naB(K:ay)(x:Str)(l:List (Str×Addr)):Bool:=l.all λp=>decide (dn K (.ref p.2) x=O0 W1)
def uo(X:K.In h)(e:naB K x l=E3):∀c J,cs.contains c=E3->(gx2 K cn C l).xcl c=O0 J->BL (gx2 K cn C l).K J x:=zZ X λp I=>by
 unfold naB at e;rw[fI] at e;exact VO (e p I)
end
def wz{I:Type}{us:List I}(h:us.length=1):∃a,us=[a]:=by
 cases us with
 |nil=>cases h
 |cons a r=>exact⟨a,by rw[BE (xl h)]⟩
def w5{I:Type}{us:List I}(h:us.length=2):∃a b,us=[a,b]:=by
 cases us with
 |nil=>cases h
 |cons z r=>
  obtain⟨a,rfl⟩:=wz (xl h);exact⟨z,a,rfl⟩
def xF{I:Type}{us:List I}(h:us.length=3):∃a b c,us=[a,b,c]:=by
 cases us with
 |nil=>cases h
 |cons z r=>
  obtain⟨a,b,rfl⟩:=w5 (xl h);exact⟨z,a,b,rfl⟩
def xG{I:Type}{us:List I}(h:us.length=4):∃a b c d,us=[a,b,c,d]:=by
 cases us with
 |nil=>cases h
 |cons z r=>
  obtain⟨a,b,c,rfl⟩:=xF (xl h);exact⟨z,a,b,c,rfl⟩
def xH{I:Type}{us:List I}(h:us.length=5):∃a b c d e,us=[a,b,c,d,e]:=by
 cases us with
 |nil=>cases h
 |cons z r=>
  obtain⟨a,b,c,d,rfl⟩:=xG (xl h);exact⟨z,a,b,c,d,rfl⟩
def ABg{I:Type}{us:List I}(h:us.length=6):∃a b c d e f,us=[a,b,c,d,e,f]:=by
 cases us with
 |nil=>cases h
 |cons z r=>
  obtain⟨a,b,c,d,e,rfl⟩:=xH (xl h);exact⟨z,a,b,c,d,e,rfl⟩
abbrev EO:=Sum (Rho×Ef) (D×Rho)
abbrev FEz:=Rho->Ef->Option EO
open Classical in
section
open PySem PySem.Spec L2
end
open PySem PySem.Spec L2 EX
open PyProof.Rows hiding St
section
variable {a ob:Expr}{es:List Expr}{fs:FA}{fo:FE}
theorem mA{k:Nat}{m:Str}{d:Mx X.K C m qual st ps}{pl:Sem Bool}(hc:G.cl c=O0 C)(cl:Sn X.K C)(F:mu X.prog X.w X.K X.mg X.base CX0 k d.f d.fd ps (Po G g))(hr:Room k' X.A)(ho:PF X G ob fo)(ha:PFA X G (a::es) fs)(S0:k<=k':=by omega)(Z:aE (a::es) X.env=(ZA,eval a X.env)::aE es X.env:=by rfl)(r0:(dE pos (aE es X.env)).any (·.1)=ZA:=by rfl)(ht:eval (.Call (.Attribute ob m apos) (a::es) [] pos) X.env=(do
   let ov <-eval ob X.env
   o0 apos.atName
   let (f,first) <-lS [ov] (pV ov m pl)
   se pos f first (dE pos (aE (a::es) X.env)) (md pos (jS [] X.env))):=by rfl):
  PF X G (.Call (.Attribute ob m apos) (a::es) [] pos) (Fz c m g fo fs):=λA=>Bt (ak (@ho A) cl d.me F (hr.mono S0) d.B .nil Xo (@ha A) Z r0 ht)<|by
 rintro σ H Q ⟨J,dd,o,e,k⟩
 unfold Fz at e;cases e0:fo J with
 |none=>simp[e0] at e
 |some O=>
  rw[e0] at e;have T:(if Es c m O=E3 then (fs J).bind λS=>g (O::S) else W1)=O0 dd:=e;split at T
  .rename_i I;cases e1:fs J with
   |none=>simp[e1] at T
   |some S=>
    have e2:g (O::S)=O0 dd:=by simpa [e1] using T
    refine⟨J,O,o,e0,λv H1 Y r1=>?_⟩;cases O with
    |ob c' gs=>
     simp only[Es,eW,WO,x8] at I;obtain⟨rfl,hn⟩:=I;cases r1 with
     |ob hC h1 l1 r2=>
      rw[hc] at hC;cases hC;refine⟨_,_,_,rfl,Ay _ _ h1,Q4 l1 hn,J,S,o.mono Y,e1,λvs H2 U r3=>?_⟩;refine⟨A,.ob c' gs::S,dd,((o.mono Y).mono U).live,?_,e2,λv H3 s3 r4=>k v H3 ((Y.trans U).trans s3) r4⟩;rw[gg];exact .cons (uj.mono (.ob hc h1 l1 r2) (Ba U)) r3
    |_=>simp[Es] at I
  .cases T
end
abbrev Ym (w:cb) (q:Addr) (rs:List (ui×Addr)):HO:=.ext λh=>WS w h q rs
abbrev rfs (qs:List (ui×Addr)):List V:=qs.map λx=>V.ref x.2
def AtP(X:Cx)(H:Hp)(qs:List (ui×Addr)):Prop:=∀x∈qs,Xs x.1/\Sa X.K H x.2 ((kk x.1).map kV)
section
theorem W0(val:Nat->ui):∀{n:Nat}{y:ui},y∈metP val n↔∃i,i<n/\val i=y
 |0,y=>by simp[metP]
 |n+1,y=>by
  rw[Qz];unfold addQ;have J:=W0 val (n:=n) (y:=y);split
  .rename_i h;rw[J];constructor
   .rintro⟨i,I,e⟩;exact⟨i,by omega,e⟩
   .rintro⟨i,I,e⟩
    by_cases c:i=n
    .subst c;obtain⟨j,O,S⟩:=(W0 val (n:=i) (y:=val i)).mp h;exact⟨j,O,S.trans e⟩
    .exact⟨i,by omega,e⟩
  .rw[eR,J,ke];constructor
   .rintro (⟨i,I,e⟩ | e)
    .exact⟨i,by omega,e⟩
    .exact⟨n,by omega,e.symm⟩
   .rintro⟨i,I,e⟩
    by_cases c:i=n
    .subst c;exact .inr e.symm
    .exact .inl ⟨i,by omega,e⟩
def cZ{qs:List (ui×Addr)}(I:Inv X π σ H s)(h:AtP X H qs):∀x∈qs,WZ X.prog X.w s.heap x.1 x.2:=λx J=>⟨(h x J).1,tup_is I (h x J).2⟩
def Yn{qs:List (ui×Addr)}(r:gn (rfs qs) us)(i:Nat)(v:ac)(h:us[i]?=O0 v):v=.ref (qs.getD i ((0,0),0)).2:=by
 have e:us=(qs.map (·.2)).map bg:=SM (bs:=qs.map (·.2)) (by rw[cp];exact r);rw[e,cp,db] at h;obtain⟨x,I,rfl⟩:=kD.mp h;simp[I]
def prsL{qs:List (ui×Addr)}(i:Inv X π σ H s)(h:Qr X.K H p (rfs qs)):PrsAt X.prog X.w "list" p qs.length (λi=>(qs.getD i ((0,0),0)).2) s.heap:=by
 obtain⟨I,r,O,_⟩:=i.list h;obtain⟨o,g,c,m,d⟩:=O.isList;have Z:=r.length;rw[aI] at Z;refine⟨λz e=>⟨o,e o g,c⟩,by rw[qS];kernel_rfl,by rw[qS];kernel_rfl,by decide,bE g,λA E z Q T e lt k=>?_⟩;have J:z.heap.IsList p I.toArray:=⟨o,e o g,c,m,d⟩;refine AS J (k _ (λi h=>h.IsListIter z.heap.objs.size p i/\h.IsList p I.toArray) (λi v=>I.toArray[i]?=O0 v) (λU S=>by rw[Z,<-cS];exact BC S _ p (bS lt) I.toArray) ⟨⟨_,ci _ rfl,rfl,rfl⟩,J.push _⟩ λi v q=>Yn r i v (by simpa using q))
def prsT{qs:List (ui×Addr)}(i:Inv X π σ H s)(h:Qb X.K H p (rfs qs)):PrsAt X.prog X.w "tuple" p qs.length (λi=>(qs.getD i ((0,0),0)).2) s.heap:=by
 obtain⟨I,r,O,_⟩:=i.tuple h;obtain⟨o,g,c,m,d⟩:=(show s.heap.IsTuple p I.toArray from O);have Z:=r.length;rw[aI] at Z;refine⟨λz e=>⟨o,e o g,c⟩,by rw[qS];kernel_rfl,by rw[qS];kernel_rfl,by decide,bE g,λA E z Q Y e lt k=>?_⟩;have J:z.heap.IsTuple p I.toArray:=⟨o,e o g,c,m,d⟩;refine y0 J (k _ (λi h=>h.IsTupleIter z.heap.objs.size p i/\h.IsTuple p I.toArray) (λi v=>I.toArray[i]?=O0 v) (λA' S=>by rw[Z,<-cS];exact Walks.tuple S _ p (bS lt) I.toArray) ⟨⟨_,ci _ rfl,rfl,rfl⟩,J.at λU T=>bo _ T⟩ λi v q=>Yn r i v (by simpa using q))
def xJ(X:Cx):List V->Hp->VK->Prop:=λxs H Q=>∃p qs,xs=[.ref p]/\(Qr X.K H p (rfs qs)∨Qb X.K H p (rfs qs))/\AtP X H qs/\qs.length<=17/\∀l J,H l=W1->(J.map (·.1)).Nodup->(∀x∈J,x∈qs)->(∀x∈qs,x.1∈J.map (·.1))->Q (.ref l) (mf H l (Ym X.w l J))
theorem gW(hu:X.A.units+64<bP)(hc:X.calm=E3):Dy X (.type "set") (xJ X):=by
 intro π s σ H xs us Q I r h;obtain⟨p,qs,rfl,hs,Z,hz,k⟩:=h;obtain⟨u,rfl,ru⟩:=Xt r;cases ru;have U:=cZ I Z;have go:∀{T:String},PrsAt X.prog X.w T p qs.length (λi=>(qs.getD i ((0,0),0)).2) s.heap->ah .(3) X.A (call (.type "set") [.ref p]) (EP X π σ Q) X.xe s:=λt=>by
  refine uI (B:=λb=>b∈qs.map (·.2)) (val:=λi=>(qs.getD i ((0,0),0)).1) .(0) (I.ok.hd hc) t (λi J=>?_) hz (λi J=>?_) (λb hb=>?_) λh' tk x kp=>?_
  .rw[show qs.getD i ((0,0),0)=qs[i] by simp[J]];exact U _ (gX J)
  .rw[show qs.getD i ((0,0),0)=qs[i] by simp[J]];exact bv.mpr ⟨_,gX J,rfl⟩
  .obtain⟨y,O,rfl⟩:=bv.mp hb;obtain⟨_,o,_,_,g,_⟩:=U y O;exact bE g
  .obtain⟨es,t,Y,ob,f,pm,bq⟩:=x;have sub:∀x∈Y,x∈qs:=λx S=>by
    obtain⟨y,O,e⟩:=bv.mp (bq x S);have iy:=(U y O).keep (g:=h') λo g=>kp _ o g;have ix:=f.isp x S;rw[<-e] at ix;have:=zK (ix.2.inj iy.2);rw[show x=y from so this e.symm];exact O
   refine⟨.ref s.heap.objs.size,_,I.laid (a:=s.heap.objs.size) (o:=Ym X.w s.heap.objs.size Y) (t':=tk) kp (aS _) ⟨⟨es,t,ob,f.toQ⟩,?_,λh1 h2 x1 e=>x1.keep e⟩,rfl,k _ Y I.fresh f.nd sub λx S=>?_⟩
   .obtain⟨o,_,g,_⟩:=ob;exact⟨o,g⟩
   .obtain⟨i,J,e⟩:=tm.mp S;exact pm.mem_iff.mpr ((W0 _).mpr ⟨i,J,by simp[J,e]⟩)
 rcases hs with hs | hs
 .exact go (prsL I hs)
 .exact go (prsT I hs)
def Ub(X:Cx):List V->Hp->VK->Prop:=λxs H Q=>∃p J,xs=[.ref p]/\(H p=O0 (Ym X.w p J)∨((Qr X.K H p (rfs J)∨Qb X.K H p (rfs J))/\J.length<=60))/\AtP X H J/\(J.map (·.1)).Nodup/\∀l I,H l=W1->I.Perm J->(I.map λx=>VU x.1).Pairwise (·<·)->Q (.ref l) (mf H l (.lst (rfs I)))
theorem Uc:∀(qs:List (ui×Addr)),gn (rfs qs) (qs.map λx=>bg x.2)
 |[]=>.nil
 |x::r=>.cons rfl (Uc r)
theorem Yo{A:aT}{l:Addr}{T:String}{Q:List ac->av->Prop}(U:T="list"∨T="tuple")(J:s.heap.get? l=O0 o)(S:o.cls=.type T)(O:o.data=.seq vs.toArray n)(hz:vs.length<=1000)(k:∀h',s.heap.objs.size<=h'.objs.size->(∀b o,s.heap.get? b=O0 o->h'.get? b=O0 o)->Q vs { s with heap:=h' }):ah (ai prog w) A (tz (.ref l)) Q E s:=by
 unfold tz;refine ag (C7 (kU FY (show ah _ _ (do again (.builtin "list.__iadd__" ⟨[<-newList [],.ref l],[]⟩)) _ _ s from ?_)));refine ag (xi (aw ⟨zw _ (by decide +kernel),kU G0 (show ah _ _ (AB (.ref s.heap.objs.size) (.ref l) (.ref s.heap.objs.size)) _ _ { s with heap:=s.heap.push (rd "list" #[] 0) } from ?_)⟩));have I:(s.heap.push (rd "list" #[] 0)).get? l=O0 o:=bo _ J;unfold AB;refine ag (yn (T:=T) ⟨o,I,S⟩ ?_);rw[ZN (by rcases U with rfl | rfl<;>simp)];refine ag (ND I O (ag (ND (xs:=#[]) (n:=0) (ci _ rfl) rfl ?_)));rw[OO .(1)];refine ag (PyProof.Rows.listUpdate_at (xs:=#[]) (n:=0) (ci _ rfl) rfl ?_ (gL _) (by simp only[Array.size_append,cS,mB,hV];omega));refine aw (show ah (ai prog w) A (load s.heap.objs.size >>= _) Q E _ from ag (xS (PyProof.Rows.get?_update_seq (ci _ rfl) _) ?_));show ah _ _ (pure ((#[]:Array ac)++vs.toArray).toList) Q E _;rw[show ((#[]:Array ac)++vs.toArray).toList=vs by simp];refine aw (k _ (by rw[Heap.size_update,iE];exact kr _) λb o g=>?_);rw[Heap.get?_update_ne _ _ _ _ (bS (bE g))];exact bo _ g
theorem QC(hc:X.calm=E3):Dy X (.builtin "sorted") (Ub X):=by
 intro π s σ H xs us Q I r h;obtain⟨p,S,rfl,O,X0,nd,k⟩:=h;obtain⟨u,rfl,ru⟩:=Xt r;cases ru;have Z:=cZ I X0
 rcases O with O | ⟨O,hz⟩
 .obtain⟨x,_,_⟩:=(show Bp X.prog X.w H s.heap p (Ym X.w p S) from I.hok p _ O);have sz:S.length<=18:=let ⟨_,_,_,f⟩:=x;f.sz;refine Yc (I.ok.hd hc) x Z nd λL e l h' tk hL hS g U Y=>?_;exact⟨.ref l,_,I.laid (a:=l) (o:=.lst (rfs L)) (t':=tk) Y U ⟨by rw[aI,hL.length_eq,hV];omega,_,e,Uc L,g⟩,rfl,k l L (I.hok.fresh U) hL hS⟩
 .have go:∀{T:String}{o:Obj}{n:Nat},(T="list"∨T="tuple")->s.heap.get? p=O0 o->o.cls=.type T->o.data=.seq (S.map λx=>bg x.2).toArray n->ah .(3) X.A (call (.builtin "sorted") [.ref p]) (EP X π σ Q) X.xe s:=λ{T o n} hT ho r0 hd=>by
   refine G1 Gc GA GB (GE _) ?_;unfold eC.«sorted»;refine ag (m:=GG "sorted" 1 1 _) (aw (ag (Yo hT ho r0 hd (by rw[aI];omega) λh1 U Y=>?_)));refine ag (xi ?_ (by rw[aI,hV];omega));have gl:(h1.push { cls:=.type "list",data:=.seq (S.map λx=>bg x.2).toArray }).get? h1.objs.size=O0 (rd "list" (S.map λx=>bg x.2).toArray 0):=ci _ rfl;refine ag (wpAny_holding (ja GH ⟨_,gl,rfl⟩ GI (T_ gl (λx hx=>(Z x hx).keep λo g=>bo _ (Y _ o g)) nd .(0) λL2 p2 s2=>⟨_,rfl,?_⟩) (GL _)));obtain⟨c,S0⟩:=GM (out:=(L2.map λx=>bg x.2).toArray) gl;refine aw ⟨_,rfl,.ref h1.objs.size,_,I.laid (a:=h1.objs.size) (o:=.lst (rfs L2)) (t':=s.toks) (λb o g=>?_) U ⟨by rw[aI,p2.length_eq,hV];omega,_,c,Uc L2,S0⟩,rfl,k _ L2 (I.hok.fresh U) p2 s2⟩;have lb:=bE (Y b o g);rw[GN (bS lb) (by rw[iE];exact ny lb)];exact bo _ (Y b o g)
  have ei:∀{J:List ac},gn (rfs S) J->J=S.map λx=>bg x.2:=λ{J} r=>by
   have:=SM (bs:=S.map (·.2)) (us:=J) (by rw[cp];exact r);rw[this,cp];rfl
  rcases O with O | O
  .obtain⟨J,r,pl,_⟩:=I.list O;obtain⟨o,g,c,m,d⟩:=pl.isList;exact go (.inl rfl) g c (by rw[<-ei r];exact d)
  .obtain⟨J,r,pl,_⟩:=I.tuple O;obtain⟨o,g,c,m,d⟩:=(show s.heap.IsTuple p J.toArray from pl);exact go (.inr rfl) g c (by rw[<-ei r];exact d)
end
def insP(p:ui):List ui->List ui
 |[]=>[p]
 |q::r=>if VU p<VU q then p::q::r else if VU p=VU q then q::r else q::insP p r
def Av(ps:List ui):List ui:=ps.foldr insP []
abbrev SY (l:List ui):Prop:=(l.map VU).Pairwise (·<·)
theorem Ud{p x:ui}(I:Xs p):∀{l:List ui},(∀q∈l,Xs q)->(x∈insP p l↔x=p∨x∈l)
 |[],_=>by simp[insP]
 |q::r,h=>by
  have J:=Ud (x:=x) I (l:=r) λy O=>h y (by simp[O]);unfold insP;split
  .simp
  .split
   .rename_i _ e;have:p=q:=cF I (h q .(1)) e;subst this;simp
   .rw[bX,J,bX];constructor
    .rintro (a | a | a)
     .exact .inr (.inl a)
     .exact .inl a
     .exact .inr (.inr a)
    .rintro (a | a | a)
     .exact .inr (.inl a)
     .exact .inl a
     .exact .inr (.inr a)
theorem Yp{p:ui}(T:Xs p):∀{l:List ui},(∀q∈l,Xs q)->SY l->SY (insP p l)
 |[],_,_=>by simp[insP,SY]
 |q::r,h,s=>by
  have O:∀y∈r,Xs y:=λy I=>h y (by simp[I]);have J:(∀y∈r,VU q<VU y)/\SY r:=by
   rw[SY,bn,lj] at s;exact⟨λy I=>s.1 _ (bv.mpr ⟨y,I,rfl⟩),s.2⟩
  have U:=Yp T O J.2;unfold insP;split
  .rename_i c;rw[SY,bn,lj];refine⟨λy I=>?_,s⟩;obtain⟨z,S,rfl⟩:=bv.mp I
   rcases bX.mp S with rfl | S
   .exact c
   .exact KL c (J.1 z S)
  .split
   .exact s
   .rename_i Z Y;rw[SY,bn,lj];refine⟨λy I=>?_,U⟩;obtain⟨z,S,rfl⟩:=bv.mp I
    rcases (Ud T O).mp S with rfl | S
    .omega
    .exact J.1 z S
theorem QD:∀{ps:List ui},(∀p∈ps,Xs p)->SY (Av ps)/\∀x,x∈Av ps↔x∈ps
 |[],_=>⟨by simp[Av,SY],λx=>by simp[Av]⟩
 |p::r,h=>by
  have I:∀y∈r,Xs y:=λy J=>h y (by simp[J]);obtain⟨a,b⟩:=QD I;have hs:∀q∈Av r,Xs q:=λq U=>I q ((b q).mp U);exact⟨Yp (h p .(1)) hs a,λx=>by show x∈insP p (Av r)↔_;rw[Ud (h p .(1)) hs,b,bX]⟩
theorem cg:∀{l m:List ui},SY l->SY m->(∀x,x∈l↔x∈m)->l=m
 |[],[],_,_,_=>rfl
 |[],y::m,_,_,h=>QO ((h y).mpr .(1)) .(1)
 |x::l,[],_,_,h=>QO ((h x).mp .(1)) .(1)
 |x::l,y::m,a,b,h=>by
  rw[SY,bn,lj] at a b;have J:∀z∈l,VU x<VU z:=λz S=>a.1 _ (bv.mpr ⟨z,S,rfl⟩);have b1:∀z∈m,VU y<VU z:=λz S=>b.1 _ (bv.mpr ⟨z,S,rfl⟩);have e:x=y:=by
   rcases bX.mp ((h x).mp .(1)) with z | z
   .exact z
   .rcases bX.mp ((h y).mpr .(1)) with w | w
    .exact w.symm
    .have:=b1 x z;have:=J y w;omega
  subst e;have:=cg a.2 b.2 λz=>by
   have S:=h z;rw[bX,bX] at S;constructor
   .intro c
    rcases S.mp (.inr c) with d | d
    .subst d;have:=J z c;omega
    .exact d
   .intro c
    rcases S.mpr (.inr c) with d | d
    .subst d;have:=b1 z c;omega
    .exact d
  rw[this]
abbrev prT (p:ui):D:=.tup [.int (p.1:Int),.int (p.2:Int)]
def tssL(ds:List D):Option D:=(VZ ds).bind λps=>if ps.length<=17 then O0 (.tup ((Av ps).map prT)) else W1
def tssD:D->Option D
 |.lst ds=>tssL ds
 |.tup ds=>tssL ds
 |_=>W1
def tslL(ds:List D):Option D:=(VZ ds).bind λps=>if ps.length<=17/\ps.Nodup then O0 (.tup ((Av ps).map prT)) else W1
def tslD:D->Option D
 |.lst ds=>tslL ds
 |.tup ds=>tslL ds
 |_=>W1
section
variable {a:Expr}{fa:FE}
theorem pairs_at{H:Hp}:∀{ks:List ui}{bs:List Addr},n9 (λk c=>Sa X.K H c (k.map kV)) (YR ks) bs->(∀p∈ks,Xs p)->∃qs:List (ui×Addr),bs=qs.map (·.2)/\ks=qs.map (·.1)/\AtP X H qs
 |[],_,.nil,_=>⟨[],rfl,rfl,λx I=>by cases I⟩
 |k::ks,_,.cons r t,h=>by
  obtain⟨qs,T,S,O⟩:=pairs_at t λp J=>h p (by simp[J]);refine⟨(k,_)::qs,by rw[bn,<-T],by rw[bn,<-S],λx I=>?_⟩
  rcases bX.mp I with rfl | I
  .exact⟨h k .(1),r⟩
  .exact O x I
def MJ{qs:List (ui×Addr)}(s:cc H H')(h:AtP X H qs):AtP X H' qs:=λx I=>by
 obtain⟨a,b⟩:=h x I;refine⟨a,?_⟩
 rcases b with (z | ⟨o,z⟩) | z
 .exact .inl (.inl (s _ _ z))
 .exact .inl (.inr ⟨o,s _ _ z⟩)
 .exact .inr z
theorem uq{O:List (ui×Addr)}(Y:G.K=X.K)(h:AtP X (lu A H) O):fy G (lu A H) (rfs O) ((O.map (·.1)).map prT):=by
 refine⟨by simp,λi x d I J=>?_⟩;rw[db] at I;rw[cp,db] at J;cases e:O[i]? with
 |none=>rw[e] at I;cases I
 |some y=>
  rw[e] at I J;cases I;cases J;obtain⟨_,t⟩:=h y (sk e);rw[<-Y] at t;refine .tup (xs:=[.int (y.1.1:Int),.int (y.1.2:Int)]) t rfl λj x d I J=>?_
  match j,I,J with
  |0,I,J=>cases I;cases J;exact .int _
  |1,I,J=>cases I;cases J;exact .int _
  |j+2,I,_=>simp at I
def Vl{qs I:List (ui×Addr)}{ps:List ui}(e:ps=qs.map (·.1))(Z:∀p∈ps,Xs p)(Y:(I.map λx=>VU x.1).Pairwise (·<·))(O:∀x,x∈I.map (·.1)↔x∈ps):I.map (·.1)=Av ps:=by
 obtain⟨J,T⟩:=QD Z;refine cg ?_ J λx=>by rw[O,T]
 rw[SY,cp];exact Y
def cu{J:Hp}{l:Addr}{I:List (ui×Addr)}{ps:List ui}{Q:VK}(Y:G.K=X.K)(o:WV G A σ H ρ)(T:cc H J)(O:AtP X (lu A J) I)(Z:J l=W1)(et:I.map (·.1)=Av ps)(k:∀v H',cc H H'->uj G (lu A H') v (.tup ((Av ps).map prT))->Q v H'):(∃p ys,[V.ref l]=[.ref p]/\((Qr X.K (mf J l (.lst (rfs I))) p ys/\∀m,mf J l (.lst (rfs I)) m=W1->Q (.ref m) (mf (mf J l (.lst (rfs I))) m (.tup ys)))∨(Qb X.K (mf J l (.lst (rfs I))) p ys/\Q (.ref p) (mf J l (.lst (rfs I)))))):=by
 refine⟨l,rfs I,rfl,.inl ⟨.of Ah,λm S=>k _ _ ?_ ?_⟩⟩
 .exact (T.trans (Ao Z _)).trans (Ao S _)
 .have U:cc H (mf J l (.lst (rfs I))):=T.trans (Ao Z _);refine Gf (o.mono U).live S ?_;rw[<-et];exact uq Y (MJ (Ba (Ao Z _)) O)
theorem za{x y:Str}{p q r I:Pos}(hu:X.A.units+64<bP)(hc:X.calm=E3)(hG:G.K=X.K)(hg:Gl X z)(hm:X.mg z=W1)(hv:df z=O0 (.type "tuple"))(X2:Gl X x)(T2:X.mg x=W1)(X1:df x=O0 (.builtin "sorted"))(U2:Gl X y)(S2:X.mg y=W1)(U1:df y=O0 (.type "set"))(ha:PU X G a fa)(hn:z≠"__name__":=by decide)(Y2:(z==("__debug__":Str))=ZA:=by decide)(Q2:x≠"__name__":=by decide)(X0:(x==("__debug__":Str))=ZA:=by decide)(Y1:y≠"__name__":=by decide)(S0:(y==("__debug__":Str))=ZA:=by decide)(he:aE [a] X.env=[(ZA,eval a X.env)]:=by rfl)(r0:aE [.Call (.Name y q) [a] [] pos2] X.env=[(ZA,eval (.Call (.Name y q) [a] [] pos2) X.env)]:=by rfl)(Y:aE [.Call (.Name x p) [.Call (.Name y q) [a] [] pos2] [] I] X.env=[(ZA,eval (.Call (.Name x p) [.Call (.Name y q) [a] [] pos2] [] I) X.env)]:=by rfl):
  PF X G (.Call (.Name z r) [.Call (.Name x p) [.Call (.Name y q) [a] [] pos2] [] I] [] pos) (uF tssD fa):=λA=>Bt (HR Nq hg hm hv (Bl (Lf (QC hc) X2 T2 X1 (Bl (HR (gW hu hc) U2 S2 U1 (Bl (@ha A) DK he) Y1 S0 he rfl) DK r0) Q2 X0 r0 rfl) DK Y) hn Y2 Y rfl)<|by
 rintro σ H Q ⟨ρ,d,o,e,k⟩
 obtain⟨dx,e1,e2⟩:=Hi e;refine⟨ρ,dx,o,e1,λv U s1 r1=>?_⟩;have T:∀(ds:List D) (J:Addr) (O:List V),tssL ds=O0 d->v=.ref J->(Qr G.K U J O∨Qb G.K U J O)->fy G (lu A U) O ds->xJ X [v] U λx2 H2=>Ub X [x2] H2 λx3 H3=>(∃p ys,[x3]=[.ref p]/\((Qr X.K H3 p ys/\∀l,H3 l=W1->Q (.ref l) (mf H3 l (.tup ys)))∨(Qb X.K H3 p ys/\Q (.ref p) H3))):=λds J O e3 ev hs rr=>by
  unfold tssL at e3;obtain⟨ps,ez,e4⟩:=A5.mp e3;split at e4
  .rename_i hz;cases e4;obtain⟨i5,bs,rfl,pr⟩:=SN rr ez;rw[hG] at pr;obtain⟨qs,eb,eq,at0⟩:=pairs_at pr i5;have er:bs.map V.ref=rfs qs:=by rw[eb,cp];rfl
   have P1:AtP X U qs:=MJ Ay at0;refine⟨J,qs,by rw[ev],by rw[<-hG,<-er];exact hs,P1,by rw[eq,aI] at hz;exact hz,λl rs hl nd sub all=>⟨l,rs,rfl,.inl Ah,MJ (Ao hl _) λx S=>P1 x (sub x S),nd,λm ts hm Z S1=>?_⟩⟩;have s2:cc H (mf U l (Ym X.w l rs)):=s1.trans (Ao hl _);refine cu (ps:=ps) hG o s2 (λx S=>MJ (Ba (Ao hl _)) at0 x (sub x (Z.mem_iff.mp S))) hm (Vl eq i5 S1 λx=>?_) k;constructor
   .intro S;obtain⟨y,hy,rfl⟩:=bv.mp S;rw[eq];exact bv.mpr ⟨y,sub y (Z.mem_iff.mp hy),rfl⟩
   .intro S;rw[eq] at S;obtain⟨y,hy,rfl⟩:=bv.mp S;obtain⟨z,hz,ez⟩:=bv.mp (all y hy);exact bv.mpr ⟨z,Z.mem_iff.mpr hz,ez⟩
  .cases e4
 unfold tssD at e2;split at e2
 .obtain⟨J,O,ev,hs,r⟩:=r1.lst;exact T _ J O e2 ev (.inl hs) r
 .obtain⟨J,O,ev,hs,r⟩:=r1.tup;exact T _ J O e2 ev (.inr hs) r
 .cases e2
def zb{x:Str}{p r I:Pos}(hc:X.calm=E3)(hG:G.K=X.K)(hg:Gl X z)(hm:X.mg z=W1)(hv:df z=O0 (.type "tuple"))(S1:Gl X x)(P1:X.mg x=W1)(S0:df x=O0 (.builtin "sorted"))(ha:PU X G a fa)(hn:z≠"__name__":=by decide)(U1:(z==("__debug__":Str))=ZA:=by decide)(X0:x≠"__name__":=by decide)(U:(x==("__debug__":Str))=ZA:=by decide)(he:aE [a] X.env=[(ZA,eval a X.env)]:=by rfl)(T:aE [.Call (.Name x p) [a] [] I] X.env=[(ZA,eval (.Call (.Name x p) [a] [] I) X.env)]:=by rfl):
  PF X G (.Call (.Name z r) [.Call (.Name x p) [a] [] I] [] pos) (uF tslD fa):=λA=>Bt (HR Nq hg hm hv (Bl (Lf (QC hc) S1 P1 S0 (Bl (@ha A) DK he) X0 U he rfl) DK T) hn U1 T rfl)<|by
 rintro σ H Q ⟨ρ,d,o,e,k⟩
 obtain⟨dx,e1,e2⟩:=Hi e;refine⟨ρ,dx,o,e1,λv H1 s1 r1=>?_⟩;have S:∀(ds:List D) (J:Addr) (O:List V),tslL ds=O0 d->v=.ref J->(Qr G.K H1 J O∨Qb G.K H1 J O)->fy G (lu A H1) O ds->Ub X [v] H1 λx3 H3=>(∃p ys,[x3]=[.ref p]/\((Qr X.K H3 p ys/\∀l,H3 l=W1->Q (.ref l) (mf H3 l (.tup ys)))∨(Qb X.K H3 p ys/\Q (.ref p) H3))):=λds J O e3 Y hs rr=>by
  unfold tslL at e3;obtain⟨ps,ez,e4⟩:=A5.mp e3;split at e4
  .rename_i hz;cases e4;obtain⟨i5,bs,rfl,pr⟩:=SN rr ez;rw[hG] at pr;obtain⟨qs,eb,eq,at0⟩:=pairs_at pr i5;have er:bs.map V.ref=rfs qs:=by rw[eb,cp];rfl
   have X1:AtP X H1 qs:=MJ Ay at0;have lz:qs.length<=17:=by have:=hz.1;rw[eq,aI] at this;exact this
   refine⟨J,qs,by rw[Y],.inr ⟨by rw[<-hG,<-er];exact hs,by omega⟩,X1,by rw[<-eq];exact hz.2,λm ts hm Z r0=>?_⟩;refine cu (ps:=ps) hG o s1 (λx hx=>at0 x (Z.mem_iff.mp hx)) hm (Vl eq i5 r0 λx=>?_) k;rw[eq];exact (Z.map (·.1)).mem_iff
  .cases e4
 unfold tslD at e2;split at e2
 .obtain⟨J,O,Y,hs,r⟩:=r1.lst;exact S _ J O e2 Y (.inl hs) r
 .obtain⟨J,O,Y,hs,r⟩:=r1.tup;exact S _ J O e2 Y (.inr hs) r
 .cases e2
end
open PyProof.Rows hiding St
def mnN(val:Nat->Int):Nat->Int
 |0=>val 0
 |k+1=>if val (k+1)<mnN val k then val (k+1) else mnN val k
def dB(x y:D):Option D:=match x with
 |.lst ds=>(Ge ds).map λS=>if S=[] then y else .int (mnN (λi=>S.getD i 0) (S.length-1))
 |_=>W1
def gY(a v:ac):oB "min" ⟨[a],[(eJ "default",v)]⟩:=by unfold oB;kernel_rfl
theorem Yq(val:Nat->Int):∀k,val (iL (λi j=>decide (val i<val j)) k)=mnN val k
 |0=>rfl
 |k+1=>by
  have I:=Yq val k;unfold iL mnN
  by_cases h:val (k+1)<mnN val k
  .rw[ZN (by rw[I];exact SO h),ZN h]
  .rw[OO (by rw[I];simpa using h),OO h];exact I
theorem Vm{f g:Nat->Int}:∀{k:Nat},(∀i,i<=k->f i=g i)->mnN f k=mnN g k
 |0,h=>h 0 (aS _)
 |k+1,h=>by
  unfold mnN;rw[h (k+1) (aS _),Vm λi I=>h i (Bn I)]
def mMin:Mm:=⟨"min","min.loop",.Lt,λi j=>decide (i<j),mnN,by decide,PySem.F.plain_min_loop,PySem.F.entry_min_loop,PySem.F.kind_min,PySem.F.plain_min,PySem.F.entry_min,gY,CmpOf.ints_lt,Yq,Vm⟩
section
variable {a b:Expr}{fa fb:FE}{p kpos:Pos}
def ur{x:Str}(Z:X.calm=E3)(hG:G.K=X.K)(U:Gl X x)(S:X.mg x=W1)(J:df x=O0 (.builtin "min"))(ha:PU X G a fa)(hb:PF X G b fb)(O:x≠"__name__":=by decide)(I:(x==("__debug__":Str))=ZA:=by decide)(Y:aE [a] X.env=[(ZA,eval a X.env)]:=by rfl)(T:jS [⟨O0 (eJ "default"),b,kpos⟩] X.env=[(O0 (eJ "default"),eval b X.env)]:=by rfl):
  PF X G (.Call (.Name x p) [a] [⟨O0 (eJ "default"),b,kpos⟩] pos) (bF dB fa fb):=wH mMin Z hG U S J ha hb O I Y T
end
def xK(K:ay):R2:=λx y H Q=>∃a b xs I,x=.ref a/\y=.ref b/\Qb K H a xs/\Qb K H b I/\I≠[]/\xs.length+I.length<=sizeLine ∧
 (xs=[]->Q (.ref b) H)/\∀p,H p=W1->Q (.ref p) (mf H p (.tup (xs++I)))
def catU:D->D->Option D
 |.tup ds,.tup es=>if es≠[]/\ds.length+es.length<=1000 then O0 (.tup (ds++es)) else W1
 |_,_=>W1
section
theorem ut:PZ X (ii .Add) (xK X.K):=by
 intro π s σ H x y v u Q I rx ry h;obtain⟨a,b,xs,ys,rfl,rfl,ha,hb,hy,hz,q1,q2⟩:=h;cases rx;cases ry;obtain⟨O,r1,p1,_⟩:=I.tuple ha;obtain⟨J,Z,p2,_⟩:=I.tuple hb
 by_cases hv:O=[]
 .obtain⟨⟨cls,dd,X0,sl⟩,ho,hc,n,hd⟩:=id p1;obtain⟨⟨P1,r0,S0,Y⟩,S,U,n2,T⟩:=id p2;simp only at hc hd U T;subst hc hd U T;exact AX ⟨_,ho,rfl⟩ ⟨_,S,rfl⟩ E4 E5 E6 E7 (E8 _ _)
   (tuple_addW0 a b O.toArray J.toArray n n2 dd r0 sl Y (by simp[hv])) ⟨ho,S,⟨.ref b,H,I,rfl,q1 (r1.nil_iff.mp hv)⟩⟩
 .refine HT.rK p1 p2 hv (λz=>QO (Z.nil_iff.mp z) hy) (λz=>?_) (by rw[<-r1.length,<-Z.length];exact hz);refine⟨.ref s.heap.objs.size,_,I.laid (t':=s.toks) (o:=.tup (xs++ys)) (λb ob q=>bo _ q) (aS _) ?_,rfl,q2 _ (I.hok.fresh (aS _))⟩;exact⟨by rw[eI];exact hz,_,r1.append Z,EC _ _⟩
def oA:Ec G (xK G.K) catU:=by
 intro A H x y dx dy d Q Y rx I h k;unfold catU at h;split at h
 .rename_i ds es;split at h
  .rename_i Z;cases h;obtain⟨l,U,rfl,h1,J⟩:=rx.tup;obtain⟨m,T,rfl,h2,S⟩:=I.tup;refine⟨l,m,U,T,rfl,rfl,h1,h2,λz=>Z.1 ?_,by rw[J.1,S.1,hV];omega,λz=>?_,λp O=>k _ _ (Ao O _) (Gf Y O (J.append S))⟩
   .rw[z] at S;exact qv.mp S.1.symm
   .have:ds=[]:=by
     rw[z] at J;exact qv.mp J.1.symm
    rw[this,ko] at k
    rcases I with I | ⟨a,e,I⟩
    .exact k _ H (cc.refl H) I
    .exact I.elim
  .cases h
 .cases h
end
abbrev Mu:=List (Addr×D)
abbrev KM:=To->Mu->Prop
abbrev FM:=Rho->Mu->KM->Prop
abbrev FXM:=Rho->Mu->(D->Mu->Prop)->Prop
def boot_enumerate:df "enumerate"=O0 (.type "enumerate"):=by decide +kernel
section
variable {a:Expr}{fa:FE}{p:Pos}{ta:TA}
def enD:Nat->List D->List D
 |_,[]=>[]
 |n,d::r=>.tup [.int (n:Nat),d]::enD (n+1) r
theorem Sd:∀(n:Nat) (ds:List D),(enD n ds).length=ds.length
 |_,[]=>rfl
 |n,d::r=>by rw[enD,cq,cq,Sd]
theorem dC:∀(n:Nat) (ds:List D) (i:Nat) (d:D),(enD n ds)[i]?=O0 d->∃e,ds[i]?=O0 e/\d=.tup [.int ((n+i:Nat):Int),e]
 |_,[],i,d,h=>by simp[enD] at h
 |n,x::r,0,d,h=>by simp[enD] at h;exact⟨x,rfl,by rw[<-h];simp⟩
 |n,x::r,i+1,d,h=>by
  simp only[enD,kz] at h ⊢;obtain⟨e,J,I⟩:=dC (n+1) r i d h;exact⟨e,J,by rw[I];congr 3;omega⟩
end
section
variable {A:aT}
def NxOk(prog:cE)(w:cb)(s:av)(it:Addr)(x:ac)(P:Heap->Prop):Prop:=∀(B:aT) (O:ac->av->Prop) (R:ac->av->Prop),(∀h1,g9 it s.heap h1->P h1->R x { s with heap:=h1 })->ah (ai prog w) B (CB (.ref it)) R O s
def uv{e:Addr}{x old:ac}{P:Heap->Prop}{Q:Option ac->av->Prop}(he:nI s.heap e it i old)(S:e≠it)(nx:NxOk prog w s it x P)(st:∀g g',P g->(∀o,g.get? it=O0 o->g'.get? it=O0 o)->P g')(k:∀h',IsEnumOut h' e it ((i:Int)+1) x s.heap.objs.size->P h'->h'.get? s.heap.objs.size=O0 { cls:=.type "tuple",data:=.seq #[.int i s.toks,x] }->h'.objs.size=s.heap.objs.size+1->(∀b o,b≠e->b≠it->s.heap.get? b=O0 o->h'.get? b=O0 o)->Q (O0 (.ref s.heap.objs.size)) { s with heap:=h',toks:=s.toks+1 }):
  ah (ai prog w) A (hU (.ref e)) Q E s:=by
 have ty:s.TypeIs (.ref e) "enumerate":=⟨_,he,rfl⟩;have le:e<s.heap.objs.size:=bE he;unfold hU;refine ag (As (sA (name:=eJ "__next__") ty CC (ja CC ty NE ?_ (NF _))));obtain⟨Y,Z,dr,tk,U⟩:=s;show ah _ _ (rh (.ref e) 2 >>= _) _ _ _;refine ag (wpAny_field he rfl (x:=.ref it) rfl (ag (nx _ _ _ λg1 (O:g9 it Y g1) p1=>?_)));have e1:nI g1 e it i old:=(O.2 e S).trans he;show ah _ _ (rh (.ref e) 3 >>= _) _ _ ⟨g1,Z,dr,tk,U⟩;refine ag (wpAny_field e1 rfl (x:=dL i) rfl ?_);show ah _ _ (rh (.ref e) 4 >>= _) _ _ ⟨g1,Z,dr,tk,U⟩;refine ag (wpAny_field e1 rfl (x:=.none) rfl ?_);show ah _ _ (mkInt i >>= _) _ _ ⟨g1,Z,dr,tk,U⟩;refine ag (wpAny_mkInt ?_);show ah _ _ (B6 (.ref e) 3 (dL ((i:Int)+1)) >>= _) _ _ ⟨g1,Z,dr,tk+1,U⟩;refine ag (AD e1 .(1) λg2 (e2:nI g2 e it ((i:Int)+1) old) (J:g9 e g1 g2)=>?_);show ah _ _ (B6 (.ref e) 4 .none >>= _) _ _ ⟨g2,Z,dr,tk+1,U⟩;refine ag (AD e2 .(1) λg3 (e3:nI g3 e it ((i:Int)+1) old) (I:g9 e g2 g3)=>?_);show ah _ _ (Au [.int i tk,x] >>= _) _ _ ⟨g3,Z,dr,tk+1,U⟩;refine ag (wpAny_newTuple ?_);have z3:g3.objs.size=Y.objs.size:=by rw[I.1,J.1,O.1]
 obtain⟨g4,q4⟩:∃g4,g4=g3.push { cls:=.type "tuple",data:=.seq #[.int i tk,x] }:=⟨_,rfl⟩;have e4:nI g4 e it ((i:Int)+1) old:=q4▸bo _ e3;have t4:g4.get? Y.objs.size=O0 { cls:=.type "tuple",data:=.seq #[.int i tk,x] }:=by rw[q4,<-z3];exact ci _ rfl
 have z4:g4.objs.size=Y.objs.size+1:=by rw[q4,iE,z3]
 have k4:∀b o,b≠e->b≠it->Y.get? b=O0 o->g4.get? b=O0 o:=λb o T bi q=>by
  rw[q4];exact bo _ ((I.2 b T).trans ((J.2 b T).trans ((O.2 b bi).trans q)))
 have p4:P g4:=st g1 g4 p1 λo q=>by
  rw[q4];exact bo _ ((I.2 it (cf S)).trans ((J.2 it (cf S)).trans q))
 show ah _ _ (NG (.ref e) >>= _) _ _ ⟨g3.push { cls:=.type "tuple",data:=.seq #[.int i tk,x] },Z,dr,tk+1,U⟩;rw[<-q4,z3];clear q4 e3 I e2 J e1 O p1 z3;unfold NG;refine ag (ag (wpAny_field e4 rfl (x:=.none) rfl (aw ?_)));simp only[XO];refine ag (uS (ag (wpAny_field e4 rfl (x:=old) rfl (ag (AD e4 .(1) λg5 (e5:nI g5 e it ((i:Int)+1) x) (X0:g9 e g4 g5)=>?_)))));show ah _ _ (NH (.ref e) (.ref Y.objs.size) >>= _) _ _ ⟨g5,Z,dr,tk+1,U⟩;unfold NH;refine ag (ag (AD e5 .(1) λg6 (e6:IsEnumOut g6 e it ((i:Int)+1) x Y.objs.size) (S0:g9 e g5 g6)=>?_));refine AD e6 .(1) λg7 (e7:IsEnumOut g7 e it ((i:Int)+1) x Y.objs.size) (r0:g9 e g6 g7)=>?_;have up:∀b,b≠e->∀o,g4.get? b=O0 o->g7.get? b=O0 o:=λb T o q=>(r0.2 b T).trans ((S0.2 b T).trans ((X0.2 b T).trans q));refine ag (tj (aw ⟨_,rfl,aw (k g7 e7 (st g4 g7 p4 (up it (cf S))) (up _ (pw le) _ t4) (by rw[r0.1,S0.1,X0.1,z4]) λb o T bi q=>up b T o (k4 b o T bi q))⟩))
def zc{t:Addr}{us:Array ac}{x:ac}(I:s.heap.IsTupleIter it t i)(T:s.heap.IsTuple t us)(J:us[i]?=O0 x):NxOk prog w s it x (λh=>h.IsTupleIter it t (i+1)):=λB Y R k=>by
 obtain⟨o,g,c,d⟩:=id I;obtain⟨S,O,_,U,dt⟩:=T;unfold CB;refine ag (sA (name:=eJ "__next__") I.typeIs CD (ja CD I.typeIs NI ?_ (NJ _)));show ah _ _ (rh (.ref it) 0 >>= _) _ _ s;refine ag (wpAny_field g d (x:=.ref t) rfl ?_);show ah _ _ (if (bg t==eA)=E3 then _ else _) _ _ s;rw[OO (show ¬ ((bg t==eA)=E3) from dP)];show ah _ _ (rh (.ref it) 1 >>= _) _ _ s;refine ag (wpAny_field g d (x:=.int i 0) rfl (show ah _ _ (zk (.ref t) >>= _) _ _ s from ag (nN O dt ?_)));simp only[ip,J];refine ag (om g d .(1) (aw ⟨x,rfl,aw (k _ (A7 ..) ?_)⟩));exact⟨_,mI _ g (B4 (sT d _)),(B5 ..).trans c,by rw[sT d];simp[dL]⟩
theorem oE{t:Addr}{us:Array ac}(O:A.handled=W1)(I:s.heap.IsTupleIter it t i)(T:s.heap.IsTuple t us)(J:us[i]?=W1)(k:∀h' v,BD it s.heap h'->(∃o,h'.get? v=O0 o/\o.cls=.type "StopIteration")->E (.ref v) { s with heap:=h' }):ah (ai prog w) A (CB (.ref it)) Q E s:=by
 obtain⟨o,g,c,d⟩:=id I;obtain⟨U,S,_,Y,dt⟩:=T;unfold CB;refine ag (sA (name:=eJ "__next__") I.typeIs CD (ja CD I.typeIs NI ?_ (NJ _)));show ah _ _ (rh (.ref it) 0 >>= _) _ _ s;refine ag (wpAny_field g d (x:=.ref t) rfl ?_);show ah _ _ (if (bg t==eA)=E3 then _ else _) _ _ s;rw[OO (show ¬ ((bg t==eA)=E3) from dP)];show ah _ _ (rh (.ref it) 1 >>= _) _ _ s;refine ag (wpAny_field g d (x:=.int i 0) rfl (show ah _ _ (zk (.ref t) >>= _) _ _ s from ag (nN S dt ?_)));simp only[ip,J];refine ag (uS (ag (om g d .(1) ?_)));show ah _ _ (newExc (.type "StopIteration") [] >>= _) _ _ _;refine ag ?_;simp only[newExc,Au];refine ag (iF ?_ (by size_fits));refine ag (m:=C8 _ _) (BB (a:=eA) (by first | rfl | (simp only[C8];rfl)) (iF ?_ (by size_fits)));simp only[raiseNew];refine ag (wpAny_handled ?_);rw[show A.in1.handled=W1 from O];exact ag (aw (wpAny_throw (k _ _ (((A7 ..).extBut.push _).push _) ⟨_,ci _ rfl,rfl⟩)))
theorem gZ{e t:Addr}{us:Array ac}{O:ac}{Q:Option ac->av->Prop}(Z:A.handled=W1)(J:nI s.heap e it i O)(I:s.heap.IsTupleIter it t i)(Y:s.heap.IsTuple t us)(S:us[i]?=W1)(k:∀h',BD it s.heap h'->Q W1 { s with heap:=h' }):ah (ai prog w) A (hU (.ref e)) Q E s:=by
 have ty:s.TypeIs (.ref e) "enumerate":=⟨_,J,rfl⟩;unfold hU;refine ag (As (sA (name:=eJ "__next__") ty CC (ja CC ty NE ?_ (NF _))));show ah _ _ (rh (.ref e) 2 >>= _) _ _ _;refine ag (wpAny_field J rfl (x:=.ref it) rfl (ag (oE Z I Y S λh' v eb U=>?_)));obtain⟨o,g,c⟩:=U;exact ag (vc (T:="StopIteration") (b:=E3) ⟨o,g,c⟩ isSubtype_stop (aw (k _ eb)))
def gf(t:Addr)(us:Array ac)(n:Nat)(J:Option Addr)(sl:Array (Option ac)):Meets (eC.«enumerate.__new__» ⟨[.type "enumerate",.ref t],[]⟩) (λ_ R s=>s.heap.get? t=O0 { cls:=.type "tuple",dict:=J,data:=.seq us n,slots:=sl } ∧
  R (.ok (.ret (.ref (s.heap.push { cls:=.type "tuple_iterator",data:=.fields #[.ref t,.int 0 0] }).objs.size))) { s with heap:=(s.heap.push { cls:=.type "tuple_iterator",data:=.fields #[.ref t,.int 0 0] }).push { cls:=.type "enumerate",data:=.fields #[.none,.bool ZA,.ref s.heap.objs.size,dL 0,.none,.none] } }):=.of_wp λO w A R s h=>by
 obtain⟨T,Z,U,tk,S⟩:=s;obtain⟨g,h⟩:=h;have sb:=sub_enumerate;have I:Heap.IsTuple (Shared.heap ⟨T,Z,U,tk,S⟩) t us:=⟨_,g,rfl,n,rfl⟩
 wp_walk using CF g
 refine wpAny_stack_any λY=>aw ?_;split
 .rename_i c _ _ _ _ _;cases (c==ly "enumerate")
  .wp_walk using CF g,y0 I
   exact⟨_,rfl,h⟩
  .wp_walk using CF g,y0 I
   exact⟨_,rfl,h⟩
 .wp_walk using CF g,y0 I
  exact⟨_,rfl,h⟩
theorem Z5{t:Addr}{us:Array ac}(T:s.heap.IsTuple t us)(k:∀h',nI h' (s.heap.objs.size+1) s.heap.objs.size 0 .none->h'.IsTupleIter s.heap.objs.size t 0->h'.objs.size=s.heap.objs.size+2->(∀b o,s.heap.get? b=O0 o->h'.get? b=O0 o)->Q (.ref (s.heap.objs.size+1)) { s with heap:=h' }):
  ah (ai prog w) A (call (.type "enumerate") [.ref t]) Q E s:=by
 obtain⟨⟨c,J,dt,U⟩,g,Y,n,O⟩:=T;obtain rfl:c=.type "tuple":=Y;obtain rfl:dt=.seq us n:=O;refine callType_new F.called_enumerate .(2) (F.typeCall_enumerate_1 _) (F.newCall_enumerate_1 _) (λob=>F.args_object_init_2 ob _) F.entry_enumerate_new (gf t us n J U) ⟨g,?_⟩;have S:(s.heap.push { cls:=.type "tuple_iterator",data:=.fields #[.ref t,.int 0 0] }).objs.size=s.heap.objs.size+1:=iE ..;show _/\_;rw[S];have I:nI ((s.heap.push { cls:=.type "tuple_iterator",data:=.fields #[.ref t,.int 0 0] }).push { cls:=.type "enumerate",data:=.fields #[.none,.bool ZA,.ref s.heap.objs.size,dL 0,.none,.none] }) (s.heap.objs.size+1) s.heap.objs.size 0 .none:=by
  have:=ci (s.heap.push { cls:=.type "tuple_iterator",data:=.fields #[.ref t,.int 0 0] }) (o:={ cls:=.type "enumerate",data:=.fields #[.none,.bool ZA,.ref s.heap.objs.size,dL 0,.none,.none] }) rfl
  rwa [S] at this
 exact⟨⟨_,I,rfl⟩,k _ I ⟨_,bo _ (ci _ rfl),rfl,rfl⟩ (by rw[iE,S]) λb o x=>bo _ (bo _ x)⟩
end
section
variable {a:Expr}{fa:FE}{ta:TA}{p:Pos}
def IteT(K:ay)(a:Addr):It:=
 ⟨λi H=>∃xs x,Qb K H a xs/\xs[i]?=O0 x,λi H x I=>∃T y,H T=W1/\(∀xs,Qb K H a xs->xs[i]?=O0 y)/\x=.ref T/\I=mf H T (.tup [.int i,y]),λi H=>∃xs,Qb K H a xs/\xs.length<=i⟩
theorem Z6{K:ay}(a it e:Addr)(X0:e≠it):
  Turn P w K (.Tuple elts x1 tp) (IteT K a) [e,it] e (λi h=>(∃O,nI h e it ((i:Nat):Int) O)/\h.IsTupleIter it a i) where
 mem:=by simp
 obj:=λi h U b S=>by
  obtain⟨⟨O,T⟩,o,eo,c,d⟩:=U
  rcases bX.mp S with z | z
  .subst z;exact⟨_,T,λv z=>by
    have z':DA _=DB v:=z;cases z'⟩
  .have z:b=it:=by simpa using z
   subst z;exact⟨o,eo,λv z=>by rw[d] at z;cases z⟩
 keep:=λi h h' U k=>⟨let ⟨O,z⟩:=U.1;⟨O,k e .(1) _ z⟩,U.2.at λo z=>k it .(1) o z⟩
 item:=by
  intro X hP hw hK hc i π s σ H E I hf U hg;subst hP hw hK;obtain⟨⟨O,T⟩,Y⟩:=U;obtain⟨xs,x,hq,hx⟩:=hg;obtain⟨S1,rv,p,hz⟩:=I.tuple hq;obtain⟨u,hu,ru⟩:=rv.get hx;obtain⟨f0,f1,f2,f3,f4,f5⟩:=hf e .(1);obtain⟨g0,g1,g2,g3,g4,g5⟩:=hf it .(1);have S0:e<s.heap.objs.size:=bE T;have Z:it<s.heap.objs.size:=by obtain⟨o,eo,_⟩:=id Y;exact bE eo
  refine uv T X0 (zc Y p (x:=u) (by simpa using hu)) (λg g' q z=>q.at z) λh1 X1 r0 U1 Q2 kk=>?_;refine⟨_,rfl,wpAny_letOwnedTupleGo_enum (s:={ s with heap:=h1,toks:=s.toks+1 }) X1 λh2 P1 sb=>?_⟩;have hT:H s.heap.objs.size=W1:=I.hok.fresh (aS _);have I1:Inv X π σ (mf H s.heap.objs.size (.tup [.int i,x])) { s with heap:=s.heap.push { cls:=.type "tuple",data:=.seq #[.int i s.toks,u] } }:=
   I.laid (a:=s.heap.objs.size) (t':=s.toks) (λb u e=>bo _ e) (aS _) ⟨by show 2<=sizeLine;decide,[.int i s.toks,u],.cons ⟨_,rfl⟩ (.cons ru .nil),_,ci _ rfl,rfl,_,rfl⟩
  let hA:=(s.heap.push { cls:=.type "tuple",data:=.seq #[.int i s.toks,u] })
  have Y1:s.heap.objs.size<h1.objs.size:=by omega
  obtain⟨oi,S2,_⟩:=id r0;have I2:Inv X π σ (mf H s.heap.objs.size (.tup [.int i,x])) { s with heap:=h2,toks:=s.toks+1 }:=by
   have fr:({ cls:=.type "enumerate",data:=.fields #[.none,.bool ZA,.ref it,dL ((i:Nat):Int),.none,O] }:Obj).isFreed=ZA:=rfl;have gm:=mI (λ_=>({ cls:=.type "enumerate",data:=.fields #[.none,.bool ZA,.ref it,dL ((i:Nat):Int),.none,O] }:Obj)) P1 fr;have go:∀b,b≠e->(h2.update e (λ_=>({ cls:=.type "enumerate",data:=.fields #[.none,.bool ZA,.ref it,dL ((i:Nat):Int),.none,O] }:Obj))).get? b=h2.get? b:=λb S=>ka _ _ (cf S);generalize h2.update e (λ_=>({ cls:=.type "enumerate",data:=.fields #[.none,.bool ZA,.ref it,dL ((i:Nat):Int),.none,O] }:Obj))=hm at gm go;have k1:∀b o,b≠it->(s.heap.push { cls:=.type "tuple",data:=.seq #[.int i s.toks,u] }).get? b=O0 o->hm.get? b=O0 o:=λb o S z=>by
    by_cases J:b=e
    .rcases F0 z with ⟨q,_⟩ | q
     .rw[J] at q;exact QO q (bS S0)
     .rw[J] at q ⊢;have:s.heap.get? e=_:=T;rw[this] at q;cases q;exact gm
    .rw[go b J];refine (sb.2 b J).trans ?_
     rcases F0 z with ⟨q,rfl⟩ | q
     .rw[q];exact U1
     .exact kk b o J S q
   have I3:=L2.Inv.turned (t':=s.toks+1) (it:=it) (h':=hm) I1 k1 (by rw[Aj (bS Z)];exact g0) g1 g3 g4 g5;exact L2.Inv.turned (s:={ s with heap:=hm,toks:=s.toks+1 }) (t':=s.toks+1) (it:=e) (h':=h2) I3 (λb o S z=>by have z':hm.get? b=O0 o:=z;rw[go b S] at z';exact z') (by rw[Aj (bS S0)];exact f0) f1 f3 f4 f5
  refine⟨.ref s.heap.objs.size,_,I2,rfl,⟨_,x,hT,λys hy=>by rw[I.tuple_inj hy hq];exact hx,rfl,rfl⟩,⟨⟨u,by simpa using P1⟩,r0.at λo z=>(sb.2 it (cf X0)).trans z⟩,λb S=>?_⟩
  rcases bX.mp S with z | z
  .rw[z,Aj (bS S0)];exact f0
  .have z:b=it:=by simpa using z
   rw[z,Aj (bS Z)];exact g0
 done:=by
  intro X hP hw hK hc i π s σ H E I hf U hg;subst hP hw hK;obtain⟨⟨O,T⟩,Y⟩:=U;obtain⟨xs,hq,hx⟩:=hg;obtain⟨S1,rv,p,hz⟩:=I.tuple hq;obtain⟨g0,g1,g2,g3,g4,g5⟩:=hf it .(1);have hl:=rv.length;exact gZ (I.ok.hd hc) T Y p (by simp;omega) λh' eb=>⟨rfl,I.turned (t':=s.toks) (λb o S e=>eb b o S e) g0 g1 g3 g4 g5⟩
 self:=λ_ _ _ _ _ U h=>let ⟨O,z⟩:=U.1;NL z h
def zf(K:ay)(O:TA):TI:=λJ H R=>O J H λvs I=>∃a,vs=[.ref a]/\(∃xs,Qb K I a xs)/\R (IteT K a) I
theorem oF(hg:Gl X "enumerate")(hm:X.mg "enumerate"=W1)(ha:PA X [a] ta)(hs:aE [a] X.env=[(ZA,eval a X.env)]:=by rfl):PI X (.Tuple elts x1 tp) (.Call (.Name "enumerate" p) [a] [] pos) (zf X.K ta):=by
 intro Y s T H R I h;refine PyProof.Rows.Call_ (QX I hg hm boot_enumerate (DC (py (ha pos Y s T H _ I h) λus J q0=>?_) hs rfl));obtain⟨vs,H1,O,r1,q1⟩:=q0;obtain⟨l,e,⟨xs,hq⟩,q⟩:=q1;subst e;cases r1 with
 |cons r rr=>
  cases rr;cases r;obtain⟨r0,rv,p,hz⟩:=O.tuple hq;refine Z5 p λh' Z S S0 kp=>?_;refine NL Z ?_;have I2:Inv X Y T H1 { J with heap:=h' }:=O.kept (t':=J.toks) kp;refine⟨J.heap.objs.size+1,[J.heap.objs.size+1,J.heap.objs.size],_,_,H1,rfl,I2,Z6 l J.heap.objs.size (J.heap.objs.size+1) (L7 _),⟨⟨_,Z⟩,S⟩,λb hb=>?_,q⟩;have U:J.heap.objs.size<=b:=by
   rcases bX.mp hb with z | z
   .rw[z];exact kr _
   .have z:b=J.heap.objs.size:=by simpa using z
    rw[z];exact aS _
  exact O.fpOk U (O.hok.fresh U)
def enIT(f:FE):FI:=λρ=>match f ρ with | some (.tup ds)=>O0 (enD 0 ds) | _=>W1
def gj(h:Qb G.K F1 q xs)(r:fy G F2 xs ds):Src G (IteT G.K q) (enD 0 ds) F1 F2 where
 go:=λi H s I=>⟨xs,xs[i]'(by rw[r.1];rwa [Sd] at I),Eb s h,by rw[Sd] at I;simp[r.1,I]⟩
 yld:=λi H x H' d s hd y=>by
  obtain⟨T,z,J,O,rfl,rfl⟩:=y;obtain⟨e,Z,rfl⟩:=dC 0 ds i d hd;have Y:uj G F2 z e:=r.2 i z e (O xs (Eb s h)) Z;refine⟨Ao J _,λB U S=>?_⟩;rw[nE];exact Gf U J (.cons (.int _) (.cons (Y.mono S) .nil))
 stop:=λi H s I=>⟨xs,Eb s h,by rw[Sd] at I;rw[r.1];exact I⟩
def gk(Y:G.K=X.K)(U:Gl X "enumerate")(T:X.mg "enumerate"=W1)(h:PF X G a fa)(hs:aE [a] X.env=[(ZA,eval a X.env)]:=by rfl):WU X G ZA (.Tuple elts x1 tp) (.Call (.Name "enumerate" p) [a] [] pos) (enIT fa):=λA=>Tf (oF U T (Bl (@h A) DK hs) hs)<|by
 rintro σ H R ⟨I,ds,o,e,k⟩
 unfold enIT at e;split at e
 .rename_i r0 Z;cases e;refine⟨I,_,o,Z,λv H1 O S=>?_⟩;cases S with
  |tup h l r=>
   rename_i b J;refine⟨b,rfl,⟨J,by rw[<-Y];exact Eb Ay h⟩,?_⟩;rw[<-Y];exact k _ H1 O (gj h ⟨l,r⟩)
 .cases e
end
open PyProof.Rows (isTrue_and isTrue_not isTrue_and_nil envOfC)
section
variable {a:Expr}{fa:FE}{p:Pos}
def enIB(f:FE):FI:=λρ=>match f ρ with | some (.lst ds)=>O0 (enD 0 ds) | some (.tup ds)=>O0 (enD 0 ds) | _=>W1
end
def Kq(P:cE)(w:cb)(m:Addr)(xs:List (List (List Key)×Addr×ac)):Heap->Prop:=λh=>∃o es ep,h.get? m=O0 o/\o.ExactDict/\o.data=.dict es ep/\es.toList=xs.map (D1 (PV.Ss (BJ P w)))/\(xs.map (·.1)).Nodup
structure Pres (P:cE) (w:cb) (K:ay) (f:Str) (H:Hp) (a b m:Addr) (F:List (List Key)->Int) (xs:List (List (List Key)×Addr×ac)) (ks:List (List Key)):Prop where
 at_:∃C dx fs,H a=O0 (.ins C dx fs)/\Sn K C/\BL K C f/\fs.lookup f=O0 (.ref m)
 sm:(m==ic)=ZA
 ext:H m=O0 (.ext (Kq P w m xs))
 al:∀q∈xs,PR K H q.1 q.2.1/\Kin q.1/\fx (.int (F q.1)) q.2.2
 ky:PR K H ks b
 pr:(eK xs ks).isSome=E3
def spP(P:cE)(w:cb)(K:ay)(f:Str):Sp:=λvs H Q _=>∃a b m F xs ks,vs=[.ref a,.ref b]/\Pres P w K f H a b m F xs ks/\Q (.int (F ks)) H
def tP(P:cE)(w:cb)(K:ay)(f:Str):TS:=λD I H=>∃a b m F xs ks,I[0]?=O0 (O0 (.ref a))/\I[1]?=O0 (O0 (.ref b))/\Pres P w K f H a b m F xs ks/\D.rt (.int (F ks)) H
section
def Q6{m:Addr}{xs:List (List (List Key)×Addr×ac)}(I:Inv X π σ H s)(h:Pres X.prog X.w X.K f H a b m F xs ks):s.heap.DictOfH (nK X) m xs:=by
 obtain⟨⟨o,S,T,g,O,d,e,J⟩,_,_⟩:=(show Bp X.prog X.w H s.heap m (.ext (Kq X.prog X.w m xs)) from I.hok m _ h.ext);exact⟨o,S,T,g,O,d,e,λq U=>NT I (h.al q U).1,J⟩
theorem oG{x:Str}{m:Addr}(hN:X.N[i]?=O0 x)(T:Vis X.env.scope x)(Y:(x==("__debug__":Str))=ZA)(J:(x==("__classdict__":Str))=ZA)(Z:hZ (.Name x p1) f X.env (eval (.Name x p1) X.env)=eval (.Name x p1) X.env)(I:Inv X π σ H s)(h1:σ[i]?=O0 (O0 (.ref a)))(h:∃C dx fs,H a=O0 (.ins C dx fs)/\Sn X.K C/\BL X.K C f/\fs.lookup f=O0 (.ref m))(k:∀tk,Q (.ref m) { s with toks:=tk }):ah .(3) X.A (eval (.Attribute (.Name x p1) f p2) X.env) Q E s:=by
 obtain⟨C,dx,fs,h2,c,n,l⟩:=h;refine R4 Z (JH hN T Y J I h1 λu r=>?_);obtain rfl:u=bg a:=r;obtain⟨mA,O,r,_,_,_⟩:=O7 I.hok h2;obtain⟨u,U,S⟩:=Se.some_of (v:=.ref m) (o:=mA f) (by rw[<-l];exact r f);obtain rfl:u=bg m:=S;exact V4 I.kIn O (c.get f) c.hd n U (M5 (v:=.ref m) rfl) (k _)
def uw{x y:Str}{U S:Pos}(hu:X.A.units+64<bP)(hN:X.N[0]?=O0 x)(hv:Vis X.env.scope x)(S0:X.N[1]?=O0 y)(Y:Vis X.env.scope y)(hm:gu .NotIn (.Attribute (.Name x p2) f p3)=ZA:=by rfl)(S1:NoSl (.Name y p13):=by intro _ _;rfl)(hd:(x==("__debug__":Str))=ZA:=by decide)(r0:(x==("__classdict__":Str))=ZA:=by decide)(Z:(y==("__debug__":Str))=ZA:=by decide)(T:(y==("__classdict__":Str))=ZA:=by decide)(hb:∀p,hZ (.Name x p) f X.env (eval (.Name x p) X.env)=eval (.Name x p) X.env:=by intro _;rfl):
  PSs X [.If (.Compare (.Name y p1) [.NotIn] [.Attribute (.Name x p2) f p3] p4) body [] p10,.Return (O0 (.Subscript (.Attribute (.Name x p11) f p12) (.Name y p13) U)) S] (tP X.prog X.w X.K f):=by
 rintro π s σ H D I ⟨a,b,m,F,xs,ks,h0,h1,h,k⟩
 refine lP (xL (vt (JH S0 Y Z T I h1 λu r=>oG hN hv hd r0 (hb _) I h0 h.at_ λtk=>?_) hm));obtain rfl:u=bg b:=r;have I1:=I.tok tk;refine MC (knd:=nK X) (by show X.A.units+1+1<bP;omega) (NT I1 h.ky) h.sm (Q6 I1 h) (kB ?_);rw[h.pr];show ah _ _ (jv [] X.env) _ _ _;refine kq ?_;have O:∀tk,Inv X π σ H { s with toks:=tk }:=λtk=>I.tok tk;refine lP (py (?_:ah .(3) X.A (exec (.Return (O0 (.Subscript (.Attribute (.Name x p11) f p12) (.Name y p13) U)) S) X.env) (SP X π D) X.xe _) λfl s1 q=>?_)
 .refine AQ (aq EW.lookup S1 (oG hN hv hd r0 (hb _) (O _) h0 h.at_ λJ=>JH S0 Y Z T (O J) h1 λu r=>⟨(Q6 (O J) h).typeIs,?_⟩));obtain rfl:u=bg b:=r;exact cC (F:=F) .(0) (O J) h.ky (Q6 (O J) h) h.al h.pr λu P1 ru=>⟨.int (F ks),σ,H,O P1,ru,k⟩
 .cases fl with
  |next=>
   obtain⟨X0,H2,I3,q⟩:=q;exact M4 (X:=X) π s1 X0 H2 D I3 q
  |ret v=>exact q
  |brk=>exact q
  |cont=>exact q
def fn_P{K:ay}{base:Heap}{x:Str}{f:Addr}{k:Nat}{O:Str}(F:Fun K x qual st f fd)(S:fc N ps (Ac st))(Z:ps.length=2)(Y:∀(cdv:ac) (A:aT) (outer:List Env) (s:av) (H:Hp) (E:XK),Room k (A.deeper (io qual (Ac st) s.heap.objs.size f cdv))->PSs (TZ CX0 P w K mg base N qual (Ac st) f cdv A outer s H E).nox (Bs st) (tP P w K O)):
  mu P w K mg base CX0 (k+1) f fd ps (spP P w K O):=by
 refine F.ok S (λT H Q E h=>?_) (λcdv A outer s H T Q E U h=>?_)
 .obtain⟨a,b,m,F,I,J,rfl,_⟩:=h;rw[Z];rfl
 .obtain⟨a,b,m,F,I,J,rfl,h,q⟩:=h;exact⟨_,Y cdv A outer s H E U,a,b,m,F,I,J,rfl,rfl,h,q⟩
def memB(i:Nat)(f:Str)(j:Nat)(ft:FT)(c I:Str)(fr:FE):FS:=λρ=>match uF (kc f) (vF i) ρ,(vF j ρ).bind Wp,ft ρ with
 |some (.mem F),O0 ps,O0 E3=>im fr ρ
 |some (.mem F),O0 ps,O0 ZA=>if F (YR ps)=0/\(vF i ρ).map (Es c I)=O0 E3 then O0 (.rt (.int 0) ρ) else W1
 |_,_,_=>W1
def Yr{K:ay}{m:Addr}{o:HO}(I:∀u,H m=O0 u->¬ Tu u)(h:PR K H ks b):PR K (mf H m o) ks b:=by
 have U:∀{c:Addr}{xs:List V},Sa K H c xs->Sa K (mf H m o) c xs:=λ{c xs} z=>by
  rcases z with (z | ⟨u,z⟩) | z
  .exact .inl (.inl (by rw[Aj (λe=>I (.tup xs) (by rw[<-e];exact z) trivial)];exact z))
  .exact .inl (.inr ⟨u,by rw[Aj (λe=>I (.frz u (.tup xs)) (by rw[<-e];exact z) trivial)];exact z⟩)
  .exact .inr z
 obtain⟨bs,O,J⟩:=h;exact⟨bs,U O,Paired.mapP J λ_ _ z=>U z⟩
theorem Ys{m:Addr}{o u:HO}(h:H m=O0 u):mf (mf H m o) m u=H:=by
 funext c;unfold mf;split
 .rename_i e;rw[e,h]
 .rfl
theorem oH{x y O:Str}{sf:Stmt}{T2:List Str}{k0:Nat}{U1:Expr}{q1 q2 q3 q4 q5:Pos}{jj:Nat}{pl:Sem Bool}{d:Mx X.K C O qual sf T2}(hu:X.A.units+64<bP)(hG:G.K=X.K)(Y3:∀c C,G.cl c=O0 C->Sn X.K C/\BL X.K C f)(hc:G.cl c=O0 C)(hN:X.N[i]?=O0 x)(hv:Vis X.env.scope x)(S1:X.N[j]?=O0 y)(S0:Vis X.env.scope y)(ht:Zl X G U1 ft)(F2:mu X.prog X.w X.K X.mg X.base CX0 k0 d.f d.fd T2 (spP X.prog X.w X.K f))(hr:Room k0 X.A)(P3:VW X G (.Return (O0 (.Call (.Attribute (.Name x q1) O q2) [.Name y q3] [] q4)) q5) (im fr))(hs:gI (.Constant (.int 0) jj p9) (O0 (.Subscript (.Attribute (.Name x p5) f p6) (.Name y p7) p8)) p10.line X.env=pure ZA:=by rfl)(hm:gu .NotIn (.Attribute (.Name x p2) f p3)=ZA:=by rfl)(hd:(x==("__debug__":Str))=ZA:=by decide)(P1:(x==("__classdict__":Str))=ZA:=by decide)(X0:(y==("__debug__":Str))=ZA:=by decide)(U:(y==("__classdict__":Str))=ZA:=by decide)(hb:∀p,hZ (.Name x p) f X.env (eval (.Name x p) X.env)=eval (.Name x p) X.env:=by intro _;rfl)(X2:aE [.Name y q3] X.env=(ZA,eval (.Name y q3) X.env)::aE [] X.env:=by rfl)(u8:(dE q4 (aE [] X.env)).any (·.1)=ZA:=by rfl)(X1:eval (.Call (.Attribute (.Name x q1) O q2) [.Name y q3] [] q4) X.env=(do
      let ov <-eval (.Name x q1) X.env
      o0 q2.atName
      let (f,first) <-lS [ov] (pV ov O pl)
      se q4 f first (dE q4 (aE [.Name y q3] X.env)) (md q4 (jS [] X.env))):=by rfl):
    UP X G [.If (.BoolOp .And [.Compare (.Name y p1) [.NotIn] [.Attribute (.Name x p2) f p3] p4,.UnaryOp .Not U1 p11] p12) [.Assign [.Subscript (.Attribute (.Name x p5) f p6) (.Name y p7) p8] (.Constant (.int 0) jj p9) p10] [] p13,.Return (O0 (.Call (.Attribute (.Name x q1) O q2) [.Name y q3] [] q4)) q5] (memB i f j ft c O fr):=by
  rintro A0 He π s σ H D I ⟨ρ,o,⟨A,w⟩,e,k⟩
  unfold memB at e;split at e
  . rename_i F ps ef ek et
    refine Ad (mQ hu hG Y3 hN hv S1 S0 ht hs hm hd P1 X0 U hb) (Af P3) (A0:=A0) He π s σ H D I ⟨ρ,o,⟨A,w⟩,?_,k⟩;unfold bc memZ;rw[ef,ek,et];simp only[true_or,XO];exact e
  . rename_i F ps ef ek et
    split at e
    . rename_i hF
      obtain⟨hF,r0⟩:=hF;cases e;obtain⟨dk,X9,P9⟩:=A5.mp ek;obtain⟨m,fm⟩:=mK (X:=X) hG Y3 w.ok ef;obtain⟨b,Y1,mk,kin⟩:=Lx (X:=X) hG w.ok X9 P9;obtain⟨od,eo,r0⟩:=kD.mp r0;have S3:∃a C' dx fs,σ[i]?=O0 (O0 (.ref a))/\H a=O0 (.ins C' dx fs)/\Sn X.K C'/\BL X.K C' f/\fs.lookup f=O0 (.ref m)/\C'=C/\fs.lookup O=W1:=by
        have hz:ρ[i]?=O0 (.fz od):=by
          unfold vF at eo;split at eo
          . rename_i z hz;cases eo;exact hz
          . cases eo
        obtain⟨v,g1,g2⟩:=w.ok.fz i od hz;obtain⟨a,C',dx,fs,a1,a2,a3,a4,a5⟩:=fm.at_;cases od with
        |ob c' gs=>
          simp only[Es,eW,WO,x8] at r0;obtain⟨rfl,hn⟩:=r0;cases g2 with
          | @ob a' C2 dx2 _ fs2 _ t1 t2 t3 t4=>
            rw[a1] at g1;cases g1;have S2:=Ay _ _ t2;rw[a2] at S2;cases S2;rw[hc] at t1;cases t1;exact⟨a,C,dx,fs,a1,a2,a3,a4,a5,rfl,Q4 t3 hn⟩
        |_=>simp[Es] at r0
      obtain⟨a,C',dx,fs,a1,a2,a3,a4,a5,rfl,a6⟩:=S3;have rest:∀(S:Hp) (s':av) (J:List (List (List Key)×Addr×ac)),cc H S->Inv X π σ S s'->s'.heap.DictOfH (nK X) m J->(∀q∈J,PR X.K S q.1 q.2.1/\Kin q.1/\fx (.int (F q.1)) q.2.2)->(eK J (YR ps)).isSome=E3 ->
          ah .(3) X.A (jv [.Return (O0 (.Call (.Attribute (.Name x q1) O q2) [.Name y q3] [] q4)) q5] X.env) (SP X π D) X.xe s':=λS s' J T I' dd al pr=>by
        have Y:S m=O0 (.mem F X.K):=T _ _ fm.mem;have U2:∀u,S m=O0 u->¬ Tu u:=λu e z=>by rw[Y] at e;cases e;exact z
        obtain⟨Y2,_⟩:=Z0 I' Y;obtain⟨o',es,ep,g,ex,dt,ee,is,nd⟩:=id dd;have ph:Kq X.prog X.w m J s'.heap:=⟨o',es,ep,g,ex,dt,ee,nd⟩;have Z:Inv X π σ (mf S m (.ext (Kq X.prog X.w m J))) s':=I'.write (x:=m) (e:=m) (o:=.ext (Kq X.prog X.w m J)) (h':=s'.heap) (t':=s'.toks) (by rw[Y];exact trivial) (.inl rfl) (λ_ _ _ z=>z) ⟨o',g⟩
          ⟨ph,⟨o',g⟩,(by rintro h1 h2 ⟨o,es,ep,z1,z2⟩ kk;exact ⟨o,es,ep,kk _ z1,z2⟩)⟩
        have P4:mf S m (.ext (Kq X.prog X.w m J)) a=O0 (.ins C' dx fs):=by
          rw[Aj (λe=>by have:=T _ _ a2;rw[e,Y] at this;cases this)];exact T _ _ a2
        have P2:Pres X.prog X.w X.K f (mf S m (.ext (Kq X.prog X.w m J))) a b m F J (YR ps):=⟨⟨C',dx,fs,P4,a3,a4,a5⟩,Y2,Ah,λq hq=>⟨Yr U2 (al q hq).1,(al q hq).2⟩,Yr U2 (Iv T mk),pr⟩;have f8:=ak (pl:=pl) (ZL hN hv hd P1) a3 d.me F2 hr d.B .nil Xo (Bl (ZL S1 S0 X0 U) DK X2) X2 u8 X1 π s' σ _ (λv H3=>v=.int 0/\H3=mf S m (.ext (Kq X.prog X.w m J))) Z ⟨_,a1,a,dx,fs,rfl,P4,a6,_,Y1,a,b,m,F,J,YR ps,rfl,P2,by rw[hF],rfl⟩;have one:ah .(3) X.A (exec (.Return (O0 (.Call (.Attribute (.Name x q1) O q2) [.Name y q3] [] q4)) q5) X.env) (SP X π D) X.xe s':=by
          refine AQ (py f8 λu s1 q=>?_);obtain⟨v,H3,I3,ru,ev,eH⟩:=q;subst ev eH;obtain⟨⟨o4,P8,r9,z1,z2,z3,z4,z5⟩,_,_⟩:=(show Bp X.prog X.w _ s1.heap m (.ext (Kq X.prog X.w m J)) from I3.hok m _ Ah);have I4:=I3.write (x:=m) (e:=m) (o:=.mem F X.K) (h':=s1.heap) (t':=s1.toks) (by rw[Ah];exact trivial) (.inl rfl) (λ_ _ _ z=>z) ⟨o4,z1⟩ (by
            rw[Ys Y];exact⟨Y2,J,al,o4,P8,r9,z1,z2,z3,z4,z5⟩)
          rw[Ys Y] at I4;exact⟨.int 0,σ,S,I4,ru,k (.int 0) σ S A (w.mono T) (.int 0)⟩
        refine lP (py one λfl s1 q=>?_);cases fl with
        |next=>
          obtain⟨S4,H2,Z,q⟩:=q;exact M4 (X:=X) π s1 S4 H2 D Z q
        |ret v=>exact q
        |brk=>exact q
        |cont=>exact q
      have put:∀(S:Hp) (s':av),cc H S->Inv X π σ S s'->ah .(3) X.A (jv [.Assign [.Subscript (.Attribute (.Name x p5) f p6) (.Name y p7) p8] (.Constant (.int 0) jj p9) p10] X.env) (λfl s'=>fl=.next/\∃H2 J,cc H H2/\Inv X π σ H2 s'/\s'.heap.DictOfH (nK X) m J/\(∀q∈J,PR X.K H2 q.1 q.2.1/\Kin q.1/\fx (.int (F q.1)) q.2.2)/\(eK J (YR ps)).isSome=E3) X.xe s':=λS s' T I'=>by
        refine lP (B2 (D6 ?_) hs);have Z:=I'.tok (s'.toks+1);refine Om hN hv hd P1 (hb _) Z (fm.mono T) λQ2=>JH S1 S0 X0 U (Z.tok Q2) Y1 λu r=>?_;obtain rfl:u=bg b:=r;refine mem_set (F:=F) .(0) (Z.tok Q2) (T _ _ fm.mem) (Iv T mk) kin (by rw[hF];exact⟨_,rfl⟩) λP5 s2 I3 dd' al' P7=>?_;exact kq ⟨rfl,S,P5,T,I3,dd',al',P7⟩
      refine lP (py (Q:=λfl s'=>fl=.next/\∃H2 J,cc H H2/\Inv X π σ H2 s'/\s'.heap.DictOfH (nK X) m J/\(∀q∈J,PR X.K H2 q.1 q.2.1/\Kin q.1/\fx (.int (F q.1)) q.2.2)/\(eK J (YR ps)).isSome=E3) (xL (vv (vt (JH S1 S0 X0 U I Y1 λu r=>Om hN hv hd P1 (hb _) I fm λtk=>?_) hm))) λfl s1 q=>?_)
      . obtain rfl:u=bg b:=r
        refine Qy (F:=F) .(0) (I.tok tk) fm.mem mk λJ P6 dd al=>kB ?_;have Z:=(I.tok tk).tok P6;cases pr:(eK J (YR ps)).isSome with
        |true=>
          show ah _ _ (jv [] X.env) _ _ _;exact kq ⟨rfl,H,J,cc.refl H,Z,dd,al,pr⟩
        |false=>
          show ah _ _ (pj _ _ _) _ _ _;refine vv (D8 (py (@ht A π _ σ H (λb H1=>cc H H1/\b=ZA) Z ⟨ρ,_,w.ok,et,λH1 s1=>⟨s1,rfl⟩⟩) λb s1 q9=>?_));obtain⟨H1,I1,T,eb⟩:=q9;subst eb;refine D7 ?_;show ah _ _ (jv [_] X.env) _ _ _;exact put H1 s1 T I1
      . obtain⟨rfl,H2,J,T,Z,dd,al,pr⟩:=q
        exact rest H2 s1 J T Z dd al pr
    . cases e
  . cases e
end
def gxL(K:ay)(l:List (Str×Addr)):Gx:={ K:=K,cl:=λc=>l.lookup c }
section
variable {K:ay}{x a b:Str}{C1:Addr}{l:List (Str×Addr)}
def zg:(gxL K ((a,C)::l)).cl a=O0 C:=by
 show ce a ((a,C)::l)=O0 C;rw[cr,OP]
def zj(e:(b==a)=ZA)(h:(gxL K l).cl b=O0 C):(gxL K ((a,C1)::l)).cl b=O0 C:=by
 show ce b ((a,C1)::l)=O0 C;rw[cr,e];exact h
def FlOk(K:ay)(l:List (Str×Addr))(x:Str):Prop:=∀c C,l.lookup c=O0 C->Sn K C/\BL K C x
def fl_n:FlOk K [] x:=λ_ _ h=>by cases h
def fl_c(O:Sn K C)(n:dn K (.ref C) x=O0 W1)(h:FlOk K l x):FlOk K ((a,C)::l) x:=λc J e=>by
 rw[cr] at e;split at e
 .cases e;exact⟨O,n⟩
 .exact h _ _ e
end
def gxM(K:ay)(m l:List (Str×Addr)):Gx:={ K:=K,cl:=λc=>m.lookup c,xcl:=λc=>l.lookup c }
section
variable {K:ay}{x a b:Str}{C1 f R:Addr}{m l:List (Str×Addr)}{kV:ac}{cs ns:List Str}{cv:List ac}
def oJ:(gxM K ((a,C)::m) l).cl a=O0 C:=zg (K:=K)
def zm(e:(b==a)=ZA)(h:(gxM K m l).cl b=O0 C):(gxM K ((a,C1)::m) l).cl b=O0 C:=zj (K:=K) e h
def Oq(X:K.In h)(f:FlOk K m x):∀c J,(gxM K m l).cl c=O0 J->Sn K J/\BL K J x:=λc J h=>f c J h
theorem ux(X:K.In h)(e:xtB K R l=E3):XT (gxM K m l) cs R:=⟨λc J _ g=>(Ua (P:=λC=>XC K C R/\XK2 K C) (Wz e) g).1,λc J _ g=>(Ua (P:=λC=>XC K C R/\XK2 K C) (Wz e) g).2⟩
theorem MK(X:K.In h)(e:kitB K l cv ns=E3):Kit (gxM K m l) cs cv ns:=by
 have k:=n_ (cn:="") (C:=0) (cs:=cs) X e;exact⟨k.1,k.2,k.3,k.4,k.5⟩
theorem uy(X:K.In h)(e:naB K x l=E3):∀c J,cs.contains c=E3->(gxM K m l).xcl c=O0 J->BL (gxM K m l).K J x:=uo (cn:="") (C:=0) X e
def kxM{g:Addr}{n:Nat}{I:Array ac}{xs:List Str}(X:K.In h)(N:h.Ns eB mg)(a:oQ K eB x=O0 (O0 (.ref g)))(J:K.lookup g=O0 ⟨.type "tuple",od,.seq I n,osl⟩)(hz:I.size<=sizeLine)(r:gn (xs.map V.str) I.toList):Kx (gxM K m l) mg x (.tup (xs.map .str)):=⟨g,mP X N a,Ql J hz r⟩
def xxM{O:Str}{I:Addr}(X:K.In h)(N:h.Ns eB mg)(a:oQ K eB x=O0 (O0 (.ref f)))(g:l.lookup x=O0 f)(Y:XC K f R)(U:dn K (.ref f) "__init__"=O0 (O0 (.ref I)))(i:nk K (.ref I)=E3)(T:fF K (.ref f)=E3)(S:dn K (.ref f) O=O0 W1)(J:K.lookup I=O0 ⟨oc,od,.func (i7 "__init__" qual (Dz st) (Bs st) (Ac st) .none kV doc pm an cdv ct),osl⟩)(c:og K cdv qual=E3)(k:fF K (.ref I)=E3)(b:∀(kV doc pm:ac) (an:Option Addr) (cdv ct:ac) (us:List ac),us.length=ps.length->w9 (i7 "__init__" qual (Dz st) (Bs st) (Ac st) .none kV doc pm an cdv ct) ⟨us,[]⟩=pure (ps.zip us)):Xx (gxM K m l) mg R x O qual st ps:=⟨f,I,_,g,Y,U,i,T,S,mP X N a,Oc J c k,(Oc J c k).binds b⟩
def xx0M(X:K.In h)(N:h.Ns eB mg)(a:oQ K eB x=O0 (O0 (.ref f)))(g:l.lookup x=O0 f)(Y:XC K f R)(I:dn K (.ref f) "__init__"=O0 (O0 (.builtin "ValueError.__init__")))(O:fF K (.ref f)=E3):Xx0 (gxM K m l) mg R x:=⟨f,g,Y,I,O,mP X N a⟩
end
def dD:D->Option D
 |.lst ds=>(Ge ds).bind λS=>if S=[] then W1 else O0 (.int (mxN (λi=>S.getD i 0) (S.length-1)))
 |_=>W1
def idxD:D->D->Option D
 |.lst ds,.int i=>(Ge ds).bind λS=>if i∈S then O0 (.int (S.idxOf i:Nat)) else W1
 |_,_=>W1
def rMx1(K:ay):List V->Hp->VK->Prop:=λxs H Q=>∃(p:Addr) (S:List Int),xs=[.ref p]/\Qr K H p (S.map V.int)/\S≠[]/\Q (.int (mxN (λi=>S.getD i 0) (S.length-1))) H
section
variable {a b:Expr}{fa fb:FE}
def gr(hc:X.calm=E3)(hG:G.K=X.K):Dy X (.builtin "max") (rMx1 G.K):=by
 rw[hG];intro π s σ H xs us Q I r h;obtain⟨p,Y,rfl,hs,Z,k⟩:=h;obtain⟨u,rfl,T⟩:=Xt r;cases T;obtain⟨r0,S,U,hz⟩:=I.list hs;obtain⟨J,e1,e2,e3⟩:=X5 S;have hl:s.heap.IsList p (gT J):=by rw[<-e1];exact U.isList
 have O:0<Y.length:=EV.mpr Z;refine max_intList (I.ok.hd hc) hl .(0) λv h' tk hP kp=>?_;obtain⟨t,rfl⟩:=ER hP;refine⟨.int _,H,I.kept kp,⟨t,?_⟩,k⟩;have S0:=Og (λi j=>decide (kf J i > kf J j)) (J.size-1);have q:=Th (kf J) (J.size-1);rw[q,e2];congr 1;exact Qk λi hi=>e3 i .(0)
def oK:SndC G (rMx1 G.K) dD:=by
 intro A H x dx d Q lv rx h k;unfold dD at h;split at h
 .rename_i Y;cases I:Ge Y with
  |none=>simp[I] at h
  |some S=>
   simp only[I,cw] at h;split at h
   .cases h
   .rename_i O;cases h;obtain⟨q,Z,rfl,T,J⟩:=rx.lst;have U:=SR J I;subst U;exact⟨q,S,rfl,T,O,k _ H (cc.refl H) (.int _)⟩
 .cases h
theorem oN{A:aT}{l:Addr}{i:Int}{t:Tok}(hl:s.heap.IsList l vs.toArray)(I:sB vs ns)(hz:ns.length<=sizeLine)(Z:i∈ns)(h:Q (.int (ns.idxOf i:Nat) s.toks) { s with toks:=s.toks+1 }):
  ah (ai prog w) A (call (.builtin "list.index") [.ref l,.int i t]) Q E s:=by
 obtain⟨⟨c0,d0,q0,U⟩,S,h1,n,h2⟩:=id hl;cases h1;cases h2;have e:=I.length;have O:=NM.mpr Z;rw[hV] at hz;exact call_meets NN ⟨_,S,rfl⟩ PySem.F.entry_list_index (PySem.F.args_list_index_2 _ _)
  (PySem.SeqAt.list_indexAt l vs.toArray n d0 U (.int i t) (isInt i) (ns.idxOf i) (by rw[cS,e];exact O) .(0)
   (by show isInt i vs[ns.idxOf i]=E3;rw[isInt_at i I _ .(0) O,NO O];simp)
   (λm Y J=>by show isInt i vs[m]=ZA;rw[isInt_at i I m (by simpa using Y) .(0)];exact ne_of_lt_idxOf J _))
  ⟨S,λy T=>(eq_isInt i t I y (by simpa using T)).at _ _,h⟩
theorem oO(hG:G.K=X.K)(ha:PU X G a fa)(hb:PF X G b fb)(m1:hZ a "index" X.env (eval a X.env)=eval a X.env:=by rfl)(m2:((dE pos (aE [b] X.env)).all (λx=>!x.1)&&(md pos (jS [] X.env)).all (λx=>x.1.isSome)&&decide (([b]:List Expr).length+([]:List qh).length+(if ([]:List qh).isEmpty then 0 else 1)<30))=E3:=by rfl)(m3:(apos.endLine==pos.line)=E3:=by rfl)(m4:dE pos (aE [b] X.env)=[(ZA,eval b X.env)]:=by rfl):PF X G (.Call (.Attribute a "index" apos) [b] [] pos) (bF idxD fa fb):=λA π s σ H Q I h=>by
  obtain⟨ρ,d,o,e,k⟩:=h;obtain⟨dx,dy,e1,e2,J⟩:=PQ e;refine LG m1 m2 m3 LF NN PySem.F.type_list_index (py (@ha A π s σ H (λv S=>cc H S/\Hb G A S v dx) I ⟨ρ,dx,o,e1,λv S s1 Z=>⟨s1,Z⟩⟩) λu s1 q9=>?_);obtain⟨x,S,I1,rx,U,Z⟩:=q9;cases dx with
  |lst ds=>
   cases dy with
   |int i=>
    simp only[idxD] at J;cases ei:Ge ds with
    |none=>simp[ei] at J
    |some ns=>
      simp only[ei,cw] at J;split at J
      . rename_i hm
        cases J;obtain⟨q,xs,rfl,h1,rr⟩:=Z.lst;have ex:=SR rr ei;subst ex;cases rx;obtain⟨Y1,rv,pl,hz⟩:=I1.list (by rw[<-hG];exact h1);refine⟨pl.isList.typeIs,λb' q'=>?_,?_⟩
        . cases q'
          obtain⟨ob,n,h1,h2,h3,h4⟩:=pl;exact⟨ob,h1,h3⟩
        rw[m4];refine KA rfl (KB (JY (py (@hb A π s1 σ S (λv O=>cc S O/\uj G (lu A O) v (.int i)) I1 ⟨ρ,.int i,o.mono U,e2,λv O s2 r2=>⟨s2,r2⟩⟩) λiv s2 ⟨y,O,I2,ry,T,r2⟩=>JU ?_)));cases r2;obtain⟨tk,rfl⟩:=ry;obtain⟨q2,X1,S1,h2,S0⟩:=(Z.mono T).lst;cases S1;have P1:=SR S0 ei;subst P1;obtain⟨U1,r0,X0,Y⟩:=I2.list (by rw[<-hG];exact h2);rw[aI] at Y;exact oN X0.isList (intsAre_of r0) Y hm ⟨.int _,O,I2.tok _,⟨_,rfl⟩,k _ O (U.trans T) (.int _)⟩
      . cases J
   |_=>cases J
  |_=>cases J
end
section
open PySem.MeetsSeq PySem.SeqAt
end
def bd2:D->Option (List D)
 |.tup [a,b]=>O0 [a,b]
 |_=>W1
def Yt(I:FI)(ga:FT)(fe:FE):FE:=J0 bd2 I ga fe
section
variable {t u:Str}{elt iter:Expr}{ifs:List Expr}{pt:Pos}{k1:Nat}
def bnd2{N:Nat}:Bnd G N 2 bd2 (gTup G.K 2 (Xh (Hq N) (Xh (Hq (N+1)) gNil))):=λA I os H x d es Q hl ho e r k=>by
 unfold bd2 at e;split at e
 .rename_i a b;cases e;cases r with
  |tup h l q=>
   rename_i c S;obtain⟨x,ys,rfl,Z,Y⟩:=(show fy G (lu A H) S [a,b] from⟨l,q⟩).uncons;obtain⟨y,zs,rfl,U,T⟩:=Y.uncons;have e0:=T.nil_inv;subst e0
   match os,ho with
   |[O,J],_=>
   refine⟨c,[x,y],rfl,Eb Ay h,rfl,x,[y],rfl,?_⟩;refine⟨y,[],rfl,rfl,?_⟩;have z:((I++[O,J]).set N (O0 x)).set (N+1) (O0 y)=I++[O0 x,O0 y]:=by
    rw[<-hl,EN _ _ (aS _),sQ];show (I++[O0 x,J]).set (I.length+1) (O0 y)=_;rw[EN _ _ (kr _),show I.length+1-I.length=1 by omega];rfl
   show Q (((I++[O,J]).set N (O0 x)).set (N+1) (O0 y)) H;rw[z];exact k [x,y] rfl (.cons Z (.cons U .nil))
 .cases e
theorem gTwo{O:List Str}(Y:G.K=X.K)(U:Ce [t,u] X.N++[t,u]=O)(c:OR X scope [t,u])(S:X.calm=E3)(T:av)(Z:Hp)(fp:List Addr):PG (DP X scope O T Z fp) (.Tuple [.Name t p1,.Name u p2] k1 pt) (gTup G.K 2 (Xh (Hq X.N.length) (Xh (Hq (X.N.length+1)) gNil))):=by
 subst U;rw[Y];have at0:(Ce [t,u] X.N++[t,u])[X.N.length]?=O0 t:=by unfold Ce;rw[ku (by rw[aI];exact aS _),aI,sQ];rfl
 have I:(Ce [t,u] X.N++[t,u])[X.N.length+1]?=O0 u:=by unfold Ce;rw[ku (by rw[aI];exact kr _),aI,Nat.add_sub_cancel_left];rfl
 have lt:=B3 (env:=X.env) (c.tl t .(1));have J:=B3 (env:=X.env) (c.tl u .(1));exact iU S (Sw (TV (c.nd t .(1)) at0 (.inl lt) (.inr lt)) (Sw (TV (c.nd u .(1)) I (.inl J) (.inr J)) aV rfl) rfl) rfl rfl
def oR(J:List Str)(S:Ce [t,u] X.N++[t,u]=J)(c:OR X scope [t,u])(O:X.calm=E3)(Z:G.K=X.K)(U:WU X G E3 (.Tuple [.Name t p1,.Name u p2] k1 pt) iter src)(Y:∀T I fp,PFTs (DP X scope J T I fp) G ifs ga)(hE:∀T I fp,PF (DP X scope J T I fp) G elt fe)(hs:∀x,pS iter X.env x=pure x:=by intro _;rfl):PN X G (.ListComp elt [⟨.Tuple [.Name t p1,.Name u p2] k1 pt,iter,ifs,0⟩] scope pos) (Yt src ga fe):=
 λA=>X4 J S c O U (gTwo Z S c O) bnd2 Y hE hs A
def cO2{t u:Str}(I:X.N=N)(hs:X.env.scope=sc)(h:Ph N sc scope [t,u]=E3:=by decide +kernel):OR X scope [t,u]:=Ti I hs h
def catD(x y:D):Option D:=match x,y with
 |.lst i,.lst j=>if i.length+j.length<=sizeLine then O0 (.lst (i++j)) else W1
 |_,_=>W1
def zp{a b:Expr}{Z U:FE}(ha:PU X G a Z)(hb:PU X G b U)(Y:G.K=X.K:=by rfl):PN X G (.BinOp a .Add b pos) (bF catD Z U):=λA=>Bt (v7 bC (@ha A) (@hb A))<|by
 rintro σ H Q ⟨S,d,o,e,k⟩
 obtain⟨x,y,e1,e2,I⟩:=PQ e;refine⟨S,x,o,e1,λv H1 O r1=>⟨S,y,o.mono O,e2,λu H2 T r2=>?_⟩⟩;unfold catD at I;split at I
 .rename_i is js;split at I
  .rename_i hz;cases I;obtain⟨l,xs,rfl,h1,q1⟩:=(r1.mono T).lst;obtain⟨l',zs,rfl,h2,q2⟩:=r2.lst;refine⟨l,l',xs,zs,rfl,rfl,by rw[<-Y];exact h1,by rw[<-Y];exact h2,by rw[q1.1,q2.1];exact hz,λp J=>k p _ (O.trans (T.trans (Ao J _))) (O.free (T.free J)) ⟨_,Ah,?_⟩⟩;exact (q1.append q2).mono (KH (Ao J _) J)
  .cases I
 .cases I
end
end PV
namespace K63
open PySem L2 PV
abbrev cs (x:Str):List Nat:=x.cps.toList
def LET:Str:="abcdefghijklmnopqrstuvwxyz"
def IsL(x:Str):Prop:=∀c∈cs x,c∈cs LET
def KEPT:List Str:=["not","and","or","some","all"]
structure Wd (x:Str):Prop where
 lo:1<=x.length
 hi:x.length<=8
 isL:IsL x
 kept:x∉KEPT
structure Wl where
 n:Nat
 ms:List (Str×List Nat)
 ts:List (Str×List (Nat×Nat))
abbrev iN (t:Nat):D:=.int (t:Int)
abbrev pN (q:Nat×Nat):D:=.tup [.int (q.1:Int),.int (q.2:Int)]
def lM(l:List Nat):D:=.lst (l.map iN)
def lT(l:List (Nat×Nat)):D:=.lst (l.map pN)
def eM(J:List (Str×List Nat)):List (Key×D):=J.map λp=>(.inr p.1,lM p.2)
def eT(I:List (Str×List (Nat×Nat))):List (Key×D):=I.map λp=>(.inr p.1,lT p.2)
def kM(l:List Nat):D:=.dk (l.map λ(t:Nat)=>((.inl (t:Int):Key),.bl E3))
def kT(l:List (Nat×Nat)):D:=.dt (l.map λq=>([(.inl (q.1:Int):Key),.inl (q.2:Int)],.bl E3))
def oM(J:List (Str×List Nat)):List (Key×D):=J.map λp=>(.inr p.1,kM p.2)
def oT(I:List (Str×List (Nat×Nat))):List (Key×D):=I.map λp=>(.inr p.1,kT p.2)
def il(W:Wl):D:=.ob "World" [("size",.int W.n),("marked",.dk (oM W.ms)),("tied",.dk (oT W.ts))]
structure wh (W:Wl):Prop where
 n5:W.n<=5
 m3:W.ms.length<=3
 t3:W.ts.length<=3
 mw:∀p∈W.ms,Wd p.1
 tw:∀p∈W.ts,Wd p.1
 nd:(W.ms.map (·.1)++W.ts.map (·.1)).Nodup
 ml:∀p∈W.ms,p.2.Nodup/\p.2.length<=100/\∀t∈p.2,t<W.n
 tl:∀p∈W.ts,p.2.Nodup/\p.2.length<=100/\∀q∈p.2,q.1<W.n/\q.2<W.n
def wd(W:Wl):D:=.lst [.int (W.n:Int),.dk (eM W.ms),.dk (eT W.ts)]
def lN(I:List Nat):D:=.lst (I.map iN)
abbrev Pr:=Nat×Nat
def mk(W:Wl)(w:Str)(i:Nat):Bool:=match W.ms.find? (λp=>p.1=w) with | some p=>decide (i∈p.2) | none=>ZA
def tk(W:Wl)(w:Str)(i j:Nat):Bool:=match W.ts.find? (λp=>p.1=w) with | some p=>decide ((i,j)∈p.2) | none=>ZA
abbrev mw (W:Wl):List Str:=W.ms.map (·.1)
abbrev tw (W:Wl):List Str:=W.ts.map (·.1)
def Vn(W V:Wl)(q:Pr):Bool:=(mw W).all λw=>mk W w q.1==mk V w q.2
def MN(W V:Wl)(p q:Pr):Bool:=(tw W).all λw=>tk W w p.1 q.1==tk V w p.2 q.2
def goB(W V:Wl)(p q:Pr):Bool:=(decide (p.1=q.1)==decide (p.2=q.2))&&(MN W V p q&&MN W V q p)
def fwB(W V:Wl)(ps:List Pr)(q:Pr):Bool:=(Vn W V q&&MN W V q q)&&ps.all λp=>goB W V p q
def Tb(n:Nat)(xs:List Nat):List Nat:=(br n).filter λt=>decide (t∉xs)
def Pm(W V:Wl):Nat:=max W.n V.n+1
def Si(l:List Nat):Nat:=l.foldr max 0
def stp(W V:Wl)(R:List Pr->Nat)(ps:List Pr):Nat:=
 let fs:=Tb W.n (ps.map (·.1))
 let I:=Tb V.n (ps.map (·.2))
 let rw:=λq:Pr=>if fwB W V ps q then R (Av (ps++[q])) else 0
 min (Pm W V) (1+((fs.map λf=>Si (I.map λs=>rw (f,s)))++I.map λs=>Si (fs.map λf=>rw (f,s))).foldr min (Pm W V))
def rkN(W V:Wl):Nat->List Pr->Nat
 |0,_=>0
 |n+1,ps=>stp W V (rkN W V n) ps
def afS(W V:Wl)(ps:List Pr):Bool:=ps.all λp=>(Vn W V p&&MN W V p p)&&ps.all (goB W V p)
def Sf(W V:Wl)(ps:List Pr):Nat:=if afS W V ps then rkN W V 6 ps else 0
def unk1:List Key->Pr
 |[.inl i,.inl j]=>(i.toNat,j.toNat)
 |_=>(0,0)
def FW(W V:Wl)(ks:List (List Key)):Int:=(Sf W V (ks.map unk1):Nat)
open Classical in
noncomputable def FF(a b:D):List (List Key)->Int:=if h:∃x:Wl×Wl,a=il x.1/\b=il x.2 then FW (choose h).1 (choose h).2 else λ_=>0
noncomputable def Phi(ρ:Rho):Option (List (List Key)->Int):=match vF 1 ρ,vF 2 ρ with
 |some a,O0 b=>O0 (FF a b)
 |_,_=>W1
open PySem.Spec EX
open PyProof.Rows hiding St
noncomputable section
abbrev cs_:List Str:=["NoThing","Unlike","NoPointing"]
def YN:D:=(.tup ((["not","and","or","some","all"]:List Str).map .str))
def Gr:FT:=tx (bF (sd ZA) (bF az (bF shrD (vF 3) (bF OT (bF mulD (kF (.int 5)) (vF 5)) (vF 9))) (kF (.int 1))) (kF (.int 1)))
def MP:FE:=vF 9
def Gs:FS:=putF 4 (bF vb (vF 1) (vF 5)) (Bo (QY (vF 0)) (Gr) (MP))
def Gu:FT:=tx (bF (sd ZA) (bF az (bF shrD (vF 3) (bF OT (bF OT (bF OT (kF (.int 15)) (bF mulD (kF (.int 25)) (vF 5))) (bF mulD (kF (.int 5)) (vF 8))) (vF 9))) (kF (.int 1))) (kF (.int 1)))
def JL:FE:=RS (Aa (vF 8) (Aa (vF 9) (am)))
def Gv:FS:=jl 7 (bF OT (vF 7) (Bo (QY (vF 0)) (Gu) (JL)))
def Gw:FS:=bc (jl 7 (pp (am))) (bc (Pt (QY (vF 0)) (CW 8) (Gv)) (putF 6 (bF vb (vF 2) (vF 5)) (vF 7)))
def Kr:FS:=bc (setW 4 (kF (.dk []))) (bc (Pt (QY (uF Pf (vF 1))) (CW 5) (Gs)) (bc (setW 6 (kF (.dk []))) (bc (Pt (QY (uF Pf (vF 2))) (CW 5) (Gw)) (fzS [4,6] (im (pp (Aa (vF 0) (Aa (vF 4) (Aa (vF 6) (am))))))))))
def Ff:List D->Option D:=oo 9 4 Kr
def IV:FE:=bF vb (vF 1) (vF 5)
def GF:FS:=putF 2 (vF 3) (Bo (zv (bF vb (bF vb (vF 0) (kF (.int 1))) (vF 3))) (OQ) (IV))
def IW:FE:=RS (Aa (bF vb (vF 1) (bF vb (vF 5) (kF (.int 0)))) (Aa (bF vb (vF 1) (bF vb (vF 5) (kF (.int 1)))) (am)))
def GJ:FS:=putF 4 (vF 3) (Bo (zv (bF vb (bF vb (vF 0) (kF (.int 2))) (vF 3))) (OQ) (IW))
def J3:FS:=bc (setW 2 (kF (.dk []))) (bc (Pt (zv (bF vb (vF 0) (kF (.int 1)))) (CW 3) (GF)) (bc (setW 4 (kF (.dk []))) (bc (Pt (zv (bF vb (vF 0) (kF (.int 2)))) (CW 3) (GJ)) (fzS [2,4] (im (pp (Aa (bF vb (vF 0) (kF (.int 0))) (Aa (vF 2) (Aa (vF 4) (am))))))))))
def Hj:List D->Option D:=oo 5 2 J3
def Bu:FT:=tx (bF (sd E3) (vF 2) (pp (am)))
def CV:FS:=bc (jl 4 (bF rz (vF 0) (uF lenD (vF 2)))) (bc (jl 0 (bF Cr (vF 0) (uF lenD (vF 2)))) (bc (mutF appL 3 (bF ixD (vF 2) (vF 4))) (jl 2 (bF OT (slF (vF 2) (noO) (Pp (vF 4))) (slF (vF 2) (Pp (bF OT (vF 4) (kF (.int 1)))) (noO))))))
def Ks:FS:=bc (jl 2 (uF Yd (vF 1))) (bc (setW 3 (pp (am))) (bc (HS (Bu) (CV) 60) (fzS [3] (im (vF 3)))))
def Ir:List D->Option D:=oo 5 2 Ks
def JM:FT:=tx (bF (sd E3) (vF 2) (vF 1))
def JN:FE:=vF 2
def Ku:FS:=bc (OV (tx (bF (ZU ZA) (vF 1) (vF 0))) (im (Bo (zv (vF 0)) (JM) (JN))) (Pc)) (im (bF OT (vF 0) (pp (Aa (vF 1) (am)))))
def D_:List D->Option D:=oo 2 2 Ku
def Dt:FS:=bc (YV (vF 0) (Pv 3 (Bb 2 (Bb 3 (Bb 4 (Pw)))))) (bc (jl 5 (bF rz (vF 1) (bF Yf (vF 2) (kF (.int 1))))) (bc (jl 6 (bF rz (bF Cr (vF 1) (kF (.int 5))) (bF Yf (vF 2) (kF (.int 1))))) (bc (OV (orT (tx (bF (sd ZA) (vF 2) (kF (.int 0)))) (tx (bF (sd ZA) (bF OT (uF Pf (vF 3)) (uF Pf (vF 4))) (kF (.int 0))))) (im (vF 0)) (Pc)) (bc (jl 7 (bF rz (bF Cr (vF 1) (kF (.int 25))) (bF OT (uF Pf (vF 3)) (uF Pf (vF 4))))) (bc (setW 8 (uF Nv (vF 3))) (bc (setW 9 (uF Nv (vF 4))) (bc (OV (tx (bF ltD (vF 7) (uF Pf (vF 3)))) (bc (jl 10 (bF vb (uF Sz (vF 3)) (vF 7))) (putF 8 (vF 10) (Ag (D_) (Aa (bF vb (vF 3) (vF 10)) (Aa (vF 5) (am)))))) (bc (jl 10 (bF vb (uF Sz (vF 4)) (bF subD (vF 7) (uF Pf (vF 3))))) (putF 9 (vF 10) (Ag (D_) (Aa (bF vb (vF 4) (vF 10)) (Aa (RS (Aa (vF 5) (Aa (vF 6) (am)))) (am))))))) (fzS [8,9] (im (pp (Aa (vF 2) (Aa (vF 8) (Aa (vF 9) (am))))))))))))))
def Cu:List D->Option D:=oo 11 2 Dt
def Fg:FS:=bc (YV (vF 0) (Pv 4 (Bb 1 (Bb 2 (Bb 3 (Bb 4 (Pw))))))) (bc (jl 5 (bF rz (bF mulD (vF 2) (kF (.int 27182818284590452353602874713526624977572470936999595749669))) (bF shlD (kF (.int 1)) (kF (.int 90))))) (bc (OV (tx (bF (sd ZA) (bF rz (vF 1) (kF (.int 3))) (kF (.int 2)))) (jl 5 (bF rz (vF 2) (bF shlD (kF (.int 1)) (kF (.int 90))))) (Pc)) (bc (jl 6 (bF rz (bF mulD (bF Cr (vF 1) (kF (.int 3))) (kF (.int 1000000007))) (kF (.int 2147483647)))) (bc (jl 7 (bF vb (pp (Aa (kF (.int 2)) (Aa (kF (.int 3)) (Aa (kF (.int 1)) (Aa (kF (.int 3)) (Aa (kF (.int 4)) (Aa (kF (.int 2)) (Aa (kF (.int 3)) (Aa (kF (.int 0)) (Aa (kF (.int 4)) (Aa (kF (.int 2)) (Aa (kF (.int 3)) (Aa (kF (.int 5)) (am)))))))))))))) (bF rz (vF 6) (kF (.int 12))))) (bc (jl 8 (slF (pp (Aa (kF (.str "red")) (Aa (kF (.str "o")) (Aa (kF (.str "redo")) (am))))) (noO) (Pp (bF rz (bF Cr (vF 6) (kF (.int 12))) (kF (.int 3)))))) (bc (jl 9 (slF (pp (Aa (kF (.str "near")) (Aa (kF (.str "n")) (Aa (kF (.str "under")) (am))))) (noO) (Pp (bF rz (bF Cr (vF 6) (kF (.int 36))) (kF (.int 3)))))) (bc (jl 10 (Ag (Ff) (Aa (vF 7) (Aa (vF 8) (Aa (vF 9) (Aa (vF 5) (am))))))) (bc (jl 11 (bF rz (vF 3) (kF (.int 5)))) (bc (OV (tx (bF (sd ZA) (vF 11) (kF (.int 0)))) (im (pp (Aa (vF 10) (Aa (Ag (Ff) (Aa (bF rz (bF Cr (vF 3) (kF (.int 5))) (kF (.int 5))) (Aa (vF 8) (Aa (vF 9) (Aa (bF rz (vF 4) (bF shlD (kF (.int 1)) (kF (.int 90)))) (am)))))) (am))))) (Pc)) (bc (OV (tx (bF (sd ZA) (vF 11) (kF (.int 1)))) (im (pp (Aa (vF 10) (Aa (Ag (Ff) (Aa (bF minD (bF OT (vF 7) (kF (.int 1))) (kF (.int 4))) (Aa (vF 8) (Aa (vF 9) (Aa (vF 5) (am)))))) (am))))) (Pc)) (bc (jl 12 (Ag (Hj) (Aa (vF 10) (Aa (Ag (Ir) (Aa (bF Cr (vF 3) (kF (.int 5))) (Aa (vF 7) (am)))) (am))))) (bc (OV (tx (bF (sd ZA) (vF 11) (kF (.int 2)))) (im (pp (Aa (vF 10) (Aa (vF 12) (am))))) (Pc)) (im (pp (Aa (vF 10) (Aa (Ag (Cu) (Aa (vF 12) (Aa (bF Cr (vF 4) (kF (.int 3))) (am)))) (am)))))))))))))))))
def Ci:List D->Option D:=oo 13 1 Fg
def JP:FS:=OV (tx (bF gtD (vF 0) (vF 1))) (badF) (Pc)
def Bv:List D->Option D:=oo 2 2 JP
def DY:FS:=OV (orT (tx (bF ltD (vF 1) (kF (.int 0)))) (tx (bF geD (vF 1) (vF 0)))) (im (excF "NoThing" "thing" okID (vF 1))) (Pc)
def Am:List D->Option D:=oo 2 2 DY
def GK:FS:=bc (I_ (Ag (noX (Am)) (Aa (vF 0) (Aa (vF 3) (am))))) (putF 2 (vF 3) (kF (.bl E3)))
def J4:FS:=bc (setW 2 (kF (.dk []))) (bc (Pt (zv (vF 1)) (CW 3) (GK)) (fzS [2] (im (vF 2))))
def Eh:List D->Option D:=oo 4 2 J4
def Gy:FS:=bc (I_ (Ag (noX (Am)) (Aa (vF 0) (Aa (vF 3) (am))))) (bc (I_ (Ag (noX (Am)) (Aa (vF 0) (Aa (vF 4) (am))))) (X8 2 (Aa (vF 3) (Aa (vF 4) (am))) (kF (.bl E3))))
def Kv:FS:=bc (setW 2 (kF (.dt []))) (bc (Pt (zv (vF 1)) (Pv 2 (Bb 3 (Bb 4 (Pw)))) (Gy)) (fzS [2] (im (vF 2))))
def Fi:List D->Option D:=oo 5 2 Kv
def Hw:FE:=bF (ZU ZA) (vF 1) (kF (.str "abcdefghijklmnopqrstuvwxyz"))
def Q7:FS:=bc (OV (orT (tx (bF (ZU ZA) (vF 0) (kF YN))) (orT (tx (bF (sd ZA) (uF Pf (vF 0)) (kF (.int 0)))) (tx (bF gtD (uF Pf (vF 0)) (kF (.int 8)))))) (im (kF (.bl ZA))) (Pc)) (im (uF allD (Bo (zv (vF 0)) (OQ) (Hw))))
def Fj:List D->Option D:=oo 1 1 Q7
def Cv:UQ:=Gn (ifE (Tv (Sj (trF (Ag (Fj) (Aa (vF 4) (am))))))) (Rb "marked" (vF 4) (Ag (Eh) (Aa (vF 1) (Aa (vF 5) (am)))))
def Cw:UQ:=Gn (ifE (orTE (Tv (Sj (trF (Ag (Fj) (Aa (vF 4) (am)))))) (inTE "marked" (vF 4)))) (Rb "tied" (vF 4) (Ag (Fi) (Aa (vF 1) (Aa (vF 6) (am)))))
def HX:UQ:=Gn (Tl (I_ (Ag (Bv) (Aa (vF 1) (Aa (kF (.int 5)) (am)))))) (Gn (Tl (I_ (Ag (Bv) (Aa (uF Pf (vF 2)) (Aa (kF (.int 3)) (am)))))) (Gn (Tl (I_ (Ag (Bv) (Aa (uF Pf (vF 3)) (Aa (kF (.int 3)) (am)))))) (Gn (JG "size" (vF 1)) (Gn (Ra "marked" (kF (.dk []))) (Gn (Ra "tied" (kF (.dk []))) (Gn (forE (Qp (vF 2)) (Pv 2 (Bb 4 (Bb 5 (Pw)))) (Cv)) (Gn (forE (Qp (vF 3)) (Pv 2 (Bb 4 (Bb 6 (Pw)))) (Cw)) (nilE))))))))
def Bq:Addr->List D->Option Ef:=runI 7 4 HX
def Jp:FS:=bc (OV (tx (bF ltD (vF 1) (uF lenD (vF 0)))) (im (bF ixD (vF 0) (vF 1))) (Pc)) (im (kF (.int 0)))
def An:List D->Option D:=oo 2 2 Jp
def Eu:FS:=bc (OV (tx (bF (sd ZA) (bF rz (vF 0) (kF (.int 3))) (kF (.int 0)))) (im (bF subD (uF negD (kF (.int 1))) (bF rz (bF Cr (vF 0) (kF (.int 3))) (bF powD (kF (.int 10)) (kF (.int 50)))))) (Pc)) (bc (OV (tx (bF (sd ZA) (bF rz (vF 0) (kF (.int 3))) (kF (.int 1)))) (im (vF 1)) (Pc)) (im (bF OT (bF OT (vF 1) (kF (.int 1))) (bF rz (bF Cr (vF 0) (kF (.int 3))) (bF powD (kF (.int 10)) (kF (.int 50)))))))
def Be:List D->Option D:=oo 2 2 Eu
def F_:FS:=mutF appL 3 (RS (Aa (bF rz (bF rz (vF 4) (kF (.int 5))) (bF Yf (uF (kc "size") (vF 1)) (kF (.int 1)))) (Aa (bF rz (bF Cr (vF 4) (kF (.int 5))) (bF Yf (uF (kc "size") (vF 2)) (kF (.int 1)))) (am))))
def MT:FS:=bc (setW 3 (pp (am))) (bc (Pt (zv (slF (vF 0) (Pp (kF (.int 6))) (Pp (kF (.int 10))))) (CW 4) (F_)) (bc (OV (orT (tx (bF (sd ZA) (uF (kc "size") (vF 1)) (kF (.int 0)))) (tx (bF (sd ZA) (uF (kc "size") (vF 2)) (kF (.int 0))))) (setW 3 (pp (am))) (Pc)) (bc (jl 4 (Ag (An) (Aa (vF 0) (Aa (kF (.int 5)) (am))))) (bc (OV (tx (bF (sd ZA) (bF rz (Ag (An) (Aa (vF 0) (Aa (kF (.int 4)) (am)))) (kF (.int 4))) (kF (.int 1)))) (bc (jl 5 (RS (Aa (Ag (Be) (Aa (bF Cr (vF 4) (kF (.int 8))) (Aa (uF (kc "size") (vF 1)) (am)))) (Aa (Ag (Be) (Aa (bF Cr (vF 4) (kF (.int 16))) (Aa (uF (kc "size") (vF 2)) (am)))) (am))))) (bc (OV (andT (tx (bF (sd ZA) (bF rz (vF 4) (kF (.int 4))) (kF (.int 1)))) (tx (bF gtD (uF (kc "size") (vF 1)) (kF (.int 0))))) (jl 5 (RS (Aa (kF (.int 0)) (Aa (bF vb (vF 5) (kF (.int 1))) (am))))) (Pc)) (bc (OV (andT (tx (bF (sd ZA) (bF rz (vF 4) (kF (.int 4))) (kF (.int 2)))) (tx (bF gtD (uF (kc "size") (vF 2)) (kF (.int 0))))) (jl 5 (RS (Aa (bF vb (vF 5) (kF (.int 0))) (Aa (kF (.int 0)) (am))))) (Pc)) (setW 3 (bF catD (bF OT (slF (vU 3) (noO) (Pp (bF rz (bF Cr (vF 4) (kF (.int 4))) (kF (.int 4))))) (pp (Aa (vF 5) (am)))) (slF (vU 3) (Pp (bF rz (bF Cr (vF 4) (kF (.int 4))) (kF (.int 4)))) (noO))))))) (Pc)) (fzS [3] (im (vF 3)))))))
def Gg:List D->Option D:=oo 6 3 MT
def Dc:FS:=bc (OV (orT (tx (bF ltD (vF 3) (kF (.int 0)))) (tx (bF geD (vF 3) (uF (kc "size") (vF 1))))) (im (pp (Aa (vF 3) (am)))) (Pc)) (OV (orT (tx (bF ltD (vF 4) (kF (.int 0)))) (tx (bF geD (vF 4) (uF (kc "size") (vF 2))))) (im (pp (Aa (vF 4) (am)))) (Pc))
def Kw:FS:=bc (Pt (zv (vF 0)) (Pv 2 (Bb 3 (Bb 4 (Pw)))) (Dc)) (im (pp (am)))
def Ew:List D->Option D:=oo 5 3 Kw
def Gb:FS:=im (uF sdkD (uF (kc "marked") (vF 0)))
def Cy:List D->Option D:=oo 1 1 Gb
def Gz:FS:=im (uF sdkD (uF (kc "tied") (vF 0)))
def Dd:List D->Option D:=oo 1 1 Gz
def GP:FS:=OV (orT (tx (bF (sd E3) (Fz "World" "mark_words" (Cy) (vF 0) am) (Fz "World" "mark_words" (Cy) (vF 1) am))) (tx (bF (sd E3) (Fz "World" "tie_words" (Dd) (vF 0) am) (Fz "World" "tie_words" (Dd) (vF 1) am)))) (im (Yl "Unlike" (kF (.str "the two worlds have not the same words")))) (Pc)
def Cd:List D->Option D:=oo 2 2 GP
def BX:FS:=bc (L_ (Ag (Am) (Aa (uF (kc "size") (vF 0)) (Aa (vF 3) (am))))) (L_ (Ag (Am) (Aa (uF (kc "size") (vF 1)) (Aa (vF 4) (am)))))
def Bw:FS:=bc (L_ (Ag (Cd) (Aa (vF 0) (Aa (vF 1) (am))))) (Pt (zv (vF 2)) (Pv 2 (Bb 3 (Bb 4 (Pw)))) (BX))
def Ak:List D->Option D:=oo 5 3 Bw
def Ky:FT:=tx (bF (ZU E3) (vF 2) (vF 1))
def Kz:FE:=vF 2
def Ot:FS:=im (Bo (QY (vF 0)) (Ky) (Kz))
def JQ:List D->Option D:=oo 2 2 Ot
def G3:FS:=OV (tx (bF (sd E3) (bF (ZU ZA) (bF vb (vF 2) (kF (.int 0))) (bF vb (uF (kc "marked") (vF 0)) (vF 3))) (bF (ZU ZA) (bF vb (vF 2) (kF (.int 1))) (bF vb (uF (kc "marked") (vF 1)) (vF 3))))) (im (kF (.bl ZA))) (Pc)
def Ia:FS:=bc (Pt (zv (uF (kc "marked") (vF 0))) (CW 3) (G3)) (im (kF (.bl E3)))
def GQ:List D->Option D:=oo 4 3 Ia
def G4:FS:=OV (tx (bF (sd E3) (inTF (Aa (bF vb (vF 2) (kF (.int 0))) (Aa (bF vb (vF 3) (kF (.int 0))) (am))) (bF vb (uF (kc "tied") (vF 0)) (vF 4))) (inTF (Aa (bF vb (vF 2) (kF (.int 1))) (Aa (bF vb (vF 3) (kF (.int 1))) (am))) (bF vb (uF (kc "tied") (vF 1)) (vF 4))))) (im (kF (.bl ZA))) (Pc)
def Ib:FS:=bc (Pt (zv (uF (kc "tied") (vF 0))) (CW 4) (G4)) (im (kF (.bl E3)))
def DN:List D->Option D:=oo 5 4 Ib
def J5:FS:=bc (OV (tx (bF (sd E3) (bF (sd ZA) (bF vb (vF 2) (kF (.int 0))) (bF vb (vF 3) (kF (.int 0)))) (bF (sd ZA) (bF vb (vF 2) (kF (.int 1))) (bF vb (vF 3) (kF (.int 1)))))) (im (kF (.bl ZA))) (Pc)) (im (andF (Ag (DN) (Aa (vF 0) (Aa (vF 1) (Aa (vF 2) (Aa (vF 3) (am)))))) (Ag (DN) (Aa (vF 0) (Aa (vF 1) (Aa (vF 3) (Aa (vF 2) (am))))))))
def Hk:List D->Option D:=oo 4 4 J5
def J6:FE:=Ag (Hk) (Aa (vF 0) (Aa (vF 1) (Aa (vF 4) (Aa (vF 3) (am)))))
def Ma:FS:=bc (OV (orT (Sj (trF (Ag (GQ) (Aa (vF 0) (Aa (vF 1) (Aa (vF 3) (am))))))) (Sj (trF (Ag (DN) (Aa (vF 0) (Aa (vF 1) (Aa (vF 3) (Aa (vF 3) (am))))))))) (im (kF (.bl ZA))) (Pc)) (im (uF allD (Bo (zv (vF 2)) (OQ) (J6))))
def Hx:List D->Option D:=oo 4 4 Ma
def G5(I:List D->Option D):FS:=bc (OV (Sj (trF (Ag (Hx) (Aa (uF (kc "one") (vF 0)) (Aa (uF (kc "other") (vF 0)) (Aa (vF 1) (Aa (vF 2) (am)))))))) (im (kF (.int 0))) (Pc)) (im (Fz "Ranks" "rank_of_fitting" (I) (vF 0) (Aa (uF tslD (bF catU (vF 1) (RS (Aa (vF 2) (am))))) (am))))
def Bx(I:List D->Option D):List D->Option D:=oo 3 3 (G5 I)
def Fw(I:List D->Option D):FE:=Fz "Ranks" "rank_with" (Bx I) (vF 0) (Aa (vF 1) (Aa (vF 3) (am)))
def G6(I:List D->Option D):FS:=im (bF Xp (Bo (zv (vF 2)) (OQ) ((Fw I))) (kF (.int 0)))
def A_(I:List D->Option D):List D->Option D:=oo 3 3 (G6 I)
def Ex(I:List D->Option D):FE:=bF vb (vF 7) (kF (.int 0))
def Ey(I:List D->Option D):FE:=bF vb (vF 7) (kF (.int 1))
def Ez(I:List D->Option D):FE:=RS (Aa (vF 5) (Aa (vF 7) (am)))
def De(I:List D->Option D):FS:=mutF appL 4 (Fz "Ranks" "best_rank" (A_ I) (vF 0) (Aa (vF 1) (Aa (Bo (zv (vF 3)) (OQ) ((Ez I))) (am))))
def E_(I:List D->Option D):FE:=RS (Aa (vF 7) (Aa (vF 6) (am)))
def Df(I:List D->Option D):FS:=mutF appL 4 (Fz "Ranks" "best_rank" (A_ I) (vF 0) (Aa (vF 1) (Aa (Bo (zv (vF 2)) (OQ) ((E_ I))) (am))))
def Gd(I:List D->Option D):FS:=bc (jl 2 (Ag (JQ) (Aa (uF (kc "size") (uF (kc "one") (vF 0))) (Aa (Bo (zv (vF 1)) (OQ) ((Ex I))) (am))))) (bc (jl 3 (Ag (JQ) (Aa (uF (kc "size") (uF (kc "other") (vF 0))) (Aa (Bo (zv (vF 1)) (OQ) ((Ey I))) (am))))) (bc (setW 4 (pp (am))) (bc (Pt (zv (vF 2)) (CW 5) ((De I))) (bc (Pt (zv (vF 3)) (CW 6) ((Df I))) (im (bF minD (uF (kc "endless") (vF 0)) (bF OT (kF (.int 1)) (bF dB (vU 4) (uF (kc "endless") (vF 0))))))))))
def Cz(I:List D->Option D):List D->Option D:=oo 7 2 (Gd I)
def Br(I:List D->Option D):FS:=memR 0 "reckoned" 1 (Fz "Ranks" "least_rank" (Cz I) (vF 0) (Aa (vF 1) (am)))
def Al:Nat->List D->Option D
 |0=>λ_=>W1
 |n+1=>oo 2 2 (Br (Al n))
def Mf:FE:=Ag (Hx) (Aa (vF 0) (Aa (vF 1) (Aa (slF (vF 2) (noO) (Pp (vF 3))) (Aa (vF 4) (am)))))
def Q8:FS:=im (uF allD (Yt (enIT (vF 2)) (OQ) (Mf)))
def Iz:List D->Option D:=oo 3 3 Q8
def GR:FS:=bc (jl 2 (uF tssD (vF 1))) (memB 0 "reckoned" 2 (trF (Ag (Iz) (Aa (uF (kc "one") (vF 0)) (Aa (uF (kc "other") (vF 0)) (Aa (vF 2) (am)))))) "Ranks" "rank_of_fitting" (Fz "Ranks" "rank_of_fitting" (Al 8) (vF 0) (Aa (vF 2) (am))))
def Bf:List D->Option D:=oo 3 2 GR
def G7:FS:=bc (jl 2 (Fz "Ranks" "rank_of" (Bf) (vF 0) (Aa (vF 1) (am)))) (im (ifF (tx (bF (sd ZA) (vF 2) (uF (kc "endless") (vF 0)))) (kF .non) (vF 2)))
def Dg:List D->Option D:=oo 3 2 G7
def HY:UQ:=Gn (JG "one" (vF 1)) (Gn (JG "other" (vF 2)) (Gn (JG "reckoned" (memE Phi)) (Gn (JG "endless" (bF OT (bF Yf (uF (kc "size") (vF 1)) (uF (kc "size") (vF 2))) (kF (.int 1)))) (nilE))))
def CP:Addr->List D->Option Ef:=runI 3 3 HY
def Z7:FS:=bc (I_ (Ag (noX (Ak)) (Aa (vF 0) (Aa (vF 1) (Aa (vF 2) (am)))))) (im (Fz "Ranks" "told_rank" (Dg) (mkI "Ranks" (CP) (Aa (vF 0) (Aa (vF 1) (am)))) (Aa (vF 2) (am))))
def Q9:List D->Option D:=oo 3 3 Z7
def Mg:FS:=bc (OV (orT (tx (uF (isND ZA) (vF 0))) (tx (bF (sd ZA) (vF 1) (pp (am))))) (im (andF (uF (isND ZA) (vF 0)) (bF (sd ZA) (vF 1) (pp (am))))) (Pc)) (bc (OV (orT (Sj (trF (uF (isxD cs_ cs_) (vF 0)))) (trF (uF (isxD cs_ ["NoName","NoSaying","NoWord","TooGreat"]) (vF 0)))) (im (kF (.bl ZA))) (Pc)) (bc (jl 2 (pp (Aa (uF (isxD cs_ ["Unlike"]) (vF 0)) (Aa (uF (isxD cs_ ["NoThing"]) (vF 0)) (Aa (uF (isxD cs_ ["NoPointing"]) (vF 0)) (am)))))) (bc (OV (tx (bF (sd E3) (vF 2) (pp (Aa (bF (sd ZA) (bF vb (vF 1) (kF (.int 0))) (kF (.str "unlike"))) (Aa (bF (sd ZA) (bF vb (vF 1) (kF (.int 0))) (kF (.str "thing"))) (Aa (bF (sd ZA) (bF vb (vF 1) (kF (.int 0))) (kF (.str "pointing"))) (am))))))) (im (kF (.bl ZA))) (Pc)) (im (orF (bF (sd E3) (bF vb (vF 1) (kF (.int 0))) (kF (.str "thing"))) (bF (sd ZA) (uF (fldE cs_ "thing") (vF 0)) (bF vb (vF 1) (kF (.int 1)))))))))
def Aw:List D->Option D:=oo 3 2 Mg
def JR:FS:=im (ifF (tx (bF (sd ZA) (vF 1) (kF (.int 0)))) (uF (kc "size") (uF (kc "one") (vF 0))) (uF (kc "size") (uF (kc "other") (vF 0))))
def C_:List D->Option D:=oo 2 2 JR
def Q_:FS:=im (ifF (tx (bF (sd ZA) (vF 0) (kF (.int 0)))) (RS (Aa (vF 1) (Aa (vF 2) (am)))) (RS (Aa (vF 2) (Aa (vF 1) (am)))))
def Nf:List D->Option D:=oo 3 3 Q_
def J7:FE:=Ag (Nf) (Aa (vF 1) (Aa (vF 2) (Aa (vF 3) (am))))
def Mh:FS:=im (Bo (QY (Ag (C_) (Aa (vF 0) (Aa (bF subD (kF (.int 1)) (vF 1)) (am))))) (OQ) (J7))
def Hy:List D->Option D:=oo 3 3 Mh
def Ha:FE:=Fz "Ranks" "rank_of" (Bf) (vF 0) (Aa (bF OT (vF 1) (pp (Aa (vF 4) (am)))) (am))
def JS:FS:=im (Bo (zv (Ag (Hy) (Aa (vF 0) (Aa (vF 2) (Aa (vF 3) (am)))))) (OQ) (Ha))
def FJ:List D->Option D:=oo 4 4 JS
def BP:FS:=OV (tx (bF ltD (bF Xp (Ag (FJ) (Aa (vF 0) (Aa (vF 1) (Aa (vF 3) (Aa (vF 4) (am)))))) (kF (.int 0))) (vF 2))) (im (RS (Aa (vF 3) (Aa (vF 4) (am))))) (Pc)
def Eo:FS:=Pt (QY (Ag (C_) (Aa (vF 0) (Aa (vF 3) (am))))) (CW 4) (BP)
def Eg:FS:=bc (jl 2 (Fz "Ranks" "rank_of" (Bf) (vF 0) (Aa (vF 1) (am)))) (bc (OV (orT (tx (bF (sd ZA) (vF 2) (kF (.int 0)))) (tx (bF (sd ZA) (vF 2) (uF (kc "endless") (vF 0))))) (im (Yl "NoPointing" (kF (.str "no pointing lowers the rank of these pairs")))) (Pc)) (Pt (zv (RS (Aa (kF (.int 0)) (Aa (kF (.int 1)) (am))))) (CW 3) (Eo)))
def CJ:List D->Option D:=oo 5 2 Eg
def K1:FS:=bc (L_ (Ag (Ak) (Aa (vF 0) (Aa (vF 1) (Aa (vF 2) (am)))))) (im (Ag (CJ) (Aa (mkI "Ranks" (CP) (Aa (vF 0) (Aa (vF 1) (am)))) (Aa (uF Sz (vF 2)) (am)))))
def DG:List D->Option D:=oo 3 3 K1
def G8:FS:=bc (L_ (Ag (Am) (Aa (Ag (C_) (Aa (vF 0) (Aa (vF 2) (am)))) (Aa (vF 3) (am))))) (bc (jl 4 (Ag (FJ) (Aa (vF 0) (Aa (vF 1) (Aa (vF 2) (Aa (vF 3) (am))))))) (im (ifF (tx (bF gtD (uF Pf (vF 4)) (kF (.int 0)))) (bF idxD (vF 4) (uF dD (vF 4))) (kF .non))))
def Fl:List D->Option D:=oo 5 4 G8
def Sg:FS:=bc (L_ (Ag (Ak) (Aa (vF 0) (Aa (vF 1) (Aa (vF 2) (am)))))) (im (Ag (Fl) (Aa (mkI "Ranks" (CP) (Aa (vF 0) (Aa (vF 1) (am)))) (Aa (uF Sz (vF 2)) (Aa (vF 3) (Aa (vF 4) (am)))))))
def Hl:List D->Option D:=oo 5 5 Sg
def Ei:FS:=bc (jl 6 (kF .non)) (bc (tryF cs_ 7 (bc (OV (tx (bF (sd ZA) (vF 0) (kF (.int 0)))) (L_ (Ag (DG) (Aa (vF 1) (Aa (vF 2) (Aa (vF 3) (am)))))) (Pc)) (OV (tx (bF (sd ZA) (vF 0) (kF (.int 1)))) (L_ (Ag (Hl) (Aa (vF 1) (Aa (vF 2) (Aa (vF 3) (Aa (vF 4) (Aa (vF 5) (am)))))))) (Pc))) (jl 6 (vF 7))) (im (vF 6)))
def Aq:List D->Option D:=oo 8 6 Ei
def QF:FE:=Ag (An) (Aa (vF 0) (Aa (vF 13) (am)))
def oU:FS:=bc (YV (Ag (Ci) (Aa (Bo (QY (kF (.int 4))) (OQ) (QF)) (am))) (Pv 2 (Bb 1 (Bb 2 (Pw))))) (bc (setW 3 (uF Nv (bF vb (vF 2) (kF (.int 1))))) (bc (OV (tx (bF (sd ZA) (bF rz (Ag (An) (Aa (vF 0) (Aa (kF (.int 4)) (am)))) (kF (.int 4))) (kF (.int 2)))) (putF 3 (kF (.str "zest")) (pp (am))) (Pc)) (bc (jl 4 (mkI "World" (Bq) (Aa (bF vb (vF 1) (kF (.int 0))) (Aa (bF vb (vF 1) (kF (.int 1))) (Aa (bF vb (vF 1) (kF (.int 2))) (am)))))) (bc (fzS [3] (jl 5 (mkI "World" (Bq) (Aa (bF vb (vF 2) (kF (.int 0))) (Aa (vF 3) (Aa (bF vb (vF 2) (kF (.int 2))) (am))))))) (bc (jl 6 (Ag (Gg) (Aa (vF 0) (Aa (vF 4) (Aa (vF 5) (am)))))) (bc (jl 7 (bF rz (bF Cr (Ag (An) (Aa (vF 0) (Aa (kF (.int 4)) (am)))) (kF (.int 4))) (kF (.int 2)))) (bc (jl 8 (bF vb (pp (Aa (uF (kc "size") (vF 4)) (Aa (uF (kc "size") (vF 5)) (am)))) (vF 7))) (bc (jl 9 (Ag (Be) (Aa (bF Cr (Ag (An) (Aa (vF 0) (Aa (kF (.int 4)) (am)))) (kF (.int 8))) (Aa (vF 8) (am))))) (bc (OV (andT (tx (bF (sd ZA) (bF rz (bF Cr (Ag (An) (Aa (vF 0) (Aa (kF (.int 4)) (am)))) (kF (.int 16))) (kF (.int 2))) (kF (.int 0)))) (tx (bF gtD (vF 8) (kF (.int 0))))) (jl 9 (bF rz (bF Cr (Ag (An) (Aa (vF 0) (Aa (kF (.int 4)) (am)))) (kF (.int 32))) (vF 8))) (Pc)) (bc (jl 10 (Ag (Ew) (Aa (vF 6) (Aa (vF 4) (Aa (vF 5) (am)))))) (bc (jl 11 (pp (am))) (bc (OV (tx (bF (sd ZA) (bF rz (Ag (An) (Aa (vF 0) (Aa (kF (.int 4)) (am)))) (kF (.int 4))) (kF (.int 2)))) (jl 11 (pp (Aa (kF (.str "unlike")) (am)))) (OV (tx (bF (sd E3) (vF 10) (pp (am)))) (jl 11 (pp (Aa (kF (.str "thing")) (Aa (bF vb (vF 10) (kF (.int 0))) (am))))) (Pc))) (bc (OV (tx (bF (sd E3) (vF 11) (pp (am)))) (bc (OV (Sj (trF (Ag (Aw) (Aa (Ag (Aq) (Aa (kF (.int 0)) (Aa (vF 4) (Aa (vF 5) (Aa (vF 6) (Aa (vF 7) (Aa (vF 9) (am)))))))) (Aa (vF 11) (am)))))) (im (kF (.bl ZA))) (Pc)) (im (Ag (Aw) (Aa (Ag (Aq) (Aa (kF (.int 1)) (Aa (vF 4) (Aa (vF 5) (Aa (vF 6) (Aa (vF 7) (Aa (vF 9) (am)))))))) (Aa (vF 11) (am)))))) (Pc)) (bc (jl 12 (Ag (Q9) (Aa (vF 4) (Aa (vF 5) (Aa (vF 6) (am)))))) (bc (OV (orT (tx (uF (isND ZA) (vF 12))) (tx (bF (sd ZA) (vF 12) (kF (.int 0))))) (jl 11 (pp (Aa (kF (.str "pointing")) (am)))) (Pc)) (bc (OV (Sj (trF (Ag (Aw) (Aa (Ag (Aq) (Aa (kF (.int 0)) (Aa (vF 4) (Aa (vF 5) (Aa (vF 6) (Aa (vF 7) (Aa (vF 9) (am)))))))) (Aa (vF 11) (am)))))) (im (kF (.bl ZA))) (Pc)) (bc (jl 11 (pp (am))) (bc (OV (orT (tx (bF ltD (vF 9) (kF (.int 0)))) (tx (bF geD (vF 9) (vF 8)))) (jl 11 (pp (Aa (kF (.str "thing")) (Aa (vF 9) (am))))) (Pc)) (im (Ag (Aw) (Aa (Ag (Aq) (Aa (kF (.int 1)) (Aa (vF 4) (Aa (vF 5) (Aa (vF 6) (Aa (vF 7) (Aa (vF 9) (am)))))))) (Aa (vF 11) (am)))))))))))))))))))))))
def Vo:List D->Option D:=oo 13 1 oU
end
def top(i:Nat):Stmt:=PySem.Challenge.pw_twinrounds_k63_hands_refused.main.body.getD i (.Pass ⟨0,0,0,0⟩)
abbrev Iu:Stmt:=top 45
abbrev Hm:Stmt:=top 47
abbrev QG:Stmt:=top 46
abbrev K3:Stmt:=top 48
abbrev Mi:Stmt:=top 49
abbrev QH:Stmt:=top 50
abbrev Mj:Stmt:=top 17
abbrev Ri:Stmt:=Pd (top 5) 0
abbrev Jq:Stmt:=top 18
abbrev Ny:Stmt:=top 19
abbrev QJ:Stmt:=top 20
abbrev RB:Stmt:=top 16
abbrev KR:Stmt:=Pd (top 21) 0
abbrev Rj:Stmt:=top 44
abbrev Ml:Stmt:=top 52
abbrev Rk:Stmt:=top 53
abbrev Ue:Stmt:=top 51
abbrev JT:Stmt:=Pd (top 21) 3
abbrev Jr:Stmt:=Pd (top 21) 4
abbrev K5:Stmt:=top 23
abbrev G9:Stmt:=top 24
abbrev Ou:Stmt:=top 31
abbrev K6:Stmt:=top 25
abbrev K7:Stmt:=top 26
abbrev Nz:Stmt:=top 27
abbrev Mp:Stmt:=top 28
abbrev Js:Stmt:=Pd (top 32) 3
abbrev G_:Stmt:=Pd (top 32) 4
abbrev CQ:Stmt:=Pd (top 32) 5
abbrev Gh:Stmt:=Pd (top 32) 2
abbrev RC:Stmt:=top 29
abbrev K8:Stmt:=Pd (top 32) 1
abbrev Jt:Stmt:=Pd (top 32) 6
abbrev KY:Stmt:=Pd (top 32) 0
abbrev oV:Stmt:=top 33
abbrev Mq:Stmt:=top 55
abbrev Mr:Stmt:=top 35
abbrev Vp:Stmt:=top 36
abbrev Ms:Stmt:=top 37
abbrev JV:Stmt:=top 38
abbrev K9:Stmt:=top 39
abbrev Ug:Stmt:=top 41
abbrev QK:Stmt:=top 40
abbrev dF:Stmt:=top 42
abbrev N5:Stmt:=top 54
abbrev oW:Stmt:=top 56
set_option genInjectivity false in
structure Tx (G:Gx) (mg:Str->Option ac) where
 c_:Addr
 f_:G.cl "World"=O0 c_
 r_:Sn G.K c_
 s_:mg "World"=O0 (.ref c_)
 w_:Addr
 p0:G.cl "Ranks"=O0 w_
 z0:Sn G.K w_
 x4:mg "Ranks"=O0 (.ref w_)
 x6:Dx G.K mg "_law_world" Iu ["_law_size","_law_marks","_law_ties","_law_bits"]
 h7:Dx G.K mg "_law_turned" Hm ["_law_world_here","_law_order_here"]
 e8:Dx G.K mg "_law_order" QG ["_law_cell_here","_law_size"]
 h8:Dx G.K mg "_law_other" K3 ["_law_row","_law_item"]
 h9:Dx G.K mg "_law_changed" Mi ["_law_world_here","_law_cell_here"]
 QA:Dx G.K mg "_law_twins" QH ["_law_cells"]
 RA:Dx G.K mg "refuse_above" Mj ["number","most"]
 SA:Dx G.K mg "refuse_no_thing" Jq ["size","thing"]
 UA:Dx G.K mg "kept_things" Ny ["size","things"]
 VA:Dx G.K mg "kept_pairs" QJ ["size","pairs"]
 WA:Dx G.K mg "is_word" RB ["text"]
 XA:Ix G.K c_ "World.__init__" KR ["self","size","marks","ties"]
 YA:Dx G.K mg "_law_cell" Rj ["_law_script","_law_k"]
 lB:Dx G.K mg "_law_strange" Ml ["_law_cell_here","_law_size"]
 SB:Dx G.K mg "_law_rows" Rk ["_law_script","_law_here","_law_there"]
 TB:Dx G.K mg "_law_bad" Ue ["_law_row","_law_here","_law_there"]
 UB:Mx G.K c_ "mark_words" "World.mark_words" JT ["self"]
 WB:Mx G.K c_ "tie_words" "World.tie_words" Jr ["self"]
 XB:Dx G.K mg "refuse_unlike" K5 ["one","other"]
 ZB:Dx G.K mg "refuse_strange_pairs" G9 ["one","other","pairs"]
 SC:Dx G.K mg "unpaired" Ou ["size","paired"]
 TC:Dx G.K mg "bear_the_same" K6 ["one","other","pair"]
 UC:Dx G.K mg "lead_the_same" K7 ["one","other","pair","further"]
 VC:Dx G.K mg "go_together" Nz ["one","other","pair","further"]
 WC:Dx G.K mg "fits_with" Mp ["one","other","pairs","further"]
 PD:Mx G.K w_ "rank_with" "Ranks.rank_with" Js ["self","pairs","further"]
 SD:Mx G.K w_ "best_rank" "Ranks.best_rank" G_ ["self","pairs","choices"]
 TD:Mx G.K w_ "least_rank" "Ranks.least_rank" CQ ["self","pairs"]
 UD:Mx G.K w_ "rank_of_fitting" "Ranks.rank_of_fitting" Gh ["self","pairs"]
 QE:Dx G.K mg "all_fit" RC ["one","other","pairs"]
 RE:Mx G.K w_ "rank_of" "Ranks.rank_of" K8 ["self","pairs"]
 SE:Mx G.K w_ "told_rank" "Ranks.told_rank" Jt ["self","pairs"]
 UE:Ix G.K w_ "Ranks.__init__" KY ["self","one","other"]
 VE:Dx G.K mg "rank" oV ["one","other","pairs"]
 WE:Dx G.K mg "_law_refused" Mq ["_law_e","_law_due"]
 XE:Dx G.K mg "size_of_side" Mr ["ranks","side"]
 YE:Dx G.K mg "pair_of" Vp ["side","thing","replied"]
 ZE:Dx G.K mg "new_pairs" Ms ["ranks","side","thing"]
 RF:Dx G.K mg "ranks_behind" JV ["ranks","pairs","side","thing"]
 UF:Dx G.K mg "good_pointing" K9 ["ranks","pairs"]
 OG:Dx G.K mg "pointing" Ug ["one","other","pairs"]
 SG:Dx G.K mg "best_reply" QK ["ranks","pairs","side","thing"]
 WG:Dx G.K mg "reply" dF ["one","other","pairs","side","thing"]
 XG:Dx G.K mg "_law_caught" N5 ["_law_way","_law_here","_law_there","_law_row","_law_side","_law_thing"]
 OH:Dx G.K mg "law" oW ["_law_script"]
 r:Rx G.K mg "RoundError"
 xt:XT G cs_ r.R
 PH:Xx G mg r.R "NoThing" "thing" "NoThing.__init__" Ri ["self","thing"]
 RH:Xx0 G mg r.R "Unlike"
 SH:Xx0 G mg r.R "NoPointing"
 TH:Ax mg "NoName"
 UH:Ax mg "NoSaying"
 WH:Ax mg "NoWord"
 ZH:Ax mg "TooGreat"
 k_0:Kit G cs_ [.type "ValueError"] cs_
 k_1:Kit G cs_ [.ref TH.a,.ref UH.a,.ref WH.a,.ref ZH.a] ["NoName","NoSaying","NoWord","TooGreat"]
 k_2:Kit G cs_ [.ref SH.C] ["NoPointing"]
 k_3:Kit G cs_ [.ref PH.C] ["NoThing"]
 k_4:Kit G cs_ [.ref RH.C] ["Unlike"]
 OI:∀c C,(cs_:List Str).contains c=E3->G.xcl c=O0 C->BL G.K C "thing"
 QI:mg "ValueError"=W1
 RI:mg "all"=W1
 SI:mg "dict"=W1
 UI:mg "enumerate"=W1
 VI:mg "isinstance"=W1
 WI:mg "len"=W1
 XI:mg "list"=W1
 YI:mg "max"=W1
 ZI:mg "min"=W1
 WJ:mg "range"=W1
 SK:mg "set"=W1
 TK:mg "sorted"=W1
 UK:mg "tuple"=W1
 OL:Sx mg "MOST_LETTERS" (.int 8)
 SL:Sx mg "LETTERS" (.str "abcdefghijklmnopqrstuvwxyz")
 TL:Sx mg "MOST_THINGS" (.int 5)
 OM:Sx mg "MOST_WORDS" (.int 3)
 PM:∀c C,G.cl c=O0 C->Sn G.K C/\BL G.K C "size"
 TM:∀c C,G.cl c=O0 C->Sn G.K C/\BL G.K C "marked"
 UM:∀c C,G.cl c=O0 C->Sn G.K C/\BL G.K C "tied"
 ON:∀c C,G.cl c=O0 C->Sn G.K C/\BL G.K C "other"
 QN:∀c C,G.cl c=O0 C->Sn G.K C/\BL G.K C "one"
 TN:∀c C,G.cl c=O0 C->Sn G.K C/\BL G.K C "endless"
 UN:∀c C,G.cl c=O0 C->Sn G.K C/\BL G.K C "reckoned"
 YN:Kx G mg "KEPT_TEXTS" K63.YN
section
variable {base:Heap}
abbrev EY:List Str:=["_law_size","_law_marks","_law_ties","_law_bits","_law_some","_law_k","_law_others","_law_found","_law_thing"]
def Cm:fc EY ["_law_size","_law_marks","_law_ties","_law_bits"] (Ac Iu):=PY
theorem J8(T:Tx G mg):VX P w base T.x6 1 (Po G Ff):=
 VS (k:=0) (N:=EY) (b:=Kr) T.x6 Cm λ_ _ _ _ _ _ I=>Ad (sW Cm.nd 4 (Tj)) (Ad (Fe iA rfl (Im rfl T.WJ (pU (Bh ((By rfl).or CN) Dq rfl T.WI Fv (vp 1)))) (Dn (gN Cm.nd 5)) (Af (Jk (Hr I) (pv 4) (iX I (vp 1) (vp 5)) (Dl ["_law_size","_law_marks","_law_ties","_law_bits","_law_some","_law_k","_law_others","_law_found","","_law_thing"] (by show Fx "_law_thing" EY++(["_law_thing"]:List Str)=_;decide +kernel) (cO (N:=EY) (sc:=Ac Iu) rfl rfl) rfl (Im rfl T.WJ (vp 0)) (λ_ _ _=>Pb (VQ I (pU (Ga ig Xu (pU (Ga ie bB (vp 3) (pU (SU (pU (bMul (iP) (vp 5))) (vp 9))))) (iP))) (iP))) (λ_ _ _=>vr 9))))) (Ad (sW Cm.nd 6 (Tj)) (Ad (Fe iA rfl (Im rfl T.WJ (pU (Bh ((By rfl).or CN) Dq rfl T.WI Fv (vp 2)))) (Dn (gN Cm.nd 5)) (Ad (sF Cm.nd 7 (Bk (Ab))) (Ad (Fe iA rfl (Im rfl T.WJ (vp 0)) (Dn (gN Cm.nd 8)) (Af (sF Cm.nd 7 (SU (vp 7) (pU (Dl (nT EY "_law_to") (by show Fx "_law_to" EY++(["_law_to"]:List Str)=_;decide +kernel) (cO (N:=EY) (sc:=Ac Iu) rfl rfl) rfl (Im rfl T.WJ (vp 0)) (λ_ _ _=>Pb (VQ I (pU (Ga ig Xu (pU (Ga ie bB (vp 3) (pU (SU (pU (SU (pU (SU (iP) (pU (bMul (iP) (vp 5))))) (pU (bMul (iP) (vp 8))))) (vp 9))))) (iP))) (iP))) (λ_ _ _=>Gk (fk 8 (fk 9 (Ab)))))))))) (Af (Jk (Hr I) (pv 6) (iX I (vp 2) (vp 5)) (vr 7)))))) (Af (Ln [4,6] (Ai (Bk (fk 0 (fk 4 (fk 6 (Ab)))))))))))
abbrev Cp:List Str:=["_law_world_here","_law_order_here","_law_some","_law_word","_law_others"]
def FN:fc Cp ["_law_world_here","_law_order_here"] (Ac Hm):=PY
theorem Uh(T:Tx G mg):VX P w base T.h7 1 (Po G Hj):=
 VS (k:=0) (N:=Cp) (b:=J3) T.h7 FN λ_ _ _ _ _ _ I=>Ad (sW FN.nd 2 (Tj)) (Ad (Fe iA rfl (Bd rfl (iX I (vp 0) (iP))) (Dn (gN FN.nd 3)) (Af (Jk (Hr I) (pv 2) (vr 3) (Dl (nT Cp "_law_thing") (by show Fx "_law_thing" Cp++(["_law_thing"]:List Str)=_;decide +kernel) (cO (N:=Cp) (sc:=Ac Hm) rfl rfl) rfl (WU.top (Bd rfl (iX I (pU (iX I (vp 0) (iP))) (vp 3)))) (λ_ _ _=>Do) (λ_ _ _=>iX I (vp 1) (vp 5)))))) (Ad (sW FN.nd 4 (Tj)) (Ad (Fe iA rfl (Bd rfl (iX I (vp 0) (iP))) (Dn (gN FN.nd 3)) (Af (Jk (Hr I) (pv 4) (vr 3) (Dl (nT Cp "_law_both") (by show Fx "_law_both" Cp++(["_law_both"]:List Str)=_;decide +kernel) (cO (N:=Cp) (sc:=Ac Hm) rfl rfl) rfl (WU.top (Bd rfl (iX I (pU (iX I (vp 0) (iP))) (vp 3)))) (λ_ _ _=>Do) (λ_ _ _=>Gk (Ae (iX I (vp 1) (pU (iX I (vp 5) (iP)))) (Ae (iX I (vp 1) (pU (iX I (vp 5) (iP)))) (Ab) Az) Az)))))) (Af (Ln [2,4] (Ai (Bk (Ae (iX I (vp 0) (iP)) (fk 2 (fk 4 (Ab))) Az))))))))
abbrev QL:List Str:=["_law_cell_here","_law_size","_law_left","_law_found","_law_at"]
def Ej:fc QL ["_law_cell_here","_law_size"] (Ac QG):=PY
theorem VB(T:Tx G mg):VX P w base T.e8 1 (Po G Ir):=
 VS (k:=0) (N:=QL) (b:=Ks) T.e8 Ej λ_ _ _ _ _ _ I=>Ad (sF Ej.nd 2 (uQ rfl T.XI rfl T.WJ (vp 1))) (Ad (sW Ej.nd 3 (WR (Ab))) (Ad (fV 60 iA (tNe I (vp 2) (pU (Bk (Ab)))) (Ad (sF Ej.nd 4 (OZ (vp 0) (pU (Bh (By rfl) R7 rfl T.WI Fv (vp 2))))) (Ad (sF Ej.nd 0 (RY (vp 0) (pU (Bh (By rfl) R7 rfl T.WI Fv (vp 2))))) (Ad (R8 (pv 3) (iD (vp 2) (vp 4))) (Af (sF Ej.nd 2 (SU (pU (Hs rfl (vp 2) (JC) (Gm (vp 4)))) (pU (Hs rfl (vp 2) (Gm (pU (SU (vp 4) (iP)))) (JC)))))))))) (Af (Ln [3] (Ai (vr 3))))))
abbrev HB:List Str:=["_law_row","_law_item"]
def VD:fc HB ["_law_row","_law_item"] (Ac K3):=PY
theorem N6(T:Tx G mg):VX P w base T.h8 1 (Po G D_):=
 VS (k:=0) (N:=HB) (b:=Ku) T.h8 VD λ_ _ _ _ _ _ I=>Ad (Bc (tIn I (vp 1) (vp 0)) (Af (Ai (Dl (nT HB "_law_one") (by show Fx "_law_one" HB++(["_law_one"]:List Str)=_;decide +kernel) (cO (N:=HB) (sc:=Ac K3) rfl rfl) rfl (WU.top (Bd rfl (vr 0))) (λ_ _ _=>Pb (tNe I (vp 2) (vp 1))) (λ_ _ _=>vr 2)))) (BK)) (Af (Ai (SU (vp 0) (pU (Bk (fk 1 (Ab)))))))
abbrev Mt:List Str:=["_law_world_here","_law_cell_here","_law_size","_law_some","_law_others","_law_here","_law_there","_law_at","_law_marked","_law_tied","_law_word"]
def BW:fc Mt ["_law_world_here","_law_cell_here"] (Ac Mi):=PY
theorem Rt(T:Tx G mg):VX P w base T.h9 2 (Po G Cu):=
 VS (k:=1) (N:=Mt) (b:=Dt) T.h9 BW λ_ _ _ _ _ _ I=>Ad (WY (Jl rfl rfl (Bg (gN BW.nd 2) (Bg (gN BW.nd 3) (Bg (gN BW.nd 4) (Ht))))) (vr 0)) (Ad (sF BW.nd 5 (OZ (vp 1) (pU (JD (J9 rfl) Li rfl T.YI Lj (vp 2) (iP))))) (Ad (sF BW.nd 6 (OZ (pU (RY (vp 1) (iP))) (pU (JD (J9 rfl) Li rfl T.YI Lj (vp 2) (iP))))) (Ad (Bc (ZY.pt (Gj (VQ I (vp 2) (iP)) (Cq (VQ I (pU (SU (pU (Bh ((By rfl).or CN) Dq rfl T.WI Fv (vp 3))) (pU (Bh ((By rfl).or CN) Dq rfl T.WI Fv (vp 4))))) (iP))))) (Af (Ai (vr 0))) (BK)) (Ad (sF BW.nd 7 (OZ (pU (RY (vp 1) (iP))) (pU (SU (pU (Bh ((By rfl).or CN) Dq rfl T.WI Fv (vp 3))) (pU (Bh ((By rfl).or CN) Dq rfl T.WI Fv (vp 4))))))) (Ad (sW BW.nd 8 (WW rfl T.SI WQ (vp 3))) (Ad (sW BW.nd 9 (WW rfl T.SI WQ (vp 4))) (Ad (Bc (tLt (vp 7) (pU (Bh ((By rfl).or CN) Dq rfl T.WI Fv (vp 3)))) (Ad (sF BW.nd 10 (iX I (pU (M7 (Il.or (Io rfl)) NB rfl T.XI Pg (vp 3))) (vp 7))) (Af (Jk (Hr I) (pv 8) (vr 10) (fX (N6 T) I (Ae (iX I (vp 3) (vp 10)) (fk 5 (Ab)) Az))))) (Ad (sF BW.nd 10 (iX I (pU (M7 (Il.or (Io rfl)) NB rfl T.XI Pg (vp 4))) (pU (bSub (vp 7) (pU (Bh ((By rfl).or CN) Dq rfl T.WI Fv (vp 3))))))) (Af (Jk (Hr I) (pv 9) (vr 10) (fX (N6 T) I (Ae (iX I (vp 4) (vp 10)) (Ae (Gk (fk 5 (fk 6 (Ab)))) (Ab) nu) Az)))))) (Af (Ln [8,9] (Ai (Bk (fk 2 (fk 8 (fk 9 (Ab)))))))))))))))
abbrev QM:List Str:=["_law_cells","_law_one","_law_two","_law_three","_law_four","_law_bits","_law_number","_law_size","_law_marks","_law_ties","_law_first","_law_kind","_law_second"]
def BR:fc QM ["_law_cells"] (Ac QH):=PY
theorem VG(T:Tx G mg):VX P w base T.QA 3 (Po G Ci):=
 VS (k:=2) (N:=QM) (b:=Fg) T.QA BR λ_ _ _ _ _ _ I=>Ad (WY (Jl rfl rfl (Bg (gN BR.nd 1) (Bg (gN BR.nd 2) (Bg (gN BR.nd 3) (Bg (gN BR.nd 4) (Ht)))))) (vr 0)) (Ad (sF BR.nd 5 (OZ (pU (bMul (vp 2) (iP))) (pU (Ga WD WF (iP) (iP))))) (Ad (Bc (VQ I (pU (OZ (vp 1) (iP))) (iP)) (Af (sF BR.nd 5 (OZ (vp 2) (pU (Ga WD WF (iP) (iP)))))) (BK)) (Ad (sF BR.nd 6 (OZ (pU (bMul (pU (RY (vp 1) (iP))) (iP))) (iP))) (Ad (sF BR.nd 7 (iX I (pU (Bk (iI (iI (iI (iI (iI (iI (iI (iI (iI (iI (iI (iI (Ab))))))))))))))) (pU (OZ (vp 6) (iP))))) (Ad (sF BR.nd 8 (Hs rfl (pU (Bk (iS (iS (iS (Ab)))))) (JC) (Gm (pU (OZ (pU (RY (vp 6) (iP))) (iP)))))) (Ad (sF BR.nd 9 (Hs rfl (pU (Bk (iS (iS (iS (Ab)))))) (JC) (Gm (pU (OZ (pU (RY (vp 6) (iP))) (iP)))))) (Ad (sF BR.nd 10 (fX (J8 T) I (fk 7 (fk 8 (fk 9 (fk 5 (Ab))))))) (Ad (sF BR.nd 11 (OZ (vp 3) (iP))) (Ad (Bc (VQ I (vp 11) (iP)) (Af (Ai (Bk (fk 10 (Ae (fX (J8 T) I (Ae (OZ (pU (RY (vp 3) (iP))) (iP)) (fk 8 (fk 9 (Ae (OZ (vp 4) (pU (Ga WD WF (iP) (iP)))) (Ab) Et))) Et)) (Ab) CK))))) (BK)) (Ad (Bc (VQ I (vp 11) (iP)) (Af (Ai (Bk (fk 10 (Ae (fX (J8 T) I (Ae (JD (VL rfl) Xz rfl T.ZI Zn (pU (SU (vp 7) (iP))) (iP)) (fk 8 (fk 9 (fk 5 (Ab)))) CK)) (Ab) CK))))) (BK)) (Ad (sF BR.nd 12 (fX (Uh T) I (fk 10 (Ae (fX (VB T) I (Ae (RY (vp 3) (iP)) (fk 7 (Ab)) Et)) (Ab) CK)))) (Ad (Bc (VQ I (vp 11) (iP)) (Af (Ai (Bk (fk 10 (fk 12 (Ab)))))) (BK)) (Af (Ai (Bk (fk 10 (Ae (fX (Rt T) I (fk 12 (Ae (RY (vp 4) (iP)) (Ab) Et))) (Ab) CK)))))))))))))))))
abbrev Mv:List Str:=["number","most"]
def Ru:fc Mv ["number","most"] (Ac Mj):=PY
theorem Ie(T:Tx G mg):VX P w base T.RA 1 (Po G Bv):=
 VS (k:=0) (N:=Mv) (b:=JP) T.RA Ru λ_ _ _ _ _ _ I=>Af (Bc (tGt (vp 0) (vp 1)) (Af (Qj)) (BK))
abbrev Yu:List Str:=["self","thing"]
def W2:fc Yu ["self","thing"] (Ac Ri):=PY
theorem Z8(T:Tx G mg):mu P w G.K mg base CX0 1 T.PH.fi T.PH.fd ["self","thing"] (spE G.K "thing" okI):=
 T.PH.F.ok W2 (λJ H Q E h=>uY h) λO A I s H J Q E S h=>⟨_,Le (R3 (nJ rfl T.r.m T.r.h1 T.r.h2 T.r.h3 (Bl (pv 0) (Bl (nH (zU (pv 1)) zT) DK)))) (R1 (uX (pv 0) (pv 1) rfl)),gO h rfl zV⟩
abbrev Ju:List Str:=["size","thing"]
def Ov:fc Ju ["size","thing"] (Ac Jq):=PY
theorem CT(T:Tx G mg):mu P w G.K mg base (CX1 P w) 3 T.SA.f T.SA.fd ["size","thing"] (spZ G Am):=
 fnZ (k:=2) (N:=Ju) (b:=DY) T.SA Ov λ_ _ _ _ _ _ I=>DX (Q3 (ZY.pt (Gj (tLt (vp 1) (iP)) (Cq (tGe (vp 1) (vp 0))))) (DX (rZ (x:=T.PH) (Z8 T) I uf (vr 1))) (Nb))
abbrev N7:List Str:=["size","things","kept","thing"]
def JW:fc N7 ["size","things"] (Ac Ny):=PY
theorem Ui(T:Tx G mg):VX P w base T.UA 4 (Po G Eh):=
 VS (k:=3) (N:=N7) (b:=J4) T.UA JW λ_ _ _ _ _ _ I=>Ad (sW JW.nd 2 (Tj)) (Ad (Fe iA rfl (Bd rfl (vr 1)) (Dn (gN JW.nd 3)) (Ad (JF (fX (cY (CT T)) I (fk 0 (fk 3 (Ab))))) (Af (Jk (Hr I) (pv 2) (vr 3) (KC))))) (Af (Ln [2] (Ai (vr 2)))))
abbrev QQ:List Str:=["size","pairs","kept","one","other"]
def Hn:fc QQ ["size","pairs"] (Ac QJ):=PY
theorem VH(T:Tx G mg):VX P w base T.VA 4 (Po G Fi):=
 VS (k:=3) (N:=QQ) (b:=Kv) T.VA Hn λ_ _ _ _ _ _ I=>Ad (sW Hn.nd 2 (ABQ)) (Ad (Fe iA rfl (Bd rfl (vr 1)) (Jl rfl rfl (Bg (gN Hn.nd 3) (Bg (gN Hn.nd 4) (Ht)))) (Ad (JF (fX (cY (CT T)) I (fk 0 (fk 3 (Ab))))) (Ad (JF (fX (cY (CT T)) I (fk 0 (fk 4 (Ab))))) (Af (jz (Hr I) (pv 2) (fk 3 (fk 4 (Ab))) (KC)))))) (Af (Ln [2] (Ai (vr 2)))))
abbrev KZ:List Str:=["text"]
def Z9:fc KZ ["text"] (Ac RB):=PY
theorem Uj(T:Tx G mg):VX P w base T.WA 1 (Po G Fj):=
 VS (k:=0) (N:=KZ) (b:=Q7) T.WA Z9 λ_ _ _ _ _ _ I=>Ad (Bc (ZY.pt (Gj (tIn I (vp 0) (pU (Jz (Jh (v:=.ref T.YN.a) rfl T.YN.m rfl) T.YN.r))) (Gj (VQ I (pU (Bh ((By rfl).or CN) Dq rfl T.WI Fv (vp 0))) (iP)) (Cq (tGt (pU (Bh ((By rfl).or CN) Dq rfl T.WI Fv (vp 0))) (pU (Jz (Jh (v:=(.int 8)) rfl T.OL.m ⟨_,rfl⟩) (.int _)))))))) (Af (Ai (KC))) (BK)) (Af (Ai (Bh (Qs rfl) Wb rfl T.RI Zu (pU (Dl (nT KZ "letter") (by show Fx "letter" KZ++(["letter"]:List Str)=_;decide +kernel) (cO (N:=KZ) (sc:=Ac RB) rfl rfl) rfl (WU.top (Bd rfl (vr 0))) (λ_ _ _=>Do) (λ_ _ _=>cIn I (vp 1) (pU (Jz (Jh (v:=(.str "abcdefghijklmnopqrstuvwxyz")) rfl T.SL.m ⟨_,rfl⟩) (.str _)))))))))
abbrev Ka:List Str:=["self","size","marks","ties","word","things","pairs"]
def Dh:fc Ka ["self","size","marks","ties"] (Ac KR):=PY
theorem Jv(T:Tx G mg):mu P w G.K mg base CX0 5 T.XA.f T.XA.fd ["self","size","marks","ties"] (spI G "World" Bq):=
 fn_I (c:="World") (k:=4) (N:=Ka) (b:=HX) T.XA.F Dh .(2) λO A J s H E I=>Ed (Tz (JF (fX (Ie T) I (fk 1 (Ae (Jz (Jh (v:=(.int 5)) rfl T.TL.m ⟨_,rfl⟩) (.int _)) (Ab) SX)))) Wh) (Ed (Tz (JF (fX (Ie T) I (Ae (Bh ((By rfl).or CN) Dq rfl T.WI Fv (vp 2)) (Ae (Jz (Jh (v:=(.int 3)) rfl T.OM.m ⟨_,rfl⟩) (.int _)) (Ab) SX) CK))) Wh) (Ed (Tz (JF (fX (Ie T) I (Ae (Bh ((By rfl).or CN) Dq rfl T.WI Fv (vp 3)) (Ae (Jz (Jh (v:=(.int 3)) rfl T.OM.m ⟨_,rfl⟩) (.int _)) (Ab) SX) CK))) Wh) (Ed (Ls T.PM (pv 0) (vr 1)) (Ed (YK T.TM (pv 0) Tj) (Ed (YK T.UM (pv 0) Tj) (Ed (bj iA rfl (Vc (top:=ZA) (vr 2)) (Jl rfl rfl (Bg (gN Dh.nd 4) (Bg (gN Dh.nd 5) (Ht)))) (lV (R_ .(2) (R_ .(2) (lU)))) (YH (lR (YJ (Jj (Hh (pU (fX (Uj T) I (fk 4 (Ab)))) rfl))) (Af Qj)) (bh (YL (Hr I) T.TM (pv 0) (vr 4) (fX (Ui T) I (fk 1 (fk 5 (Ab)))))))) (Ed (bj iA rfl (Vc (top:=ZA) (vr 3)) (Jl rfl rfl (Bg (gN Dh.nd 4) (Bg (gN Dh.nd 6) (Ht)))) (lV (R_ .(2) (R_ .(2) (lU)))) (YH (lR (PWE.pt (zE (YJ (Jj (Hh (pU (fX (Uj T) I (fk 4 (Ab)))) rfl))) (t8 (zF (Hr I) T.TM (pv 0) (vr 4))))) (Af Qj)) (bh (YL (Hr I) T.UM (pv 0) (vr 4) (fX (VH T) I (fk 1 (fk 6 (Ab)))))))) (bu))))))))
abbrev Rm:List Str:=["_law_script","_law_k"]
def W3:fc Rm ["_law_script","_law_k"] (Ac Rj):=PY
theorem Cj(T:Tx G mg):VX P w base T.YA 1 (Po G An):=
 VS (k:=0) (N:=Rm) (b:=Jp) T.YA W3 λ_ _ _ _ _ _ I=>Ad (Bc (tLt (vp 1) (pU (Bh (By rfl) R7 rfl T.WI Fv (vp 0)))) (Af (Ai (iD (vp 0) (vp 1)))) (BK)) (Af (Ai (Qg)))
abbrev Mw:List Str:=["_law_cell_here","_law_size"]
def Rv:fc Mw ["_law_cell_here","_law_size"] (Ac Ml):=PY
theorem Ig(T:Tx G mg):VX P w base T.lB 1 (Po G Be):=
 VS (k:=0) (N:=Mw) (b:=Eu) T.lB Rv λ_ _ _ _ _ _ I=>Ad (Bc (VQ I (pU (OZ (vp 0) (iP))) (iP)) (Af (Ai (bSub (pU (yp (iP))) (pU (OZ (pU (RY (vp 0) (iP))) (pU (Ga iZ bA (iP) (iP)))))))) (BK)) (Ad (Bc (VQ I (pU (OZ (vp 0) (iP))) (iP)) (Af (Ai (vr 1))) (BK)) (Af (Ai (SU (pU (SU (vp 1) (iP))) (pU (OZ (pU (RY (vp 0) (iP))) (pU (Ga iZ bA (iP) (iP)))))))))
abbrev Rn:List Str:=["_law_script","_law_here","_law_there","_law_row","_law_cell_here","_law_both"]
def Ck:fc Rn ["_law_script","_law_here","_law_there"] (Ac Rk):=PY
theorem W4(T:Tx G mg):VX P w base T.SB 2 (Po G Gg):=
 VS (k:=1) (N:=Rn) (b:=MT) T.SB Ck λ_ _ _ _ _ _ I=>Ad (sW Ck.nd 3 (WR (Ab))) (Ad (Fe iA rfl (Bd rfl (Hs rfl (vp 0) (Gm (iP)) (Gm (iP)))) (Dn (gN Ck.nd 4)) (Af (R8 (pv 3) (Gk (Ae (OZ (pU (OZ (vp 4) (iP))) (pU (JD (J9 rfl) Li rfl T.YI Lj (pU (BV T.PM (vp 1))) (iP)))) (Ae (OZ (pU (RY (vp 4) (iP))) (pU (JD (J9 rfl) Li rfl T.YI Lj (pU (BV T.PM (vp 2))) (iP)))) (Ab) Et) Et))))) (Ad (Bc (ZY.pt (Gj (VQ I (pU (BV T.PM (vp 1))) (iP)) (Cq (VQ I (pU (BV T.PM (vp 2))) (iP))))) (Af (sW Ck.nd 3 (WR (Ab)))) (BK)) (Ad (sF Ck.nd 4 (fX (Cj T) I (fk 0 (iI (Ab))))) (Ad (Bc (VQ I (pU (OZ (pU (fX (Cj T) I (fk 0 (iI (Ab))))) (iP))) (iP)) (Ad (sF Ck.nd 5 (Gk (Ae (fX (Ig T) I (Ae (RY (vp 4) (iP)) (Ae (BV T.PM (vp 1)) (Ab) Bm) Et)) (Ae (fX (Ig T) I (Ae (RY (vp 4) (iP)) (Ae (BV T.PM (vp 2)) (Ab) Bm) Et)) (Ab) CK) CK))) (Ad (Bc (ZY.pt (WK (VQ I (pU (OZ (vp 4) (iP))) (iP)) (Oe (tGt (pU (BV T.PM (vp 1))) (iP))))) (Af (sF Ck.nd 5 (Gk (iI (Ae (iX I (vp 5) (iP)) (Ab) Az))))) (BK)) (Ad (Bc (ZY.pt (WK (VQ I (pU (OZ (vp 4) (iP))) (iP)) (Oe (tGt (pU (BV T.PM (vp 2))) (iP))))) (Af (sF Ck.nd 5 (Gk (Ae (iX I (vp 5) (iP)) (iI (Ab)) Az)))) (BK)) (Af (sW Ck.nd 3 (zp (pU (SU (pU (Hs rfl (vq 3) (JC) (Gm (pU (OZ (pU (RY (vp 4) (iP))) (iP)))))) (pU (Bk (fk 5 (Ab)))))) (pU (Hs rfl (vq 3) (Gm (pU (OZ (pU (RY (vp 4) (iP))) (iP)))) (JC))))))))) (BK)) (Af (Ln [3] (Ai (vr 3))))))))
abbrev Uk:List Str:=["_law_row","_law_here","_law_there","_law_one","_law_other_here"]
def My:fc Uk ["_law_row","_law_here","_law_there"] (Ac Ue):=PY
theorem Yv(T:Tx G mg):VX P w base T.TB 1 (Po G Ew):=
 VS (k:=0) (N:=Uk) (b:=Kw) T.TB My λ_ _ _ _ _ _ I=>Ad (Fe iA rfl (Bd rfl (vr 0)) (Jl rfl rfl (Bg (gN My.nd 3) (Bg (gN My.nd 4) (Ht)))) (Ad (Bc (ZY.pt (Gj (tLt (vp 3) (iP)) (Cq (tGe (vp 3) (pU (BV T.PM (vp 1))))))) (Af (Ai (Bk (fk 3 (Ab))))) (BK)) (Af (Bc (ZY.pt (Gj (tLt (vp 4) (iP)) (Cq (tGe (vp 4) (pU (BV T.PM (vp 2))))))) (Af (Ai (Bk (fk 4 (Ab))))) (BK))))) (Af (Ai (Bk (Ab))))
abbrev JX:List Str:=["self"]
def Nm:fc JX ["self"] (Ac JT):=PY
theorem Ij(T:Tx G mg):mu P w G.K mg base CX0 1 T.UB.f T.UB.fd ["self"] (Po G Cy):=
 fn_D (k:=0) (N:=JX) (b:=Gb) T.UB.F Nm .(2) λ_ _ _ _ _ _ I=>Af (Ai (Bh (Nx rfl) cQ rfl T.TK M8 (pU (BV T.TM (vp 0)))))
abbrev Jw:List Str:=["self"]
def Ox:fc Jw ["self"] (Ac Jr):=PY
theorem JZ(T:Tx G mg):mu P w G.K mg base CX0 1 T.WB.f T.WB.fd ["self"] (Po G Dd):=
 fn_D (k:=0) (N:=Jw) (b:=Gz) T.WB.F Ox .(2) λ_ _ _ _ _ _ I=>Af (Ai (Bh (Nx rfl) cQ rfl T.TK M8 (pU (BV T.UM (vp 0)))))
abbrev K_:List Str:=["one","other"]
def RD:fc K_ ["one","other"] (Ac K5):=PY
theorem RG(T:Tx G mg):mu P w G.K mg base (CX1 P w) 2 T.XB.f T.XB.fd ["one","other"] (spZ G Cd):=
 fnZ (k:=1) (N:=K_) (b:=GP) T.XB RD λ_ _ _ _ _ _ I=>DX (Q3 (ZY.pt (Gj (tNe I (pU (mO T.f_ T.r_ (Ij T) I (vr 0))) (pU (mO T.f_ T.r_ (Ij T) I (vr 1)))) (Cq (tNe I (pU (mO T.f_ T.r_ (JZ T) I (vr 0))) (pU (mO T.f_ T.r_ (JZ T) I (vr 1))))))) (DX (rZ0 T.RH (TX))) (Nb))
abbrev HD:List Str:=["one","other","pairs","first","second"]
def Du:fc HD ["one","other","pairs"] (Ac G9):=PY
theorem Dv(T:Tx G mg):mu P w G.K mg base (CX1 P w) 4 T.ZB.f T.ZB.fd ["one","other","pairs"] (spZ G Ak):=
 fnZ (k:=3) (N:=HD) (b:=Bw) T.ZB Du λ_ _ _ _ _ _ I=>Gq (Hu (fZ (RG T) I (fk 0 (fk 1 (Ab))))) (DX (Wy H0 rfl (Bd rfl (vr 2)) (Jl rfl rfl (Bg (gN Du.nd 3) (Bg (gN Du.nd 4) (Ht)))) (Gq (Hu (fZ (CT T) I (Ae (BV T.PM (vp 0)) (fk 3 (Ab)) Bm))) (DX (Hu (fZ (CT T) I (Ae (BV T.PM (vp 1)) (fk 4 (Ab)) Bm)))))))
abbrev Ja:List Str:=["size","paired"]
def Yw:fc Ja ["size","paired"] (Ac Ou):=PY
theorem Ro(T:Tx G mg):VX P w base T.SC 1 (Po G JQ):=
 VS (k:=0) (N:=Ja) (b:=Ot) T.SC Yw λ_ _ _ _ _ _ I=>Af (Ai (Dl (nT Ja "thing") (by show Fx "thing" Ja++(["thing"]:List Str)=_;decide +kernel) (cO (N:=Ja) (sc:=Ac Ou) rfl rfl) rfl (Im rfl T.WJ (vp 0)) (λ_ _ _=>Pb (tNi I (vp 2) (vp 1))) (λ_ _ _=>vr 2)))
abbrev LC:List Str:=["one","other","pair","word"]
def Kc:fc LC ["one","other","pair"] (Ac K6):=PY
theorem RJ(T:Tx G mg):VX P w base T.TC 1 (Po G GQ):=
 VS (k:=0) (N:=LC) (b:=Ia) T.TC Kc λ_ _ _ _ _ _ I=>Ad (Fe iA rfl (Bd rfl (BV T.TM (vp 0))) (Dn (gN Kc.nd 3)) (Af (Bc (tNe I (pU (cIn I (pU (iX I (vp 2) (iP))) (pU (iX I (pU (BV T.TM (vp 0))) (vp 3))))) (pU (cIn I (pU (iX I (vp 2) (iP))) (pU (iX I (pU (BV T.TM (vp 1))) (vp 3)))))) (Af (Ai (KC))) (BK)))) (Af (Ai (KC)))
abbrev LK:List Str:=["one","other","pair","further","word"]
def Kd:fc LK ["one","other","pair","further"] (Ac K7):=PY
theorem Hd(T:Tx G mg):VX P w base T.UC 1 (Po G DN):=
 VS (k:=0) (N:=LK) (b:=Ib) T.UC Kd λ_ _ _ _ _ _ I=>Ad (Fe iA rfl (Bd rfl (BV T.UM (vp 0))) (Dn (gN Kd.nd 4)) (Af (Bc (tNe I (pU (ni I (Ae (iX I (vp 2) (iP)) (Ae (iX I (vp 3) (iP)) (Ab) Az) Az) (pU (iX I (pU (BV T.UM (vp 0))) (vp 4))))) (pU (ni I (Ae (iX I (vp 2) (iP)) (Ae (iX I (vp 3) (iP)) (Ab) Az) Az) (pU (iX I (pU (BV T.UM (vp 1))) (vp 4)))))) (Af (Ai (KC))) (BK)))) (Af (Ai (KC)))
abbrev N8:List Str:=["one","other","pair","further"]
def Ul:fc N8 ["one","other","pair","further"] (Ac Nz):=PY
theorem Um(T:Tx G mg):VX P w base T.VC 2 (Po G Hk):=
 VS (k:=1) (N:=N8) (b:=J5) T.VC Ul λ_ _ _ _ _ _ I=>Ad (Bc (tNe I (pU (cEq I (pU (iX I (vp 2) (iP))) (pU (iX I (vp 3) (iP))))) (pU (cEq I (pU (iX I (vp 2) (iP))) (pU (iX I (vp 3) (iP)))))) (Af (Ai (KC))) (BK)) (Af (Ai (jW (fX (Hd T) I (fk 0 (fk 1 (fk 2 (fk 3 (Ab)))))) (Zk (fX (Hd T) I (fk 0 (fk 1 (fk 3 (fk 2 (Ab))))))))))
abbrev Hz:List Str:=["one","other","pairs","further"]
def W5:fc Hz ["one","other","pairs","further"] (Ac Mp):=PY
theorem QR(T:Tx G mg):VX P w base T.WC 3 (Po G Hx):=
 VS (k:=2) (N:=Hz) (b:=Ma) T.WC W5 λ_ _ _ _ _ _ I=>Ad (Bc (ZY.pt (Gj (Jj (Hh (pU (fX (RJ T) I (fk 0 (fk 1 (fk 3 (Ab)))))) rfl)) (Cq (Jj (Hh (pU (fX (Hd T) I (fk 0 (fk 1 (fk 3 (fk 3 (Ab))))))) rfl))))) (Af (Ai (KC))) (BK)) (Af (Ai (Bh (Qs rfl) Wb rfl T.RI Zu (pU (Dl (nT Hz "pair") (by show Fx "pair" Hz++(["pair"]:List Str)=_;decide +kernel) (cO (N:=Hz) (sc:=Ac Mp) rfl rfl) rfl (WU.top (Bd rfl (vr 2))) (λ_ _ _=>Do) (λ_ _ _=>fX (Um T) I (fk 0 (fk 1 (fk 4 (fk 3 (Ab)))))))))))
abbrev Jx:List Str:=["self","pairs","further"]
def Oz:fc Jx ["self","pairs","further"] (Ac Js):=PY
theorem O3(T:Tx G mg){m:Nat}{I:List D->Option D}(S:3<=m)(J:mu P w G.K mg base CX0 m T.UD.f T.UD.fd ["self","pairs"] (Po G I)):mu P w G.K mg base CX0 (m+1) T.PD.f T.PD.fd ["self","pairs","further"] (Po G (Bx I)):=
 fn_D (k:=m+0) (N:=Jx) (b:=G5 I) T.PD.F Oz .(2) λ_ _ _ _ _ _ O=>Ad (Bc (Jj (Hh (pU (fX (QR T) O (Ae (BV T.QN (vp 0)) (Ae (BV T.ON (vp 0)) (fk 1 (fk 2 (Ab))) Bm) Bm))) rfl)) (Af (Ai (Qg))) (BK)) (Af (Ai (mA T.p0 T.z0 (J) O (vr 0) (Ae (zb rfl rfl rfl T.UK YG rfl T.TK M8 (pU (Ga ut oA (vp 1) (pU (Gk (fk 2 (Ab))))))) (Ab) CK))))
abbrev Di:List Str:=["self","pairs","choices"]
def O4:fc Di ["self","pairs","choices"] (Ac G_):=PY
theorem Jb(T:Tx G mg){m:Nat}{I:List D->Option D}(S:3<=m)(J:mu P w G.K mg base CX0 m T.UD.f T.UD.fd ["self","pairs"] (Po G I)):mu P w G.K mg base CX0 (m+2) T.SD.f T.SD.fd ["self","pairs","choices"] (Po G (A_ I)):=
 fn_D (k:=m+1) (N:=Di) (b:=G6 I) T.SD.F O4 .(2) λ_ _ _ _ _ _ O=>Af (Ai (bH rfl rfl rfl T.YI Lj (pU (Dl (nT Di "further") (by show Fx "further" Di++(["further"]:List Str)=_;decide +kernel) (cO (N:=Di) (sc:=Ac G_) rfl rfl) rfl (WU.top (Bd rfl (vr 2))) (λ_ _ _=>Do) (λ_ _ _=>mA T.p0 T.z0 (O3 T .(0) (J)) O (vr 0) (fk 1 (fk 3 (Ab)))))) (Qg)))
abbrev Ar:List Str:=["self","pairs","firsts","seconds","reached","first","second"]
def B_:fc Ar ["self","pairs"] (Ac CQ):=PY
theorem Np(T:Tx G mg){m:Nat}{I:List D->Option D}(S:3<=m)(J:mu P w G.K mg base CX0 m T.UD.f T.UD.fd ["self","pairs"] (Po G I)):mu P w G.K mg base CX0 (m+3) T.TD.f T.TD.fd ["self","pairs"] (Po G (Cz I)):=
 fn_D (k:=m+2) (N:=Ar) (b:=Gd I) T.TD.F B_ .(2) λ_ _ _ _ _ _ O=>Ad (sF B_.nd 2 (fX (Ro T) O (Ae (BV T.PM (pU (BV T.QN (vp 0)))) (Ae (Dl (nT Ar "pair") (by show Fx "pair" Ar++(["pair"]:List Str)=_;decide +kernel) (cO (N:=Ar) (sc:=Ac CQ) rfl rfl) rfl (WU.top (Bd rfl (vr 1))) (λ_ _ _=>Do) (λ_ _ _=>iX O (vp 7) (iP))) (Ab) Hv) Bm))) (Ad (sF B_.nd 3 (fX (Ro T) O (Ae (BV T.PM (pU (BV T.ON (vp 0)))) (Ae (Dl (nT Ar "pair") (by show Fx "pair" Ar++(["pair"]:List Str)=_;decide +kernel) (cO (N:=Ar) (sc:=Ac CQ) rfl rfl) rfl (WU.top (Bd rfl (vr 1))) (λ_ _ _=>Do) (λ_ _ _=>iX O (vp 7) (iP))) (Ab) Hv) Bm))) (Ad (sW B_.nd 4 (WR (Ab))) (Ad (Fe iA rfl (Bd rfl (vr 2)) (Dn (gN B_.nd 5)) (Af (R8 (pv 4) (mA T.p0 T.z0 (Jb T .(0) (J)) O (vr 0) (fk 1 (Ae (Dl ["self","pairs","firsts","seconds","reached","first","","second"] (by show Fx "second" Ar++(["second"]:List Str)=_;decide +kernel) (cO (N:=Ar) (sc:=Ac CQ) rfl rfl) rfl (WU.top (Bd rfl (vr 3))) (λ_ _ _=>Do) (λ_ _ _=>Gk (fk 5 (fk 7 (Ab))))) (Ab) Hv)))))) (Ad (Fe iA rfl (Bd rfl (vr 3)) (Dn (gN B_.nd 6)) (Af (R8 (pv 4) (mA T.p0 T.z0 (Jb T .(0) (J)) O (vr 0) (fk 1 (Ae (Dl ["self","pairs","firsts","seconds","reached","","second","first"] (by show Fx "first" Ar++(["first"]:List Str)=_;decide +kernel) (cO (N:=Ar) (sc:=Ac CQ) rfl rfl) rfl (WU.top (Bd rfl (vr 2))) (λ_ _ _=>Do) (λ_ _ _=>Gk (fk 7 (fk 6 (Ab))))) (Ab) Hv)))))) (Af (Ai (JD (VL rfl) Xz rfl T.ZI Zn (pU (BV T.TN (vp 0))) (pU (SU (iP) (pU (ur rfl rfl rfl T.ZI Zn (vq 4) (BV T.TN (vp 0)))))))))))))
abbrev Dw:List Str:=["self","pairs"]
def GC:fc Dw ["self","pairs"] (Ac Gh):=PY
theorem GD(T:Tx G mg):∀n:Nat,mu P w G.K mg base CX0 (n*4+3) T.UD.f T.UD.fd ["self","pairs"] (Po G (Al n))
 |0=>tQ
 |n+1=>(fn_D (k:=n*4+6) (N:=Dw) (b:=Br (Al n)) T.UD.F GC .(2) λ_ _ _ _ _ _ I=>mL I.units rfl T.UN rfl (by first | exact eP rfl | exact d6 (eP rfl) | exact d6 (d6 rfl)) rfl (by first | exact eP rfl | exact d6 (eP rfl) | exact d6 (d6 rfl)) (mA T.p0 T.z0 (Np T .(0) (GD T n)) I (vr 0) (fk 1 (Ab)))).mono .(0)
theorem Jf(T:Tx G mg):mu P w G.K mg base CX0 1 T.UD.f T.UD.fd ["self","pairs"] (spP P w G.K "reckoned"):=
 fn_P (k:=0) (N:=Dw) T.UD.F GC rfl λ_ _ _ _ _ _ I=>uw I.units rfl (by first | exact eP rfl | exact d6 (eP rfl) | exact d6 (d6 rfl)) rfl (by first | exact eP rfl | exact d6 (eP rfl) | exact d6 (d6 rfl))
abbrev Ng:List Str:=["one","other","pairs"]
def Z_:fc Ng ["one","other","pairs"] (Ac RC):=PY
theorem aA(T:Tx G mg):VX P w base T.QE 4 (Po G Iz):=
 VS (k:=3) (N:=Ng) (b:=Q8) T.QE Z_ λ_ _ _ _ _ _ I=>Af (Ai (Bh (Qs rfl) Wb rfl T.RI Zu (pU (PN.pf (oR ["one","other","pairs","at","pair"] (by show Ce ["at","pair"] Ng++(["at","pair"]:List Str)=_;decide +kernel) (cO2 (N:=Ng) (sc:=Ac RC) rfl rfl) rfl rfl (WU.top (gk rfl rfl T.UI (vr 2))) (λ_ _ _=>Do) (λ_ _ _=>fX (QR T) I (fk 0 (fk 1 (Ae (Hs rfl (vp 2) (JC) (Gm (vp 3))) (fk 4 (Ab)) Az)))))))))
abbrev LQ:List Str:=["self","pairs","known"]
def Ke:fc LQ ["self","pairs"] (Ac K8):=PY
theorem Hg(T:Tx G mg):mu P w G.K mg base CX0 36 T.RE.f T.RE.fd ["self","pairs"] (Po G Bf):=
 fn_D (k:=35) (N:=LQ) (b:=GR) T.RE.F Ke .(2) λ_ _ _ _ _ _ I=>Ad (sF Ke.nd 2 (za I.units rfl rfl rfl T.UK YG rfl T.TK M8 rfl T.SK yt (vp 1))) (oH (d:=T.UD) I.units rfl T.UN T.p0 rfl (by first | exact eP rfl | exact d6 (eP rfl) | exact d6 (d6 rfl)) rfl (by first | exact eP rfl | exact d6 (eP rfl) | exact d6 (d6 rfl)) (Hh (pU (fX (aA T) I (Ae (BV T.QN (vp 0)) (Ae (BV T.ON (vp 0)) (fk 2 (Ab)) Bm) Bm))) rfl) (Jf T) (I.mono .(0)) (Ai (mA T.p0 T.z0 (GD T 8) I (vr 0) (fk 2 (Ab)))))
abbrev Jy:List Str:=["self","pairs","reached"]
def Jc:fc Jy ["self","pairs"] (Ac Jt):=PY
theorem O5(T:Tx G mg):mu P w G.K mg base CX0 37 T.SE.f T.SE.fd ["self","pairs"] (Po G Dg):=
 fn_D (k:=36) (N:=Jy) (b:=G7) T.SE.F Jc .(2) λ_ _ _ _ _ _ I=>Ad (sF Jc.nd 2 (mA T.p0 T.z0 (Hg T) I (vr 0) (fk 1 (Ab)))) (Af (Ai (bD (VQ I (vp 2) (pU (BV T.TN (vp 0)))) (Zi) (vr 2))))
abbrev Kf:List Str:=["self","one","other"]
def QS:fc Kf ["self","one","other"] (Ac KY):=PY
theorem HF(T:Tx G mg):mu P w G.K mg base CX0 1 T.UE.f T.UE.fd ["self","one","other"] (spI G "Ranks" CP):=
 fn_I (c:="Ranks") (k:=0) (N:=Kf) (b:=HY) T.UE.F QS .(2) λO A I s H E J=>Ed (Ls T.QN (pv 0) (vr 1)) (Ed (Ls T.ON (pv 0) (vr 2)) (Ed (Ls T.UN (pv 0) (zN rfl)) (Ed (Ls T.TN (pv 0) (SU (pU (JD (J9 rfl) Li rfl T.YI Lj (pU (BV T.PM (vp 1))) (pU (BV T.PM (vp 2))))) (iP))) (bu))))
abbrev oX:List Str:=["one","other","pairs"]
def uz:fc oX ["one","other","pairs"] (Ac oV):=PY
theorem u0(T:Tx G mg):VX P w base T.VE 38 (Po G Q9):=
 VS (k:=37) (N:=oX) (b:=Z7) T.VE uz λ_ _ _ _ _ _ I=>Ad (JF (fX (cY (Dv T)) I (fk 0 (fk 1 (fk 2 (Ab)))))) (Af (Ai (mA T.p0 T.z0 (O5 T) I (T4 T.p0 T.UE.mM (HF T) (I.mono .(0)) rfl T.x4 T.UE.B (fk 0 (fk 1 (Ab)))) (fk 2 (Ab)))))
abbrev Mz:List Str:=["_law_e","_law_due","_law_found"]
def LR:fc Mz ["_law_e","_law_due"] (Ac Mq):=PY
theorem GX(T:Tx G mg):VX P w base T.WE 1 (Po G Aw):=
 VS (k:=0) (N:=Mz) (b:=Mg) T.WE LR λ_ _ _ _ _ _ I=>Ad (Bc (ZY.pt (Gj (bN (vp 0)) (Cq (VQ I (vp 1) (pU (Bk (Ab))))))) (Af (Ai (jW (zA (vp 0)) (Zk (cEq I (vp 1) (pU (Bk (Ab)))))))) (BK)) (Ad (Bc (ZY.pt (Gj (Jj (Hh (pU (UW rfl T.xt T.k_0 rfl T.VI Fy (vr 0) (nQ rfl T.QI U_))) rfl)) (Cq (Hh (pU (UW rfl T.xt T.k_1 rfl T.VI Fy (vr 0) (gU (Kp T.TH.m (Kp T.UH.m (Kp T.WH.m (Kp T.ZH.m (gR)))))))) rfl)))) (Af (Ai (KC))) (BK)) (Ad (sF LR.nd 2 (Bk (Ae (UW rfl T.xt T.k_4 rfl T.VI Fy (vr 0) (Q5 rfl T.RH.m)) (Ae (UW rfl T.xt T.k_3 rfl T.VI Fy (vr 0) (Q5 rfl T.PH.m)) (Ae (UW rfl T.xt T.k_2 rfl T.VI Fy (vr 0) (Q5 rfl T.SH.m)) (Ab) CK) CK) CK))) (Ad (Bc (tNe I (vp 2) (pU (Bk (Ae (cEq I (pU (iX I (vp 1) (iP))) (sP)) (Ae (cEq I (pU (iX I (vp 1) (iP))) (sP)) (Ae (cEq I (pU (iX I (vp 1) (iP))) (sP)) (Ab) Oo) Oo) Oo)))) (Af (Ai (KC))) (BK)) (Af (Ai (ABL (cNe I (pU (iX I (vp 1) (iP))) (sP)) (Zk (cEq I (pU (ue rfl T.xt (vr 0) T.OI)) (pU (iX I (vp 1) (iP)))))))))))
abbrev M3:List Str:=["ranks","side"]
def Rw:fc M3 ["ranks","side"] (Ac Mr):=PY
theorem Ih(T:Tx G mg):VX P w base T.XE 1 (Po G C_):=
 VS (k:=0) (N:=M3) (b:=JR) T.XE Rw λ_ _ _ _ _ _ I=>Af (Ai (bD (VQ I (vp 1) (iP)) (BV T.PM (pU (BV T.QN (vp 0)))) (BV T.PM (pU (BV T.ON (vp 0))))))
abbrev Vq:List Str:=["side","thing","replied"]
def aB:fc Vq ["side","thing","replied"] (Ac Vp):=PY
theorem aC(T:Tx G mg):VX P w base T.YE 1 (Po G Nf):=
 VS (k:=0) (N:=Vq) (b:=Q_) T.YE aB λ_ _ _ _ _ _ I=>Af (Ai (bD (VQ I (vp 0) (iP)) (Gk (fk 1 (fk 2 (Ab)))) (Gk (fk 2 (fk 1 (Ab))))))
abbrev H_:List Str:=["ranks","side","thing"]
def W6:fc H_ ["ranks","side","thing"] (Ac Ms):=PY
theorem W7(T:Tx G mg):VX P w base T.ZE 2 (Po G Hy):=
 VS (k:=1) (N:=H_) (b:=Mh) T.ZE W6 λ_ _ _ _ _ _ I=>Af (Ai (Dl (nT H_ "replied") (by show Fx "replied" H_++(["replied"]:List Str)=_;decide +kernel) (cO (N:=H_) (sc:=Ac Ms) rfl rfl) rfl (Im rfl T.WJ (pU (fX (Ih T) I (fk 0 (Ae (bSub (iP) (vp 1)) (Ab) Et))))) (λ_ _ _=>Do) (λ_ _ _=>fX (aC T) I (fk 1 (fk 2 (fk 3 (Ab)))))))
abbrev Fb:List Str:=["ranks","pairs","side","thing"]
def Ry:fc Fb ["ranks","pairs","side","thing"] (Ac JV):=PY
theorem La(T:Tx G mg):VX P w base T.RF 37 (Po G FJ):=
 VS (k:=36) (N:=Fb) (b:=JS) T.RF Ry λ_ _ _ _ _ _ I=>Af (Ai (Dl (nT Fb "pair") (by show Fx "pair" Fb++(["pair"]:List Str)=_;decide +kernel) (cO (N:=Fb) (sc:=Ac JV) rfl rfl) rfl (WU.top (Bd rfl (fX (W7 T) I (fk 0 (fk 2 (fk 3 (Ab))))))) (λ_ _ _=>Do) (λ_ _ _=>mA T.p0 T.z0 (Hg T) I (vr 0) (Ae (SU (vp 1) (pU (Bk (fk 4 (Ab))))) (Ab) Et))))
abbrev Lb:List Str:=["ranks","pairs","reached","side","thing"]
def Fo:fc Lb ["ranks","pairs"] (Ac K9):=PY
theorem RK(T:Tx G mg):mu P w G.K mg base (CX1 P w) 38 T.UF.f T.UF.fd ["ranks","pairs"] (spZ G CJ):=
 fnZ (k:=37) (N:=Lb) (b:=Eg) T.UF Fo λ_ _ _ _ _ _ I=>Gq (VW.x (sF Fo.nd 2 (mA T.p0 T.z0 (Hg T) I (vr 0) (fk 1 (Ab))))) (Gq (Q3 (ZY.pt (Gj (VQ I (vp 2) (iP)) (Cq (VQ I (vp 2) (pU (BV T.TN (vp 0))))))) (DX (rZ0 T.SH (TX))) (Nb)) (DX (Wy H0 rfl (Bd rfl (Gk (iI (iI (Ab))))) (Dn (gN Fo.nd 3)) (DX (Wy H0 rfl (Im rfl T.WJ (pU (fX (Ih T) I (fk 0 (fk 3 (Ab)))))) (Dn (gN Fo.nd 4)) (DX (Q3 (tLt (pU (bH rfl rfl rfl T.YI Lj (pU (fX (La T) I (fk 0 (fk 1 (fk 3 (fk 4 (Ab))))))) (Qg))) (vp 2)) (DX (VW.x (Ai (Gk (fk 3 (fk 4 (Ab))))))) (Nb))))))))
abbrev Uo:List Str:=["one","other","pairs"]
def Yx:fc Uo ["one","other","pairs"] (Ac Ug):=PY
theorem Yy(T:Tx G mg):mu P w G.K mg base (CX1 P w) 39 T.OG.f T.OG.fd ["one","other","pairs"] (spZ G DG):=
 fnZ (k:=38) (N:=Uo) (b:=K1) T.OG Yx λ_ _ _ _ _ _ I=>Gq (Hu (fZ (Dv T) I (fk 0 (fk 1 (fk 2 (Ab)))))) (DX (cR (fZ (RK T) I (Ae (T4 T.p0 T.UE.mM (HF T) (I.mono .(0)) rfl T.x4 T.UE.B (fk 0 (fk 1 (Ab)))) (Ae (M7 (Il.or (Io rfl)) NB rfl T.XI Pg (vp 2)) (Ab) CK) CK))))
abbrev QT:List Str:=["ranks","pairs","side","thing","behind"]
def N_:fc QT ["ranks","pairs","side","thing"] (Ac QK):=PY
theorem VJ(T:Tx G mg):mu P w G.K mg base (CX1 P w) 38 T.SG.f T.SG.fd ["ranks","pairs","side","thing"] (spZ G Fl):=
 fnZ (k:=37) (N:=QT) (b:=G8) T.SG N_ λ_ _ _ _ _ _ I=>Gq (Hu (fZ (CT T) I (Ae (fX (Ih T) I (fk 0 (fk 2 (Ab)))) (fk 3 (Ab)) CK))) (Gq (VW.x (sF N_.nd 4 (fX (La T) I (fk 0 (fk 1 (fk 2 (fk 3 (Ab)))))))) (DX (VW.x (Ai (bD (tGt (pU (Bh ((By rfl).or CN) Dq rfl T.WI Fv (vp 4))) (iP)) (oO rfl (vp 4) (Bh (gr rfl rfl) oK rfl T.YI Lj (vp 4))) (Zi))))))
abbrev dG:List Str:=["one","other","pairs","side","thing"]
def oY:fc dG ["one","other","pairs","side","thing"] (Ac dF):=PY
theorem oZ(T:Tx G mg):mu P w G.K mg base (CX1 P w) 39 T.WG.f T.WG.fd ["one","other","pairs","side","thing"] (spZ G Hl):=
 fnZ (k:=38) (N:=dG) (b:=Sg) T.WG oY λ_ _ _ _ _ _ I=>Gq (Hu (fZ (Dv T) I (fk 0 (fk 1 (fk 2 (Ab)))))) (DX (cR (fZ (VJ T) I (Ae (T4 T.p0 T.UE.mM (HF T) (I.mono .(0)) rfl T.x4 T.UE.B (fk 0 (fk 1 (Ab)))) (Ae (M7 (Il.or (Io rfl)) NB rfl T.XI Pg (vp 2)) (fk 3 (fk 4 (Ab))) CK) CK))))
abbrev OD:List Str:=["_law_way","_law_here","_law_there","_law_row","_law_side","_law_thing","_law_caught_here","_law_e"]
def HJ:fc OD ["_law_way","_law_here","_law_there","_law_row","_law_side","_law_thing"] (Ac N5):=PY
theorem HN(T:Tx G mg):VX P w base T.XG 40 (Po G Aq):=
 VS (k:=39) (N:=OD) (b:=Ei) T.XG HJ λ_ _ _ _ _ _ I=>Ad (sF HJ.nd 6 (Zi)) (Ad (uc (cs:=cs_) (i:=7) rfl rfl HJ.nd rfl rfl rfl T.r.m T.r.x (um T.xt) (λ_ _=>Gq (Q3 (VQ I (vp 0) (iP)) (DX (Hu (fZ (Yy T) I (fk 1 (fk 2 (fk 3 (Ab))))))) (Nb)) (DX (Q3 (VQ I (vp 0) (iP)) (DX (Hu (fZ (oZ T) I (fk 1 (fk 2 (fk 3 (fk 4 (fk 5 (Ab))))))))) (Nb)))) (λ_=>Af (sF HJ.nd 6 (vr 7)))) (Af (Ai (vr 6))))
abbrev Yz:List Str:=["_law_script","_law_first","_law_second","_law_marks","_law_here","_law_there","_law_row","_law_side","_law_size","_law_thing","_law_bad_here","_law_due","_law_most"]
def Ea:fc Yz ["_law_script"] (Ac oW):=PY
theorem zq(T:Tx G mg):VX P w base T.OH 41 (Po G Vo):=
 VS (k:=40) (N:=Yz) (b:=oU) T.OH Ea λ_ _ _ _ _ _ I=>Ad (WY (Jl rfl rfl (Bg (gN Ea.nd 1) (Bg (gN Ea.nd 2) (Ht)))) (fX (VG T) I (Ae (Dl (nT Yz "_law_k") (by show Fx "_law_k" Yz++(["_law_k"]:List Str)=_;decide +kernel) (cO (N:=Yz) (sc:=Ac oW) rfl rfl) rfl (Im rfl T.WJ (iP)) (λ_ _ _=>Do) (λ_ _ _=>fX (Cj T) I (fk 0 (fk 13 (Ab))))) (Ab) Hv))) (Ad (sW Ea.nd 3 (WW rfl T.SI WQ (pU (iX I (vp 2) (iP))))) (Ad (Bc (VQ I (pU (OZ (pU (fX (Cj T) I (fk 0 (iI (Ab))))) (iP))) (iP)) (Af (Jk (Hr I) (pv 3) (TX) (Bk (Ab)))) (BK)) (Ad (sF Ea.nd 4 (T4 T.f_ T.XA.mM (Jv T) (I.mono .(0)) rfl T.s_ T.XA.B (Ae (iX I (vp 1) (iP)) (Ae (iX I (vp 1) (iP)) (Ae (iX I (vp 1) (iP)) (Ab) Az) Az) Az))) (Ad (Ln [3] (sF Ea.nd 5 (T4 T.f_ T.XA.mM (Jv T) (I.mono .(0)) rfl T.s_ T.XA.B (Ae (iX I (vp 2) (iP)) (fk 3 (Ae (iX I (vp 2) (iP)) (Ab) Az)) Az)))) (Ad (sF Ea.nd 6 (fX (W4 T) I (fk 0 (fk 4 (fk 5 (Ab)))))) (Ad (sF Ea.nd 7 (OZ (pU (RY (pU (fX (Cj T) I (fk 0 (iI (Ab))))) (iP))) (iP))) (Ad (sF Ea.nd 8 (iX I (pU (Bk (Ae (BV T.PM (vp 4)) (Ae (BV T.PM (vp 5)) (Ab) Bm) Bm))) (vp 7))) (Ad (sF Ea.nd 9 (fX (Ig T) I (Ae (RY (pU (fX (Cj T) I (fk 0 (iI (Ab))))) (iP)) (fk 8 (Ab)) Et))) (Ad (Bc (ZY.pt (WK (VQ I (pU (OZ (pU (RY (pU (fX (Cj T) I (fk 0 (iI (Ab))))) (iP))) (iP))) (iP)) (Oe (tGt (vp 8) (iP))))) (Af (sF Ea.nd 9 (OZ (pU (RY (pU (fX (Cj T) I (fk 0 (iI (Ab))))) (iP))) (vp 8)))) (BK)) (Ad (sF Ea.nd 10 (fX (Yv T) I (fk 6 (fk 4 (fk 5 (Ab)))))) (Ad (sF Ea.nd 11 (Bk (Ab))) (Ad (Bc (VQ I (pU (OZ (pU (fX (Cj T) I (fk 0 (iI (Ab))))) (iP))) (iP)) (Af (sF Ea.nd 11 (Bk (iS (Ab))))) (Af (Bc (tNe I (vp 10) (pU (Bk (Ab)))) (Af (sF Ea.nd 11 (Bk (iS (Ae (iX I (vp 10) (iP)) (Ab) Az))))) (BK)))) (Ad (Bc (tNe I (vp 11) (pU (Bk (Ab)))) (Ad (Bc (Jj (Hh (pU (fX (GX T) I (Ae (fX (HN T) I (iI (fk 4 (fk 5 (fk 6 (fk 7 (fk 9 (Ab)))))))) (fk 11 (Ab)) CK))) rfl)) (Af (Ai (KC))) (BK)) (Af (Ai (fX (GX T) I (Ae (fX (HN T) I (iI (fk 4 (fk 5 (fk 6 (fk 7 (fk 9 (Ab)))))))) (fk 11 (Ab)) CK))))) (BK)) (Ad (sF Ea.nd 12 (fX (u0 T) I (fk 4 (fk 5 (fk 6 (Ab)))))) (Ad (Bc (ZY.pt (Gj (bN (vp 12)) (Cq (VQ I (vp 12) (iP))))) (Af (sF Ea.nd 11 (Bk (iS (Ab))))) (BK)) (Ad (Bc (Jj (Hh (pU (fX (GX T) I (Ae (fX (HN T) I (iI (fk 4 (fk 5 (fk 6 (fk 7 (fk 9 (Ab)))))))) (fk 11 (Ab)) CK))) rfl)) (Af (Ai (KC))) (BK)) (Ad (sF Ea.nd 11 (Bk (Ab))) (Ad (Bc (ZY.pt (Gj (tLt (vp 9) (iP)) (Cq (tGe (vp 9) (vp 8))))) (Af (sF Ea.nd 11 (Bk (iS (fk 9 (Ab)))))) (BK)) (Af (Ai (fX (GX T) I (Ae (fX (HN T) I (iI (fk 4 (fk 5 (fk 6 (fk 7 (fk 9 (Ab)))))))) (fk 11 (Ab)) CK))))))))))))))))))))))
end
abbrev gx (K:ay) (c_ w_:Addr) (l:List (Str×Addr)):Gx:=gxM K [("World",c_),("Ranks",w_)] l
def xM(K:ay):Sp:=λvs H Q _=>∃(a:Addr) (S:List Int),vs=[.ref a]/\Qr K H a (S.map V.int)/\S.length<=63/\(∀i∈S,i8 i<=1048576)/\∀I,Q (.bl E3) I
theorem zr(Y:∀ns:List Int,ns.length<=63->(∀i∈ns,i8 i<=1048576)->Vo [.lst (ns.map .int)]=O0 (.bl E3)){K:ay}{I J:Addr}{l:List (Str×Addr)}(vs:List V)(H:Hp)(Q:VK)(E:XK)(h:xM K vs H Q E):Po (gx K I J l) Vo vs H Q E:=by
 obtain⟨a,ns,rfl,hs,Z,S,k⟩:=h;refine⟨[],[.lst (ns.map .int)],.bl E3,(λ_ z=>nomatch z),fy.cons ?_ fy.nil,Y ns Z S,λv H2 _ r=>?_⟩
 .have e:lu [] H=H:=by funext b;exact Cg (λz=>nomatch z)
  rw[e];refine .lst hs .(1) λi x d O T=>?_;rw[db] at O T;cases U:ns[i]? with
  |none=>rw[U] at O;cases O
  |some z=>rw[U] at O T;cases O;cases T;exact .int z
 .cases r;exact k H2
end K63
section
open PySem L2 PV
local macro_rules | `(tactic| w_up) => `(tactic| (rw [List.map_cons, Ds, UU, J2, Jm]; simp only [List.set_cons_zero, List.set_cons_succ]))
local macro_rules|`(tactic|simp only[cK,$ls,*]$[$l:location]?)=>`(tactic|simp only[$(zzL0 "Em Re e_rt wI e_if wJ wK YD Tp wL j9 j_ bR e_b e_bs e_u e_us kE bT kI bU kJ wO kO kW kZ Zv kh kj km e_bl wQ k_ bV bW wR lA lC lD lE bY wU lF lG e_sl wV wW bZ YF e_v TU e_vU wX e_k Tq Tr Oh lH lJ lK Lq lL Dr KJ e_tr Zw Wg wj lO Qv Ds Dm Pu J2 UU Jm List.length_cons List.length_nil List.map_cons List.map_nil List.cons_append List.nil_append List.replicate_succ List.replicate_zero List.getElem?_cons_zero List.getElem?_cons_succ List.set_cons_zero List.set_cons_succ Nat.reduceAdd Nat.reduceSub Nat.reduceEqDiff Nat.zero_add truB Bool.not_true Bool.not_false decide_true decide_false List.append_nil Int.reduceLT Int.reduceLE Int.reduceNeg Int.reduceEq Int.reduceToNat Nat.reduceLeDiff ix0 ixt0 ixt1" "" ls),*]$[$l:location]?)
local macro_rules | `(tactic| simp only [cK]) => `(tactic| simp only [cK, Re])
local macro_rules|`(tactic|simp only[kC,$ls,*]$[$l:location]?)=>`(tactic|simp only[$(zzL0 "" "Em Re e_rt wI e_if wJ wK YD Tp wL j9 j_ bR e_b e_bs e_u e_us kE bT kI bU kJ wO kO kW kZ Zv kh kj km e_bl wQ k_ bV bW wR lA lC lD lE bY wU lF lG e_sl wV wW bZ YF e_v TU e_vU wX e_k Tq Tr Oh lH lJ lK Lq lL Dr KJ e_tr Zw Wg wj lO Qv Ds Dm Pu J2 UU Jm List.length_cons List.length_nil List.map_cons List.map_nil List.cons_append List.nil_append List.replicate_succ List.replicate_zero List.getElem?_cons_zero List.getElem?_cons_succ List.set_cons_zero List.set_cons_succ Nat.reduceAdd Nat.reduceSub Nat.reduceEqDiff Nat.zero_add truB Bool.not_true Bool.not_false decide_true decide_false List.append_nil Int.reduceLT Int.reduceLE Int.reduceNeg Int.reduceEq Int.reduceToNat Nat.reduceLeDiff ix0 ixt0 ixt1" ls),*]$[$l:location]?)
local macro_rules|`(tactic|simp only[kiC,$ls,*]$[$l:location]?)=>`(tactic|simp only[$(zzL0 "kC" "Dk CZ J1 Qt Pn YC Vd Ii bQ" ls),*]$[$l:location]?)
local macro_rules|`(tactic|simp only[dK,$ls,*]$[$l:location]?)=>`(tactic|simp only[$(zzL0 "cK lX lY NK Wi Wj Ca DW NP NQ Rf Lw lZ bw wu ww lg Km Rg" "" ls),*]$[$l:location]?)
local macro_rules|`(tactic|simp only[ciK,$ls,*]$[$l:location]?)=>`(tactic|simp only[$(zzL0 "cK Dk CZ J1 Qt Pn YC Vd Ii bQ" "" ls),*]$[$l:location]?)
local macro_rules|`(tactic|simp only[diK,$ls,*]$[$l:location]?)=>`(tactic|simp only[$(zzL0 "dK Dk CZ J1 Qt Pn YC Vd Ii bQ" "" ls),*]$[$l:location]?)
namespace K63
open PySem L2 PV
def Nh(S:List Int)(k:Nat):An [.lst (S.map .int),.int (k:Int)]=O0 (.int (S.getD k 0)):=by
 by_cases h:k<S.length
 .have I:S.getD k 0=S[k]:=by simp[h]
  rw[I];have e:atI (S.map D.int) (k:Int)=O0 (.int S[k]):=by
   rw[zB .(0) (by simpa using h)];simp[h]
  simp[An,oo,Jp,bc,OV,tx,bF,vF,uF,Ek,lenD,Pn,h,im,ixD,e]
 .have I:S.getD k 0=0:=by simp[mE.mp h]
  rw[I];simp[An,oo,Jp,bc,OV,tx,bF,vF,uF,Ek,lenD,Pn,h,im,Pc,kF]
def zu(x:Str):(cs x).length=x.length:=by simp[cs,yB]
def dH(L:List D)(x:D)(h:L.length<=1000):appL (.lst L) x=O0 (.lst (L++[x])):=by
 unfold appL;show (if L.length<sizeLine then O0 (D.lst (L++[x])) else W1)=_;rw[ZN (sN h .(2))]
def ET(t:Int):D:=.exc "NoThing" [("thing",.int t)]
def Sm(t:Int):Prop:=okID (.int t)=E3
def Bad(n:Nat)(t:Int):Prop:=t<0∨(n:Int)<=t
instance (n:Nat) (t:Int):Decidable (Bad n t):=by unfold Bad;infer_instance
def exO(c f:Str)(ok:D->Bool)(o:Option D):Option D:=o.bind λd=>if ok d=E3 then O0 (.exc c [(f,d)]) else W1
def oh(c f:Str)(ok:D->Bool)(I:FE)(ρ:Rho):excF c f ok I ρ=exO c f ok (I ρ):=nq _
def ABh{ok:D->Bool}(h:ok d=E3):exO c f ok (O0 d)=O0 (.exc c [(f,d)]):=by
 show (if ok d=E3 then _ else _)=_;rw[ZN h]
def dzO(ρ:Rho)(o:Option D):Option To:=o.map λd=>match Pe d with | some _=>.rt d ρ | none=>.nx ρ
def Dj(f:FE)(ρ:Rho):L_ f ρ=dzO ρ (f ρ):=nq _
def Rp(ρ:Rho):dzO ρ (O0 .non)=O0 (.nx ρ):=nq _
def Rq(ρ:Rho)(c:Str)(O:List (Str×D)):dzO ρ (O0 (.exc c O))=O0 (.rt (.exc c O) ρ):=nq _
def xN(h:g ds=O0 d)(I:Pe d=W1):noX g ds=O0 d:=by
 show (g ds).bind nxD=_;rw[h];show nxD d=_;unfold nxD;rw[I]
def QV(n:Nat)(t:Int)(h:¬ Bad n t):Am [.int (n:Int),.int t]=O0 .non:=by
 have O:¬ (t<0):=λz=>h (.inl z);have Y:¬ ((n:Int)<=t):=λz=>h (.inr z);simp only[ciK,Am,DY,O,Y]
theorem Ur(n:Nat)(t:Int)(hs:Sm t)(h:Bad n t):Am [.int (n:Int),.int t]=O0 (ET t):=by
 have I:exO "NoThing" "thing" okID (O0 (.int t))=O0 (ET t):=ABh (c:="NoThing") (f:="thing") (ok:=okID) (d:=.int t) hs
 by_cases O:t<0
 .simp only[ciK,Am,DY,O,oh,I]
 .have Y:(n:Int)<=t:=h.resolve_left O;simp only[ciK,Am,DY,O,Y,oh,I]
def W8{t:Nat}(h:t<n):¬ Bad n (t:Int):=λz=>by rcases z with z | z<;>omega
def Us(n:Nat)(t:Nat)(h:t<n):noX Am [.int (n:Int),.int (t:Int)]=O0 .non:=xN (QV n t (W8 h)) rfl
def ou{t:Nat}(h:t∉l):(.inl (t:Int):Key)∉(l.map λ(t:Nat)=>((.inl (t:Int):Key),D.bl E3)).map (·.1):=by
 intro z;rw[cp] at z;obtain⟨u,T,e⟩:=bv.mp z;simp at e;have S:u=t:=by omega
 exact h (S▸T)
theorem Vr(n:Nat)(x O:Slot):∀(r p:List Nat) (z:Slot),(p++r).Nodup->(∀t∈r,t<n)->(p++r).length<=100 ->
  ∃S,OS (XU (CW 3) GK) (r.map iN) [.fz (.int (n:Int)),x,.ow (kM p),z]=O0 (.nx [.fz (.int (n:Int)),x,.ow (kM (p++r)),S])
 |[],p,z,_,_,_=>⟨z,by rw[gg];rfl⟩
 |t::r,p,z,J,Z,I=>by
  have U:t∉p:=by
   intro q;rw[fR] at J;exact J.2.2 t q t .(1) rfl
  have e1:=Us n t (Z t .(1));have e2:Dp (kM p) (.int (t:Int)) (.bl E3)=O0 (kM (p++[t])):=by
   show Dp (.dk _) _ _=_;rw[zG _ _ _ (by simp at I ⊢;omega),Pi (ou U)];simp[kM]
  have b:GK [.fz (.int (n:Int)),x,.ow (kM p),.fz (iN t)]=O0 (.nx [.fz (.int (n:Int)),x,.ow (kM (p++[t])),.fz (iN t)]):=by
   simp only[dK,GK,e1,e2]
  obtain⟨S,T⟩:=Vr n x O r (p++[t]) (.fz (iN t)) (by simpa using J) (λu Y=>Z u (by simp[Y])) (by simpa using I);refine⟨S,?_⟩
  w_up
  rw[b,Dm,T];simp
def u9(n:Nat)(l:List Nat)(J:l.Nodup)(Z:∀t∈l,t<n)(I:l.length<=100):Eh [.int (n:Int),lM l]=O0 (kM l):=by
 obtain⟨S,e⟩:=Vr n (.fz (lM l)) .un l [] .un (by simpa using J) Z (by simpa using I);rw[ko] at e;have O:(D.dk [])=kM []:=rfl;simp only[dK,Eh,J4,O,lM,e] at e ⊢
def o7{t:Nat×Nat}{l:List (Nat×Nat)}(h:t∉l):[(.inl (t.1:Int):Key),.inl (t.2:Int)]∉(l.map λ(q:Nat×Nat)=>([(.inl (q.1:Int):Key),.inl (q.2:Int)],D.bl E3)).map (·.1):=by
 intro z;rw[cp] at z;obtain⟨u,T,e⟩:=bv.mp z;simp at e;have S:u=t:=by
  obtain⟨a,b⟩:=u;obtain⟨c,d⟩:=t;simp at e ⊢;omega
 exact h (S▸T)
theorem Ut(n:Nat)(x:Slot):∀(r p:List (Nat×Nat)) (z Z:Slot),(p++r).Nodup->(∀t∈r,t.1<n/\t.2<n)->(p++r).length<=100 ->
  ∃S J,OS (XU (Pv 2 (Bb 3 (Bb 4 Pw))) Gy) (r.map pN) [.fz (.int (n:Int)),x,.ow (kT p),z,Z]=O0 (.nx [.fz (.int (n:Int)),x,.ow (kT (p++r)),S,J])
 |[],p,z,Z,_,_,_=>⟨z,Z,by rw[gg];rfl⟩
 |t::r,p,z,Z,O,T,I=>by
  have Y:t∉p:=by
   intro q;rw[fR] at O;exact O.2.2 t q t .(1) rfl
  have e1:=Us n t.1 (T t .(1)).1;have U:=Us n t.2 (T t .(1)).2;have e2:Pk (kT p) [.int (t.1:Int),.int (t.2:Int)] (.bl E3)=O0 (kT (p++[t])):=by
   show Pk (.dt _) _ _=_;rw[zH _ _ _ _ (by simp at I ⊢;omega),Pi (o7 Y)];simp[kT]
  have b:Gy [.fz (.int (n:Int)),x,.ow (kT p),.fz (.int (t.1:Int)),.fz (.int (t.2:Int))]=O0 (.nx [.fz (.int (n:Int)),x,.ow (kT (p++[t])),.fz (.int (t.1:Int)),.fz (.int (t.2:Int))]):=by
   simp only[dK,Gy,e1,U,e2]
  obtain⟨S,J,ih⟩:=Ut n x r (p++[t]) (.fz (.int (t.1:Int))) (.fz (.int (t.2:Int))) (by simpa using O) (λu hu=>T u (by simp[hu])) (by simpa using I);refine⟨S,J,?_⟩;rw[bn,Ds,UU,Km,Jm];simp only[fq,fw];rw[b,Dm,ih];simp
def o8(n:Nat)(l:List (Nat×Nat))(O:l.Nodup)(Z:∀t∈l,t.1<n/\t.2<n)(I:l.length<=100):Fi [.int (n:Int),lT l]=O0 (kT l):=by
 obtain⟨T,J,e⟩:=Ut n (.fz (lT l)) l [] .un .un (by simpa using O) Z (by simpa using I);rw[ko] at e;have S:(D.dt [])=kT []:=rfl;simp only[dK,Fi,Kv,S,lT,e] at e ⊢
def zx(c:Nat):inD ZA (.str ⟨#[c]⟩) (.str LET)=O0 (.bl (!(pT LET ⟨#[c]⟩ 0 LET.length 1).isEmpty)):=nq _
def zy:∀c∈cs LET,(!(pT LET ⟨#[c]⟩ 0 LET.length 1).isEmpty)=E3:=by decide +kernel
def u_{x:Str}(h:x∉KEPT):ZU ZA (.str x) YN=O0 (.bl ZA):=by
 have e:ZU ZA (.str x) YN=inD ZA (.str x) (.lst (KEPT.map .str)):=rfl;rw[e,t6];have:(KEPT.any λy=>y==x)=ZA:=by
  rw[IT];intro y I S;have:=beq_iff_eq.mp S;exact h (this▸I)
 rw[this]
def zz(x:Str)(h:x.length<=10000000):Pf (.str x)=O0 (.int x.length):=ABU x h
theorem dI{x:Str}(h:Wd x):Fj [.str x]=O0 (.bl E3):=by
 have k:=u_ h.kept;have h1:=h.lo;have h2:=h.hi;have l:=zz x .(0);have Y:¬ ((x.length:Int)=0):=by omega
 have T:¬ ((8:Int)<x.length):=by omega
 have S:∀l:List Nat,(∀c∈l,c∈cs LET)->J_ [.fz (.str x)] OQ Hw (l.map λc=>.str ⟨#[c]⟩)=O0 (l.map λ_=>.bl E3):=by
  intro l
  induction l with
  |nil=>intro _;rfl
  |cons c r I=>
   intro Z;have v:Hw ([.fz (.str x)]++[.fz (.str ⟨#[c]⟩)])=O0 (.bl E3):=by
    have e:ZU ZA (.str ⟨#[c]⟩) (.str LET)=O0 (.bl E3):=by
     show inD ZA (.str ⟨#[c]⟩) (.str LET)=_;rw[zx,zy c (Z c .(1))]
    have O:(eJ "abcdefghijklmnopqrstuvwxyz")=LET:=rfl;simp only[cK,Hw,O,e]
   rw[bn,Kl,lH,v,I λd J=>Z d (by simp[J])];rfl
 have U:Bo (zv (vF 0)) OQ Hw [.fz (.str x)]=O0 (.lst ((cs x).map λ_=>.bl E3)):=by
  refine R9 (ds:=(cs x).map λc=>.str ⟨#[c]⟩) (by rfl) (by rw[aI,zu];omega) (S (cs x) h.isL)
 have al:∀l:List Nat,allD (.lst (l.map λ_=>.bl E3))=O0 (.bl E3):=by
  intro l;have q:∀l:List Nat,UX (l.map λ_=>D.bl E3)=O0 (l.map λ_=>E3):=by
   intro l
   induction l with
   |nil=>rfl
   |cons c r I=>simp[UX,I]
  show (UX (l.map λ_=>D.bl E3)).map _=_;rw[q];simp
 simp only[ciK,Fj,Q7,k,l,Y,T,U,al]
def Uu(i j:Int)(h:i<=j):Bv [.int i,.int j]=O0 .non:=by
 have c:¬ (j<i):=by omega
 simp only[ciK,Bv,JP,c]
abbrev fS (n:Nat):Str×Bool×D:=("size",ZA,.int (n:Int))
abbrev fM (ms:List (Str×List Nat)):Str×Bool×D:=("marked",E3,.dk (oM ms))
abbrev fT (ts:List (Str×List (Nat×Nat))):Str×Bool×D:=("tied",E3,.dk (oT ts))
def q1:(("marked":Str)=="size")=ZA:=by decide +kernel
def q2:(("tied":Str)=="size")=ZA:=by decide +kernel
def q3:(("tied":Str)=="marked")=ZA:=by decide +kernel
def n1:¬ (("size":Str)="marked"):=by decide +kernel
def n2:¬ (("size":Str)="tied"):=by decide +kernel
def n3:¬ (("marked":Str)="tied"):=by decide +kernel
def lkM(n:Nat)(d e:D):ce ("marked":Str) [fS n,("marked",E3,d),("tied",E3,e)]=O0 (E3,d):=by
 rw[cr,q1];show ce ("marked":Str) [("marked",E3,d),("tied",E3,e)]=_;rw[cr,show (("marked":Str)=="marked")=E3 by decide +kernel]
def lkT(n:Nat)(d e:D):ce ("tied":Str) [fS n,("marked",E3,d),("tied",E3,e)]=O0 (E3,e):=by
 rw[cr,q2];show ce ("tied":Str) [("marked",E3,d),("tied",E3,e)]=_;rw[cr,q3];show ce ("tied":Str) [("tied",E3,e)]=_;rw[cr,show (("tied":Str)=="tied")=E3 by decide +kernel]
def rpM(n:Nat)(d e d':D):So "marked" d' [fS n,("marked",E3,d),("tied",E3,e)]=[fS n,("marked",E3,d'),("tied",E3,e)]:=by
 unfold So So;rw[OO n1,ZN rfl]
def rpT(n:Nat)(d e S:D):So "tied" S [fS n,("marked",E3,d),("tied",E3,e)]=[fS n,("marked",E3,d),("tied",E3,S)]:=by
 unfold So So So;rw[OO n2,OO n3,ZN rfl]
def Jd{I:Type}{w:Str}(f:I->D){l:List (Str×I)}(h:w∉l.map (·.1)):(.inr w:Key)∉(l.map λp=>((.inr p.1:Key),f p.2)).map (·.1):=by
 intro z;rw[cp] at z;obtain⟨u,T,e⟩:=bv.mp z;simp at e;exact h (bv.mpr ⟨u,T,e⟩)
theorem Uv(n:Nat)(hn:n<=5)(x:Addr)(a b:D)(e:D)(I:Slot):∀(r p:List (Str×List Nat)) (U T:Slot),((p++r).map (·.1)).Nodup->(∀q∈r,Wd q.1/\q.2.Nodup/\q.2.length<=100/\∀t∈q.2,t<n)->(p++r).length<=3->(∀d,U≠.ow d)->(∀d,T≠.ow d)->(∀d,I≠.ow d) ->
  ∃O J,(∀d,O≠.ow d)/\(∀d,J≠.ow d)/\Jo (Pv 2 (Bb 4 (Bb 5 Pw))) Cv (r.map λq=>.tup [.str q.1,lM q.2]) [.fz (.adr x),.fz (.int (n:Int)),.fz a,.fz b,U,T,I] [fS n,fM p,("tied",E3,e)]=O0 ([.fz (.adr x),.fz (.int (n:Int)),.fz a,.fz b,O,J,I],[fS n,fM (p++r),("tied",E3,e)])
 |[],p,U,T,_,_,_,h4,h5,_=>⟨U,T,h4,h5,by rw[gg];rfl⟩
 |t::r,p,U,T,Y,Z,S,h4,h5,h6=>by
  obtain⟨w,l⟩:=t;obtain⟨hw,l1,l2,l3⟩:=Z (w,l) .(1);have nt:w∉p.map (·.1):=by
   intro q;rw[f6,fR] at Y;exact Y.2.2 w q w .(1) rfl
  have e1:=dI hw;have e2:=u9 n l l1 l3 l2;have e3:Dp (.dk (oM p)) (.str w) (kM l)=O0 (.dk (oM (p++[(w,l)]))):=by
   rw[Oj _ _ _ (by simp[oM] at S ⊢;omega)];have:(.inr w:Key)∉(oM p).map (·.1):=Jd kM nt;rw[Pi this];simp[oM]
  have b0:Cv [.fz (.adr x),.fz (.int (n:Int)),.fz a,.fz b,.fz (.str w),.fz (lM l),I] [fS n,fM p,("tied",E3,e)]=O0 ([.fz (.adr x),.fz (.int (n:Int)),.fz a,.fz b,.fz (.str w),.fz (lM l),I],[fS n,fM (p++[(w,l)]),("tied",E3,e)]):=by
   have t0:ifE (Tv (Sj (trF (Ag (Fj) (Aa (vF 4) (am)))))) [.fz (.adr x),.fz (.int (n:Int)),.fz a,.fz b,.fz (.str w),.fz (lM l),I] [fS n,fM p,("tied",E3,e)]=O0 ([.fz (.adr x),.fz (.int (n:Int)),.fz a,.fz b,.fz (.str w),.fz (lM l),I],[fS n,fM p,("tied",E3,e)]):=by
    have:Sj (trF (Ag (Fj) (Aa (vF 4) (am)))) [.fz (.adr x),.fz (.int (n:Int)),.fz a,.fz b,.fz (.str w),.fz (lM l),I]=O0 ZA:=by simp only[cK,e1]
    unfold ifE Tv;rw[this]
   have t1:Rb "marked" (vF 4) (Ag (Eh) (Aa (vF 1) (Aa (vF 5) (am)))) [.fz (.adr x),.fz (.int (n:Int)),.fz a,.fz b,.fz (.str w),.fz (lM l),I] [fS n,fM p,("tied",E3,e)]=O0 ([.fz (.adr x),.fz (.int (n:Int)),.fz a,.fz b,.fz (.str w),.fz (lM l),I],[fS n,fM (p++[(w,l)]),("tied",E3,e)]):=by
    have v1:Ag (Eh) (Aa (vF 1) (Aa (vF 5) (am))) [.fz (.adr x),.fz (.int (n:Int)),.fz a,.fz b,.fz (.str w),.fz (lM l),I]=O0 (kM l):=by simp only[cK,e2]
    have v2:vF 4 [.fz (.adr x),.fz (.int (n:Int)),.fz a,.fz b,.fz (.str w),.fz (lM l),I]=O0 (.str w):=rfl;unfold Rb;rw[v1,v2];show (match ce ("marked":Str) [fS n,fM p,("tied",E3,e)] with | some (E3,d)=>(Dp d (.str w) (kM l)).map λd'=>(_,So "marked" d' [fS n,fM p,("tied",E3,e)]) | _=>W1)=_;rw[lkM];show (Dp (.dk (oM p)) (.str w) (kM l)).map _=_;rw[e3];show O0 (_,So "marked" _ [fS n,fM p,("tied",E3,e)])=_;rw[rpM]
   unfold Cv;rw[Gp,t0,En,t1]
  obtain⟨O,J,g4,g5,ih⟩:=Uv n hn x a b e I r (p++[(w,l)]) (.fz (.str w)) (.fz (lM l)) (by simpa using Y) (λu hu=>Z u (by simp[hu])) (by simpa using S) (λd=>by simp) (λd=>by simp) h6;refine⟨O,J,g4,g5,?_⟩;rw[bn];unfold Jo;rw[Km];have no:Sr [.fz (.adr x),.fz (.int (n:Int)),.fz a,.fz b,.fz (.str w),.fz (lM l),I]=E3:=by
   unfold Sr;cases I with
   |ow d=>exact QO rfl (h6 d)
   |un=>rfl
   |fz d=>rfl
  show (if Sr [.fz (.adr x),.fz (.int (n:Int)),.fz a,.fz b,.fz (.str w),.fz (lM l),I]=E3 then (Cv [.fz (.adr x),.fz (.int (n:Int)),.fz a,.fz b,.fz (.str w),.fz (lM l),I] _).bind _ else W1)=_;rw[ZN no,b0];show Jo _ _ _ _ _=_;rw[ih];simp
theorem Vs(n:Nat)(hn:n<=5)(x:Addr)(a b:D)(J:List (Str×List Nat))(T:Slot)(h5:∀d,T≠.ow d):∀(r p:List (Str×List (Nat×Nat))) (Y U:Slot),((p++r).map (·.1)).Nodup->(∀q∈r,Wd q.1/\q.1∉J.map (·.1)/\q.2.Nodup/\q.2.length<=100/\∀t∈q.2,t.1<n/\t.2<n)->(p++r).length<=3->(∀d,Y≠.ow d)->(∀d,U≠.ow d) ->
  ∃S O,Jo (Pv 2 (Bb 4 (Bb 6 Pw))) Cw (r.map λq=>.tup [.str q.1,lT q.2]) [.fz (.adr x),.fz (.int (n:Int)),.fz a,.fz b,Y,T,U] [fS n,fM J,fT p]=O0 ([.fz (.adr x),.fz (.int (n:Int)),.fz a,.fz b,S,T,O],[fS n,fM J,fT (p++r)])
 |[],p,Y,U,_,_,_,h4,h6=>⟨Y,U,by rw[gg];rfl⟩
 |t::r,p,Y,U,nd,hl,I,h4,h6=>by
  obtain⟨w,l⟩:=t;obtain⟨hw,nm,l1,l2,l3⟩:=hl (w,l) .(1);have nt:w∉p.map (·.1):=by
   intro q;rw[f6,fR] at nd;exact nd.2.2 w q w .(1) rfl
  have e1:=dI hw;have e2:=o8 n l l1 l3 l2;have e3:Dp (.dk (oT p)) (.str w) (kT l)=O0 (.dk (oT (p++[(w,l)]))):=by
   rw[Oj _ _ _ (by simp[oT] at I ⊢;omega)];have:(.inr w:Key)∉(oT p).map (·.1):=Jd kT nt;rw[Pi this];simp[oT]
  have e4:OY (.inr w:Key) (oM J)=W1:=Qx (Jd kM nm);have b0:Cw [.fz (.adr x),.fz (.int (n:Int)),.fz a,.fz b,.fz (.str w),T,.fz (lT l)] [fS n,fM J,fT p]=O0 ([.fz (.adr x),.fz (.int (n:Int)),.fz a,.fz b,.fz (.str w),T,.fz (lT l)],[fS n,fM J,fT (p++[(w,l)])]):=by
   have t0:ifE (orTE (Tv (Sj (trF (Ag (Fj) (Aa (vF 4) (am)))))) (inTE "marked" (vF 4))) [.fz (.adr x),.fz (.int (n:Int)),.fz a,.fz b,.fz (.str w),T,.fz (lT l)] [fS n,fM J,fT p]=O0 ([.fz (.adr x),.fz (.int (n:Int)),.fz a,.fz b,.fz (.str w),T,.fz (lT l)],[fS n,fM J,fT p]):=by
    have u1:Sj (trF (Ag (Fj) (Aa (vF 4) (am)))) [.fz (.adr x),.fz (.int (n:Int)),.fz a,.fz b,.fz (.str w),T,.fz (lT l)]=O0 ZA:=by simp only[cK,e1]
    have Z:vF 4 [.fz (.adr x),.fz (.int (n:Int)),.fz a,.fz b,.fz (.str w),T,.fz (lT l)]=O0 (.str w):=rfl;have u2:inTE "marked" (vF 4) [.fz (.adr x),.fz (.int (n:Int)),.fz a,.fz b,.fz (.str w),T,.fz (lT l)] [fS n,fM J,fT p]=O0 ZA:=by
     unfold inTE;rw[Z];show (match ce ("marked":Str) [fS n,fM J,fT p] with | some (E3,.dk r0)=>(US (.str w)).map λq=>(OY q r0).isSome | _=>W1)=_;rw[lkM];show O0 ((OY (.inr w:Key) (oM J)).isSome)=_;rw[e4];rfl
    unfold ifE orTE Tv;rw[u1];show (match inTE "marked" (vF 4) _ _ with | some ZA=>O0 _ | _=>W1)=_;rw[u2]
   have t1:Rb "tied" (vF 4) (Ag (Fi) (Aa (vF 1) (Aa (vF 6) (am)))) [.fz (.adr x),.fz (.int (n:Int)),.fz a,.fz b,.fz (.str w),T,.fz (lT l)] [fS n,fM J,fT p]=O0 ([.fz (.adr x),.fz (.int (n:Int)),.fz a,.fz b,.fz (.str w),T,.fz (lT l)],[fS n,fM J,fT (p++[(w,l)])]):=by
    have v1:Ag (Fi) (Aa (vF 1) (Aa (vF 6) (am))) [.fz (.adr x),.fz (.int (n:Int)),.fz a,.fz b,.fz (.str w),T,.fz (lT l)]=O0 (kT l):=by simp only[cK,e2]
    have Z:vF 4 [.fz (.adr x),.fz (.int (n:Int)),.fz a,.fz b,.fz (.str w),T,.fz (lT l)]=O0 (.str w):=rfl;unfold Rb;rw[v1,Z];show (match ce ("tied":Str) [fS n,fM J,fT p] with | some (E3,d)=>(Dp d (.str w) (kT l)).map λd'=>(_,So "tied" d' [fS n,fM J,fT p]) | _=>W1)=_;rw[lkT];show (Dp (.dk (oT p)) (.str w) (kT l)).map _=_;rw[e3];show O0 (_,So "tied" _ [fS n,fM J,fT p])=_;rw[rpT]
   unfold Cw;rw[Gp,t0,En,t1]
  obtain⟨S,O,ih⟩:=Vs n hn x a b J T h5 r (p++[(w,l)]) (.fz (.str w)) (.fz (lT l)) (by simpa using nd) (λu hu=>hl u (by simp[hu])) (by simpa using I) (λd=>by simp) (λd=>by simp);refine⟨S,O,?_⟩;rw[bn];unfold Jo;have tg:Pv 2 (Bb 4 (Bb 6 Pw)) (.tup [.str w,lT l]) [.fz (.adr x),.fz (.int (n:Int)),.fz a,.fz b,Y,T,U]=O0 [.fz (.adr x),.fz (.int (n:Int)),.fz a,.fz b,.fz (.str w),T,.fz (lT l)]:=by rw[Km];rfl
  rw[tg];have no:Sr [.fz (.adr x),.fz (.int (n:Int)),.fz a,.fz b,.fz (.str w),T,.fz (lT l)]=E3:=by
   unfold Sr;cases T with
   |ow d=>exact QO rfl (h5 d)
   |un=>rfl
   |fz d=>rfl
  show (if Sr [.fz (.adr x),.fz (.int (n:Int)),.fz a,.fz b,.fz (.str w),T,.fz (lT l)]=E3 then (Cw [.fz (.adr x),.fz (.int (n:Int)),.fz a,.fz b,.fz (.str w),T,.fz (lT l)] _).bind _ else W1)=_;rw[ZN no,b0];show Jo _ _ _ _ _=_;rw[ih];simp
def dJ(W:Wl)(h:wh W)(x:Addr):Bq x [.int (W.n:Int),.dk (eM W.ms),.dk (eT W.ts)]=O0 [fS W.n,fM W.ms,fT W.ts]:=by
 have O:(W.ms.map (·.1)).Nodup:=(fR.mp h.nd).1;have J:(W.ts.map (·.1)).Nodup:=(fR.mp h.nd).2.1;obtain⟨S,T,g4,g5,m⟩:=Uv W.n h.n5 x (.dk (eM W.ms)) (.dk (eT W.ts)) (.dk []) .un W.ms [] .un .un (by simpa using O) (λq U=>⟨h.mw q U,h.ml q U⟩) (by simpa using h.m3) (λd=>by simp) (λd=>by simp) (λd=>by simp);obtain⟨Z,Y,t⟩:=Vs W.n h.n5 x (.dk (eM W.ms)) (.dk (eT W.ts)) W.ms T g5 W.ts [] S .un (by simpa using J) (λq U=>⟨h.tw q U,λz=>(fR.mp h.nd).2.2 q.1 z q.1 (bv.mpr ⟨q,U,rfl⟩) rfl,h.tl q U⟩) (by simpa using h.t3) g4 (λd=>by simp);rw[ko] at m t;change Jo _ _ _ _ [fS W.n,fM [],fT []]=O0 (_,[fS W.n,fM W.ms,fT []]) at m;have r1:=Uu (W.n:Int) 5 (by have:=h.n5;omega);have r2:=Uu ((eM W.ms).length:Int) 3 (by have:=h.m3;simp[eM];omega);have r3:=Uu ((eT W.ts).length:Int) 3 (by have:=h.t3;simp[eT];omega);have I:Sr [.fz (.adr x),.fz (.int (W.n:Int)),.fz (.dk (eM W.ms)),.fz (.dk (eT W.ts)),.un,.un,.un]=E3:=rfl;have p1:Tl (I_ (Ag (Bv) (Aa (vF 1) (Aa (kF (.int 5)) (am))))) [.fz (.adr x),.fz (.int (W.n:Int)),.fz (.dk (eM W.ms)),.fz (.dk (eT W.ts)),.un,.un,.un] []=O0 ([.fz (.adr x),.fz (.int (W.n:Int)),.fz (.dk (eM W.ms)),.fz (.dk (eT W.ts)),.un,.un,.un],[]):=Wm (by simp only[cK,r1]) I;have p2:Tl (I_ (Ag (Bv) (Aa (uF Pf (vF 2)) (Aa (kF (.int 3)) (am))))) [.fz (.adr x),.fz (.int (W.n:Int)),.fz (.dk (eM W.ms)),.fz (.dk (eT W.ts)),.un,.un,.un] []=O0 ([.fz (.adr x),.fz (.int (W.n:Int)),.fz (.dk (eM W.ms)),.fz (.dk (eT W.ts)),.un,.un,.un],[]):=Wm (by simp only[dK,r2]) I;have p3:Tl (I_ (Ag (Bv) (Aa (uF Pf (vF 3)) (Aa (kF (.int 3)) (am))))) [.fz (.adr x),.fz (.int (W.n:Int)),.fz (.dk (eM W.ms)),.fz (.dk (eT W.ts)),.un,.un,.un] []=O0 ([.fz (.adr x),.fz (.int (W.n:Int)),.fz (.dk (eM W.ms)),.fz (.dk (eT W.ts)),.un,.un,.un],[]):=Wm (by simp only[dK,r3]) I;have s1:JG "size" (vF 1) [.fz (.adr x),.fz (.int (W.n:Int)),.fz (.dk (eM W.ms)),.fz (.dk (eT W.ts)),.un,.un,.un] []=O0 ([.fz (.adr x),.fz (.int (W.n:Int)),.fz (.dk (eM W.ms)),.fz (.dk (eT W.ts)),.un,.un,.un],[fS W.n]):=rfl;have s2:Ra "marked" (kF (.dk [])) [.fz (.adr x),.fz (.int (W.n:Int)),.fz (.dk (eM W.ms)),.fz (.dk (eT W.ts)),.un,.un,.un] [fS W.n]=O0 ([.fz (.adr x),.fz (.int (W.n:Int)),.fz (.dk (eM W.ms)),.fz (.dk (eT W.ts)),.un,.un,.un],[fS W.n,fM []]):=by
  have l:ce ("marked":Str) [fS W.n]=W1:=by
   rw[cr,q1];rfl
  unfold Ra;show (if (ce ("marked":Str) [fS W.n]).isNone=E3/\[fS W.n].length<1000 then O0 (_,[fS W.n]++[(("marked":Str),E3,D.dk [])]) else W1)=_;rw[l,ZN ⟨rfl,(by show 1<1000;decide)⟩];rfl
 have s3:Ra "tied" (kF (.dk [])) [.fz (.adr x),.fz (.int (W.n:Int)),.fz (.dk (eM W.ms)),.fz (.dk (eT W.ts)),.un,.un,.un] [fS W.n,fM []]=O0 ([.fz (.adr x),.fz (.int (W.n:Int)),.fz (.dk (eM W.ms)),.fz (.dk (eT W.ts)),.un,.un,.un],[fS W.n,fM [],fT []]):=by
  have l:ce ("tied":Str) [fS W.n,fM []]=W1:=by
   rw[cr,q2];show ce ("tied":Str) [fM []]=W1;rw[cr,q3];rfl
  unfold Ra;show (if (ce ("tied":Str) [fS W.n,fM []]).isNone=E3/\[fS W.n,fM []].length<1000 then O0 (_,[fS W.n,fM []]++[(("tied":Str),E3,D.dk [])]) else W1)=_;rw[l,ZN ⟨rfl,(by show 2<1000;decide)⟩];rfl
 have i1:Qp (vF 2) [.fz (.adr x),.fz (.int (W.n:Int)),.fz (.dk (eM W.ms)),.fz (.dk (eT W.ts)),.un,.un,.un]=O0 (W.ms.map λq=>.tup [.str q.1,lM q.2]):=by
  show O0 ((eM W.ms).map λp=>D.tup [kDt p.1,p.2])=_;simp only[eM,cp,fN,Rg]
 have i2:Qp (vF 3) [.fz (.adr x),.fz (.int (W.n:Int)),.fz (.dk (eM W.ms)),.fz (.dk (eT W.ts)),S,T,.un]=O0 (W.ts.map λq=>.tup [.str q.1,lT q.2]):=by
  show O0 ((eT W.ts).map λp=>D.tup [kDt p.1,p.2])=_;simp only[eT,cp,fN,Rg]
 have st:Tw 7 x [.int (W.n:Int),.dk (eM W.ms),.dk (eT W.ts)]=[.fz (.adr x),.fz (.int (W.n:Int)),.fz (.dk (eM W.ms)),.fz (.dk (eT W.ts)),.un,.un,.un]:=rfl;unfold Bq runI;rw[ZN (show [D.int (W.n:Int),.dk (eM W.ms),.dk (eT W.ts)].length+1=4 from rfl),st];unfold HX;rw[Gp,p1,En,Gp,p2,En,Gp,p3,En,Gp,s1,En,Gp,s2,En,Gp,s3,En,Gp,lw i1,m,En,Gp,lw i2,t,En,lr];rfl
def xO(W:Wl)(h:wh W)(fs:FA)(ρ:Rho)(I:fs ρ=O0 [.int (W.n:Int),.dk (eM W.ms),.dk (eT W.ts)]):mkI "World" Bq fs ρ=O0 (il W):=by
 unfold mkI;rw[I];simp only[cw,dJ W h 0];rw[ZN (λx=>dJ W h x)];rfl
def Ni(f:Nat->Bool)(h:Nat->D)(I:FI)(hs:I ρ=O0 (Pl n))(U:n<=1000)(h1:∀k,k<n->ga (ρ++[.fz (.int k)])=O0 (f k))(T:∀k,k<n->fe (ρ++[.fz (.int k)])=O0 (h k)):Bo I ga fe ρ=O0 (.lst (((br n).filter f).map h)):=by
 have c:∀l:List Nat,(∀k∈l,k<n)->J_ ρ ga fe (l.map λ(k:Nat)=>D.int k)=O0 ((l.filter f).map h):=by
  intro l
  induction l with
  |nil=>intro _;rfl
  |cons k r J=>
   intro Z;rw[bn,Kl,h1 k (Z k .(1)),T k (Z k .(1)),J λd S=>Z d (by simp[S]),NR];cases f k<;>rfl
 exact R9 hs (by rw[Lr];omega) (c (br n) λk O=>de.mp O)
def gw{l:List Str}(O:l.Nodup){i j:Nat}(J:i<l.length)(I:j<l.length)(e:l[i]=l[j]):i=j:=by
 have h:=xa.mp O
 rcases BI i j with z | z | z
 .exact QO e (h i j J I z)
 .exact z
 .exact QO e.symm (h j i I J z)
def Je(n:Nat)(f:Nat->Bool):((br n).filter f).Nodup:=HA NS zD
def W9(n:Nat)(J:n<=100)(ρ:Rho)(i:Nat)(h:ρ[i]?=O0 (.fz (.int (n:Int)))):QY (vF i) ρ=O0 (Pl n):=by
 have I:=Wf (n:Int) .(0);simp only[Tq,e_v,h,TU,I,ip]
def Qd{k:Nat}(h:k<ws.length):vb (.lst (ws.map .str)) (.int (k:Int))=O0 (.str ws[k]):=by
 show atI (ws.map D.str) (k:Int)=_;rw[Qu,db];simp[h]
theorem aD{I:Type}(f:I->D)(w:Str):∀(l:List (Str×I)),OY (.inr w:Key) (l.map λp=>((.inr p.1:Key),f p.2))=(l.find? (λp=>p.1=w)).map λp=>f p.2
 |[]=>rfl
 |p::r=>by
  rw[bn,sK];show (if (.inr p.1:Key)=.inr w then O0 (f p.2) else OY (.inr w:Key) (r.map λp=>((.inr p.1:Key),f p.2)))=_
  by_cases h:p.1=w
  .simp[h]
  .have:¬ ((.inr p.1:Key)=.inr w):=λz=>h (CY z);rw[OO this,aD f w r];simp[h]
def El(W:Wl):kc "size" (il W)=O0 (.int (W.n:Int)):=by
 show ce ("size":Str) _=_;rfl
theorem Uw(W:Wl):kc "marked" (il W)=O0 (.dk (oM W.ms)):=by
 show ce ("marked":Str) [(("size":Str),D.int (W.n:Int)),("marked",.dk (oM W.ms)),("tied",.dk (oT W.ts))]=_;simp only[ce,q1];rfl
theorem aF(W:Wl):kc "tied" (il W)=O0 (.dk (oT W.ts)):=by
 show ce ("tied":Str) [(("size":Str),D.int (W.n:Int)),("marked",.dk (oM W.ms)),("tied",.dk (oT W.ts))]=_;simp only[ce,q2,q3];rfl
def vA(x:Nat)(l:List Nat):ZU ZA (.int (x:Int)) (lM l)=O0 (.bl (l.any λt=>decide (t=x))):=by
 have h:∀I:List Nat,Sk (I.map iN)=O0 (I.map λ(t:Nat)=>V.int t):=λI=>by
  induction I with
  |nil=>rfl
  |cons y r O=>simp[Sk,VT,O]
 show ((VT (.int (x:Int))).bind λv=>(Sk (l.map iN)).map λJ=>D.bl (inV v J))=_;rw[h];show O0 (D.bl (inV (.int (x:Int)) (l.map λ(t:Nat)=>V.int t)))=_;have e:∀t:Nat,eqV (.int (t:Int)) (.int (x:Int))=decide (t=x):=λt=>by
  by_cases z:t=x
  .subst z;simp[eqV]
  .have:¬ ((t:Int)=(x:Int)):=by omega
   simp[eqV,z,this]
 simp only[inV,F5,fN,e]
def o9(x y:Nat)(l:List (Nat×Nat)):ZU ZA (.tup [.int (x:Int),.int (y:Int)]) (lT l)=O0 (.bl (l.any λq=>decide (q.1=x)&&decide (q.2=y))):=by
 have k:∀q:Nat×Nat,XZ 62 (pN q) (.tup [.int (x:Int),.int (y:Int)])=O0 (decide (q.1=x)&&decide (q.2=y)):=λq=>by
  have e:∀a b:Nat,XZ 61 (.int (a:Int)) (.int (b:Int))=O0 (decide (a=b)):=λa b=>by
   show O0 (eqV (.int (a:Int)) (.int (b:Int)))=_
   by_cases z:a=b
   .subst z;simp[eqV]
   .have:¬ ((a:Int)=(b:Int)):=by omega
    simp[eqV,z,this]
  show (if 2=2 then Sl (XZ 61) [.int (q.1:Int),.int (q.2:Int)] [.int (x:Int),.int (y:Int)] else W1)=_;rw[ZN rfl];simp only[Sl,e];cases decide (q.1=x)<;>cases decide (q.2=y)<;>rfl
 have O:(l.map pN).all (XY (.tup [.int (x:Int),.int (y:Int)]))=E3:=by
  rw[fI];intro d I;obtain⟨q,_,rfl⟩:=bv.mp I;unfold XY;rw[k q];rfl
 have J:(l.map pN).any (RU (.tup [.int (x:Int),.int (y:Int)]))=l.any λq=>decide (q.1=x)&&decide (q.2=y):=by
  rw[F5];congr 1;funext q;show RU _ (pN q)=_;unfold RU;rw[k q]
 show (if (l.map pN).all (XY (.tup [.int (x:Int),.int (y:Int)]))=E3 then O0 (D.bl ((l.map pN).any (RU (.tup [.int (x:Int),.int (y:Int)])))) else W1)=_;rw[ZN O,J]
def ABi(x:Nat)(l:List Nat):ZU ZA (.int (x:Int)) (kM l)=O0 (.bl (l.any λt=>decide (t=x))):=by
 have h:∀l:List Nat,(OY (.inl (x:Int):Key) (l.map λ(t:Nat)=>((.inl (t:Int):Key),D.bl E3))).isSome=l.any λt=>decide (t=x):=λl=>by
  induction l with
  |nil=>rfl
  |cons t r I=>
   rw[bn,sD,<-I];show (if (.inl (t:Int):Key)=.inl (x:Int) then _ else _:Option D).isSome=_
   by_cases z:t=x
   .subst z;simp
   .have:¬ ((.inl (t:Int):Key)=.inl (x:Int)):=λq=>z (by have:=xE q;omega);rw[OO this];simp[z]
 show ZU ZA (.int (x:Int)) (.dk _)=_;rw[Wj];simp only[ff,YO,h]
def Fp{I:Type}(l:List I)(e g:I->D)(hs:src ρ=O0 (l.map e))(S:l.length<=1000)(h:∀x∈l,fe (ρ++[.fz (e x)])=O0 (g x)):Bo src OQ fe ρ=O0 (.lst (l.map g)):=by
 have c:∀l:List I,(∀x∈l,fe (ρ++[.fz (e x)])=O0 (g x))->J_ ρ OQ fe (l.map e)=O0 (l.map g):=by
  intro l
  induction l with
  |nil=>intro _;rfl
  |cons x r J=>
   intro Z;rw[bn,Kl,Z x .(1),J λd O=>Z d (by simp[O])];rfl
 exact R9 hs (by rw[aI];omega) (c l h)
def W_(I:List Nat)(t:Nat)(h:t<I.length):vb (lN I) (.int (t:Int))=O0 (iN (I.getD t 0)):=by
 show atI (I.map iN) (t:Int)=_;rw[Qu,db];simp[h]
def o_{I:Type}(f:I->D){l:List (Str×I)}(h:(l.map (·.1)).Nodup):((l.map λp=>((.inr p.1:Key),f p.2)).map (·.1)).Nodup:=by
 unfold mN at h ⊢;rw[iO] at h;rw[cp,iO];exact h.imp λO e=>O (CY e)
def at_M(W:Wl)(h:wh W){p:Str×List Nat}(I:p∈W.ms):vb (.dk (eM W.ms)) (.str p.1)=O0 (lM p.2):=by
 rw[NK];exact Wk (o_ lM (fR.mp h.nd).1) (bv.mpr ⟨p,I,rfl⟩)
def at_T(W:Wl)(h:wh W){p:Str×List (Nat×Nat)}(I:p∈W.ts):vb (.dk (eT W.ts)) (.str p.1)=O0 (lT p.2):=by
 rw[NK];exact Wk (o_ lT (fR.mp h.nd).2.1) (bv.mpr ⟨p,I,rfl⟩)
def dM(k:List (Key×D)):Sz (.dk k)=O0 (.lst (k.map λp=>kDt p.1)):=nq _
def in_i(t:Nat)(l:List Nat):ZU ZA (iN t) (.lst (l.map iN))=O0 (.bl (decide (t∈l))):=by
 have:=vA t l;unfold lM at this;rw[this];congr 2;rw[kL];simp
def in_p(t:Nat×Nat)(l:List (Nat×Nat)):ZU ZA (pN t) (.lst (l.map pN))=O0 (.bl (decide (t∈l))):=by
 have:=o9 t.1 t.2 l;unfold lT at this;rw[this];congr 2;rw[kL];simp
theorem Y0:∀{l m:List Nat},l.Nodup->(∀x∈l,x∈m)->l.length<=m.length
 |[],_,_,_=>gL _
 |x::r,m,h,hs=>by
  obtain⟨S,O⟩:=mo.mp h;have J:x∈m:=hs x eD;have:=Y0 (l:=r) (m:=m.erase x) O λy I=>(BM (λe=>by subst e;exact S I)).mpr (hs y (da _ I));rw[BN J] at this;have T:0<m.length:=BO J;simp;omega
def Ld{O:Type}{l:List O}(S:l.Nodup){i j:Nat}(J:i<l.length)(I:j<l.length)(e:l[i]=l[j]):i=j:=by
 have h:=xa.mp S
 rcases BI i j with z | z | z
 .exact QO e (h i j J I z)
 .exact z
 .exact QO e.symm (h j i I J z)
def XD(I:l.Nodup)(h:∀t∈l,t<n):l.length<=n:=by
 have:=Y0 I λt T=>de.mpr (h t T);simpa using this
def pA{l:List (Nat×Nat)}(U:l.Nodup)(h:∀q∈l,q.1<n/\q.2<n):l.length<=n*n:=by
 have e:(l.map λq=>q.1*n+q.2).Nodup:=by
  unfold mN;rw[iO];refine ra (λ{a b} ha hb O e=>O ?_) U;have S:=h a ha;have I:=h b hb;have T:(a.1*n+a.2)/n=a.1:=by rw[CH,NU .(0),NV S.2];omega
  have d2:(b.1*n+b.2)/n=b.1:=by rw[CH,NU .(0),NV I.2];omega
  have J:(a.1*n+a.2)%n=a.2:=by rw[CH,NW,NX S.2]
  have Y:(b.1*n+b.2)%n=b.2:=by rw[CH,NW,NX I.2]
  have e':a.1*n+a.2=b.1*n+b.2:=e;rw[e'] at T J;exact so (T.symm.trans d2) (J.symm.trans Y)
 have:=XD (n:=n*n) e λt Z=>by
  obtain⟨q,hq,rfl⟩:=bv.mp Z;have:=h q hq
  calc q.1*n+q.2<q.1*n+n:=by omega
   _=(q.1+1)*n:=by rw[Nat.add_mul,Nat.one_mul]
   _<=n*n:=Nat.mul_le_mul_right _ .(0)
 simpa using this
def RL(W:Wl)(h:wh W)(S:List (Str×List Nat))(O:List (Str×List (Nat×Nat)))(Z:(S.map (·.1)).Perm (W.ms.map (·.1)))(U:(O.map (·.1)).Perm (W.ts.map (·.1)))(T:∀p∈S,p.2.Nodup/\∀t∈p.2,t<W.n)(J:∀p∈O,p.2.Nodup/\∀q∈p.2,q.1<W.n/\q.2<W.n):wh ⟨W.n,S,O⟩:=by
 refine⟨h.n5,?_,?_,λp I=>?_,λp I=>?_,?_,λp I=>⟨(T p I).1,?_,(T p I).2⟩,λp I=>⟨(J p I).1,?_,(J p I).2⟩⟩
 .have:=Z.length_eq;simp at this;have:=h.m3;show S.length<=3;omega
 .have:=U.length_eq;simp at this;have:=h.t3;show O.length<=3;omega
 .obtain⟨q,Y,e⟩:=bv.mp (Z.mem_iff.mp (bv.mpr ⟨p,I,rfl⟩));rw[<-e];exact h.mw q Y
 .obtain⟨q,Y,e⟩:=bv.mp (U.mem_iff.mp (bv.mpr ⟨p,I,rfl⟩));rw[<-e];exact h.tw q Y
 .exact ((Z.append U).nodup_iff).mpr h.nd
 .have:=XD (T p I).1 (T p I).2;have:=h.n5;omega
 .have:=pA (J p I).1 (J p I).2;have h5:=h.n5;have:W.n*W.n<=25:=Nat.mul_le_mul h5 h5;omega
def Ux{I:List Nat}(h:I.Perm (br n)){s t:Nat}(hs:s<n)(T:t<n)(e:I.getD s 0=I.getD t 0):s=t:=by
 have Z:I.length=n:=by have:=h.length_eq;simpa using this
 have J:I.Nodup:=h.nodup_iff.mpr zD;rw[tJ,tJ,dQ .(0),dQ .(0)] at e;exact Ld J _ _ e
def XF{I:List Nat}(h:I.Perm (br n)){s:Nat}(hs:s<n):I.getD s 0<n:=by
 have Z:I.length=n:=by have:=h.length_eq;simpa using this
 rw[tJ,dQ .(0)];exact de.mp (h.mem_iff.mp (gX .(0)))
def ABj(x y:Nat)(l:List (Nat×Nat)):inTO (O0 [.int (x:Int),.int (y:Int)]) (O0 (kT l))=O0 (.bl (l.any λq=>decide (q.1=x)&&decide (q.2=y))):=by
 have h:∀l:List (Nat×Nat),(OY [(.inl (x:Int):Key),.inl (y:Int)] (l.map λ(q:Nat×Nat)=>([(.inl (q.1:Int):Key),.inl (q.2:Int)],D.bl E3))).isSome=l.any λq=>decide (q.1=x)&&decide (q.2=y):=λl=>by
  induction l with
  |nil=>rfl
  |cons t r I=>
   rw[bn,sD,<-I];show (if [(.inl (t.1:Int):Key),.inl (t.2:Int)]=[.inl (x:Int),.inl (y:Int)] then _ else _:Option D).isSome=_
   by_cases z:t.1=x/\t.2=y
   .obtain⟨O,Z⟩:=z;subst O Z;simp
   .have:¬ ([(.inl (t.1:Int):Key),.inl (t.2:Int)]=[.inl (x:Int),.inl (y:Int)]):=λq=>by
     simp only[xC,Sum.inl.injEq,and_true] at q;exact z ⟨by omega,by omega⟩
    rw[OO this];have:(decide (t.1=x)&&decide (t.2=y))=ZA:=by
     rw[Bool.and_eq_false_iff]
     by_cases O:t.1=x
     .right;exact RO λZ=>z ⟨O,Z⟩
     .left;exact RO O
    rw[this,KF]
 have e:inTO (O0 [.int (x:Int),.int (y:Int)]) (O0 (kT l))=O0 (.bl ((OY [(.inl (x:Int):Key),.inl (y:Int)] (l.map λ(q:Nat×Nat)=>([(.inl (q.1:Int):Key),.inl (q.2:Int)],D.bl E3))).isSome)):=by
  unfold kT inTO;simp only[cw];rw[ZN (Ip (by show 2<=10000000;decide))];rfl
 rw[e,h]
def ABk(fs:FA)(I:FE)(ρ:Rho):inTF fs I ρ=inTO (fs ρ) (I ρ):=nq _
def Y4(J:List (Str×List Nat)):(oM J).map (λp=>kDt p.1)=(J.map (·.1)).map .str:=by simp[oM,Rg]
def Y5(I:List (Str×List (Nat×Nat))):(oT I).map (λp=>kDt p.1)=(I.map (·.1)).map .str:=by simp[oT,Rg]
def pB{k:List (Key×D)}{I:List Str}(h:k.map (λp=>kDt p.1)=I.map .str)(J:I.Nodup)(Z:I.length<=60):sdkD (.dk k)=O0 (.lst ((Fq I).map .str)):=by
 show sdkL k=_;unfold sdkL;rw[h,gF,cw,ZN ⟨J,Z⟩]
def vB(i:Nat)(l:List Nat):(l.any λt=>decide (t=i))=decide (i∈l):=by
 rw[kL];simp
def pC(i j:Nat)(l:List (Nat×Nat)):(l.any λq=>decide (q.1=i)&&decide (q.2=j))=decide ((i,j)∈l):=by
 rw[kL];simp
def dN{I:Type}{w:Str}{l:List (Str×I)}(h:w∈l.map (·.1)):∃q,q∈l/\l.find? (λp=>p.1=w)=O0 q:=by
 obtain⟨p,J,e⟩:=bv.mp h;cases q:l.find? (λp=>p.1=w) with
 |none=>exact QO (by simpa using e) (by simpa using Fk.mp q p J)
 |some x=>exact⟨x,BU q,rfl⟩
def xP(W:Wl){w:Str}(h:w∈mw W)(i:Nat):∃d,vb (.dk (oM W.ms)) (.str w)=O0 d/\ZU ZA (.int (i:Int)) d=O0 (.bl (mk W w i)):=by
 obtain⟨q,_,e⟩:=dN h;refine⟨kM q.2,?_,?_⟩
 .rw[NK];unfold oM;rw[aD kM w,e];rfl
 .rw[ABi,vB,mk,e]
def xQ(W:Wl){w:Str}(h:w∈tw W)(i j:Nat):∃d,vb (.dk (oT W.ts)) (.str w)=O0 d/\inTO (O0 [.int (i:Int),.int (j:Int)]) (O0 d)=O0 (.bl (tk W w i j)):=by
 obtain⟨q,_,e⟩:=dN h;refine⟨kT q.2,?_,?_⟩
 .rw[NK];unfold oT;rw[aD kT w,e];rfl
 .rw[ABj,pC,tk,e]
theorem Uy{J:Type}{tg:FG}{b:FS}(I:PV.Slot->Rho)(e:J->D)(P:J->Bool)(r:D)(T:∀d z,tg d (I z)=O0 (I (.fz d))):∀(l:List J) (z:PV.Slot),(∀x∈l,b (I (.fz (e x)))=O0 (if P x=E3 then .nx (I (.fz (e x))) else .rt r (I (.fz (e x))))) ->
  ∃S,OS (XU tg b) (l.map e) (I z)=O0 (if l.all P=E3 then .nx (I S) else .rt r (I S))
 |[],z,_=>⟨z,rfl⟩
 |x::l,z,h=>by
  rw[bn,Ds,UU,T,Jm,h x .(1),wf];cases Y:P x with
  |false=>exact⟨_,rfl⟩
  |true=>
   obtain⟨S,O⟩:=Uy I e P r T l (.fz (e x)) λy U=>h y (by simp[U]);exact⟨S,by rw[ZN rfl,Dm,O,CI]⟩
def pD(a b:Bool):sd E3 (.bl a) (.bl b)=O0 (.bl (!(a==b))):=by cases a<;>cases b<;>rfl
structure Sp (W V:Wl):Prop where
 mm:∀w∈mw W,w∈mw V
 tt:∀w∈tw W,w∈tw V
def ixp0(q:Pr):vb (pN q) (.int 0)=O0 (.int (q.1:Int)):=rfl
def ixp1(q:Pr):vb (pN q) (.int 1)=O0 (.int (q.2:Int)):=rfl
theorem vC(W V:Wl)(h:Sp W V)(q:Pr):GQ [il W,il V,pN q]=O0 (.bl (Vn W V q)):=by
 have J:=Uw W;have Y:=Uw V;have S:=ixp0 q;have O:=ixp1 q;have n1:=Y4 W.ms;obtain⟨Z,e⟩:=Uy (tg:=CW 3) (b:=G3) (λz=>[.fz (il W),.fz (il V),.fz (pN q),z]) D.str (λw=>mk W w q.1==mk V w q.2) (.bl ZA) (λd z=>rfl) (mw W) .un λw I=>by
  obtain⟨d1,U,T⟩:=xP W I q.1;obtain⟨d2,b1,b2⟩:=xP V (h.mm w I) q.2;simp only[cK,G3,J,Y,S,O,U,T,b1,b2,pD];cases (mk W w q.1==mk V w q.2)<;>rfl
 have q1:Px (O0 (D.dk (oM W.ms)))=O0 ((mw W).map .str):=by rw[NQ,n1]
 simp only[cK,GQ,Ia,Ca,J,q1,e];show _=O0 (D.bl ((mw W).all λw=>mk W w q.1==mk V w q.2));cases (mw W).all (λw=>mk W w q.1==mk V w q.2)<;>rfl
theorem XH(W V:Wl)(h:Sp W V)(p q:Pr):DN [il W,il V,pN p,pN q]=O0 (.bl (MN W V p q)):=by
 have J:=aF W;have Y:=aF V;have U:=ixp0 p;have S:=ixp1 p;have O:=ixp0 q;have T:=ixp1 q;have n1:=Y5 W.ts;obtain⟨z',e⟩:=Uy (tg:=CW 4) (b:=G4) (λz=>[.fz (il W),.fz (il V),.fz (pN p),.fz (pN q),z]) D.str (λw=>tk W w p.1 q.1==tk V w p.2 q.2) (.bl ZA) (λd z=>rfl) (tw W) .un λw I=>by
  obtain⟨d1,a1,Z⟩:=xQ W I p.1 q.1;obtain⟨d2,b1,b2⟩:=xQ V (h.tt w I) p.2 q.2;simp only[cK,G4,ABk,J,Y,U,S,O,T,a1,Z,b1,b2,pD];cases (tk W w p.1 q.1==tk V w p.2 q.2)<;>rfl
 have q1:Px (O0 (D.dk (oT W.ts)))=O0 ((tw W).map .str):=by rw[NQ,n1]
 simp only[cK,DN,Ib,Ca,J,q1,e];show _=O0 (D.bl ((tw W).all λw=>tk W w p.1 q.1==tk V w p.2 q.2));cases (tw W).all (λw=>tk W w p.1 q.1==tk V w p.2 q.2)<;>rfl
def XJ(a b:Nat):decide ((a:Int)=(b:Int))=decide (a=b):=by
 by_cases z:a=b
 .subst z;simp
 .rw[RO z,RO .(0)]
def ABl(W V:Wl)(h:Sp W V)(p q:Pr):Hk [il W,il V,pN p,pN q]=O0 (.bl (goB W V p q)):=by
 have S:=ixp0 p;have I:=ixp1 p;have O:=ixp0 q;have T:=ixp1 q;have J:=XH W V h p q;have Z:=XH W V h q p;simp only[ciK,Hk,J5,S,I,O,T,XJ,pD];unfold goB;cases U:(decide (p.1=q.1)==decide (p.2=q.2)) with
 |false=>rfl
 |true=>
  simp only[cK,J,Z];cases MN W V p q with
  |false=>rfl
  |true=>simp only[cK,Z,CI]
def pF{I:Type}(f:I->Bool)(l:List I):allD (.lst (l.map λx=>.bl (f x)))=O0 (.bl (l.all f)):=by
 show (UX _).map _=_;rw[cM];simp[fN]
def mzO(c m:Str)(g:List D->Option D)(o:Option D)(ds:Option (List D)):Option D:=o.bind λo=>if Es c m o=E3 then ds.bind λds=>g (o::ds) else W1
def Ep(c m:Str)(g:List D->Option D)(I:FE)(fs:FA)(ρ:Rho):Fz c m g I fs ρ=mzO c m g (I ρ) (fs ρ):=nq _
def Uz{m:Str}{o:D}(h:Es c m o=E3):mzO c m g (O0 o) (O0 ds)=g (o::ds):=by
 show (if Es c m o=E3 then _ else _)=_;rw[ZN h];rfl
def dO(W:Wl):Es "World" "mark_words" (il W)=E3:=rfl
def xR(W:Wl):Es "World" "tie_words" (il W)=E3:=rfl
def Vt{l m:List Str}(h:l.Perm m):Fq l=Fq m:=Z3 (Lz l) (Lz m) λx=>by rw[Iw,Iw,h.mem_iff]
structure Spk (W V:Wl):Prop where
 mm:(mw V).Perm (mw W)
 tt:(tw V).Perm (tw W)
def Spk.sp{W V:Wl}(h:Spk W V):Sp W V:=⟨λw I=>h.mm.mem_iff.mpr I,λw I=>h.tt.mem_iff.mpr I⟩
def Ik(a b:Nat):sd ZA (.int (a:Int)) (.int (b:Int))=O0 (.bl (decide (a=b))):=by rw[Ii,XJ]
def pG(a:Nat):gtD (.int (a:Int)) (.int 0)=O0 (.bl (decide (0<a))):=by
 rw[YC];congr 2
 by_cases z:0<a
 .rw[SO z,SO .(0)]
 .rw[RO z,RO .(0)]
def ABm(l:List Pr)(q:Pr)(h:l.length<=1000):appL (.lst (l.map pN)) (pN q)=O0 (.lst ((l++[q]).map pN)):=by
 rw[dH _ _ (by simpa using h),f6];rfl
def dR(I:List Str):sd E3 (.lst (I.map .str)) (.lst (I.map .str))=O0 (.bl ZA):=by
 have h:∀I:List Str,Sl (XZ 180) (I.map .str) (I.map .str)=O0 E3:=λI=>by
  induction I with
  |nil=>rfl
  |cons z r J=>
   show (match XZ 180 (.str z) (.str z),Sl (XZ 180) (r.map .str) (r.map .str) with | some a,O0 b=>O0 (a&&b) | _,_=>W1)=_;rw[J];have:XZ 180 (.str z) (.str z)=O0 E3:=by show O0 (eqV (.str z) (.str z))=_;simp[eqV]
   rw[this];rfl
 unfold sd;have:YU (.lst (I.map .str)) (.lst (I.map .str))=O0 E3:=by
  show (if (I.map D.str).length=(I.map D.str).length then Sl (XZ 180) (I.map .str) (I.map .str) else O0 ZA)=_;rw[ZN rfl,h]
 rw[this];rfl
def Nj(W:Wl)(h:wh W):Cy [il W]=O0 (.lst ((Fq (mw W)).map .str))/\Dd [il W]=O0 (.lst ((Fq (tw W)).map .str)):=by
 have I:=fR.mp h.nd;have Y:=h.m3;have U:=h.t3;have J:=pB (Y4 W.ms) I.1 (by simp;omega);have T:=pB (Y5 W.ts) I.2.1 (by simp;omega);have S:=Uw W;have O:=aF W;constructor
 .simp only[cK,Cy,Gb,S,J]
 .simp only[cK,Dd,Gz,O,T]
def EU:D:=.exc "Unlike" []
def g8(W V:Wl)(h:wh W)(T:wh V)(hs:Spk W V):Cd [il W,il V]=O0 .non:=by
 obtain⟨a1,Z⟩:=Nj W h;obtain⟨b1,b2⟩:=Nj V T;rw[Vt hs.mm] at b1;rw[Vt hs.tt] at b2;have S:=dO W;have O:=dO V;have J:=xR W;have I:=xR V;have Y:=dR (Fq (mw W));have U:=dR (Fq (tw W));simp only[cK,Cd,GP,Ep,Uz S,Uz O,Uz J,Uz I,a1,Z,b1,b2,Y,U]
def pI(p:Int×Int):D:=.tup [.int p.1,.int p.2]
def pz(p:Pr):Int×Int:=((p.1:Int),(p.2:Int))
def Y6(I:List Pr):(I.map pz).map pI=I.map pN:=by rw[cp];rfl
def bd1(n m:Nat)(r:Int×Int):Option Int:=if Bad n r.1 then O0 r.1 else if Bad m r.2 then O0 r.2 else W1
theorem QW(W V:Wl)(J:PV.Slot):∀(I:List (Int×Int)) (Y O:PV.Slot),(∀r∈I,Sm r.1/\Sm r.2)->∃S U,OS (XU (Pv 2 (Bb 3 (Bb 4 Pw))) BX) (I.map pI) [.fz (il W),.fz (il V),J,Y,O]=O0 (match I.findSome? (bd1 W.n V.n) with | some t=>.rt (ET t) [.fz (il W),.fz (il V),J,S,U] | none=>.nx [.fz (il W),.fz (il V),J,S,U])
 |[],Y,O,_=>⟨Y,O,rfl⟩
 |r::I,Y,O,h=>by
  have s1:=El W;have s2:=El V;obtain⟨S,U,e⟩:=QW W V J I (.fz (.int r.1)) (.fz (.int r.2)) λx hx=>h x (by simp[hx]);rw[NY,bn,Ds,UU];unfold pI;rw[Km,Jm];simp only[fq,fw];unfold bd1
  by_cases c1:Bad W.n r.1
  .rw[ZN c1];refine⟨.fz (.int r.1),.fz (.int r.2),?_⟩;have T:Am [.int (W.n:Int),.int r.1]=O0 (.exc "NoThing" [("thing",.int r.1)]):=Ur W.n r.1 (h r .(1)).1 c1;simp only[cK,BX,s1,s2,T,Dj,Rq];rfl
  .rw[OO c1];have T:=QV W.n r.1 c1
   by_cases Z:Bad V.n r.2
   .rw[ZN Z];refine⟨.fz (.int r.1),.fz (.int r.2),?_⟩;have t2:Am [.int (V.n:Int),.int r.2]=O0 (.exc "NoThing" [("thing",.int r.2)]):=Ur V.n r.2 (h r .(1)).2 Z;simp only[cK,BX,s1,s2,T,t2,Dj,Rq,Rp];rfl
   .rw[OO Z];have t2:=QV V.n r.2 Z;refine⟨S,U,?_⟩;have st:BX [.fz (il W),.fz (il V),J,.fz (.int r.1),.fz (.int r.2)]=O0 (.nx [.fz (il W),.fz (il V),J,.fz (.int r.1),.fz (.int r.2)]):=by
     simp only[cK,BX,s1,s2,T,t2,Dj,Rp]
    rw[st,Dm];exact e
def Vu(W V:Wl)(h:wh W)(O:wh V)(hs:Spk W V)(I:List (Int×Int))(S:∀r∈I,Sm r.1/\Sm r.2):Ak [il W,il V,.lst (I.map pI)]=O0 (match I.findSome? (bd1 W.n V.n) with | some t=>ET t | none=>.non):=by
 have u:=g8 W V h O hs;obtain⟨T,U,e⟩:=QW W V (.fz (.lst (I.map pI))) I .un .un S;cases J:I.findSome? (bd1 W.n V.n) with
 |none=>
  rw[J] at e;simp only[cK,Ak,Bw,u,Dj,Rp,Ca,DW,e]
 |some t=>
  rw[J] at e;simp only[cK,Ak,Bw,u,Dj,Rp,Ca,DW,e]
def RM(n:Nat)(h:n<=5):Sm (n:Int):=by
 have:n=0∨n=1∨n=2∨n=3∨n=4∨n=5:=by omega
 unfold Sm;rcases this with rfl | rfl | rfl | rfl | rfl | rfl<;>decide +kernel
def pH{I:List Pr}(J:∀r∈I,r.1<n/\r.2<m):(I.map pz).findSome? (bd1 n m)=W1:=by
 rw[Of];intro x S;obtain⟨r,O,rfl⟩:=bv.mp S;show (if Bad n (r.1:Int) then _ else if Bad m (r.2:Int) then _ else _)=_;rw[OO (W8 (J r O).1),OO (W8 (J r O).2)]
def O6(W V:Wl)(h:wh W)(J:wh V)(hs:Spk W V)(I:List Pr)(O:∀r∈I,r.1<W.n/\r.2<V.n):Ak [il W,il V,.lst (I.map pN)]=O0 .non:=by
 have Z:=h.n5;have U:=J.n5;have z:=Vu W V h J hs (I.map pz) λx S=>by
  obtain⟨r,T,rfl⟩:=bv.mp S;have:=O r T;exact⟨RM _ .(0),RM _ .(0)⟩
 rw[pH O,Y6] at z;exact z
def aG(W V:Wl)(h:wh W)(J:wh V)(hs:Spk W V)(I:List Pr)(O:∀r∈I,r.1<W.n/\r.2<V.n):noX Ak [il W,il V,.lst (I.map pN)]=O0 .non:=xN (O6 W V h J hs I O) rfl
def vD{I S:Type}(f:I->S)(l:List I)(J O:Option Int):Rl (l.map f) J O=(Rl l J O).map f:=by
 unfold Rl;rw[aI,tq,A9]
def pJ(xs:List Nat):sd E3 (.lst (xs.map iN)) (.lst [])=O0 (.bl (decide (xs≠[]))):=by
 cases xs with
 |nil=>rfl
 |cons x r=>
  show (YU (.lst _) (.lst _)).map _=_;have:YU (.lst ((x::r).map iN)) (.lst [])=O0 ZA:=by
   show (if ((x::r).map iN).length=([]:List D).length then Sl (XZ 180) ((x::r).map iN) [] else O0 ZA)=O0 ZA;exact OO .(1)
  rw[this];rfl
def JK{I:Type}(xs:List I)(j:Nat)(h:j<xs.length):(xs[j]::xs.eraseIdx j).Perm xs:=by
 rw[On];have e:xs.take j++xs[j]::xs.drop (j+1)=xs:=by rw[<-x5 h,BS]
 exact (FH.symm).trans (by rw[e])
def z9(n:Nat)(h:n<=100):Yd (.int (n:Int))=O0 (lN (br n)):=by
 show (if 0<=(n:Int)/\(n:Int)<=1000000 then O0 (D.lst (Pl (n:Int).toNat)) else W1)=_;rw[ZN ⟨by omega,by omega⟩,ip];rfl
def dU(J:List (Str×List Nat)):(eM J).map (λp=>kDt p.1)=(J.map (·.1)).map .str:=by simp[eM,Rg]
def dW(I:List (Str×List (Nat×Nat))):(eT I).map (λp=>kDt p.1)=(I.map (·.1)).map .str:=by simp[eT,Rg]
def ixw0(W:Wl):vb (wd W) (.int 0)=O0 (.int (W.n:Int)):=rfl
def ixw1(W:Wl):vb (wd W) (.int 1)=O0 (.dk (eM W.ms)):=rfl
def ixw2(W:Wl):vb (wd W) (.int 2)=O0 (.dk (eT W.ts)):=rfl
def vG(W V:Wl)(p q:Pr):goB W V p q=goB W V q p:=by
 unfold goB;rw[Bool.and_comm (MN W V p q),show decide (p.1=q.1)=decide (q.1=p.1) by simp[eq_comm],show decide (p.2=q.2)=decide (q.2=p.2) by simp[eq_comm]]
def pK(W V:Wl)(p:Pr):goB W V p p=MN W V p p:=by simp[goB]
def Sh(W V:Wl)(ps:List Pr):afS W V ps=E3↔∀p∈ps,(Vn W V p=E3/\MN W V p p=E3)/\∀q∈ps,goB W V p q=E3:=by
 simp only[afS,fI,eW]
def vH(W V:Wl)(ps:List Pr)(q:Pr):fwB W V ps q=E3↔(Vn W V q=E3/\MN W V q q=E3)/\∀p∈ps,goB W V p q=E3:=by
 simp only[fwB,fI,eW]
def dX{W V:Wl}{ps qs:List Pr}(h:∀x∈qs,x∈ps)(a:afS W V ps=E3):afS W V qs=E3:=by
 rw[Sh] at a ⊢;exact λp I=>⟨(a p (h p I)).1,λq U=>(a p (h p I)).2 q (h q U)⟩
def XM{W V:Wl}{ps:List Pr}{q:Pr}:afS W V (ps++[q])=E3↔afS W V ps=E3/\fwB W V ps q=E3:=by
 rw[Sh,Sh,vH];constructor
 .intro h;refine⟨λp J=>⟨(h p (by simp[J])).1,λr I=>(h p (by simp[J])).2 r (by simp[I])⟩,(h q .(1)).1,λp J=>(h p (by simp[J])).2 q .(1)⟩
 .rintro⟨T,O,S⟩ p J
  rcases eR.mp J with J | J
  .refine⟨(T p J).1,λr I=>?_⟩
   rcases eR.mp I with I | I
   .exact (T p J).2 r I
   .have:r=q:=by simpa using I
    exact this▸S p J
  .have:p=q:=by simpa using J
   subst this;refine⟨O,λr I=>?_⟩
   rcases eR.mp I with I | I
   .rw[vG];exact S r I
   .have:r=p:=by simpa using I
    rw[this,pK];exact O.2
def vI(W V:Wl):∀(ps:List Pr),((br ps.length).all λk=>fwB W V (ps.take k) (ps.getD k (0,0)))=afS W V ps:=by
 intro ps;rw[kL];have:∀n,n<=ps.length->(((br n).all λk=>fwB W V (ps.take k) (ps.getD k (0,0)))=E3↔afS W V (ps.take n)=E3):=by
  intro n
  induction n with
  |zero=>intro _;simp[afS]
  |succ n I=>
   intro h;rw[EJ,List.all_append,eW,I .(0)];have e:ps.take (n+1)=ps.take n++[ps.getD n (0,0)]:=by
    rw[HC,dQ .(0),tJ,dQ .(0)];rfl
   rw[e,XM];simp
 have h:=this ps.length (aS _);rw[HE] at h;exact h
def UZ(W V:Wl)(ps:List Pr):Prop:=∀p∈ps,p.1<W.n/\p.2<V.n
def in5{W V:Wl}(I:wh W)(J:wh V){ps:List Pr}(h:UZ W V ps):∀p∈ps,Xs p:=λp O=>by
 have:=h p O;have:=I.n5;have:=J.n5;exact⟨by omega,by omega⟩
def Kg{W V:Wl}(I:wh W)(J:wh V){ps:List Pr}(h:UZ W V ps)(x:Pr):x∈Av ps↔x∈ps:=(QD (in5 I J h)).2 x
def Y7{W V:Wl}(I:wh W)(J:wh V){ps:List Pr}(h:UZ W V ps):UZ W V (Av ps):=λp O=>h p ((Kg I J h p).mp O)
def Nk{W V:Wl}{ps:List Pr}{q:Pr}(h:UZ W V ps)(U:q.1<W.n/\q.2<V.n):UZ W V (ps++[q]):=λp I=>by
 rcases eR.mp I with I | I
 .exact h p I
 .have:p=q:=by simpa using I
  exact this▸U
def Y8{W V:Wl}(J:wh W)(O:wh V){ps:List Pr}(h:UZ W V ps):afS W V (Av ps)=afS W V ps:=by
 rw[kL];exact⟨dX λx I=>(Kg J O h x).mpr I,dX λx I=>(Kg J O h x).mp I⟩
def pM:∀{l:List Pr},SY l->l.Nodup:=λ{l} h=>by
 have:(l.map VU).Nodup:=HG (λ{a b} h e=>QO h (by rw[e];exact kG _)) h;rw[mN,iO] at this;exact HG (λ{a b} h (e:a=b)=>h (by rw[e])) this
def U0{W V:Wl}(I:wh W)(J:wh V){ps:List Pr}(h:UZ W V ps):SY (Av ps):=(QD (in5 I J h)).1
theorem Y9:∀{l m:List Pr},l.Nodup->(∀x∈l,x∈m)->l.length<=m.length
 |[],_,_,_=>gL _
 |x::l,m,S,h=>by
  have O:=h x .(1);have J:=mo.mp S;have:=Y9 (m:=m.erase x) J.2 λy I=>(BM (λe=>J.1 (by rw[<-e];exact I))).mpr (h y (by simp[I]));rw[BN O] at this;have:=BO O;simp only[cq];omega
def g_{W V:Wl}(I:wh W)(J:wh V){ps:List Pr}(h:UZ W V ps):(Av ps).length<=ps.length:=Y9 (pM (U0 I J h)) λx O=>(Kg I J h x).mp O
def vJ{W V:Wl}{ps:List Pr}(J:ps.Nodup)(h:UZ W V ps)(a:afS W V ps=E3):ps.length<=W.n:=by
 rw[Sh] at a;have I:(ps.map (·.1)).Nodup:=by
  rw[mN,iO];refine ra (λ{x y} S O ne e=>?_) J;have g:=(a x S).2 y O;unfold goB at g;rw[eW] at g;have U:=g.1;rw[SO e] at U;have:x.2=y.2:=by simpa using U
  exact ne (so e this)
 have:=XD I λt T=>by
  obtain⟨p,Y,rfl⟩:=bv.mp T;exact (h p Y).1
 rwa [aI] at this
def HQ{t:Nat}{xs:List Nat}:t∈Tb n xs↔t<n/\t∉xs:=by simp[Tb]
def z_{xs I:List Nat}(h:∀x∈xs,x∈I){t:Nat}(T:t∈Tb n xs)(O:t∈I):(Tb n I).length<(Tb n xs).length:=by
 have e:Tb n I=(Tb n xs).filter λt=>decide (t∉I):=by
  unfold Tb;rw[List.filter_filter];refine List.filter_congr λx _=>?_
  by_cases J:x∈I
  .simp[J]
  .have:x∉xs:=λz=>J (h x z);simp[J,this]
 rw[e];exact List.length_filter_lt_length_iff_exists.mpr ⟨t,T,by simp[O]⟩
def XN(n:Nat)(xs:List Nat):(Tb n xs).length<=n:=by
 have:=HI (λt=>decide (t∉xs)) (br n)
 rwa [oy] at this
theorem RN{W V:Wl}{R Z:List Pr->Nat}{ps:List Pr}(h:∀f∈Tb W.n (ps.map (·.1)),∀s∈Tb V.n (ps.map (·.2)),fwB W V ps (f,s)=E3->R (Av (ps++[(f,s)]))=Z (Av (ps++[(f,s)]))):stp W V R ps=stp W V Z ps:=by
 have k:∀f∈Tb W.n (ps.map (·.1)),∀s∈Tb V.n (ps.map (·.2)),(if fwB W V ps (f,s)=E3 then R (Av (ps++[(f,s)])) else 0)=(if fwB W V ps (f,s)=E3 then Z (Av (ps++[(f,s)])) else 0):=λf I s hs=>by
  split
  .rename_i e;exact h f I s hs e
  .rfl
 unfold stp;simp only;rw[tf (g:=λf=>Si ((Tb V.n (ps.map (·.2))).map λs=>if fwB W V ps (f,s)=E3 then Z (Av (ps++[(f,s)])) else 0)) λf I=>by rw[tf λs hs=>k f I s hs],
  tf (l:=Tb V.n (ps.map (·.2))) (g:=λs=>Si ((Tb W.n (ps.map (·.1))).map λf=>if fwB W V ps (f,s)=E3 then Z (Av (ps++[(f,s)])) else 0)) λs hs=>by rw[tf λf I=>k f I s hs]]
theorem XQ{W V:Wl}(I:wh W)(J:wh V){ps:List Pr}(h:UZ W V ps){f s:Nat}(O:f∈Tb W.n (ps.map (·.1)))(hs:s∈Tb V.n (ps.map (·.2))):(Tb W.n ((Av (ps++[(f,s)])).map (·.1))).length<(Tb W.n (ps.map (·.1))).length:=by
 have k:=Nk h (q:=(f,s)) ⟨(HQ.mp O).1,(HQ.mp hs).1⟩;refine z_ (λx S=>?_) O (bv.mpr ⟨(f,s),(Kg I J k _).mpr .(1),rfl⟩);obtain⟨p,T,rfl⟩:=bv.mp S;exact bv.mpr ⟨p,(Kg I J k _).mpr (by simp[T]),rfl⟩
def U3{W V:Wl}(I:wh W)(J:wh V){ps:List Pr}(h:UZ W V ps){f s:Nat}(O:f∈Tb W.n (ps.map (·.1)))(hs:s∈Tb V.n (ps.map (·.2))):UZ W V (Av (ps++[(f,s)])):=Y7 I J (Nk h ⟨(HQ.mp O).1,(HQ.mp hs).1⟩)
def vK{W V:Wl}(J:wh W)(O:wh V):∀(u k j:Nat) (ps:List Pr),UZ W V ps->(Tb W.n (ps.map (·.1))).length<=u->u<=k->u<=j->rkN W V (k+1) ps=rkN W V (j+1) ps:=by
 intro u
 induction u with
 |zero=>
  intro k j ps h T _ _;refine RN λf I=>?_;rw[qv.mp (HK.mp T)] at I;cases I
 |succ u Y=>
  intro k j ps h T Z hj;refine RN λf I s hs _=>?_;obtain⟨S,rfl⟩:=Os (show k≠0 by omega);obtain⟨U,rfl⟩:=Os (show j≠0 by omega);exact Y S U _ (U3 J O h I hs) (A3 (fE (XQ J O h I hs) T)) .(0) .(0)
theorem vL{W V:Wl}(I:wh W)(J:wh V){ps:List Pr}(h:UZ W V ps)(a:afS W V ps=E3):Sf W V ps=stp W V (Sf W V) ps:=by
 have e:Sf W V ps=stp W V (rkN W V 5) ps:=by unfold Sf;rw[ZN a];rfl
 rw[e];refine RN λf S s hs O=>?_;have U:=Nk h (q:=(f,s)) ⟨(HQ.mp S).1,(HQ.mp hs).1⟩;have T:afS W V (Av (ps++[(f,s)]))=E3:=by rw[Y8 I J U];exact XM.mpr ⟨a,O⟩
 unfold Sf;rw[ZN T];refine vK I J 4 4 5 _ (U3 I J h S hs) ?_ .(0) .(0);exact A3 (fE (XQ I J h S hs) (dA (XN W.n (ps.map (·.1))) I.n5))
def pO{W V:Wl}{ps:List Pr}(a:afS W V ps=ZA):Sf W V ps=0:=by unfold Sf;rw[a];rfl
def AAG{x:Nat}(h:x∈l):x<=Si l:=by
 induction l with
 |nil=>cases h
 |cons y l I=>
  have e:Si (y::l)=max y (Si l):=rfl;rw[e]
  rcases bX.mp h with rfl | h
  .omega
  .have:=I h;omega
def AAH(O:0<m)(h:∀x∈l,x<m):Si l<m:=by
 induction l with
 |nil=>exact O
 |cons y l I=>
  have e:Si (y::l)=max y (Si l):=rfl;rw[e];have:=I λx J=>h x (by simp[J]);have:=h y .(1);omega
def vM{e x:Nat}(h:x∈l):l.foldr min e<=x:=by
 induction l with
 |nil=>cases h
 |cons y l I=>
  rw[C9]
  rcases bX.mp h with rfl | h
  .omega
  .have:=I h;omega
def AAL(l:List Nat)(e:Nat):l.foldr min e<=e:=by
 induction l with
 |nil=>exact aS _
 |cons y l I=>rw[C9];omega
def pP(l:List Nat)(e:Nat):l.foldr min e=e∨l.foldr min e∈l:=by
 induction l with
 |nil=>exact .inl rfl
 |cons y l I=>
  rw[C9]
  rcases Oy y (l.foldr min e) with h | h
  .exact .inr (by rw[LL h];simp)
  .rw[LM h]
   rcases I with I | I
   .exact .inl I
   .exact .inr (by simp[I])
def AAP{m:List Nat}(h:kM l=kM m):l=m:=by
 unfold kM at h;have h:=D.dk.inj h;have:=UO (List.map λx:Key×D=>match x.1 with | .inl i=>i.toNat | _=>0) h;simpa [cp,fN] using this
def AAQ{l m:List (Nat×Nat)}(h:kT l=kT m):l=m:=by
 unfold kT at h;have h:=D.dt.inj h;have:=UO (List.map λx:List Key×D=>unk1 x.1) h;simpa [cp,fN,unk1] using this
theorem U4{I O:Type}{f:I->O}(J:∀x y,f x=f y->x=y):∀{l m:List I},l.map f=m.map f->l=m
 |[],[],_=>rfl
 |[],_::_,h=>by cases h
 |_::_,[],h=>by cases h
 |x::l,y::m,h=>by
  rw[bn,bn] at h;obtain⟨T,S⟩:=List.cons.inj h;rw[J x y T,U4 J S]
def dY{W V:Wl}(h:il W=il V):W=V:=by
 obtain⟨n,T,S⟩:=W;obtain⟨n',ms',ts'⟩:=V;unfold il at h;simp only[D.ob.injEq,xC,rl,true_and,and_true,D.int.injEq,D.dk.injEq] at h;obtain⟨h1,Z,U⟩:=h;have e1:n=n':=by omega
 have e2:T=ms':=U4 (λx y e=>by
  obtain⟨Y,O⟩:=x;obtain⟨J,I⟩:=y;simp only[rl,OA] at e;rw[e.1,AAP e.2]) Z
 have e3:S=ts':=U4 (λx y e=>by
  obtain⟨Y,O⟩:=x;obtain⟨J,I⟩:=y;simp only[rl,OA] at e;rw[e.1,AAQ e.2]) U
 rw[e1,e2,e3]
def ABn(W V:Wl):FF (il W) (il V)=FW W V:=by
 have h:∃x:Wl×Wl,il W=il x.1/\il V=il x.2:=⟨(W,V),rfl,rfl⟩;unfold FF;rw[dif_pos h];have:=Classical.choose_spec h;rw[<-dY this.1,<-dY this.2]
theorem vN(ps:List Pr):(YR ps).map unk1=ps:=by
 unfold YR;rw[cp];have:(unk1 ∘ kk)=id:=by funext p;simp[unk1,kk]
 rw[this,List.map_id]
def xT(W V:Wl)(ps:List Pr):FW W V (YR ps)=(Sf W V ps:Nat):=by unfold FW;rw[vN]
def fw_t(W V:Wl)(h:Sp W V)(ps:List Pr)(Z:ps.length<=1000)(q:Pr):Hx [il W,il V,.tup (ps.map pN),pN q]=O0 (.bl (fwB W V ps q)):=by
 have b1:=vC W V h q;have J:=XH W V h q q;have I:Bo (zv (vF 2)) OQ J6 [.fz (il W),.fz (il V),.fz (.tup (ps.map pN)),.fz (pN q)]=O0 (.lst (ps.map λp=>.bl (goB W V p q))):=
  Fp ps pN (λp=>.bl (goB W V p q)) (by simp only[cK,Ca,NP]) Z λp _=>by
   have g:=ABl W V h p q;simp only[cK,J6,g]
 have O:=pF (λp=>goB W V p q) ps;unfold fwB;simp only[cK,Hx,Ma,b1];cases Vn W V q with
 |false=>simp only[cK,Da]
 |true=>
  simp only[cK,J];cases MN W V q q with
  |false=>simp only[cK,CI,Da]
  |true=>simp only[cK,I,O,CI]
def pQ{O:Type}(l:List O)(J I g:O->D)(hs:src ρ=O0 (l.map λx=>.tup [J x,I x]))(U:l.length<=1000)(h:∀x∈l,fe (ρ++[.fz (J x),.fz (I x)])=O0 (g x)):Yt src OQ fe ρ=O0 (.lst (l.map g)):=by
 have c:∀l:List O,(∀x∈l,fe (ρ++[.fz (J x),.fz (I x)])=O0 (g x))->Ft bd2 ρ OQ fe (l.map λx=>.tup [J x,I x])=O0 (l.map g):=by
  intro l
  induction l with
  |nil=>intro _;rfl
  |cons x r S=>
   intro Z;rw[bn];show (fe (ρ++[PV.Slot.fz (J x),PV.Slot.fz (I x)])).bind (λy=>(Ft bd2 ρ OQ fe (r.map λx=>.tup [J x,I x])).map (y::·))=_;rw[Z x .(1),S λd T=>Z d (by simp[T])];rfl
 unfold Yt J0;rw[hs];show (if (l.map λx=>D.tup [J x,I x]).length<=sizeLine then (Ft bd2 ρ OQ fe (l.map λx=>D.tup [J x,I x])).map D.lst else W1)=_;rw[ZN (Ip (by rw[aI];omega)),c l h];rfl
theorem pR:∀(ps:List Pr) (i:Nat),enD i (ps.map pN)=(br ps.length).map λk=>D.tup [.int ((i+k:Nat):Int),pN (ps.getD k (0,0))]
 |[],i=>rfl
 |p::r,i=>by
  rw[bn,cq,Ll,bn,cp];show D.tup [.int (i:Int),pN p]::enD (i+1) (r.map pN)=_;rw[pR r (i+1)];congr 1;refine tf λk _=>?_;simp only[fN,List.getD_cons_succ];rw[show i+1+k=i+(k+1) by omega]
def sl_t(ds:List D)(k:Nat)(h:k<ds.length):slD (.tup ds) W1 (O0 (k:Int))=O0 (.tup (ds.take k)):=by
 show (if HT.sIx ds.length 0 W1=0/\HT.sIx ds.length ds.length (O0 (k:Int))=ds.length then W1 else O0 (D.tup (Rl ds W1 (O0 (k:Int)))))=_;rw[OO (by rw[HT.V6];omega),j6]
def sl_l(ds:List D)(k:Nat):slD (.lst ds) W1 (O0 (k:Int))=O0 (.lst (ds.take k)):=by
 show O0 (D.lst (Rl ds W1 (O0 (k:Int))))=_;rw[j6]
def ABo(f:FE)(ρ:Rho)(ds:List D)(h:f ρ=O0 (.tup ds)):enIT f ρ=O0 (enD 0 ds):=by unfold enIT;rw[h]
def af_t(W V:Wl)(h:Sp W V)(ps:List Pr)(Z:ps.length<=1000):Iz [il W,il V,.tup (ps.map pN)]=O0 (.bl (afS W V ps)):=by
 have O:Yt (enIT (vF 2)) OQ Mf [.fz (il W),.fz (il V),.fz (.tup (ps.map pN))]=O0 (.lst ((br ps.length).map λk=>.bl (fwB W V (ps.take k) (ps.getD k (0,0))))):=
  pQ (br ps.length) (λk=>.int ((0+k:Nat):Int)) (λk=>pN (ps.getD k (0,0))) _ (by rw[ABo _ _ (ps.map pN) rfl,pR]) (by simpa using Z) λk J=>by
   have f:=fw_t W V h (ps.take k) (by rw[i6];omega) (ps.getD k (0,0));have s:=sl_t (ps.map pN) k (by rw[aI];exact de.mp J);rw[nE];rw[<-tq] at s;simp only[cK,Mf,s,f]
 have I:=pF (λk=>fwB W V (ps.take k) (ps.getD k (0,0))) (br ps.length);rw[vI] at I;simp only[cK,Iz,Q8,O,I]
def ABp(t:Nat)(l:List Nat):ZU E3 (.int (t:Int)) (.lst (l.map iN))=O0 (.bl (decide (t∉l))):=by
 have h:∀I:List Nat,Sk (I.map iN)=O0 (I.map λ(t:Nat)=>V.int t):=λI=>by
  induction I with
  |nil=>rfl
  |cons y r O=>simp[Sk,VT,O]
 have i:=in_i t l;change ((VT (.int (t:Int))).bind λv=>(Sk (l.map iN)).map λJ=>D.bl (inV v J))=_ at i;show ((VT (.int (t:Int))).bind λv=>(Sk (l.map iN)).map λJ=>D.bl (!inV v J))=_;rw[h] at i ⊢;have i:O0 (D.bl (inV (.int (t:Int)) (l.map λ(t:Nat)=>V.int t)))=O0 (D.bl (decide (t∈l))):=i;show O0 (D.bl (!inV (.int (t:Int)) (l.map λ(t:Nat)=>V.int t)))=_;injection i with i
 injection i with i
 rw[i];simp
def pW(n:Nat)(I:n<=100)(xs:List Nat):JQ [.int (n:Int),.lst (xs.map iN)]=O0 (.lst ((Tb n xs).map iN)):=by
 have O:Bo (QY (vF 0)) Ky Kz [.fz (.int (n:Int)),.fz (.lst (xs.map iN))]=O0 (.lst ((Tb n xs).map iN)):=
  Ni (λt=>decide (t∉xs)) iN (QY (vF 0)) (W9 n I _ 0 rfl) .(0) (λk J=>by
   have s:=ABp k xs;simp only[cK,Ky,s]) (λk J=>by simp only[cK,Kz])
 simp only[cK,JQ,Ot,O]
def U5(l:List Nat):Ge (l.map iN)=O0 (l.map λ(t:Nat)=>(t:Int)):=by
 induction l with
 |nil=>rfl
 |cons y r I=>
  show (Ge (r.map iN)).map (_::·)=_;rw[I];rfl
theorem pX(f:Nat->Int):∀k,(∃i,i<=k/\mxN f k=f i)/\∀i,i<=k->f i<=mxN f k
 |0=>⟨⟨0,aS _,rfl⟩,λi I=>by rw[HK.mp I];exact CL _⟩
 |k+1=>by
  obtain⟨⟨i,I,e⟩,h⟩:=pX f k;have u:mxN f (k+1)=if f (k+1) > mxN f k then f (k+1) else mxN f k:=rfl
  rw[u];split
  .rename_i c;refine⟨⟨k+1,aS _,rfl⟩,λj J=>?_⟩
   rcases zt k j with z | z
   .have:j=k+1:=by omega
    rw[this];exact CL _
   .have:=h j z;omega
  .rename_i c;refine⟨⟨i,by omega,e⟩,λj J=>?_⟩
   rcases zt k j with z | z
   .have:j=k+1:=by omega
    rw[this];omega
   .exact h j z
theorem pZ(f:Nat->Int):∀k,(∃i,i<=k/\mnN f k=f i)/\∀i,i<=k->mnN f k<=f i
 |0=>⟨⟨0,aS _,rfl⟩,λi I=>by rw[HK.mp I];exact CL _⟩
 |k+1=>by
  obtain⟨⟨i,I,e⟩,h⟩:=pZ f k;have u:mnN f (k+1)=if f (k+1)<mnN f k then f (k+1) else mnN f k:=rfl
  rw[u];split
  .rename_i c;refine⟨⟨k+1,aS _,rfl⟩,λj J=>?_⟩
   rcases zt k j with z | z
   .have:j=k+1:=by omega
    rw[this];exact CL _
   .have:=h j z;omega
  .rename_i c;refine⟨⟨i,by omega,e⟩,λj J=>?_⟩
   rcases zt k j with z | z
   .have:j=k+1:=by omega
    rw[this];omega
   .exact h j z
def RP(l:List Nat)(i:Nat)(h:i<l.length):(l.map λ(t:Nat)=>(t:Int)).getD i 0=(l[i]:Int):=by
 rw[tJ,db,dQ h];rfl
theorem aH(l:List Nat):Xp (.lst (l.map iN)) (.int 0)=O0 (.int ((Si l:Nat):Int)):=by
 show (Ge (l.map iN)).map _=_;rw[U5];show O0 (if (l.map λ(t:Nat)=>(t:Int))=[] then D.int 0 else .int (mxN (λi=>(l.map λ(t:Nat)=>(t:Int)).getD i 0) ((l.map λ(t:Nat)=>(t:Int)).length-1)))=_;cases l with
 |nil=>rfl
 |cons x r=>
  rw[OO .(1)];congr 2;have ⟨⟨i,hi,e⟩,h⟩:=pX (λi=>((x::r).map λ(t:Nat)=>(t:Int)).getD i 0) (((x::r).map λ(t:Nat)=>(t:Int)).length-1);rw[aI,cq] at hi e h;have I:i<(x::r).length:=by rw[cq];omega
  rw[aI,cq,e];show ((x::r).map λ(t:Nat)=>(t:Int)).getD i 0=_;rw[RP _ _ I];have Y:=AAG (gX I);have U:Si (x::r)<=(x::r)[i]:=by
   have:Si (x::r)<(x::r)[i]+1:=AAH .(0) λy S=>by
    obtain⟨j,O,T⟩:=tm.mp S;have J:=h j (by rw[cq] at O;omega);rw[e] at J;change ((x::r).map λ(t:Nat)=>(t:Int)).getD j 0<=((x::r).map λ(t:Nat)=>(t:Int)).getD i 0 at J;rw[RP _ _ I,RP _ _ O,T] at J;omega
   omega
  omega
theorem AAR(l:List Nat)(e:Nat):∃m:Nat,dB (.lst (l.map iN)) (.int (e:Int))=O0 (.int (m:Int))/\min e (1+m)=min e (1+l.foldr min e):=by
 have u:dB (.lst (l.map iN)) (.int (e:Int))=O0 (if (l.map λ(t:Nat)=>(t:Int))=[] then D.int (e:Int) else .int (mnN (λi=>(l.map λ(t:Nat)=>(t:Int)).getD i 0) ((l.map λ(t:Nat)=>(t:Int)).length-1))):=by
  show (Ge (l.map iN)).map _=_;rw[U5];rfl
 rw[u];cases l with
 |nil=>exact⟨e,rfl,rfl⟩
 |cons x r=>
  rw[OO .(1)];have ⟨⟨i,hi,ee⟩,h⟩:=pZ (λi=>((x::r).map λ(t:Nat)=>(t:Int)).getD i 0) (((x::r).map λ(t:Nat)=>(t:Int)).length-1);rw[aI,cq] at hi ee h;have I:i<(x::r).length:=by rw[cq];omega
  refine⟨(x::r)[i],?_,?_⟩
  .rw[aI,cq,ee];show O0 (D.int (((x::r).map λ(t:Nat)=>(t:Int)).getD i 0))=_;rw[RP _ _ I]
  .have T:=vM (e:=e) (gX I);have U:=AAL (x::r) e
   rcases pP (x::r) e with z | z
   .rw[z] at T ⊢;omega
   .obtain⟨j,O,S⟩:=tm.mp z;have J:=h j (by rw[cq] at O;omega);rw[ee] at J;change ((x::r).map λ(t:Nat)=>(t:Int)).getD i 0<=((x::r).map λ(t:Nat)=>(t:Int)).getD j 0 at J;rw[RP _ _ I,RP _ _ O,S] at J;omega
def OU(W V:Wl):D:=.ob "Ranks" [("one",il W),("other",il V),("reckoned",.mem (FW W V)),("endless",.int (Pm W V:Nat))]
def u1:(("other":Str)=="one")=ZA:=by decide +kernel
def u2:(("reckoned":Str)=="one")=ZA:=by decide +kernel
def u3:(("reckoned":Str)=="other")=ZA:=by decide +kernel
def u4:(("endless":Str)=="one")=ZA:=by decide +kernel
def u5:(("endless":Str)=="other")=ZA:=by decide +kernel
def u6:(("endless":Str)=="reckoned")=ZA:=by decide +kernel
def dZ(W V:Wl):kc "one" (OU W V)=O0 (il W):=by
 show ce ("one":Str) _=_;rfl
def Sq(W V:Wl):kc "other" (OU W V)=O0 (il V):=by
 show ce ("other":Str) [(("one":Str),il W),("other",il V),("reckoned",.mem (FW W V)),("endless",.int (Pm W V:Nat))]=_;simp only[ce,u1];rfl
def p_(W V:Wl):kc "reckoned" (OU W V)=O0 (.mem (FW W V)):=by
 show ce ("reckoned":Str) [(("one":Str),il W),("other",il V),("reckoned",.mem (FW W V)),("endless",.int (Pm W V:Nat))]=_;simp only[ce,u2,u3];rfl
def aJ(W V:Wl):kc "endless" (OU W V)=O0 (.int (Pm W V:Nat)):=by
 show ce ("endless":Str) [(("one":Str),il W),("other",il V),("reckoned",.mem (FW W V)),("endless",.int (Pm W V:Nat))]=_;simp only[ce,u4,u5,u6];rfl
def OJ{m:Str}{W V:Wl}(h:Es "Ranks" m (OU W V)=E3):mzO "Ranks" m g (O0 (OU W V)) (O0 ds)=g (OU W V::ds):=Uz h
def ob1(W V:Wl):Es "Ranks" "rank_of_fitting" (OU W V)=E3:=rfl
def ob2(W V:Wl):Es "Ranks" "rank_with" (OU W V)=E3:=rfl
def ob3(W V:Wl):Es "Ranks" "best_rank" (OU W V)=E3:=rfl
def ob4(W V:Wl):Es "Ranks" "least_rank" (OU W V)=E3:=rfl
def ob5(W V:Wl):Es "Ranks" "rank_of" (OU W V)=E3:=rfl
def ob6(W V:Wl):Es "Ranks" "told_rank" (OU W V)=E3:=rfl
def ABq{p:Pr}(h:Xs p):prD (pN p)=O0 p:=by
 obtain⟨a,b⟩:=p;obtain⟨J,I⟩:=h;show (if 0<=(a:Int)/\(a:Int)<5/\0<=(b:Int)/\(b:Int)<5 then O0 ((a:Int).toNat,(b:Int).toNat) else W1)=_;have J:a<5:=J;have I:b<5:=I;rw[ZN .(0),ip,ip]
def aK{ps:List Pr}(h:∀p∈ps,Xs p):VZ (ps.map pN)=O0 ps:=by
 induction ps with
 |nil=>rfl
 |cons p r I=>
  show (prD (pN p)).bind (λp=>(VZ (r.map pN)).map (p::·))=_;rw[ABq (h p .(1)),I λq U=>h q (by simp[U])];rfl
def qC{ps:List Pr}(h:∀p∈ps,Xs p)(Z:ps.length<=5):Wp (.tup (ps.map pN))=O0 ps:=by
 show (VZ (ps.map pN)).bind (λps=>if ps.length<=5 then O0 ps else W1)=_;rw[aK h];show (if ps.length<=5 then O0 ps else W1)=_;rw[ZN Z]
def AAS{ps:List Pr}(h:∀p∈ps,Xs p)(Z:ps.length<=17):tssD (.lst (ps.map pN))=O0 (.tup ((Av ps).map pN)):=by
 show (VZ (ps.map pN)).bind (λps=>if ps.length<=17 then O0 (D.tup ((Av ps).map prT)) else W1)=_;rw[aK h];show (if ps.length<=17 then O0 (D.tup ((Av ps).map prT)) else W1)=_;rw[ZN Z]
def AAT{ps:List Pr}(h:∀p∈ps,Xs p)(Z:ps.length<=17)(I:ps.Nodup):tslD (.tup (ps.map pN))=O0 (.tup ((Av ps).map pN)):=by
 show (VZ (ps.map pN)).bind (λps=>if ps.length<=17/\ps.Nodup then O0 (D.tup ((Av ps).map prT)) else W1)=_;rw[aK h];show (if ps.length<=17/\ps.Nodup then O0 (D.tup ((Av ps).map prT)) else W1)=_;rw[ZN ⟨Z,I⟩]
def AAV(ps:List Pr)(q:Pr)(Z:ps.length<=100):catU (.tup (ps.map pN)) (.tup [pN q])=O0 (.tup ((ps++[q]).map pN)):=by
 show (if [pN q]≠[]/\(ps.map pN).length+[pN q].length<=1000 then O0 (D.tup (ps.map pN++[pN q])) else W1)=_;rw[ZN ⟨by simp,by simp;omega⟩,f6];rfl
def AAX{I:FE}{ps:List Pr}{v:Int}(h1:uF (kc f) (vF i) ρ=O0 (.mem F))(O:(vF j ρ).bind Wp=O0 ps)(S:I ρ=O0 (.int v))(J:v=F (YR ps)):memR i f j I ρ=O0 (.rt (.int v) ρ):=by
 unfold memR;rw[h1,O,S];exact ZN J
def vO{m:Str}{ps:List Pr}(h1:uF (kc f) (vF i) ρ=O0 (.mem F))(I:(vF j ρ).bind Wp=O0 ps)(S:ft ρ=O0 E3):memB i f j ft c m fr ρ=im fr ρ:=by
 unfold memB;rw[h1,I,S]
def vP{m:Str}{ps:List Pr}(h1:uF (kc f) (vF i) ρ=O0 (.mem F))(J:(vF j ρ).bind Wp=O0 ps)(S:ft ρ=O0 ZA)(I:F (YR ps)=0)(O:(vF i ρ).map (Es c m)=O0 E3):memB i f j ft c m fr ρ=O0 (.rt (.int 0) ρ):=by
 unfold memB;rw[h1,J,S];exact ZN ⟨I,O⟩
abbrev VY (W V:Wl) (ps:List Pr) (q:Pr):Nat:=if fwB W V ps q=E3 then Sf W V (Av (ps++[q])) else 0
section
theorem vQ{W V:Wl}(S:wh W)(T:wh V)(h:Sp W V){g:List D->Option D}{ps:List Pr}{q:Pr}(Y:UZ W V ps)(J:ps.Nodup)(hl:ps.length<=5)(U:q.1<W.n/\q.2<V.n)(Z:q∉ps)(hg:fwB W V ps q=E3->g [OU W V,.tup ((Av (ps++[q])).map pN)]=O0 (.int (Sf W V (Av (ps++[q])):Nat))):Bx g [OU W V,.tup (ps.map pN),pN q]=O0 (.int (VY W V ps q:Nat)):=by
 have f:=fw_t W V h ps .(0) q;have a1:=dZ W V;have a2:=Sq W V;simp only[cK,Bx,G5,a1,a2,f];cases e:fwB W V ps q with
 |false=>
  simp only[cK,VY,e];rfl
 |true=>
  have c:=AAV ps q .(0);have t:=AAT (in5 S T (Nk Y U)) (by simp;omega) (fR.mpr ⟨J,by simp,λx O y I e=>Z (by simp at I;rw[<-I,<-e];exact O)⟩);have m:=OJ (g:=g) (ds:=[.tup ((Av (ps++[q])).map pN)]) (ob1 W V);simp only[cK,c,t,Ep,m,hg e,VY,e,XO]
theorem dg{W V:Wl}{ps:List Pr}(qs:List Pr)(Z:qs.length<=1000)(I:∀q∈qs,Bx g [OU W V,.tup (ps.map pN),pN q]=O0 (.int (VY W V ps q:Nat))):A_ g [OU W V,.tup (ps.map pN),.lst (qs.map pN)]=O0 (.int (Si (qs.map (VY W V ps)):Nat)):=by
 have J:Bo (zv (vF 2)) OQ (Fw g) [.fz (OU W V),.fz (.tup (ps.map pN)),.fz (.lst (qs.map pN))]=O0 (.lst (qs.map λq=>iN (VY W V ps q))):=
  Fp qs pN _ (by simp only[cK,Ca,DW]) Z λq U=>by
   have m:=OJ (g:=Bx g) (ds:=[.tup (ps.map pN),pN q]) (ob2 W V);simp only[cK,Fw,Ep,m,I q U]
 have mx:=aH (qs.map (VY W V ps));rw[cp] at mx;change Xp (.lst (qs.map λq=>iN (VY W V ps q))) (.int 0)=_ at mx;simp only[cK,A_,G6,J,mx]
theorem xU{W V:Wl}{g:List D->Option D}{ps:List Pr}(fs I:List Nat)(hs:I.length<=100)(U:∀f∈fs,A_ g [OU W V,.tup (ps.map pN),.lst ((I.map λs=>(f,s)).map pN)]=O0 (.int (Si ((I.map λs=>(f,s)).map (VY W V ps)):Nat)))(O J:Slot):
  ∀(r:List Nat) (l:List Nat) (z:Slot),(∀f∈r,f∈fs)->l.length+r.length<=900->∃S,OS (XU (CW 5) (De g)) (r.map iN) [.fz (OU W V),.fz (.tup (ps.map pN)),O,.fz (.lst (I.map iN)),.ow (.lst (l.map iN)),z,J]=O0 (.nx [.fz (OU W V),.fz (.tup (ps.map pN)),O,.fz (.lst (I.map iN)),.ow (.lst ((l++r.map λf=>Si ((I.map λs=>(f,s)).map (VY W V ps))).map iN)),S,J])
 |[],l,z,_,_=>⟨z,by rw[gy,gy,gg];rfl⟩
 |f::r,l,z,T,hl=>by
  rw[cq] at hl;have b:=U f (T f .(1));have cm:Bo (zv (vF 3)) OQ (Ez g) [.fz (OU W V),.fz (.tup (ps.map pN)),O,.fz (.lst (I.map iN)),.ow (.lst (l.map iN)),.fz (iN f),J]=O0 (.lst ((I.map λs=>(f,s)).map pN)):=by
   rw[cp];exact Fp I iN _ (by simp only[cK,Ca,DW]) .(0) λs _=>by simp only[cK,Ez,fN]
  have m:=OJ (g:=A_ g) (ds:=[.tup (ps.map pN),.lst ((I.map λs=>(f,s)).map pN)]) (ob3 W V);have ap:=dH (l.map iN) (iN (Si ((I.map λs=>(f,s)).map (VY W V ps)))) (by simp;omega);have bd:De g [.fz (OU W V),.fz (.tup (ps.map pN)),O,.fz (.lst (I.map iN)),.ow (.lst (l.map iN)),.fz (iN f),J]=O0 (.nx [.fz (OU W V),.fz (.tup (ps.map pN)),O,.fz (.lst (I.map iN)),.ow (.lst ((l++[Si ((I.map λs=>(f,s)).map (VY W V ps))]).map iN)),.fz (iN f),J]):=by
   simp only[cK,De,Ep,cm,m,b,ap,f6]
  obtain⟨S,Y⟩:=xU fs I hs U O J r (l++[Si ((I.map λs=>(f,s)).map (VY W V ps))]) (.fz (iN f)) (λy Z=>T y (by simp[Z])) (by simp;omega);refine⟨S,?_⟩
  w_up
  rw[bd,Dm,Y];simp
theorem xV{W V:Wl}{g:List D->Option D}{ps:List Pr}(fs J:List Nat)(hs:fs.length<=100)(U:∀s∈J,A_ g [OU W V,.tup (ps.map pN),.lst ((fs.map λf=>(f,s)).map pN)]=O0 (.int (Si ((fs.map λf=>(f,s)).map (VY W V ps)):Nat)))(I T:Slot):
  ∀(r:List Nat) (l:List Nat) (z:Slot),(∀f∈r,f∈J)->l.length+r.length<=900->∃S,OS (XU (CW 6) (Df g)) (r.map iN) [.fz (OU W V),.fz (.tup (ps.map pN)),.fz (.lst (fs.map iN)),I,.ow (.lst (l.map iN)),T,z]=O0 (.nx [.fz (OU W V),.fz (.tup (ps.map pN)),.fz (.lst (fs.map iN)),I,.ow (.lst ((l++r.map λs=>Si ((fs.map λf=>(f,s)).map (VY W V ps))).map iN)),T,S])
 |[],l,z,_,_=>⟨z,by rw[gy,gy,gg];rfl⟩
 |s::r,l,z,O,hl=>by
  rw[cq] at hl;have b:=U s (O s .(1));have cm:Bo (zv (vF 2)) OQ (E_ g) [.fz (OU W V),.fz (.tup (ps.map pN)),.fz (.lst (fs.map iN)),I,.ow (.lst (l.map iN)),T,.fz (iN s)]=O0 (.lst ((fs.map λf=>(f,s)).map pN)):=by
   rw[cp];exact Fp fs iN _ (by simp only[cK,Ca,DW]) .(0) λf _=>by simp only[cK,E_,fN]
  have m:=OJ (g:=A_ g) (ds:=[.tup (ps.map pN),.lst ((fs.map λf=>(f,s)).map pN)]) (ob3 W V);have ap:=dH (l.map iN) (iN (Si ((fs.map λf=>(f,s)).map (VY W V ps)))) (by simp;omega);have bd:Df g [.fz (OU W V),.fz (.tup (ps.map pN)),.fz (.lst (fs.map iN)),I,.ow (.lst (l.map iN)),T,.fz (iN s)]=O0 (.nx [.fz (OU W V),.fz (.tup (ps.map pN)),.fz (.lst (fs.map iN)),I,.ow (.lst ((l++[Si ((fs.map λf=>(f,s)).map (VY W V ps))]).map iN)),T,.fz (iN s)]):=by
   simp only[cK,Df,Ep,cm,m,b,ap,f6]
  obtain⟨S,Y⟩:=xV fs J hs U I T r (l++[Si ((fs.map λf=>(f,s)).map (VY W V ps))]) (.fz (iN s)) (λy Z=>O y (by simp[Z])) (by simp;omega);refine⟨S,?_⟩
  w_up
  rw[bd,Dm,Y];simp
end
def qD(a b:Nat):minD (.int (a:Int)) (.int (b:Int))=O0 (.int ((min a b:Nat):Int)):=by
 show O0 (D.int (if (b:Int)<a then (b:Int) else a))=_;congr 2;split<;>omega
def XR(a b:Nat):Yf (.int (a:Int)) (.int (b:Int))=O0 (.int ((max a b:Nat):Int)):=by
 show O0 (D.int (if (b:Int) > a then (b:Int) else a))=_;congr 2;split<;>omega
def qF{W V:Wl}(hw:wh W)(hv:wh V)(h:Sp W V){g:List D->Option D}{ps:List Pr}(hi:UZ W V ps)(nd:ps.Nodup)(hl:ps.length<=5)(Y:∀f∈Tb W.n (ps.map (·.1)),∀s∈Tb V.n (ps.map (·.2)),fwB W V ps (f,s)=E3->g [OU W V,.tup ((Av (ps++[(f,s)])).map pN)]=O0 (.int (Sf W V (Av (ps++[(f,s)])):Nat))):Cz g [OU W V,.tup (ps.map pN)]=O0 (.int (stp W V (Sf W V) ps:Nat)):=by
 have hn:=hw.n5;have hm:=hv.n5;generalize S:Tb W.n (ps.map (·.1))=fs at Y;generalize O:Tb V.n (ps.map (·.2))=ss at Y;have lf:fs.length<=5:=by rw[<-S];exact dA (XN _ _) hn
 have ls:ss.length<=5:=by rw[<-O];exact dA (XN _ _) hm
 have J:∀f∈fs,∀s∈ss,Bx g [OU W V,.tup (ps.map pN),pN (f,s)]=O0 (.int (VY W V ps (f,s):Nat)):=λf I s hs=>by
  have T:=I;have ms:=hs;rw[<-S] at T;rw[<-O] at ms;exact vQ hw hv h hi nd hl ⟨(HQ.mp T).1,(HQ.mp ms).1⟩ (λz=>(HQ.mp T).2 (bv.mpr ⟨_,z,rfl⟩)) (Y f I s hs)
 have b1:∀f∈fs,A_ g [OU W V,.tup (ps.map pN),.lst ((ss.map λs=>(f,s)).map pN)]=O0 (.int (Si ((ss.map λs=>(f,s)).map (VY W V ps)):Nat)):=λf I=>
  dg _ (by simp;omega) λq U=>by
   obtain⟨s,hs,rfl⟩:=bv.mp U;exact J f I s hs
 have b2:∀s∈ss,A_ g [OU W V,.tup (ps.map pN),.lst ((fs.map λf=>(f,s)).map pN)]=O0 (.int (Si ((fs.map λf=>(f,s)).map (VY W V ps)):Nat)):=λs hs=>
  dg _ (by simp;omega) λq U=>by
   obtain⟨f,I,rfl⟩:=bv.mp U;exact J f I s hs
 obtain⟨z5,l1⟩:=xU fs ss .(0) b1 (.fz (.lst (fs.map iN))) .un fs [] .un (λ_ z=>z) (by simp;omega);simp only[ko,gy] at l1;obtain⟨z6,l2⟩:=xV fs ss .(0) b2 (.fz (.lst (ss.map iN))) z5 ss (fs.map λf=>Si ((ss.map λs=>(f,s)).map (VY W V ps))) .un (λ_ z=>z) (by simp;omega);have a1:=dZ W V;have a2:=Sq W V;have a3:=aJ W V;have s1:=El W;have s2:=El V;have c1:Bo (zv (vF 1)) OQ (Ex g) [.fz (OU W V),.fz (.tup (ps.map pN)),.un,.un,.un,.un,.un]=O0 (.lst ((ps.map (·.1)).map iN)):=by
  rw[cp];exact Fp ps pN _ (by simp only[cK,Ca,NP]) .(0) λp _=>by
   have:=ixp0 p;simp only[cK,Ex,this,fN]
 have c2:Bo (zv (vF 1)) OQ (Ey g) [.fz (OU W V),.fz (.tup (ps.map pN)),.fz (.lst (fs.map iN)),.un,.un,.un,.un]=O0 (.lst ((ps.map (·.2)).map iN)):=by
  rw[cp];exact Fp ps pN _ (by simp only[cK,Ca,NP]) .(0) λp _=>by
   have:=ixp1 p;simp only[cK,Ey,this,fN]
 have u1:=pW W.n .(0) (ps.map (·.1));have u2:=pW V.n .(0) (ps.map (·.2));rw[S] at u1;rw[O] at u2;obtain⟨m,mi,me⟩:=AAR ((fs.map λf=>Si ((ss.map λs=>(f,s)).map (VY W V ps)))++(ss.map λs=>Si ((fs.map λf=>(f,s)).map (VY W V ps)))) (Pm W V);have ad:OT (.int 1) (.int (m:Int))=O0 (.int ((1+m:Nat):Int)):=by
  rw[J1];congr 2
 have mn:=qD (Pm W V) (1+m);simp only[cK,Cz,Gd,Ca,DW,a1,a2,s1,s2,c1,u1,c2,u2,l1,l2,a3,mi,ad,mn];rw[me];have Z:min (Pm W V) (1+((fs.map λf=>Si ((ss.map λs=>(f,s)).map (VY W V ps)))++(ss.map λs=>Si ((fs.map λf=>(f,s)).map (VY W V ps)))).foldr min (Pm W V))=stp W V (Sf W V) ps:=by
  unfold stp;simp only[S,O,cp,fN,VY]
 rw[Z]
def dh(d:D):(O0 d:Option D).bind Wp=Wp d:=rfl
theorem qG{W V:Wl}(I:wh W)(J:wh V)(h:Sp W V):∀(n:Nat) (ps:List Pr),UZ W V ps->SY ps->afS W V ps=E3->(Tb W.n (ps.map (·.1))).length<n->Al n [OU W V,.tup (ps.map pN)]=O0 (.int (Sf W V ps:Nat))
 |0,ps,_,_,_,Z=>by omega
 |n+1,ps,O,hs,U,Z=>by
  have Y:=pM hs;have hl:ps.length<=5:=dA (vJ Y O U) I.n5;have lt:=qF (g:=Al n) I J h O Y hl λf T s hs S=>by
   have hq:=Nk O (q:=(f,s)) ⟨(HQ.mp T).1,(HQ.mp hs).1⟩;exact qG I J h n _ (U3 I J O T hs) (U0 I J hq) (by rw[Y8 I J hq];exact XM.mpr ⟨U,S⟩) (fE (XQ I J O T hs) (A3 Z))
  rw[<-vL I J O U] at lt;have a:=p_ W V;have m:=OJ (g:=Cz (Al n)) (ds:=[.tup (ps.map pN)]) (ob4 W V);have k:=qC (in5 I J O) hl;have r:Br (Al n) [.fz (OU W V),.fz (.tup (ps.map pN))]=O0 (.rt (.int (Sf W V ps:Nat)) [.fz (OU W V),.fz (.tup (ps.map pN))]):=by
   unfold Br;refine AAX (F:=FW W V) (ps:=ps) ?_ ?_ ?_ (xT W V ps).symm
   .simp only[cK,a]
   .simp only[e_v,TU,kz,kg,dh,k]
   .simp only[cK,Ep,m,lt]
  show oo 2 2 (Br (Al n)) [OU W V,.tup (ps.map pN)]=_;simp only[cK,r]
theorem of_ok{W V:Wl}(J:wh W)(O:wh V)(h:Sp W V)(I:List Pr)(T:UZ W V I)(hl:I.length<=5):Bf [OU W V,.lst (I.map pN)]=O0 (.int (Sf W V (Av I):Nat)):=by
 have S:=Y7 J O T;have U:(Av I).length<=5:=dA (g_ J O T) hl;have t:=AAS (in5 J O T) .(0);have k:=qC (in5 J O S) U;have a:=p_ W V;have a1:=dZ W V;have a2:=Sq W V;have af:=af_t W V h (Av I) .(0);have h1:uF (kc "reckoned") (vF 0) [.fz (OU W V),.fz (.lst (I.map pN)),.fz (.tup ((Av I).map pN))]=O0 (.mem (FW W V)):=by simp only[cK,a]
 have Z:(vF 2 [.fz (OU W V),.fz (.lst (I.map pN)),.fz (.tup ((Av I).map pN))]).bind Wp=O0 (Av I):=by simp only[e_v,TU,kz,kg,dh,k]
 cases e:afS W V (Av I) with
 |true=>
  have Y:=qG J O h 8 (Av I) S (U0 J O T) e (sN (dA (XN _ _) J.n5) .(2));have m:=OJ (g:=Al 8) (ds:=[.tup ((Av I).map pN)]) (ob1 W V);have b:=vO (c:="Ranks") (m:="rank_of_fitting") (ft:=trF (Ag (Iz) (Aa (uF (kc "one") (vF 0)) (Aa (uF (kc "other") (vF 0)) (Aa (vF 2) (am)))))) (fr:=Fz "Ranks" "rank_of_fitting" (Al 8) (vF 0) (Aa (vF 2) (am))) h1 Z (by simp only[cK,a1,a2,af,e]);simp only[cK,Bf,GR,t];rw[b];simp only[cK,Ep,m,Y]
 |false=>
  have b:=vP (c:="Ranks") (m:="rank_of_fitting") (ft:=trF (Ag (Iz) (Aa (uF (kc "one") (vF 0)) (Aa (uF (kc "other") (vF 0)) (Aa (vF 2) (am)))))) (fr:=Fz "Ranks" "rank_of_fitting" (Al 8) (vF 0) (Aa (vF 2) (am))) h1 Z (by simp only[cK,a1,a2,af,e]) (by rw[xT,pO e];rfl) (by simp only[e_v,TU,kg];rw[<-ob1 W V];rfl);simp only[cK,Bf,GR,t];rw[b,pO e];simp only[cK];rfl
def told(W V:Wl)(r:Nat):D:=if r=Pm W V then .non else .int (r:Nat)
theorem vR{W V:Wl}(J:wh W)(O:wh V)(h:Sp W V)(I:List Pr)(S:UZ W V I)(Z:I.length<=5):Dg [OU W V,.lst (I.map pN)]=O0 (told W V (Sf W V (Av I))):=by
 have o:=of_ok J O h I S Z;have m:=OJ (g:=Bf) (ds:=[.lst (I.map pN)]) (ob5 W V);have a:=aJ W V;simp only[cK,Dg,G7,Ep,m,o,a,Ik];unfold told
 by_cases c:Sf W V (Av I)=Pm W V
 .rw[SO c,ZN c];simp only[cK]
 .rw[RO c,OO c];simp only[cK]
abbrev rO (W:Wl):Str×Bool×D:=("one",ZA,il W)
abbrev rV (V:Wl):Str×Bool×D:=("other",ZA,il V)
abbrev rR (W V:Wl):Str×Bool×D:=("reckoned",ZA,.mem (FW W V))
abbrev rE (W V:Wl):Str×Bool×D:=("endless",ZA,.int (Pm W V:Nat))
theorem Y_(W V:Wl)(x:Addr):CP x [il W,il V]=O0 [rO W,rV V,rR W V,rE W V]:=by
 have J:=El W;have T:=El V;have mx:=XR W.n V.n;have ad:OT (.int ((max W.n V.n:Nat):Int)) (.int 1)=O0 (.int (Pm W V:Nat)):=by
  rw[J1];congr 2
 have Y:bF OT (bF Yf (uF (kc "size") (vF 1)) (uF (kc "size") (vF 2))) (kF (.int 1)) [.fz (.adr x),.fz (il W),.fz (il V)]=O0 (.int (Pm W V:Nat)):=by simp only[cK,J,T,mx,ad]
 have e3:memE Phi [.fz (.adr x),.fz (il W),.fz (il V)]=O0 (.mem (FW W V)):=by
  show O0 (D.mem (FF (il W) (il V)))=_;rw[ABn]
 have I:Tw 3 x [il W,il V]=[.fz (.adr x),.fz (il W),.fz (il V)]:=rfl;unfold CP runI;rw[ZN (show [il W,il V].length+1=3 from rfl),I];unfold HY;have U:JG "one" (vF 1) [.fz (.adr x),.fz (il W),.fz (il V)] []=O0 ([.fz (.adr x),.fz (il W),.fz (il V)],[rO W]):=rfl;have S:JG "other" (vF 2) [.fz (.adr x),.fz (il W),.fz (il V)] [rO W]=O0 ([.fz (.adr x),.fz (il W),.fz (il V)],[rO W,rV V]):=by
  have l:ce ("other":Str) [rO W]=W1:=by rw[cr,u1];rfl
  unfold JG;show (if (ce ("other":Str) [rO W]).isNone=E3/\1<1000 then O0 (_,[rO W]++[rV V]) else W1)=_;rw[l,ZN ⟨rfl,by decide⟩];rfl
 have Z:JG "reckoned" (memE Phi) [.fz (.adr x),.fz (il W),.fz (il V)] [rO W,rV V]=O0 ([.fz (.adr x),.fz (il W),.fz (il V)],[rO W,rV V,rR W V]):=by
  have l:ce ("reckoned":Str) [rO W,rV V]=W1:=by
   rw[cr,u2];show ce ("reckoned":Str) [rV V]=W1;rw[cr,u3];rfl
  unfold JG;rw[e3];show (if (ce ("reckoned":Str) [rO W,rV V]).isNone=E3/\2<1000 then O0 (_,[rO W,rV V]++[rR W V]) else W1)=_;rw[l,ZN ⟨rfl,by decide⟩];rfl
 have O:JG "endless" (bF OT (bF Yf (uF (kc "size") (vF 1)) (uF (kc "size") (vF 2))) (kF (.int 1))) [.fz (.adr x),.fz (il W),.fz (il V)] [rO W,rV V,rR W V]=O0 ([.fz (.adr x),.fz (il W),.fz (il V)],[rO W,rV V,rR W V,rE W V]):=by
  have l:ce ("endless":Str) [rO W,rV V,rR W V]=W1:=by
   rw[cr,u4];show ce ("endless":Str) [rV V,rR W V]=W1;rw[cr,u5];show ce ("endless":Str) [rR W V]=W1;rw[cr,u6];rfl
  unfold JG;rw[Y];show (if (ce ("endless":Str) [rO W,rV V,rR W V]).isNone=E3/\3<1000 then O0 (_,[rO W,rV V,rR W V]++[rE W V]) else W1)=_;rw[l,ZN ⟨rfl,by decide⟩];rfl
 rw[Gp,U,En,Gp,S,En,Gp,Z,En,Gp,O,En,lr];rfl
def aL(W V:Wl)(fs:FA)(ρ:Rho)(I:fs ρ=O0 [il W,il V]):mkI "Ranks" CP fs ρ=O0 (OU W V):=by
 unfold mkI;rw[I];simp only[cw,Y_ W V 0];rw[ZN (λx=>Y_ W V x)];rfl
theorem vV{W V:Wl}(J:wh W)(O:wh V)(h:Spk W V)(I:List Pr)(S:UZ W V I)(Z:I.length<=5):Q9 [il W,il V,.lst (I.map pN)]=O0 (told W V (Sf W V (Av I))):=by
 have s:=aG W V J O h I S;have t:=vR J O h.sp I S Z;have m:=OJ (g:=Dg) (ds:=[.lst (I.map pN)]) (ob6 W V);have mk:=aL W V (Aa (vF 0) (Aa (vF 1) am)) [.fz (il W),.fz (il V),.fz (.lst (I.map pN))] (by simp only[cK]);simp only[cK,Q9,Z7,s,Ep,mk,m,t]
def rngN(n:Nat)(I:n<=100):rngO (O0 (.int (n:Int)))=O0 ((br n).map iN):=by
 rw[Wf (n:Int) .(0),ip];rfl
def prS(side t r:Nat):Pr:=if side=0 then (t,r) else (r,t)
def QU(W V:Wl)(side:Nat):Nat:=if side=0 then W.n else V.n
def aM(W V:Wl)(side:Nat):C_ [OU W V,.int (side:Int)]=O0 (.int (QU W V side:Nat)):=by
 have O:=dZ W V;have J:=Sq W V;have I:=El W;have T:=El V;have e:sd ZA (.int (side:Int)) (.int 0)=O0 (.bl (decide (side=0))):=Ik side 0;simp only[cK,C_,JR,e];unfold QU
 by_cases c:side=0
 .rw[SO c,ZN c];simp only[cK,O,I]
 .rw[RO c,OO c];simp only[cK,J,T]
def vW(side t r:Nat):Nf [.int (side:Int),.int (t:Int),.int (r:Int)]=O0 (pN (prS side t r)):=by
 have e:sd ZA (.int (side:Int)) (.int 0)=O0 (.bl (decide (side=0))):=Ik side 0;simp only[cK,Nf,Q_,e];unfold prS
 by_cases c:side=0
 .rw[SO c,ZN c];simp only[cK]
 .rw[RO c,OO c];simp only[cK]
def ZC{W V:Wl}(I:wh W)(J:wh V)(side:Nat):QU W V side<=5:=by
 have:=I.n5;have:=J.n5;unfold QU;split<;>omega
def vX(n:Nat):((br n).filter λ_=>E3)=br n:=by simp
theorem ZD(h:Nat->D)(I:FI)(hs:I ρ=O0 (Pl n))(J:n<=1000)(O:∀k,k<n->fe (ρ++[.fz (.int k)])=O0 (h k)):Bo I OQ fe ρ=O0 (.lst ((br n).map h)):=by
 have:=Ni (ga:=OQ) (λ_=>E3) h I hs J (λ_ _=>rfl) O
 rwa [vX] at this
theorem vY{W V:Wl}(I:wh W)(J:wh V)(side t:Nat)(h1:side<=1):Hy [OU W V,.int (side:Int),.int (t:Int)]=O0 (.lst (((br (QU W V (1-side))).map λr=>prS side t r).map pN)):=by
 have O:subD (.int 1) (.int (side:Int))=O0 (.int ((1-side:Nat):Int)):=by
  rw[Qt];congr 2;omega
 have sz:=aM W V (1-side);have S:QY (Ag (C_) (Aa (vF 0) (Aa (bF subD (kF (.int 1)) (vF 1)) (am)))) [.fz (OU W V),.fz (.int (side:Int)),.fz (.int (t:Int))]=O0 (Pl (QU W V (1-side))):=by
  have:=ZC I J (1-side);have:=rngN (QU W V (1-side)) .(0);simp only[cK,O,sz,this];rfl
 have T:=ZD (fe:=J7) (λr=>pN (prS side t r)) _ S (by have:=ZC I J (1-side);omega) λk _=>by
  have:=vW side t k;simp only[cK,J7,this]
 simp only[cK,Hy,Mh,T,cp,fN]
def ABr(l:List Pr)(q:Pr)(h:l.length<=1000):OT (.lst (l.map pN)) (.lst [pN q])=O0 (.lst ((l++[q]).map pN)):=by
 rw[Tn (by simp;omega)];simp
def AAZ{W V:Wl}{side t r:Nat}(h1:side<=1)(T:t<QU W V side)(I:r<QU W V (1-side)):(prS side t r).1<W.n/\(prS side t r).2<V.n:=by
 unfold prS QU at *
 rcases OB.mp h1 with rfl | rfl
 .exact⟨T,I⟩
 .exact⟨I,T⟩
theorem Vv{W V:Wl}(J:wh W)(O:wh V)(h:Sp W V)(I:List Pr)(Z:UZ W V I)(hl:I.length<=4)(side t:Nat)(h1:side<=1)(T:t<QU W V side):
  FJ [OU W V,.lst (I.map pN),.int (side:Int),.int (t:Int)]=O0 (.lst (((br (QU W V (1-side))).map λr=>Sf W V (Av (I++[prS side t r]))).map iN)):=by
 have S:=vY J O side t h1;have sz:=ZC J O (1-side);have cm:Bo (zv (Ag (Hy) (Aa (vF 0) (Aa (vF 2) (Aa (vF 3) (am)))))) OQ Ha [.fz (OU W V),.fz (.lst (I.map pN)),.fz (.int (side:Int)),.fz (.int (t:Int))]=O0 (.lst (((br (QU W V (1-side))).map λr=>prS side t r).map λq=>iN (Sf W V (Av (I++[q]))))):=
  Fp _ pN _ (by simp only[cK,S,Ca,DW]) (by simp;omega) λq Y=>by
   obtain⟨r,U,rfl⟩:=bv.mp Y;have o:=of_ok J O h (I++[prS side t r]) (Nk Z (AAZ h1 T (de.mp U))) (by simp;omega);have ad:=ABr I (prS side t r) .(0);have m:=OJ (g:=Bf) (ds:=[.lst ((I++[prS side t r]).map pN)]) (ob5 W V);simp only[cK,Ha,Ep,ad,m,o]
 simp only[cK,FJ,JS,cm,cp,fN]
abbrev bhd (W V:Wl) (rows:List Pr) (side t:Nat):Nat:=Si ((br (QU W V (1-side))).map λr=>Sf W V (Av (rows++[prS side t r])))
def xW(a b:Nat):ltD (.int (a:Int)) (.int (b:Int))=O0 (.bl (decide (a<b))):=by
 rw[Pn];congr 2;rw[decide_eq_decide];omega
theorem inner{W V:Wl}(O:wh W)(S:wh V)(h:Sp W V)(I:List Pr)(U:UZ W V I)(Z:I.length<=4)(side R:Nat)(h1:side<=1):∀(r:List Nat) (z:Slot),(∀t∈r,t<QU W V side) ->
  (∃t ρ,t<QU W V side/\bhd W V I side t<R/\OS (XU (CW 4) BP) (r.map iN) [.fz (OU W V),.fz (.lst (I.map pN)),.fz (.int (R:Int)),.fz (.int (side:Int)),z]=O0 (.rt (.tup [.int (side:Int),.int (t:Int)]) ρ)) ∨
  ((∀t∈r,¬ bhd W V I side t<R)/\∃z',OS (XU (CW 4) BP) (r.map iN) [.fz (OU W V),.fz (.lst (I.map pN)),.fz (.int (R:Int)),.fz (.int (side:Int)),z]=O0 (.nx [.fz (OU W V),.fz (.lst (I.map pN)),.fz (.int (R:Int)),.fz (.int (side:Int)),z']))
 |[],z,_=>.inr ⟨by simp,z,rfl⟩
 |t::r,z,T=>by
  have b:=Vv O S h I U Z side t h1 (T t .(1));have mx:=aH ((br (QU W V (1-side))).map λr=>Sf W V (Av (I++[prS side t r])));have lt:=xW (bhd W V I side t) R;have bd:BP [.fz (OU W V),.fz (.lst (I.map pN)),.fz (.int (R:Int)),.fz (.int (side:Int)),.fz (iN t)]=(if bhd W V I side t<R then O0 (.rt (.tup [.int (side:Int),.int (t:Int)]) [.fz (OU W V),.fz (.lst (I.map pN)),.fz (.int (R:Int)),.fz (.int (side:Int)),.fz (iN t)]) else O0 (.nx [.fz (OU W V),.fz (.lst (I.map pN)),.fz (.int (R:Int)),.fz (.int (side:Int)),.fz (iN t)])):=by
   simp only[cK,BP,b,mx,lt]
   by_cases c:bhd W V I side t<R
   .rw[SO c,ZN c];simp only[cK]
   .rw[RO c,OO c];simp only[cK]
  have st:OS (XU (CW 4) BP) ((t::r).map iN) [.fz (OU W V),.fz (.lst (I.map pN)),.fz (.int (R:Int)),.fz (.int (side:Int)),z]=forB (BP [.fz (OU W V),.fz (.lst (I.map pN)),.fz (.int (R:Int)),.fz (.int (side:Int)),.fz (iN t)]) (XU (CW 4) BP) (r.map iN):=by
   w_up
  rw[st,bd]
  by_cases c:bhd W V I side t<R
  .rw[ZN c,Pu];exact .inl ⟨t,_,T t .(1),c,rfl⟩
  .rw[OO c,Dm]
   rcases inner O S h I U Z side R h1 r (.fz (iN t)) λy J=>T y (by simp[J]) with z | ⟨z1,Y⟩
   .exact .inl z
   .exact .inr ⟨λy J=>by rcases bX.mp J with rfl | J;exact c;exact z1 y J,Y⟩
def EP:D:=.exc "NoPointing" []
def ex0O(cn:Str)(o:Option D):Option D:=o.map λ_=>.exc cn []
def XS(cn:Str)(I:FE)(ρ:Rho):Yl cn I ρ=ex0O cn (I ρ):=nq _
def qH(cn:Str)(d:D):ex0O cn (O0 d)=O0 (.exc cn []):=nq _
theorem qI{W V:Wl}(Y:wh W)(Z:wh V)(h:Spk W V)(I:List Pr)(hi:UZ W V I)(hl:I.length<=4):
  ∃d,DG [il W,il V,.lst (I.map pN)]=O0 d/\((Sf W V (Av I)=0∨Sf W V (Av I)=Pm W V)->d=EP)/\(¬ (Sf W V (Av I)=0∨Sf W V (Av I)=Pm W V)->Pe d=W1):=by
 have s:=O6 W V Y Z h I hi;have mk:=aL W V (Aa (vF 0) (Aa (vF 1) am)) [.fz (il W),.fz (il V),.fz (.lst (I.map pN))] (by simp only[cK]);have ll:Sz (.lst (I.map pN))=O0 (.lst (I.map pN)):=nq _;have o:=of_ok Y Z h.sp I hi .(0);have m:=OJ (g:=Bf) (ds:=[.lst (I.map pN)]) (ob5 W V);have ae:=aJ W V;have U:sd ZA (.int ((Sf W V (Av I):Nat):Int)) (.int 0)=O0 (.bl (decide (Sf W V (Av I)=0))):=Ik _ 0;have e2:sd ZA (.int ((Sf W V (Av I):Nat):Int)) (.int (Pm W V:Nat))=O0 (.bl (decide (Sf W V (Av I)=Pm W V))):=Ik _ _;generalize Sf W V (Av I)=R at *;have n5:=ZC Y Z;have J:∀d,CJ [OU W V,.lst (I.map pN)]=O0 d->DG [il W,il V,.lst (I.map pN)]=O0 d:=λd e=>by simp only[cK,DG,K1,s,Dj,Rp,mk,ll,e]
 by_cases c:R=0∨R=Pm W V
 .refine⟨EP,J _ ?_,λ_=>rfl,λz=>QO c z⟩
  by_cases c1:R=0
  .rw[SO c1] at U;simp only[cK,CJ,Eg,Ep,m,o,ae,U,XS,qH];rfl
  .rw[RO c1] at U;rw[SO (c.resolve_left c1)] at e2;simp only[cK,CJ,Eg,Ep,m,o,ae,U,e2,XS,qH];rfl
 .rw[RO λz=>c (.inl z)] at U;rw[RO λz=>c (.inr z)] at e2;have S:∀side z,Eo [.fz (OU W V),.fz (.lst (I.map pN)),.fz (.int (R:Int)),.fz (.int ((side:Nat):Int)),z]=OS (XU (CW 4) BP) ((br (QU W V side)).map iN) [.fz (OU W V),.fz (.lst (I.map pN)),.fz (.int (R:Int)),.fz (.int (side:Int)),z]:=λside z=>by
   have sz:=aM W V side;have r:=rngN (QU W V side) (by have:=n5 side;omega);simp only[cK,Eo,sz,r]
  have O:CJ [OU W V,.lst (I.map pN)]=runO (forB (OS (XU (CW 4) BP) ((br (QU W V 0)).map iN) [.fz (OU W V),.fz (.lst (I.map pN)),.fz (.int (R:Int)),.fz (.int ((0:Nat):Int)),.un]) (XU (CW 3) Eo) [.int ((1:Nat):Int)]):=by
   rw[<-S];simp only[cK,CJ,Eg,Ep,m,o,ae,U,e2,Ca,NP];rfl
  have T:∀d,Pe d=W1->CJ [OU W V,.lst (I.map pN)]=O0 d->∃d,DG [il W,il V,.lst (I.map pN)]=O0 d/\((R=0∨R=Pm W V)->d=EP)/\(¬ (R=0∨R=Pm W V)->Pe d=W1):=λd x e=>⟨d,J d e,λz=>QO z c,λ_=>x⟩
  rcases inner Y Z h.sp I hi hl 0 R .(0) (br (QU W V 0)) .un (λt ht=>de.mp ht) with ⟨t,ρ,ht,hb,e⟩ | ⟨no,z',e⟩
  .refine T (.tup [.int ((0:Nat):Int),.int (t:Int)]) rfl (O.trans ?_);rw[e,Pu];simp only[cK]
  .rcases inner Y Z h.sp I hi hl 1 R .(0) (br (QU W V 1)) z' (λt ht=>de.mp ht) with ⟨t,ρ,ht,hb,e'⟩ | ⟨r0,z2,e'⟩
   .refine T (.tup [.int ((1:Nat):Int),.int (t:Int)]) rfl (O.trans ?_);rw[e,Dm,Ds,UU,J2,Jm];simp only[fq,fw];rw[S,e',Pu];simp only[cK]
   .refine T .non rfl (O.trans ?_);rw[e,Dm,Ds,UU,J2,Jm];simp only[fq,fw];rw[S,e',Dm];rfl
theorem di:∀{l:List Nat},l≠[]->Si l∈l
 |[x],_=>by simp[Si]
 |x::y::l,_=>by
  have I:=di (l:=y::l) .(1);show max x (Si (y::l))∈_
  rcases Oy x (Si (y::l)) with h | h
  .rw[Nat.max_eq_right h];exact da _ I
  .rw[Nat.max_eq_left h];exact eD ..
def AAa(h:l≠[]):dD (.lst (l.map iN))=O0 (.int ((Si l:Nat):Int)):=by
 have m:=aH l;have n:¬ (l.map λ(t:Nat)=>(t:Int))=[]:=by simpa using h
 change (Ge (l.map iN)).map _=_ at m;rw[U5] at m;change O0 (if (l.map λ(t:Nat)=>(t:Int))=[] then D.int 0 else _)=_ at m;rw[OO n] at m;show (Ge (l.map iN)).bind _=_;rw[U5];show (if (l.map λ(t:Nat)=>(t:Int))=[] then W1 else _)=_;rw[OO n];exact m
def ABs(l:List Nat)(x:Nat)(h:x∈l):∃j,j<l.length/\l[j]?=O0 x/\idxD (.lst (l.map iN)) (.int (x:Int))=O0 (.int (j:Nat)):=by
 have I:(x:Int)∈l.map λ(t:Nat)=>(t:Int):=bv.mpr ⟨x,h,rfl⟩;have O:=NM.mpr I;have g:=NO O;have J:=O;rw[aI] at J;refine⟨_,J,?_,?_⟩
 .rw[dQ J];rw[HL] at g;rw[Int.ofNat.inj g]
 .show (Ge (l.map iN)).bind _=_;rw[U5];show (if (x:Int)∈(l.map λ(t:Nat)=>(t:Int)) then _ else W1)=_;rw[ZN I]
def AAb(l:List Nat):Pf (.lst (l.map iN))=O0 (.int (l.length:Int)):=by
 show lenD (.lst (l.map iN))=_;rw[wZ,aI]
def AAc(a:Nat):gtD (.int (a:Int)) (.int 0)=O0 (.bl (decide (0<a))):=by
 rw[YC];congr 2;rw[decide_eq_decide];omega
theorem qJ{W V:Wl}(U:wh W)(Z:wh V)(h:Spk W V)(I:List Pr)(hi:UZ W V I)(hl:I.length<=4)(side:Nat)(h1:side<=1)(t:Int)(ts:Sm t):
  ∃d,Hl [il W,il V,.lst (I.map pN),.int (side:Int),.int t]=O0 d/\(Bad (QU W V side) t->d=ET t)/\(¬ Bad (QU W V side) t->Pe d=W1):=by
 have s:=O6 W V U Z h I hi;have mk:=aL W V (Aa (vF 0) (Aa (vF 1) am)) [.fz (il W),.fz (il V),.fz (.lst (I.map pN)),.fz (.int (side:Int)),.fz (.int t)] (by simp only[cK]);have ll:Sz (.lst (I.map pN))=O0 (.lst (I.map pN)):=nq _;have sz:=aM W V side;have J:∀d,Fl [OU W V,.lst (I.map pN),.int (side:Int),.int t]=O0 d->Hl [il W,il V,.lst (I.map pN),.int (side:Int),.int t]=O0 d:=λd e=>by simp only[cK,Hl,Sg,s,Dj,Rp,mk,ll,e]
 by_cases c:Bad (QU W V side) t
 .have O:Am [.int (QU W V side:Nat),.int t]=O0 (.exc "NoThing" [("thing",.int t)]):=Ur (QU W V side) t ts c;exact⟨ET t,J _ (by simp only[cK,Fl,G8,sz,O,Dj,Rq];rfl),λ_=>rfl,λz=>QO c z⟩
 .have O:=QV (QU W V side) t c;obtain⟨t,rfl⟩:∃k:Nat,t=(k:Int):=⟨t.toNat,by have:¬ t<0:=λz=>c (.inl z);omega⟩;have ht:t<QU W V side:=by have:¬ ((QU W V side:Nat):Int)<=(t:Int):=λz=>c (.inr z);omega
  have b:=Vv U Z h.sp I hi hl side t h1 ht;generalize ((br (QU W V (1-side))).map λr=>Sf W V (Av (I++[prS side t r])))=l at b;have T:=AAb l;have S:=AAc l.length
  by_cases Y:l=[]
  .rw[RO (by rw[Y];simp)] at S;exact⟨.non,J _ (by simp only[cK,Fl,G8,sz,O,Dj,Rp,b,T,S]),λz=>QO z c,λ_=>rfl⟩
  .rw[SO (EV.mpr Y)] at S;have mx:=AAa Y;obtain⟨j,hj,ej,ij⟩:=ABs l (Si l) (di Y);exact⟨.int (j:Nat),J _ (by simp only[cK,Fl,G8,sz,O,Dj,Rp,b,T,S,mx,ij]),λz=>QO z c,λ_=>rfl⟩
def vZ(a b:D)(side:Nat)(h:side<=1):vb (.lst [a,b]) (.int (side:Int))=O0 (if side=0 then a else b):=by
 rcases OB.mp h with rfl | rfl
 .rfl
 .rfl
def vd(W V:Wl)(side:Nat):(if side=0 then D.int (W.n:Int) else .int (V.n:Int))=.int ((QU W V side:Nat):Int):=by
 unfold QU;split<;>rfl
def xX(i:Int):isND ZA (.int i)=O0 (.bl ZA):=rfl
def qK(i j:Int)(h:0<=j):shrD (.int i) (.int j)=O0 (.int (i/2^j.toNat)):=by
 show (if 0<=j then O0 (D.int (i/2^j.toNat)) else W1)=_;rw[ZN h]
def du(i j:Int):az (.int i) (.int j)=O0 (.int (vS i j)):=nq _
structure Mk (n:Nat) (ws:List Str) (k:Nat) (ms:List (Str×List Nat)):Prop where
 nm:ms.map (·.1)=ws.take k
 ok:∀p∈ms,p.2.Nodup/\p.2.length<=100/\∀t∈p.2,t<n
structure Tk (n:Nat) (ws:List Str) (k:Nat) (ts:List (Str×List (Nat×Nat))):Prop where
 nm:ts.map (·.1)=ws.take k
 ok:∀p∈ts,p.2.Nodup/\p.2.length<=100/\∀q∈p.2,q.1<n/\q.2<n
def qL{I:Type}{J:List (Str×I)}{k:Nat}(nm:J.map (·.1)=ws.take k)(O:ws.Nodup)(S:k<ws.length):ws[k]∉J.map (·.1):=by
 rw[nm];intro q;obtain⟨j,T,e⟩:=BF q;rw[i6] at T;rw[LW] at e;have:=gw O .(0) S e;omega
def qM{I:Type}{J:List (Str×I)}{k:Nat}(nm:J.map (·.1)=ws.take k):J.length<=k:=by
 have:=UO eS nm;rw[aI,i6] at this;omega
def h_(n:Nat)(hn:n<=5)(Y:Slot)(I:Int)(J:List Str)(hw:J.length<=3)(nd:J.Nodup)(k:Nat)(hk:k<J.length)(O:List (Str×List Nat))(Z:Mk n J k O)(U T S:Slot):
  ∃ms',Gs [.fz (.int (n:Int)),.fz (.lst (J.map .str)),Y,.fz (.int I),.ow (.dk (eM O)),.fz (.int (k:Int)),U,T,S]=O0 (.nx [.fz (.int (n:Int)),.fz (.lst (J.map .str)),Y,.fz (.int I),.ow (.dk (eM ms')),.fz (.int (k:Int)),U,T,S])/\Mk n J (k+1) ms':=by
 obtain⟨f,hf⟩:∃f:Nat->Bool,∀t,t<n->Gr ([.fz (.int (n:Int)),.fz (.lst (J.map .str)),Y,.fz (.int I),.ow (.dk (eM O)),.fz (.int (k:Int)),U,T,S]++[.fz (.int (t:Int))])=O0 (f t):=by
  refine⟨λt=>decide (vS (I/2^(5*(k:Int)+t).toNat) 1=1),λt ht=>?_⟩;have m1:=We 5 (k:Int) .(2);have s1:=qK I (5*(k:Int)+t) .(0);simp only[ciK,Gr,m1,s1,du]
 have cm:Bo (QY (vF 0)) Gr MP [.fz (.int (n:Int)),.fz (.lst (J.map .str)),Y,.fz (.int I),.ow (.dk (eM O)),.fz (.int (k:Int)),U,T,S]=O0 (lM ((br n).filter f)):=
  Ni f iN _ (W9 n .(0) _ 0 rfl) .(0) hf λt ht=>rfl
 have ix:=Qd hk;have nt:=qL Z.nm nd hk;have pk:Dp (.dk (eM O)) (.str J[k]) (lM ((br n).filter f))=O0 (.dk (eM (O++[(J[k],(br n).filter f)]))):=by
  rw[Oj _ _ _ (by have:=qM Z.nm;simp[eM];omega)];have:(.inr J[k]:Key)∉(eM O).map (·.1):=Jd lM nt;rw[Pi this];simp[eM]
 refine⟨O++[(J[k],(br n).filter f)],?_,?_,?_⟩
 .simp only[Gs,Rf,e_b,e_v,kz,kg,TU,Qv,e_bs,ix,cm,Lw,pk,Lq,fq,fw]
 .rw[f6,Z.nm,HC];simp[hk]
 .intro p hp
  rcases eR.mp hp with q | q
  .exact Z.ok p q
  .simp at q;subst q;refine⟨Je n f,?_,λt ht=>de.mp (nX.mp ht).1⟩;have:=HI f (br n);rw[oy] at this;show ((br n).filter f).length<=100;omega
structure Fd (n k:Nat) (l:List (Nat×Nat)):Prop where
 nd:l.Nodup
 len:l.length<=5*k
 lt:∀q∈l,q.1<k/\q.2<n
def aN(n:Nat)(hn:n<=5)(Y S O J:Slot)(I:Int)(k:Nat)(i:Nat)(hi:i<n)(l:List (Nat×Nat))(Z:Fd n i l):
  ∃l',Gv [.fz (.int (n:Int)),Y,S,.fz (.int I),O,.fz (.int (k:Int)),J,.fz (lT l),.fz (.int (i:Int))]=O0 (.nx [.fz (.int (n:Int)),Y,S,.fz (.int I),O,.fz (.int (k:Int)),J,.fz (lT l'),.fz (.int (i:Int))])/\Fd n (i+1) l':=by
 obtain⟨f,hf⟩:∃f:Nat->Bool,∀u,u<n->Gu ([.fz (.int (n:Int)),Y,S,.fz (.int I),O,.fz (.int (k:Int)),J,.fz (lT l),.fz (.int (i:Int))]++[.fz (.int (u:Int))])=O0 (f u):=by
  refine⟨λu=>decide (vS (I/2^(15+25*(k:Int)+5*(i:Int)+u).toNat) 1=1),λu T=>?_⟩;have m1:=We 25 (k:Int) .(2);have m2:=We 5 (i:Int) .(2);have s1:=qK I (15+25*(k:Int)+5*(i:Int)+u) .(0);simp only[ciK,Gu,m1,m2,s1,du]
 have cm:Bo (QY (vF 0)) Gu JL [.fz (.int (n:Int)),Y,S,.fz (.int I),O,.fz (.int (k:Int)),J,.fz (lT l),.fz (.int (i:Int))]=O0 (.lst (((br n).filter f).map λu=>pN (i,u))):=
  Ni f (λu=>pN (i,u)) _ (W9 n .(0) _ 0 rfl) .(0) hf λu T=>by simp only[cK,JL]
 have fl:=HI f (br n);rw[oy] at fl;have ad:OT (lT l) (.lst (((br n).filter f).map λu=>pN (i,u)))=O0 (lT (l++((br n).filter f).map λu=>(i,u))):=by
  show OT (.lst (l.map pN)) _=_;rw[Tn (by rw[aI,aI];have:=Z.len;omega)];simp[lT]
 refine⟨l++((br n).filter f).map λu=>(i,u),?_,?_,?_,?_⟩
 .simp only[Gv,YD,e_b,e_v,kz,kg,TU,cm,e_bs,ad,Tp,fq,fw]
 .rw[fR];refine⟨Z.nd,?_,λa ha c hc e=>?_⟩
  .rw[mN,iO];exact HG (λU e=>U (by simpa using e)) (Je n f)
  .subst e;obtain⟨u,_,rfl⟩:=bv.mp hc;have:=(Z.lt _ ha).1;simp at this
 .have:=Z.len;rw[eI,aI];omega
 .intro q hq
  rcases eR.mp hq with z | z
  .have:=Z.lt q z;exact⟨by omega,this.2⟩
  .obtain⟨u,T,rfl⟩:=bv.mp z;exact⟨by simp,de.mp (nX.mp T).1⟩
def XX(h:(Pl n)[i]?=O0 d):i<n/\d=.int (i:Int):=by
 have I:i<n:=by
  have:=(jp.mp h).1
  rwa [Lr] at this
 refine⟨I,?_⟩;unfold Pl at h;rw[db,BY I] at h;exact (dc h).symm
theorem qN(n:Nat)(hn:n<=5)(Y S:Slot)(I:Int)(J:List Str)(hw:J.length<=3)(nd:J.Nodup)(k:Nat)(hk:k<J.length)(O:List (Str×List (Nat×Nat)))(T:Tk n J k O)(z7 z8:Slot):
  ∃ts' y7 y8,Gw [.fz (.int (n:Int)),Y,.fz (.lst (J.map .str)),.fz (.int I),S,.fz (.int (k:Int)),.ow (.dk (eT O)),z7,z8]=O0 (.nx [.fz (.int (n:Int)),Y,.fz (.lst (J.map .str)),.fz (.int I),S,.fz (.int (k:Int)),.ow (.dk (eT ts')),y7,y8])/\Tk n J (k+1) ts':=by
 obtain⟨S0,ef,l,z',rfl,Z⟩:=Pq (b:=XU (CW 8) Gv) (ds:=Pl n) (ρ:=[.fz (.int (n:Int)),Y,.fz (.lst (J.map .str)),.fz (.int I),S,.fz (.int (k:Int)),.ow (.dk (eT O)),.fz (lT []),z8])
  (P:=λi U=>∃l z,U=[.fz (.int (n:Int)),Y,.fz (.lst (J.map .str)),.fz (.int I),S,.fz (.int (k:Int)),.ow (.dk (eT O)),.fz (lT l),z]/\Fd n i l) 0 ⟨[],_,rfl,by simp,by simp,by simp⟩ (by
   rintro i d U hd ⟨l,z,rfl,Z⟩;obtain⟨hi,rfl⟩:=XX hd;obtain⟨l',e',r0⟩:=aN n hn Y (.fz (.lst (J.map .str))) S (.ow (.dk (eT O))) I k i hi l (by rw[nE] at Z;exact Z);refine⟨_,?_,l',.fz (.int (i:Int)),rfl,by rw[nE];exact r0⟩;rw[UU,J2,Jm];simp only[fq,fw];exact e')
 rw[Lr,nE] at Z;have ix:=Qd hk;have nt:=qL T.nm nd hk;have pk:Dp (.dk (eT O)) (.str J[k]) (lT l)=O0 (.dk (eT (O++[(J[k],l)]))):=by
  rw[Oj _ _ _ (by have:=qM T.nm;simp[eT];omega)];have:(.inr J[k]:Key)∉(eT O).map (·.1):=Jd lT nt;rw[Pi this];simp[eT]
 have rg:=W9 n .(0) [.fz (.int (n:Int)),Y,.fz (.lst (J.map .str)),.fz (.int I),S,.fz (.int (k:Int)),.ow (.dk (eT O)),.fz (lT []),z8] 0 rfl;have l0:(D.lst [])=lT []:=rfl;refine⟨O++[(J[k],l)],.fz (lT l),z',?_,?_,?_⟩
 .unfold Gw;rw[Em,YD,kO,kJ,Zv,Tp,Re];simp only[fq,fw];rw[l0,Em,Tr,rg,Oh,ef,Re];simp only[Rf,e_b,e_v,kz,kg,TU,Qv,e_bs,ix,Lw,pk,Lq,fq,fw]
 .rw[f6,T.nm,HC];simp[hk]
 .intro p hp
  rcases eR.mp hp with q | q
  .exact T.ok p q
  .simp at q;subst q;refine⟨Z.nd,by have:=Z.len;show l.length<=100;omega,Z.lt⟩
structure Wds (mws tws:List Str):Prop where
 m3:mws.length<=3
 t3:tws.length<=3
 nd:(mws++tws).Nodup
 mw:∀x∈mws,Wd x
 tw:∀x∈tws,Wd x
theorem U6(n:Nat)(hn:n<=5)(mws tws:List Str)(h:Wds mws tws)(I:Int):∃W:Wl,W.n=n/\mw W=mws/\tw W=tws/\wh W/\Ff [.int (n:Int),.lst (mws.map .str),.lst (tws.map .str),.int I]=O0 (wd W):=by
 have X0:=(fR.mp h.nd).1;have S0:=(fR.mp h.nd).2.1;have U1:=h.m3;have S1:=h.t3;obtain⟨Y1,e1,J,z5,rfl,S⟩:=Pq (b:=XU (CW 5) Gs) (ds:=Pl mws.length) (ρ:=[.fz (.int (n:Int)),.fz (.lst (mws.map .str)),.fz (.lst (tws.map .str)),.fz (.int I),.ow (.dk (eM [])),.un,.un,.un,.un])
  (P:=λi T=>∃J z,T=[.fz (.int (n:Int)),.fz (.lst (mws.map .str)),.fz (.lst (tws.map .str)),.fz (.int I),.ow (.dk (eM J)),z,.un,.un,.un]/\Mk n mws i J) 0 ⟨[],_,rfl,by simp,by simp⟩ (by
   rintro i d T hd ⟨J,z,rfl,S⟩;obtain⟨hi,rfl⟩:=XX hd;rw[nE] at S ⊢;obtain⟨P1,e',Y⟩:=h_ n hn (.fz (.lst (tws.map .str))) I mws U1 X0 i hi J S .un .un .un;refine⟨_,?_,P1,.fz (.int (i:Int)),rfl,Y⟩;rw[UU,J2,Jm];simp only[fq,fw];exact e')
 rw[Lr,nE] at S;obtain⟨X1,e2,O,y5,Z,U,rfl,ht⟩:=Pq (b:=XU (CW 5) Gw) (ds:=Pl tws.length) (ρ:=[.fz (.int (n:Int)),.fz (.lst (mws.map .str)),.fz (.lst (tws.map .str)),.fz (.int I),.ow (.dk (eM J)),z5,.ow (.dk (eT [])),.un,.un])
  (P:=λi T=>∃O z Z U,T=[.fz (.int (n:Int)),.fz (.lst (mws.map .str)),.fz (.lst (tws.map .str)),.fz (.int I),.ow (.dk (eM J)),z,.ow (.dk (eT O)),Z,U]/\Tk n tws i O) 0 ⟨[],_,_,_,rfl,by simp,by simp⟩ (by
   rintro i d T hd ⟨O,z,Z,U,rfl,S⟩;obtain⟨hi,rfl⟩:=XX hd;rw[nE] at S ⊢;obtain⟨r0,w7,w8,e',Y⟩:=qN n hn (.fz (.lst (mws.map .str))) (.ow (.dk (eM J))) I tws S1 S0 i hi O S Z U;refine⟨_,?_,r0,.fz (.int (i:Int)),w7,w8,rfl,Y⟩;rw[UU,J2,Jm];simp only[fq,fw];exact e')
 rw[Lr,nE] at ht;have mn:J.map (·.1)=mws:=by rw[S.nm,HE]
 have tn:O.map (·.1)=tws:=by rw[ht.nm,HE]
 refine⟨⟨n,J,O⟩,rfl,mn,tn,⟨hn,?_,?_,λp hp=>h.mw _ (by rw[<-mn];exact bv.mpr ⟨p,hp,rfl⟩),λp hp=>h.tw _ (by rw[<-tn];exact bv.mpr ⟨p,hp,rfl⟩),?_,S.ok,ht.ok⟩,?_⟩
 .have:=UO eS mn;rw[aI] at this;show J.length<=3;omega
 .have:=UO eS tn;rw[aI] at this;show O.length<=3;omega
 .show (J.map (·.1)++O.map (·.1)).Nodup;rw[mn,tn];exact h.nd
 .have lm:Pf (.lst (mws.map .str))=O0 (.int (mws.length:Int)):=by rw[show Pf (.lst (mws.map .str))=O0 (.int ((mws.map D.str).length:Int)) from nq _,aI]
  have lt:Pf (.lst (tws.map .str))=O0 (.int (tws.length:Int)):=by rw[show Pf (.lst (tws.map .str))=O0 (.int ((tws.map D.str).length:Int)) from nq _,aI]
  have r1:rngO (O0 (.int (mws.length:Int)))=O0 (Pl mws.length):=by rw[Wf _ .(0),ip]
  have r2:rngO (O0 (.int (tws.length:Int)))=O0 (Pl tws.length):=by rw[Wf _ .(0),ip]
  have e0:(D.dk [])=.dk (eM []):=rfl;have Q2:(D.dk [])=.dk (eT []):=rfl;have s1:setW 4 (kF (.dk [])) [.fz (.int (n:Int)),.fz (.lst (mws.map .str)),.fz (.lst (tws.map .str)),.fz (.int I),.un,.un,.un,.un,.un]=O0 (.nx [.fz (.int (n:Int)),.fz (.lst (mws.map .str)),.fz (.lst (tws.map .str)),.fz (.int I),.ow (.dk (eM [])),.un,.un,.un,.un]):=rfl;have s2:setW 6 (kF (.dk [])) [.fz (.int (n:Int)),.fz (.lst (mws.map .str)),.fz (.lst (tws.map .str)),.fz (.int I),.ow (.dk (eM J)),z5,.un,.un,.un]=O0 (.nx [.fz (.int (n:Int)),.fz (.lst (mws.map .str)),.fz (.lst (tws.map .str)),.fz (.int I),.ow (.dk (eM J)),z5,.ow (.dk (eT [])),.un,.un]):=rfl;unfold Ff Kr;rw[KJ,Dr];simp only[cq,mB,bn,gy,u7,ua,ub,uk,uu,ko];rw[Em,s1,Re,Em,Tr,Tq,e_u,e_v];simp only[kz,kg];rw[TU,e_us,lm,r1,Oh,e1,Re,Em,s2,Re,Em,Tr,Tq,e_u,e_v];simp only[kz,kg];rw[TU,e_us,lt,r2,Oh,e2,Re]
  .rfl
  .rfl
def ABt(xs:List Nat)(j:Nat)(h:j<xs.length):ixD (.lst (xs.map iN)) (.int (j:Int))=O0 (iN xs[j]):=by
 show atI (xs.map iN) (j:Int)=_;rw[Qu,db,dQ h];rfl
def dw(ds:List D)(k:Nat):slD (.lst ds) (O0 (k:Int)) W1=O0 (.lst (ds.drop k)):=by
 show O0 (D.lst (Rl ds (O0 (k:Int)) W1))=_;rw[j7]
theorem ZF(n:D):∀(k:Nat) (xs ys:List Nat) (i:Int) (f:Nat) (z:Slot),xs.length=k->xs.length+ys.length<=100->k<f->∃O J S,J.Perm xs ∧
  HS Bu CV f [.fz (.int i),.fz n,.fz (lN xs),.ow (lN ys),z]=O0 (.nx [.fz (.int O),.fz n,.fz (.lst []),.ow (lN (ys++J)),S])
 |k,xs,ys,i,0,z,_,_,hf=>by omega
 |0,xs,ys,i,f+1,z,Z,_,hf=>by
  have e:xs=[]:=BE Z;subst e;refine⟨i,[],z,.nil,?_⟩;unfold HS;have t:Bu [.fz (.int i),.fz n,.fz (lN []),.ow (lN ys),z]=O0 ZA:=by
   simp only[cK,Bu,lN];rfl
  rw[t,gg];rfl
 |k+1,xs,ys,i,f+1,z,Z,hs,hf=>by
  have t:Bu [.fz (.int i),.fz n,.fz (lN xs),.ow (lN ys),z]=O0 E3:=by
   have q:=pJ xs;have:xs≠[]:=λz=>by subst z;simp at Z
   simp only[cK,Bu,lN,q,this,ne_eq,not_false_eq_true]
  have j0:0<=i%(xs.length:Int):=xo _ .(0);have j1:i%(xs.length:Int)<xs.length:=xp _ .(0);obtain⟨j,ej⟩:∃j:Nat,(j:Int)=i%(xs.length:Int):=⟨(i%(xs.length:Int)).toNat,by omega⟩;have T:j<xs.length:=by omega
  have Y:(xs.eraseIdx j).length=k:=by rw[List.length_eraseIdx_of_lt T];omega
  have m1:=Dk i (xs.length:Int) .(0);have m2:=CZ i (xs.length:Int) (by skip;omega) (by skip;omega);have U:=wZ (xs.map iN);rw[aI] at U;have ix:=ABt xs j T;have ap:appL (.lst (ys.map iN)) (iN xs[j])=O0 (.lst ((ys++[xs[j]]).map iN)):=by rw[dH _ _ (by simp;omega),f6];rfl
  have s1:=sl_l (xs.map iN) j;have a1:OT (.int (j:Int)) (.int 1)=O0 (.int ((j+1:Nat):Int)):=by rw[J1];congr 2
  have s2:=dw (xs.map iN) (j+1);have ad:OT (.lst ((xs.map iN).take j)) (.lst ((xs.map iN).drop (j+1)))=O0 (lN (xs.eraseIdx j)):=by
   rw[Tn (by simp;omega),<-tq,<-A9,<-f6,<-On];rfl
  obtain⟨O,J,S,pz,ih⟩:=ZF n k (xs.eraseIdx j) (ys++[xs[j]]) (i/(xs.length:Int)) f (.fz (.int (j:Int))) Y (by rw[Y,eI];simp;omega) .(0);refine⟨O,xs[j]::J,S,(C6 _ pz).trans (JK xs j T),?_⟩;have b2:CV [.fz (.int i),.fz n,.fz (lN xs),.ow (lN ys),z]=O0 (.nx [.fz (.int (i/(xs.length:Int))),.fz n,.fz (lN (xs.eraseIdx j)),.ow (lN (ys++[xs[j]])),.fz (.int (j:Int))]):=by
   unfold CV;simp only[cK,lN,U,m1,m2,<-ej];simp only[cK,ix,ap,s1,a1,s2,ad,lN]
  unfold HS;rw[t];show (match CV _ with | some (.nx I)=>HS Bu CV f I | some (.ct I)=>HS Bu CV f I | some (.bk I)=>O0 (.nx I) | some (.rt e I)=>O0 (.rt e I) | none=>W1)=_;rw[b2];show HS Bu CV f _=_;rw[ih,Bz];rfl
def UJ(i:Int)(n:Nat)(T:n<=5):∃os:List Nat,os.Perm (br n)/\Ir [.int i,.int (n:Int)]=O0 (lN os):=by
 obtain⟨O,I,S,pz,e⟩:=ZF (.int (n:Int)) n (br n) [] i 60 .un .(1) (by simp;omega) .(0);rw[ko] at e;refine⟨I,pz,?_⟩;have r:=z9 n .(0);have J:(D.lst [])=lN []:=rfl;simp only[dK,Ir,Ks,r,J,e]
def trn(I:List Nat)(W:Wl):Wl:=⟨W.n,W.ms.map λp=>(p.1,p.2.map λt=>I.getD t 0),W.ts.map λp=>(p.1,p.2.map λq=>(I.getD q.1 0,I.getD q.2 0))⟩
def aO(I:List Nat)(W:Wl):mw (trn I W)=mw W:=by simp[trn,mw,fN]
def aP(I:List Nat)(W:Wl):tw (trn I W)=tw W:=by simp[trn,tw,fN]
def qO(W:Wl)(h:wh W)(I:List Nat)(J:I.Perm (br W.n)):wh (trn I W):=by
 refine RL W h _ _ (by rw[show ((W.ms.map λp=>(p.1,p.2.map λt=>I.getD t 0)).map (·.1))=W.ms.map (·.1) from aO I W]) (by rw[show ((W.ts.map λp=>(p.1,p.2.map λq=>(I.getD q.1 0,I.getD q.2 0))).map (·.1))=W.ts.map (·.1) from aP I W]) (λp hp=>?_) (λp hp=>?_)
 .obtain⟨q,Z,rfl⟩:=bv.mp hp;obtain⟨a1,_,Y⟩:=h.ml q Z;refine⟨?_,λt U=>?_⟩
  .unfold mN;rw[iO];exact ra (λ{a b} T S O e=>O (Ux J (Y a T) (Y b S) e)) a1
  .obtain⟨s,hs,rfl⟩:=bv.mp U;exact XF J (Y s hs)
 .obtain⟨q,Z,rfl⟩:=bv.mp hp;obtain⟨a1,_,Y⟩:=h.tl q Z;refine⟨?_,λt U=>?_⟩
  .unfold mN;rw[iO];refine ra (λ{a b} T S O e=>O ?_) a1;have e1:I.getD a.1 0=I.getD b.1 0:=UO Prod.fst e;have e2:I.getD a.2 0=I.getD b.2 0:=UO Prod.snd e;exact so (Ux J (Y a T).1 (Y b S).1 e1) (Ux J (Y a T).2 (Y b S).2 e2)
  .obtain⟨s,hs,rfl⟩:=bv.mp U;exact⟨XF J (Y s hs).1,XF J (Y s hs).2⟩
def qP{W:Wl}(h:wh W):(mw W).Nodup:=(fR.mp h.nd).1
def ABu{W:Wl}(h:wh W):(tw W).Nodup:=(fR.mp h.nd).2.1
def qQ{W:Wl}(J:List (Str×List Nat))(w:Str)(l:List Nat)(h:w∉J.map (·.1))(Z:J.length<=100):Dp (.dk (eM J)) (.str w) (lM l)=O0 (.dk (eM (J++[(w,l)]))):=by
 rw[Oj _ _ _ (by simp[eM];omega)];have:(.inr w:Key)∉(eM J).map (·.1):=Jd lM h;rw[Pi this];simp[eM]
def AAd{W:Wl}(J:List (Str×List (Nat×Nat)))(w:Str)(l:List (Nat×Nat))(h:w∉J.map (·.1))(Z:J.length<=100):Dp (.dk (eT J)) (.str w) (lT l)=O0 (.dk (eT (J++[(w,l)]))):=by
 rw[Oj _ _ _ (by simp[eT];omega)];have:(.inr w:Key)∉(eT J).map (·.1):=Jd lT h;rw[Pi this];simp[eT]
theorem qR(W:Wl)(h:wh W)(I:List Nat)(ho:I.length=W.n)(O:Slot):∀(r p:List (Str×List Nat)) (z:Slot),W.ms=p++r ->
  ∃S,OS (XU (CW 3) GF) ((r.map (·.1)).map .str) [.fz (wd W),.fz (lN I),.ow (.dk (eM (p.map λp=>(p.1,p.2.map λt=>I.getD t 0)))),z,O]=O0 (.nx [.fz (wd W),.fz (lN I),.ow (.dk (eM ((p++r).map λp=>(p.1,p.2.map λt=>I.getD t 0)))),S,O])
 |[],p,z,e=>⟨z,by rw[gg];rfl⟩
 |q::r,p,z,e=>by
  have U:q∈W.ms:=by rw[e];simp
  have i1:=ixw1 W;have a:=at_M W h U;have T:=qP h;have Y:=h.ml q U;have Z:q.1∉p.map (·.1):=by
   have:(W.ms.map (·.1)).Nodup:=T;rw[e,f6,fR] at this;exact λz=>this.2.2 q.1 z q.1 .(1) rfl
  have cm:Bo (zv (bF vb (bF vb (vF 0) (kF (.int 1))) (vF 3))) OQ IV [.fz (wd W),.fz (lN I),.ow (.dk (eM (p.map λp=>(p.1,p.2.map λt=>I.getD t 0)))),.fz (.str q.1),O]=O0 (.lst ((q.2.map λt=>I.getD t 0).map iN)):=by
   rw[cp];refine Fp q.2 iN _ ?_ .(0) λt ht=>?_
   .simp only[cK,i1,a,Ca];exact DW _
   .have:=W_ I t (by have:=Y.2.2 t ht;omega);simp only[cK,IV,this,fN]
  have J:=qQ (W:=W) (p.map λp=>(p.1,p.2.map λt=>I.getD t 0)) q.1 (q.2.map λt=>I.getD t 0) (by rw[cp];exact Z) (by
   have:=UO eS e;rw[eI,cq] at this;have:=h.m3;rw[aI];omega)
  unfold lM at J;have b:GF [.fz (wd W),.fz (lN I),.ow (.dk (eM (p.map λp=>(p.1,p.2.map λt=>I.getD t 0)))),.fz (.str q.1),O]=O0 (.nx [.fz (wd W),.fz (lN I),.ow (.dk (eM ((p++[q]).map λp=>(p.1,p.2.map λt=>I.getD t 0)))),.fz (.str q.1),O]):=by
   rw[f6];simp only[GF,Rf,e_v,kz,kg,TU,Qv,cm,Lw,J,Lq,fq,fw,bn,gy]
  obtain⟨S,ih⟩:=qR W h I ho O r (p++[q]) (.fz (.str q.1)) (by rw[e];simp);refine⟨S,?_⟩;rw[bn,bn,Ds,UU,J2,Jm];simp only[fq,fw];rw[b,Dm,ih];simp
theorem qT(W:Wl)(h:wh W)(I:List Nat)(ho:I.length=W.n)(J:Slot):∀(r p:List (Str×List (Nat×Nat))) (z:Slot),W.ts=p++r ->
  ∃S,OS (XU (CW 3) GJ) ((r.map (·.1)).map .str) [.fz (wd W),.fz (lN I),J,z,.ow (.dk (eT (p.map λp=>(p.1,p.2.map λq=>(I.getD q.1 0,I.getD q.2 0)))))]=O0 (.nx [.fz (wd W),.fz (lN I),J,S,.ow (.dk (eT ((p++r).map λp=>(p.1,p.2.map λq=>(I.getD q.1 0,I.getD q.2 0)))))])
 |[],p,z,e=>⟨z,by rw[gg];rfl⟩
 |q::r,p,z,e=>by
  have U:q∈W.ts:=by rw[e];simp
  have i1:=ixw2 W;have a:=at_T W h U;have nd:=ABu h;have Y:=h.tl q U;have Z:q.1∉p.map (·.1):=by
   have:(W.ts.map (·.1)).Nodup:=nd;rw[e,f6,fR] at this;exact λz=>this.2.2 q.1 z q.1 .(1) rfl
  have cm:Bo (zv (bF vb (bF vb (vF 0) (kF (.int 2))) (vF 3))) OQ IW [.fz (wd W),.fz (lN I),J,.fz (.str q.1),.ow (.dk (eT (p.map λp=>(p.1,p.2.map λq=>(I.getD q.1 0,I.getD q.2 0)))))]=O0 (.lst ((q.2.map λq=>(I.getD q.1 0,I.getD q.2 0)).map pN)):=by
   rw[cp];refine Fp q.2 pN _ ?_ .(0) λt T=>?_
   .simp only[cK,i1,a,Ca];exact DW _
   .have h1:=W_ I t.1 (by have:=(Y.2.2 t T).1;omega);have h2:=W_ I t.2 (by have:=(Y.2.2 t T).2;omega);have j0:=ixp0 t;have j1:=ixp1 t;simp only[cK,IW,j0,j1,h1,h2,fN]
  have O:=AAd (W:=W) (p.map λp=>(p.1,p.2.map λq=>(I.getD q.1 0,I.getD q.2 0))) q.1 (q.2.map λq=>(I.getD q.1 0,I.getD q.2 0)) (by rw[cp];exact Z) (by
   have:=UO eS e;rw[eI,cq] at this;have:=h.t3;rw[aI];omega)
  unfold lT at O;have b:GJ [.fz (wd W),.fz (lN I),J,.fz (.str q.1),.ow (.dk (eT (p.map λp=>(p.1,p.2.map λq=>(I.getD q.1 0,I.getD q.2 0)))))]=O0 (.nx [.fz (wd W),.fz (lN I),J,.fz (.str q.1),.ow (.dk (eT ((p++[q]).map λp=>(p.1,p.2.map λq=>(I.getD q.1 0,I.getD q.2 0)))))]):=by
   rw[f6];simp only[GJ,Rf,e_v,kz,kg,TU,Qv,cm,Lw,O,Lq,fq,fw,bn,gy]
  obtain⟨S,ih⟩:=qT W h I ho J r (p++[q]) (.fz (.str q.1)) (by rw[e];simp);refine⟨S,?_⟩;rw[bn,bn,Ds,UU,J2,Jm];simp only[fq,fw];rw[b,Dm,ih];simp
theorem iB(W:Wl)(h:wh W)(I:List Nat)(ho:I.Perm (br W.n)):Hj [wd W,lN I]=O0 (wd (trn I W)):=by
 have S:I.length=W.n:=by rw[ho.length_eq,oy]
 obtain⟨O,J⟩:=qR W h I S .un W.ms [] .un rfl;obtain⟨z2,Z⟩:=qT W h I S (.ow (.dk (eM (W.ms.map λp=>(p.1,p.2.map λt=>I.getD t 0))))) W.ts [] O rfl;rw[ko] at J Z;have i0:=ixw0 W;have i1:=ixw1 W;have Y:=ixw2 W;have q1:Px (O0 (.dk (eM W.ms)))=O0 ((W.ms.map (·.1)).map .str):=by rw[NQ,dU]
 have q2:Px (O0 (.dk (eT W.ts)))=O0 ((W.ts.map (·.1)).map .str):=by rw[NQ,dW]
 have U:setW 2 (kF (.dk [])) [.fz (wd W),.fz (lN I),.un,.un,.un]=O0 (.nx [.fz (wd W),.fz (lN I),.ow (.dk (eM (([]:List (Str×List Nat)).map λp=>(p.1,p.2.map λt=>I.getD t 0)))),.un,.un]):=rfl;have T:setW 4 (kF (.dk [])) [.fz (wd W),.fz (lN I),.ow (.dk (eM (W.ms.map λp=>(p.1,p.2.map λt=>I.getD t 0)))),O,.un]=O0 (.nx [.fz (wd W),.fz (lN I),.ow (.dk (eM (W.ms.map λp=>(p.1,p.2.map λt=>I.getD t 0)))),O,.ow (.dk (eT (([]:List (Str×List (Nat×Nat))).map λp=>(p.1,p.2.map λq=>(I.getD q.1 0,I.getD q.2 0)))))]):=rfl;unfold Hj J3;rw[KJ (show [wd W,lN I].length=2 from rfl),Dr];simp only[cq,mB,bn,gy,u7,ua,ub,uk,uu,ko];rw[Em,U,Re,Em,Tr];simp only[Ca,e_b,e_v,kz,kg,TU,e_k,e_bs,i1,q1,Oh];rw[J,Re,Em,T,Re,Em,Tr];simp only[Ca,e_b,e_v,kz,kg,TU,e_k,e_bs,Y,q2,Oh];rw[Z,Re];simp only[dK,i0];rfl
def oth{α:Type}[DecidableEq α](t:α)(l:List α):List α:=if t∈l then l.filter (λx=>!decide (x=t)) else l++[t]
def qU{I:Type}[DecidableEq I]{t:I}{l:List I}(h:l.Nodup):(oth t l).Nodup:=by
 unfold oth;split
 .exact HA NS h
 .rename_i c;rw[fR];exact⟨h,by simp,λa O b J e=>by simp at J;subst J;subst e;exact c O⟩
def d7{I:Type}[DecidableEq I]{t x:I}{l:List I}(h:x∈oth t l):x∈l∨x=t:=by
 unfold oth at h;split at h
 .exact .inl (nX.mp h).1
 .rcases eR.mp h with h | h
  .exact .inl h
  .exact .inr (by simpa using h)
def vf{I:Type}(l:List I)(e:I->D)(f:I->Bool)(hs:src ρ=O0 (l.map e))(T:l.length<=1000)(h1:∀x∈l,ga (ρ++[.fz (e x)])=O0 (f x))(S:∀x∈l,fe (ρ++[.fz (e x)])=O0 (e x)):Bo src ga fe ρ=O0 (.lst ((l.filter f).map e)):=by
 have c:∀m:List I,(∀x∈m,x∈l)->J_ ρ ga fe (m.map e)=O0 ((m.filter f).map e):=by
  intro m
  induction m with
  |nil=>intro _;rfl
  |cons k r J=>
   intro Z;rw[bn,Kl,h1 k (Z k .(1)),S k (Z k .(1)),J λd O=>Z d (by simp[O]),NR];cases f k<;>rfl
 exact R9 hs (by rw[aI];omega) (c l λ_ h=>h)
def d9{I:Type}[DecidableEq I](e:I->D)(t:I)(l:List I)(Z:l.length<=1000)(inE:ZU ZA (e t) (.lst (l.map e))=O0 (.bl (decide (t∈l))))(J:∀x y,sd E3 (e x) (e y)=O0 (.bl (!decide (x=y)))):D_ [.lst (l.map e),e t]=O0 (.lst ((oth t l).map e)):=by
 have O:Bo (zv (vF 0)) JM JN [.fz (.lst (l.map e)),.fz (e t)]=O0 (.lst ((l.filter λx=>!decide (x=t)).map e)):=
  vf l e _ (by simp only[cK,Ca,DW]) Z (λx _=>by
   have:=J x t;simp only[cK,JM,this]) λx _=>by simp only[cK,JN]
 simp only[cK,D_,Ku,inE];unfold oth
 by_cases c:t∈l
 .rw[SO c,ZN c];simp only[cK,O]
 .rw[RO c,OO c];have S:OT (.lst (l.map e)) (.lst [e t])=O0 (.lst ((l++[t]).map e)):=by rw[Tn (by simp;omega)];simp
  simp only[cK,S]
def ABv(a b:Nat):sd E3 (.int (a:Int)) (.int (b:Int))=O0 (.bl (!decide (a=b))):=by rw[bQ,XJ]
def ABw(x y:Pr):sd E3 (pN x) (pN y)=O0 (.bl (!decide (x=y))):=by
 have e:∀a b:Nat,XZ 180 (.int (a:Int)) (.int (b:Int))=O0 (decide (a=b)):=λa b=>by
  show O0 (eqV (.int (a:Int)) (.int (b:Int)))=_
  by_cases z:a=b
  .subst z;simp[eqV]
  .have:¬ ((a:Int)=(b:Int)):=by omega
   simp[eqV,z,this]
 have:YU (pN x) (pN y)=O0 (decide (x=y)):=by
  show (if 2=2 then Sl (XZ 180) [.int (x.1:Int),.int (x.2:Int)] [.int (y.1:Int),.int (y.2:Int)] else W1)=_;rw[ZN rfl];simp only[Sl,e];obtain⟨a,b⟩:=x;obtain⟨c,d⟩:=y
  by_cases J:a=c<;>by_cases I:b=d<;>simp[J,I]
 unfold sd;rw[this];rfl
def vg(t:Nat)(l:List Nat)(Z:l.length<=1000):D_ [lM l,.int (t:Int)]=O0 (lM (oth t l)):=d9 iN t l Z (in_i t l) ABv
def vh(t:Pr)(l:List Pr)(Z:l.length<=1000):D_ [lT l,pN t]=O0 (lT (oth t l)):=d9 pN t l Z (by rw[in_p t l];congr 2;rw[decide_eq_decide]) ABw
def chg{I:Type}(w:Str)(l:I)(J:List (Str×I)):List (Str×I):=J.map λp=>(p.1,if p.1=w then l else p.2)
def Xa{I:Type}(w:Str)(l:I)(J:List (Str×I)):(chg w l J).map (·.1)=J.map (·.1):=by simp[chg,fN]
def d_{I:Type}(f:I->D)(w:Str)(l:I)(J:List (Str×I))(h:w∈J.map (·.1))(Z:J.length<=100):Dp (.dk (J.map λp=>((.inr p.1:Key),f p.2))) (.str w) (f l)=O0 (.dk ((chg w l J).map λp=>((.inr p.1:Key),f p.2))):=by
 rw[Oj _ _ _ (by simp;omega)];have g:∀J:List (Str×I),w∈J.map (·.1)->(OY (.inr w:Key) (J.map λp=>((.inr p.1:Key),f p.2))).isSome=E3:=λJ=>by
  induction J with
  |nil=>intro h;simp at h
  |cons p r O=>
   intro h;rw[bn];show (if (.inr p.1:Key)=.inr w then O0 (f p.2) else OY (.inr w:Key) (r.map λp=>((.inr p.1:Key),f p.2))).isSome=E3;split
   .rfl
   .rename_i c;refine O ?_
    rcases bX.mp h with h | h
    .exact QO (by rw[h]) c
    .exact h
 have r:∀J:List (Str×I),repK (.inr w:Key) (f l) (J.map λp=>((.inr p.1:Key),f p.2))=(chg w l J).map λp=>((.inr p.1:Key),f p.2):=λJ=>by
  induction J with
  |nil=>rfl
  |cons p r O=>
   rw[bn];show ((.inr p.1:Key),if (.inr p.1:Key)=.inr w then f l else f p.2)::repK (.inr w:Key) (f l) (r.map λp=>((.inr p.1:Key),f p.2))=_;rw[O];show _=((.inr p.1:Key),f (if p.1=w then l else p.2))::(chg w l r).map λp=>((.inr p.1:Key),f p.2);congr 2
   by_cases c:p.1=w
   .rw[ZN c,ZN (by rw[c])]
   .rw[OO c,OO (λz=>c (by simpa using z))]
 unfold UR;rw[g J h,ZN rfl,r]
def eE{I:Type}{w:Str}{l:I}{J:List (Str×I)}{p:Str×I}(h:p∈chg w l J):p∈J∨p.2=l:=by
 unfold chg at h;obtain⟨q,U,rfl⟩:=bv.mp h
 by_cases c:q.1=w
 .exact .inr (by show (if q.1=w then l else q.2)=l;rw[ZN c])
 .exact .inl (by rw[OO c];exact U)
structure Lk (W V:Wl):Prop where
 ok:wh V
 n:V.n=W.n
 mm:mw V=mw W
 tt:tw V=tw W
def qW(k:List (Key×D)):Pf (.dk k)=O0 (.int (k.length:Int)):=Wi k
theorem aQ(W:Wl)(h:wh W)(c:Int):∃V,Lk W V/\Cu [wd W,.int c]=O0 (wd V):=by
 have n5:=h.n5;have m3:=h.m3;have t3:=h.t3;have mx:=XR W.n 1;have mx:Yf (.int (W.n:Int)) (.int 1)=O0 (.int ((max W.n 1:Nat):Int)):=mx;have S:=Dk c ((max W.n 1:Nat):Int) .(0);have U:=CZ c 5 .(2) .(2);have O:=Dk (c/5) ((max W.n 1:Nat):Int) .(0);have r0:=CZ c 25 .(2) .(2);have en:sd ZA (.int (W.n:Int)) (.int 0)=O0 (.bl (decide (W.n=0))):=Ik W.n 0;have lm:Pf (.dk (eM W.ms))=O0 (.int (W.ms.length:Int)):=by rw[qW];simp[eM]
 have lt:Pf (.dk (eT W.ts))=O0 (.int (W.ts.length:Int)):=by rw[qW];simp[eT]
 have ad:=J1 (W.ms.length:Int) (W.ts.length:Int);have Y:∀Z:Rho,Pv 3 (Bb 2 (Bb 3 (Bb 4 Pw))) (wd W) Z=O0 (((Z.set 2 (.fz (.int (W.n:Int)))).set 3 (.fz (.dk (eM W.ms)))).set 4 (.fz (.dk (eT W.ts)))):=λZ=>rfl;have I:∀(f:FE) (g:FG) (Z:Rho) (d:D),f Z=O0 d->YV f g Z=(g d Z).map .nx:=λf g Z d e=>by unfold YV;rw[e];rfl
 obtain⟨a,ea⟩:∃a:Nat,(a:Int)=c%((max W.n 1:Nat):Int):=⟨(c%((max W.n 1:Nat):Int)).toNat,by have:=xo c (show ((max W.n 1:Nat):Int)≠0 by omega);omega⟩;obtain⟨b,eb⟩:∃b:Nat,(b:Int)=c/5%((max W.n 1:Nat):Int):=⟨(c/5%((max W.n 1:Nat):Int)).toNat,by have:=xo (c/5) (show ((max W.n 1:Nat):Int)≠0 by omega);omega⟩;have ha:W.n≠0->a<W.n:=λz=>by have:=xp c (show 0<((max W.n 1:Nat):Int) by omega);omega
 have hb:W.n≠0->b<W.n:=λz=>by have:=xp (c/5) (show 0<((max W.n 1:Nat):Int) by omega);omega
 rw[<-ea] at S;rw[<-eb] at O
 by_cases c0:W.n=0
 .refine⟨W,⟨h,rfl,rfl,rfl⟩,?_⟩;rw[SO c0] at en;unfold Cu Dt;rw[KJ (show [wd W,.int c].length=2 from rfl),Dr,Em,I _ _ _ (wd W) rfl,Y];simp only[cK,mx,S,U,O,en]
 .rw[RO c0] at en
  by_cases cz:W.ms.length+W.ts.length=0
  .refine⟨W,⟨h,rfl,rfl,rfl⟩,?_⟩;have ez:sd ZA (.int ((W.ms.length:Int)+(W.ts.length:Int))) (.int 0)=O0 (.bl E3):=by rw[Ii,SO .(0)]
   unfold Cu Dt;rw[KJ (show [wd W,.int c].length=2 from rfl),Dr,Em,I _ _ _ (wd W) rfl,Y];simp only[cK,mx,S,U,O,en,lm,lt,ad,ez]
  .have ez:sd ZA (.int ((W.ms.length:Int)+(W.ts.length:Int))) (.int 0)=O0 (.bl ZA):=by rw[Ii,RO .(0)]
   have S0:=Dk (c/25) ((W.ms.length:Int)+(W.ts.length:Int)) .(0);obtain⟨j,ej⟩:∃j:Nat,(j:Int)=c/25%((W.ms.length:Int)+(W.ts.length:Int)):=⟨(c/25%((W.ms.length:Int)+(W.ts.length:Int))).toNat,by have:=xo (c/25) (show (W.ms.length:Int)+(W.ts.length:Int)≠0 by omega);omega⟩;have hj:j<W.ms.length+W.ts.length:=by have:=xp (c/25) (show 0<(W.ms.length:Int)+(W.ts.length:Int) by omega);omega
   rw[<-ej] at S0;have dm:Nv (.dk (eM W.ms))=O0 (.dk (eM W.ms)):=rfl;have dt:Nv (.dk (eT W.ts))=O0 (.dk (eT W.ts)):=rfl;have T:ltD (.int (j:Int)) (.int (W.ms.length:Int))=O0 (.bl (decide (j<W.ms.length))):=xW j W.ms.length
   by_cases cj:j<W.ms.length
   .rw[SO cj] at T;have hk:j<(W.ms.map (·.1)).length:=by rw[aI];exact cj
    have lf:Sz (.dk (eM W.ms))=O0 (.lst ((W.ms.map (·.1)).map .str)):=by rw[dM,dU]
    have ix:=Qd hk;have J:W.ms[j]∈W.ms:=gX cj;have ew:(W.ms.map (·.1))[j]=(W.ms[j]).1:=by rw[HL]
    rw[ew] at ix;have X0:=at_M W h J;have ml:=h.ml _ J;have ot:=vg a (W.ms[j]).2 .(0);have pc:Dp (.dk (eM W.ms)) (.str (W.ms[j]).1) (lM (oth a (W.ms[j]).2))=O0 (.dk (eM (chg (W.ms[j]).1 (oth a (W.ms[j]).2) W.ms))):=d_ lM _ _ W.ms (bv.mpr ⟨_,J,rfl⟩) .(0);refine⟨⟨W.n,chg (W.ms[j]).1 (oth a (W.ms[j]).2) W.ms,W.ts⟩,⟨RL W h _ _ (by rw[Xa]) (.refl _) (λp J=>?_) (λp J=>⟨(h.tl p J).1,(h.tl p J).2.2⟩),rfl,Xa _ _ _,rfl⟩,?_⟩
    .rcases eE J with z | z
     .exact⟨(h.ml p z).1,(h.ml p z).2.2⟩
     .rw[z];refine⟨qU ml.1,λt ht=>?_⟩
      rcases d7 ht with y | y
      .exact ml.2.2 t y
      .rw[y];exact ha c0
    .unfold Cu Dt;rw[KJ (show [wd W,.int c].length=2 from rfl),Dr,Em,I _ _ _ (wd W) rfl,Y];simp only[cK,mx,S,U,O,en,lm,lt,ad,ez,r0,S0,dm,dt,T,lf,ix,X0,ot,Rf,Lw,pc];rfl
   .rw[RO cj] at T;have sj:j-W.ms.length<W.ts.length:=by omega
    have sb:subD (.int (j:Int)) (.int (W.ms.length:Int))=O0 (.int ((j-W.ms.length:Nat):Int)):=by rw[Qt];congr 2;omega
    have hk:j-W.ms.length<(W.ts.map (·.1)).length:=by rw[aI];exact sj
    have lf:Sz (.dk (eT W.ts))=O0 (.lst ((W.ts.map (·.1)).map .str)):=by rw[dM,dW]
    have ix:=Qd hk;have J:W.ts[j-W.ms.length]∈W.ts:=gX sj;have ew:(W.ts.map (·.1))[j-W.ms.length]=(W.ts[j-W.ms.length]).1:=by rw[HL]
    rw[ew] at ix;have X0:=at_T W h J;have ml:=h.tl _ J;have ot:=vh (a,b) (W.ts[j-W.ms.length]).2 .(0);have pc:Dp (.dk (eT W.ts)) (.str (W.ts[j-W.ms.length]).1) (lT (oth (a,b) (W.ts[j-W.ms.length]).2))=O0 (.dk (eT (chg (W.ts[j-W.ms.length]).1 (oth (a,b) (W.ts[j-W.ms.length]).2) W.ts))):=d_ lT _ _ W.ts (bv.mpr ⟨_,J,rfl⟩) .(0);refine⟨⟨W.n,W.ms,chg (W.ts[j-W.ms.length]).1 (oth (a,b) (W.ts[j-W.ms.length]).2) W.ts⟩,⟨RL W h _ _ (.refl _) (by rw[Xa]) (λp J=>⟨(h.ml p J).1,(h.ml p J).2.2⟩) (λp J=>?_),rfl,rfl,Xa _ _ _⟩,?_⟩
    .rcases eE J with z | z
     .exact⟨(h.tl p z).1,(h.tl p z).2.2⟩
     .rw[z];refine⟨qU ml.1,λt ht=>?_⟩
      rcases d7 ht with y | y
      .exact ml.2.2 t y
      .rw[y];exact⟨ha c0,hb c0⟩
    .unfold Cu Dt;rw[KJ (show [wd W,.int c].length=2 from rfl),Dr,Em,I _ _ _ (wd W) rfl,Y];simp only[cK,mx,S,U,O,en,lm,lt,ad,ez,r0,S0,dm,dt,T,sb,lf,ix,X0,ot,Rf,Lw,pc];rfl
def ABx:shlD (.int 1) (.int 90)=O0 (.int 1237940039285380274899124224):=by
 show (if CShl 1 90 then O0 (D.int (1*2^(90:Int).toNat)) else W1)=_;rw[ZN (by unfold CShl;decide +kernel)];rfl
def vm(i:Int)(h:i8 i<=1048576):mulD (.int i) (.int 27182818284590452353602874713526624977572470936999595749669)=O0 (.int (i*27182818284590452353602874713526624977572470936999595749669)):=by
 show (if Nr i _ then O0 (D.int (i*_)) else W1)=_;rw[ZN (.inr ⟨by omega,by decide +kernel⟩)]
def SZ:List Nat:=[2,3,1,3,4,2,3,0,4,2,3,5]
def MW:List Str:=["red","o","redo"]
def TW:List Str:=["near","n","under"]
def qX:∀x∈MW++TW,Wd x:=by
 have h:∀x∈MW++TW,(1<=x.length/\x.length<=8)/\(∀c∈cs x,c∈cs LET)/\x∉KEPT:=by decide +kernel
 exact λx I=>⟨(h x I).1.1,(h x I).1.2,(h x I).2.1,(h x I).2.2⟩
def AAe:(MW++TW).Nodup:=by decide +kernel
def AAf(j k:Nat):Wds (MW.take j) (TW.take k):=by
 refine⟨?_,?_,?_,λx I=>qX x (by simp[xb I]),λx I=>qX x (by simp[xb I])⟩
 .rw[i6];show min j 3<=3;omega
 .rw[i6];show min k 3<=3;omega
 .exact HA (List.Sublist.append (E1 _ _) (E1 _ _)) AAe
def Ho(c:Int)(m:Nat)(h:0<m):∃j:Nat,j<m/\rz (.int c) (.int (m:Int))=O0 (.int (j:Int))/\c%(m:Int)=(j:Int):=by
 have J:=xo c (show (m:Int)≠0 by omega);have I:=xp c (show 0<(m:Int) by omega);refine⟨(c%(m:Int)).toNat,by omega,?_,by omega⟩;rw[Dk c m .(0)];congr 2;omega
def ABy(j:Nat)(h:j<12):∃n:Nat,n<=5/\vb (.lst [.int 2,.int 3,.int 1,.int 3,.int 4,.int 2,.int 3,.int 0,.int 4,.int 2,.int 3,.int 5]) (.int (j:Int))=O0 (.int (n:Int)):=by
 have e:=W_ SZ j (by show j<12;exact h);refine⟨SZ.getD j 0,?_,e⟩;have:∀x∈SZ,x<=5:=by decide
 rw[tJ,dQ (by show j<12;exact h)];exact this _ (gX _)
def Vw(l:List Str)(k:Nat):slD (.lst (l.map .str)) W1 (O0 (k:Int))=O0 (.lst ((l.take k).map .str)):=by rw[sl_l,tq]
def Xb(a b c d e f g h i j k l:D):lstO (O0 [a,b,c,d,e,f,g,h,i,j,k,l])=O0 (.lst [a,b,c,d,e,f,g,h,i,j,k,l]):=nq _
structure Zs (W:Wl):Prop where
 m2:W.ms.length<=2
 nz:("zest":Str)∉mw W++tw W
def ABz{W:Wl}{k:Nat}(O:j<3)(I:mw W=MW.take j)(J:tw W=TW.take k):Zs W:=by
 refine⟨?_,?_⟩
 .have:=UO eS I;simp only[mw,aI,i6] at this;omega
 .rw[I,J];intro h;have:("zest":Str)∈MW++TW:=by
   rcases eR.mp h with h | h
   .exact vk _ (xb h)
   .exact kK _ (xb h)
  exact QO this (by decide +kernel)
theorem qY(I J T O:Int)(hb:i8 J<=1048576):∃W V,Zs W/\wh W/\wh V/\mw V=mw W/\tw V=tw W/\Ci [.lst [.int I,.int J,.int T,.int O]]=O0 (.lst [wd W,wd V]):=by
 have S1:∀ρ:Rho,Pv 4 (Bb 1 (Bb 2 (Bb 3 (Bb 4 Pw)))) (.lst [.int I,.int J,.int T,.int O]) ρ=O0 ((((ρ.set 1 (.fz (.int I))).set 2 (.fz (.int J))).set 3 (.fz (.int T))).set 4 (.fz (.int O))):=λρ=>rfl;have S:∀(f:FE) (g:FG) (ρ:Rho) (d:D),f ρ=O0 d->YV f g ρ=(g d ρ).map .nx:=λf g ρ d e=>by unfold YV;rw[e];rfl
 have big:=vm J hb;have sh:=ABx;have mb:=Dk (J*27182818284590452353602874713526624977572470936999595749669) 1237940039285380274899124224 .(2);have S3:=Dk J 1237940039285380274899124224 .(2);have P3:=Dk O 1237940039285380274899124224 .(2);have m3:=Dk I 3 .(2);have e3:=Ii (I%3) 2;have d3:=CZ I 3 .(2) .(2);have ml:=tZ (I/3) 1000000007 .(2);have mn:=Dk (I/3*1000000007) 2147483647 .(2);generalize (I/3*1000000007)%2147483647=num at mn;obtain⟨j0,P4,q0,_⟩:=Ho num 12 .(2);obtain⟨n,hn,r0⟩:=ABy j0 P4;have P1:=CZ num 12 .(2) .(2);have X0:=CZ num 36 .(2) .(2);obtain⟨j1,Y3,q1,_⟩:=Ho (num/12) 3 .(2);obtain⟨j2,u8,q2,_⟩:=Ho (num/36) 3 .(2);have t1:=Vw MW j1;have t2:=Vw TW j2;have P5:((12:Nat):Int)=12:=rfl;have c3:((3:Nat):Int)=3:=rfl;rw[P5] at q0;rw[c3] at q1 q2;change slD (.lst [.str "red",.str "o",.str "redo"]) W1 (O0 (j1:Int))=_ at t1;change slD (.lst [.str "near",.str "n",.str "under"]) W1 (O0 (j2:Int))=_ at t2;have hW:=AAf j1 j2;obtain⟨U,eb⟩:∃U:Int,U=if I%3=2 then J%1237940039285380274899124224 else (J*27182818284590452353602874713526624977572470936999595749669)%1237940039285380274899124224:=⟨_,rfl⟩
 obtain⟨W,wn,wm,wt,wo,we⟩:=U6 n hn _ _ hW U;have zs:Zs W:=ABz Y3 wm wt;obtain⟨k,hk,qk,ek⟩:=Ho T 5 .(2);have d5:=CZ T 5 .(2) .(2);obtain⟨n2,f8,q5,_⟩:=Ho (T/5) 5 .(2);have c5:((5:Nat):Int)=5:=rfl;rw[c5] at qk q5;have Y:sd ZA (.int (k:Int)) (.int 0)=O0 (.bl (decide (k=0))):=Ik k 0;have Z:sd ZA (.int (k:Int)) (.int 1)=O0 (.bl (decide (k=1))):=Ik k 1;have S0:sd ZA (.int (k:Int)) (.int 2)=O0 (.bl (decide (k=2))):=Ik k 2;obtain⟨V0,P7,X2,T2,U2,Y2⟩:=U6 n2 .(0) _ _ hW (O%1237940039285380274899124224);obtain⟨V1,P6,Q2,X1,Y1,S2⟩:=U6 (min (n+1) 4) .(0) _ _ hW U;have an:OT (.int (n:Int)) (.int 1)=O0 (.int ((n+1:Nat):Int)):=by rw[J1];congr 2
 have mi:minD (.int ((n+1:Nat):Int)) (.int 4)=O0 (.int ((min (n+1) 4:Nat):Int)):=qD (n+1) 4;obtain⟨os,po,oe⟩:=UJ (T/5) n hn;rw[<-wn] at po;have te:=iB W wo os po;have S4:=CZ O 3 .(2) .(2);obtain⟨V3,v3,U1⟩:=aQ (trn os W) (qO W wo os po) (O/3);have st:∀R,bc (jl 5 (bF rz (bF mulD (vF 2) (kF (.int 27182818284590452353602874713526624977572470936999595749669))) (bF shlD (kF (.int 1)) (kF (.int 90))))) (bc (OV (tx (bF (sd ZA) (bF rz (vF 1) (kF (.int 3))) (kF (.int 2)))) (jl 5 (bF rz (vF 2) (bF shlD (kF (.int 1)) (kF (.int 90))))) (Pc)) R) [.fz (.lst [.int I,.int J,.int T,.int O]),.fz (.int I),.fz (.int J),.fz (.int T),.fz (.int O),.un,.un,.un,.un,.un,.un,.un,.un]=R [.fz (.lst [.int I,.int J,.int T,.int O]),.fz (.int I),.fz (.int J),.fz (.int T),.fz (.int O),.fz (.int U),.un,.un,.un,.un,.un,.un,.un]:=λR=>by
  by_cases c:I%3=2
  .rw[ZN c] at eb;rw[SO c] at e3;simp only[cK,big,sh,mb,m3,e3,S3];rw[eb]
  .rw[OO c] at eb;rw[RO c] at e3;simp only[cK,big,sh,mb,m3,e3];rw[eb]
 by_cases k0:k=0
 .refine⟨W,V0,zs,wo,U2,by rw[X2,wm],by rw[T2,wt],?_⟩;rw[SO k0] at Y;unfold Ci Fg;rw[KJ (show [D.lst [.int I,.int J,.int T,.int O]].length=1 from rfl),Dr,Em,S _ _ _ (.lst [.int I,.int J,.int T,.int O]) rfl,S1,Lq,Re];simp only[cq,mB,bn,gy,u7,ua,ub,uk,uu,ko,fq,fw];rw[st];simp only[cK,Xb,d3,ml,mn,q0,r0,P1,q1,t1,X0,q2,t2,we,qk,Y,d5,q5,sh,P3,Y2]
 .rw[RO k0] at Y
  by_cases k1:k=1
  .refine⟨W,V1,zs,wo,Y1,by rw[Q2,wm],by rw[X1,wt],?_⟩;rw[SO k1] at Z;unfold Ci Fg;rw[KJ (show [D.lst [.int I,.int J,.int T,.int O]].length=1 from rfl),Dr,Em,S _ _ _ (.lst [.int I,.int J,.int T,.int O]) rfl,S1,Lq,Re];simp only[cq,mB,bn,gy,u7,ua,ub,uk,uu,ko,fq,fw];rw[st];simp only[cK,Xb,d3,ml,mn,q0,r0,P1,q1,t1,X0,q2,t2,we,qk,Y,Z,an,mi,S2]
  .rw[RO k1] at Z
   by_cases k2:k=2
   .refine⟨W,trn os W,zs,wo,qO W wo os po,aO os W,aP os W,?_⟩;rw[SO k2] at S0;unfold Ci Fg;rw[KJ (show [D.lst [.int I,.int J,.int T,.int O]].length=1 from rfl),Dr,Em,S _ _ _ (.lst [.int I,.int J,.int T,.int O]) rfl,S1,Lq,Re];simp only[cq,mB,bn,gy,u7,ua,ub,uk,uu,ko,fq,fw];rw[st];simp only[cK,Xb,d3,ml,mn,q0,r0,P1,q1,t1,X0,q2,t2,we,qk,Y,Z,S0,d5,oe,te]
   .rw[RO k2] at S0;refine⟨W,V3,zs,wo,v3.ok,by rw[v3.mm,aO],by rw[v3.tt,aP],?_⟩;unfold Ci Fg;rw[KJ (show [D.lst [.int I,.int J,.int T,.int O]].length=1 from rfl),Dr,Em,S _ _ _ (.lst [.int I,.int J,.int T,.int O]) rfl,S1,Lq,Re];simp only[cq,mB,bn,gy,u7,ua,ub,uk,uu,ko,fq,fw];rw[st];simp only[cK,Xb,d3,ml,mn,q0,r0,P1,q1,t1,X0,q2,t2,we,qk,Y,Z,S0,d5,oe,te,S4,U1]
def AB_:powD (.int 10) (.int 50)=O0 (.int 100000000000000000000000000000000000000000000000000):=by
 show (if CPow 10 50 then O0 (D.int (10^(50:Int).toNat)) else W1)=_;rw[ZN (by unfold CPow;decide +kernel)];rfl
def qZ{t:Int}(h1 : -200000000000000000000000000000000000000000000000000<=t)(I:t<=200000000000000000000000000000000000000000000000000):Sm t:=by
 show decide (t.natAbs.log2<1920)=E3;refine SO ?_;have h:t.natAbs<300000000000000000000000000000000000000000000000000:=by omega
 by_cases c:t.natAbs=0
 .rw[c];decide
 .rw[Nat.log2_lt c];exact fE h (by decide +kernel)
theorem Xc(c:Int)(n:Nat)(hn:n<=5):∃t,Sm t/\Bad n t/\Be [.int c,.int (n:Int)]=O0 (.int t):=by
 have Y:=Dk c 3 .(2);have S:=CZ c 3 .(2) .(2);have p:=AB_;have O:=Dk (c/3) 100000000000000000000000000000000000000000000000000 .(2);have b0:=xo (c/3) (b:=100000000000000000000000000000000000000000000000000) .(2);have b1:=xp (c/3) (b:=100000000000000000000000000000000000000000000000000) .(2);generalize (c/3)%100000000000000000000000000000000000000000000000000=q at O b0 b1;have I:=Ii (c%3) 0;have J:=Ii (c%3) 1;have ng:negD (.int 1)=O0 (.int (-1)):=rfl;have Z:=Qt (-1) q;have a1:=J1 (n:Int) 1;have a2:=J1 ((n:Int)+1) q
 by_cases U:c%3=0
 .rw[SO U] at I;refine⟨-1-q,qZ .(0) .(0),.inl .(0),?_⟩;simp only[cK,Be,Eu,Y,I,ng,S,p,O,Z]
 .rw[RO U] at I
  by_cases T:c%3=1
  .rw[SO T] at J;refine⟨(n:Int),qZ .(0) .(0),.inr .(0),?_⟩;simp only[cK,Be,Eu,Y,I,J]
  .rw[RO T] at J;refine⟨(n:Int)+1+q,qZ .(0) .(0),.inr .(0),?_⟩;simp only[cK,Be,Eu,Y,I,J,S,p,O,a1,a2]
theorem Vx{W V:Wl}(I T:Slot):∀(r:List Int) (ps:List Pr) (O:Slot),(∀p∈ps,p.1<max W.n 1/\p.2<max V.n 1)->ps.length+r.length<=100 ->
  ∃(qs:List Pr) (U:Slot),(∀p∈qs,p.1<max W.n 1/\p.2<max V.n 1)/\qs.length=ps.length+r.length/\OS (XU (CW 4) F_) (r.map .int) [I,.fz (il W),.fz (il V),.ow (.lst (ps.map pN)),O,T]=O0 (.nx [I,.fz (il W),.fz (il V),.ow (.lst (qs.map pN)),U,T])
 |[],ps,O,h,_=>⟨ps,O,h,rfl,rfl⟩
 |c::r,ps,O,h,hl=>by
  have s1:=El W;have Z:=El V;have m5:=Dk c 5 .(2);have d5:=CZ c 5 .(2) .(2);have Y:Yf (.int (W.n:Int)) (.int 1)=_:=XR W.n 1;have S:Yf (.int (V.n:Int)) (.int 1)=_:=XR V.n 1;obtain⟨a,ha,qa,_⟩:=Ho (c%5) (max W.n 1) .(0);obtain⟨b,hb,qb,_⟩:=Ho (c/5) (max V.n 1) .(0);have r0:ps.length+(r.length+1)<=100:=hl;have ap:appL (.lst (ps.map pN)) (.tup [.int (a:Int),.int (b:Int)])=O0 (.lst ((ps++[(a,b)]).map pN)):=ABm ps (a,b) .(0);have bd:F_ [I,.fz (il W),.fz (il V),.ow (.lst (ps.map pN)),.fz (.int c),T]=O0 (.nx [I,.fz (il W),.fz (il V),.ow (.lst ((ps++[(a,b)]).map pN)),.fz (.int c),T]):=by
   simp only[cK,F_,s1,Z,m5,d5,Y,S,qa,qb,ap]
  obtain⟨qs,U,hq,lq,e⟩:=Vx (W:=W) (V:=V) I T r (ps++[(a,b)]) (.fz (.int c)) (λp J=>by
   rcases eR.mp J with J | J
   .exact h p J
   .rw[ke.mp J];exact⟨ha,hb⟩) (by simp;omega)
  refine⟨qs,U,hq,by rw[lq];simp;omega,?_⟩
  w_up
  rw[bd,Dm,e]
def cut4{I:Type}(l:List I):(Rl l (O0 6) (O0 10)).length<=4:=by
 unfold Rl;rw[i6];have O:HT.sIx l.length 0 (O0 6)=min 6 l.length:=HT.V6 ..;have J:HT.sIx l.length l.length (O0 10)=min 10 l.length:=HT.V6 ..;omega
def AAg{i j:List D}(h:i.length+j.length<=1000):catD (.lst i) (.lst j)=O0 (.lst (i++j)):=by
 show (if i.length+j.length<=sizeLine then O0 (D.lst (i++j)) else W1)=_;rw[ZN (dA h .(2))]
def rwB:FS->FS:=λR=>bc (jl 5 (RS (Aa (Ag (Be) (Aa (bF Cr (vF 4) (kF (.int 8))) (Aa (uF (kc "size") (vF 1)) (am)))) (Aa (Ag (Be) (Aa (bF Cr (vF 4) (kF (.int 16))) (Aa (uF (kc "size") (vF 2)) (am)))) (am))))) (bc (OV (andT (tx (bF (sd ZA) (bF rz (vF 4) (kF (.int 4))) (kF (.int 1)))) (tx (bF gtD (uF (kc "size") (vF 1)) (kF (.int 0))))) (jl 5 (RS (Aa (kF (.int 0)) (Aa (bF vb (vF 5) (kF (.int 1))) (am))))) (Pc)) (bc (OV (andT (tx (bF (sd ZA) (bF rz (vF 4) (kF (.int 4))) (kF (.int 2)))) (tx (bF gtD (uF (kc "size") (vF 2)) (kF (.int 0))))) (jl 5 (RS (Aa (bF vb (vF 5) (kF (.int 0))) (Aa (kF (.int 0)) (am))))) (Pc)) R))
def rwC:FS:=setW 3 (bF catD (bF OT (slF (vU 3) (noO) (Pp (bF rz (bF Cr (vF 4) (kF (.int 4))) (kF (.int 4))))) (pp (Aa (vF 5) (am)))) (slF (vU 3) (Pp (bF rz (bF Cr (vF 4) (kF (.int 4))) (kF (.int 4)))) (noO)))
def rwT:FS:=bc (jl 4 (Ag (An) (Aa (vF 0) (Aa (kF (.int 5)) (am))))) (bc (OV (tx (bF (sd ZA) (bF rz (Ag (An) (Aa (vF 0) (Aa (kF (.int 4)) (am)))) (kF (.int 4))) (kF (.int 1)))) (rwB rwC) (Pc)) (fzS [3] (im (vF 3))))
def vo:MT=bc (setW 3 (pp (am))) (bc (Pt (zv (slF (vF 0) (Pp (kF (.int 6))) (Pp (kF (.int 10))))) (CW 4) (F_)) (bc (OV (orT (tx (bF (sd ZA) (uF (kc "size") (vF 1)) (kF (.int 0)))) (tx (bF (sd ZA) (uF (kc "size") (vF 2)) (kF (.int 0))))) (setW 3 (pp (am))) (Pc)) rwT)):=rfl
def sm_0:Sm 0:=RM 0 .(0)
def vy{W V:Wl}(hw:wh W)(hv:wh V)(x0 x3:Slot)(c:Int):∃p:Int×Int,(Sm p.1/\Sm p.2)/\(Bad W.n p.1∨Bad V.n p.2)/\∀R,rwB R [x0,.fz (il W),.fz (il V),x3,.fz (.int c),.un]=R [x0,.fz (il W),.fz (il V),x3,.fz (.int c),.fz (pI p)]:=by
 obtain⟨a,sa,ba,Z⟩:=Xc (c/8) W.n hw.n5;obtain⟨b,sb,bb,Y⟩:=Xc (c/16) V.n hv.n5;have S:=El W;have T:=El V;have d8:=CZ c 8 .(2) .(2);have I:=CZ c 16 .(2) .(2);have U:=Dk c 4 .(2);have O:=Ii (c%4) 1;have J:=Ii (c%4) 2;have g1:=pG W.n;have g2:=pG V.n
 by_cases c1:c%4=1
 .rw[SO c1] at O;rw[RO .(0)] at J
  by_cases w0:0<W.n
  .rw[SO w0] at g1;refine⟨(0,b),⟨sm_0,sb⟩,.inr bb,λR=>?_⟩;simp only[dK,rwB,S,T,d8,I,Z,Y,U,O,J,g1];rfl
  .rw[RO w0] at g1;refine⟨(a,b),⟨sa,sb⟩,.inr bb,λR=>?_⟩;simp only[dK,rwB,S,T,d8,I,Z,Y,U,O,J,g1];rfl
 .rw[RO c1] at O
  by_cases c2:c%4=2
  .rw[SO c2] at J
   by_cases v0:0<V.n
   .rw[SO v0] at g2;refine⟨(a,0),⟨sa,sm_0⟩,.inl ba,λR=>?_⟩;simp only[dK,rwB,S,T,d8,I,Z,Y,U,O,J,g2];rfl
   .rw[RO v0] at g2;refine⟨(a,b),⟨sa,sb⟩,.inr bb,λR=>?_⟩;simp only[dK,rwB,S,T,d8,I,Z,Y,U,O,J,g2];rfl
  .rw[RO c2] at J;refine⟨(a,b),⟨sa,sb⟩,.inr bb,λR=>?_⟩;simp only[dK,rwB,S,T,d8,I,Z,Y,U,O,J];rfl
def qd{W V:Wl}(J:wh W)(O:wh V){ps:List Pr}(h:UZ W V ps):∀r∈ps.map pz,Sm r.1/\Sm r.2:=λx I=>by
 obtain⟨r,S,rfl⟩:=bv.mp I;have:=h r S;have:=J.n5;have:=O.n5;exact⟨RM _ .(0),RM _ .(0)⟩
structure RwOk (W V:Wl) (rows:List (Int×Int)):Prop where
 sm:∀r∈rows,Sm r.1/\Sm r.2
 ps:rows.findSome? (bd1 W.n V.n)=W1->∃ps:List Pr,rows=ps.map pz/\UZ W V ps/\ps.length<=4
theorem iC{W V:Wl}(O:wh W)(T:wh V)(S:List Int)(z4:Slot)(ps:List Pr)(U:UZ W V ps)(hl:ps.length<=4):∃J,RwOk W V J/\runO (rwT [.fz (.lst (S.map .int)),.fz (il W),.fz (il V),.ow (.lst (ps.map pN)),z4,.un])=O0 (.lst (J.map pI)):=by
 have c5:An [.lst (S.map .int),.int 5]=O0 (.int (S.getD 5 0)):=Nh S 5;have c4:An [.lst (S.map .int),.int 4]=O0 (.int (S.getD 4 0)):=Nh S 4;have m4:=Dk (S.getD 4 0) 4 .(2);have Y:=Ii (S.getD 4 0%4) 1
 by_cases z:S.getD 4 0%4=1
 .rw[SO z] at Y;obtain⟨p,sp,bp,be⟩:=vy O T (.fz (.lst (S.map .int))) (.ow (.lst (ps.map pN))) (S.getD 5 0);have d4:=CZ (S.getD 5 0) 4 .(2) .(2);obtain⟨j,hj,qj,_⟩:=Ho (S.getD 5 0/4) 4 .(2);have k4:((4:Nat):Int)=4:=rfl;rw[k4] at qj;have s1:=sl_l (ps.map pN) j;have s2:=dw (ps.map pN) j;rw[<-tq] at s1;rw[<-A9] at s2;have ad:=Tn (i:=(ps.take j).map pN) (j:=[pI p]) (by simp;omega);have ca:=AAg (i:=(ps.take j).map pN++[pI p]) (j:=(ps.drop j).map pN) (by simp;omega);have er:((ps.take j).map pz++[p]++(ps.drop j).map pz).map pI=(ps.take j).map pN++[pI p]++(ps.drop j).map pN:=by
   rw[f6,f6,Y6,Y6];rfl
  refine⟨(ps.take j).map pz++[p]++(ps.drop j).map pz,⟨λr I=>?_,λno=>?_⟩,?_⟩
  .rcases eR.mp I with I | I
   .rcases eR.mp I with I | I
    .exact qd O T (λx Z=>U x (xb Z)) r I
    .rw[ke.mp I];exact sp
   .exact qd O T (λx Z=>U x (Fc Z)) r I
  .have:=(Of.mp no) p .(1);unfold bd1 at this;split at this
   .cases this
   .rename_i n1;split at this
    .cases this
    .rename_i n2;exact QO bp (λz=>z.elim n1 n2)
  .have wc:rwC [.fz (.lst (S.map .int)),.fz (il W),.fz (il V),.ow (.lst (ps.map pN)),.fz (.int (S.getD 5 0)),.fz (pI p)]=O0 (.nx [.fz (.lst (S.map .int)),.fz (il W),.fz (il V),.ow (.lst ((ps.take j).map pN++[pI p]++(ps.drop j).map pN)),.fz (.int (S.getD 5 0)),.fz (pI p)]):=by
    simp only[cK,rwC,d4,qj,s1,s2,ad,ca]
   rw[er];simp only[dK,rwT,c5,c4,m4,Y,be,wc]
 .rw[RO z] at Y;refine⟨ps.map pz,⟨qd O T U,λ_=>⟨ps,rfl,U,hl⟩⟩,?_⟩;rw[Y6];simp only[dK,rwT,c5,c4,m4,Y]
theorem vz{W V:Wl}(hw:wh W)(hv:wh V)(S:List Int):∃I,RwOk W V I/\Gg [.lst (S.map .int),il W,il V]=O0 (.lst (I.map pI)):=by
 have Y:slD (.lst (S.map .int)) (O0 6) (O0 10)=O0 (.lst ((Rl S (O0 6) (O0 10)).map .int)):=by
  show O0 (D.lst (Rl (S.map D.int) (O0 6) (O0 10)))=_;rw[vD]
 have h4:=cut4 S;obtain⟨qs,y4,hq,lq,e⟩:=Vx (W:=W) (V:=V) (.fz (.lst (S.map .int))) .un (Rl S (O0 6) (O0 10)) [] .un (λp J=>by cases J) (by simp;omega);have Z:=El W;have s2:=El V;have T:sd ZA (.int (W.n:Int)) (.int 0)=O0 (.bl (decide (W.n=0))):=Ik W.n 0;have U:sd ZA (.int (V.n:Int)) (.int 0)=O0 (.bl (decide (V.n=0))):=Ik V.n 0;simp only[gy] at e;have ql:qs.length<=4:=by rw[lq];simp;omega
 have st:∃O,UZ W V O/\O.length<=4/\Gg [.lst (S.map .int),il W,il V]=runO (rwT [.fz (.lst (S.map .int)),.fz (il W),.fz (il V),.ow (.lst (O.map pN)),y4,.un]):=by
  unfold Gg;rw[vo]
  by_cases w0:W.n=0
  .rw[SO w0] at T;refine⟨[],(λp J=>by cases J),by simp,?_⟩;simp only[cK,Y,Ca,DW,e,Z,T]
  .rw[RO w0] at T
   by_cases v0:V.n=0
   .rw[SO v0] at U;refine⟨[],(λp J=>by cases J),by simp,?_⟩;simp only[cK,Y,Ca,DW,e,Z,s2,T,U]
   .rw[RO v0] at U;refine⟨qs,λp J=>?_,ql,?_⟩
    .have:=hq p J;omega
    .simp only[cK,Y,Ca,DW,e,Z,s2,T,U]
 obtain⟨O,hi,hl,es⟩:=st;obtain⟨I,ro,er⟩:=iC hw hv S y4 O hi hl;exact⟨I,ro,by rw[es,er]⟩
def badL(o:Option Int):List D:=match o with | some t=>[.int t] | none=>[]
theorem ZG(W V:Wl)(O:Slot):∀(I:List (Int×Int)) (z3 z4:Slot),∃y3 y4,OS (XU (Pv 2 (Bb 3 (Bb 4 Pw))) Dc) (I.map pI) [O,.fz (il W),.fz (il V),z3,z4]=O0 (match I.findSome? (bd1 W.n V.n) with | some t=>.rt (.lst [.int t]) [O,.fz (il W),.fz (il V),y3,y4] | none=>.nx [O,.fz (il W),.fz (il V),y3,y4])
 |[],z3,z4=>⟨z3,z4,rfl⟩
 |r::I,z3,z4=>by
  have S:=El W;have s2:=El V;obtain⟨y3,y4,e⟩:=ZG W V O I (.fz (.int r.1)) (.fz (.int r.2));rw[NY,bn,Ds,UU];unfold pI;rw[Km,Jm];simp only[fq,fw];unfold bd1;have J:=Pn r.1 0;have Z:=Pn r.2 0;have U:=Vd r.1 (W.n:Int);have g2:=Vd r.2 (V.n:Int)
  by_cases T:Bad W.n r.1
  .rw[ZN T];refine⟨.fz (.int r.1),.fz (.int r.2),?_⟩
   by_cases k:r.1<0
   .rw[SO k] at J;simp only[cK,Dc,S,J]
   .rw[RO k] at J;rw[SO (T.resolve_left k)] at U;simp only[cK,Dc,S,J,U]
  .rw[OO T];rw[RO λz=>T (.inl z)] at J;rw[RO λz=>T (.inr z)] at U
   by_cases Y:Bad V.n r.2
   .rw[ZN Y];refine⟨.fz (.int r.1),.fz (.int r.2),?_⟩
    by_cases k:r.2<0
    .rw[SO k] at Z;simp only[cK,Dc,S,s2,J,U,Z]
    .rw[RO k] at Z;rw[SO (Y.resolve_left k)] at g2;simp only[cK,Dc,S,s2,J,U,Z,g2]
   .rw[OO Y];rw[RO λz=>Y (.inl z)] at Z;rw[RO λz=>Y (.inr z)] at g2;refine⟨y3,y4,?_⟩;have st:Dc [O,.fz (il W),.fz (il V),.fz (.int r.1),.fz (.int r.2)]=O0 (.nx [O,.fz (il W),.fz (il V),.fz (.int r.1),.fz (.int r.2)]):=by
     simp only[cK,Dc,S,s2,J,U,Z,g2]
    rw[st,Dm];exact e
def AAh(W V:Wl)(I:List (Int×Int)):Ew [.lst (I.map pI),il W,il V]=O0 (.lst (badL (I.findSome? (bd1 W.n V.n)))):=by
 obtain⟨S,U,e⟩:=ZG W V (.fz (.lst (I.map pI))) I .un .un;cases J:I.findSome? (bd1 W.n V.n) with
 |none=>
  rw[J] at e;simp only[cK,Ew,Kw,Ca,DW,e];rfl
 |some t=>
  rw[J] at e;simp only[cK,Ew,Kw,Ca,DW,e];rfl
def zW(V:Wl):Wl:=⟨V.n,V.ms++[(("zest":Str),([]:List Nat))],V.ts⟩
def AAi:Wd "zest":=by
 have h:(1<=("zest":Str).length/\("zest":Str).length<=8)/\(∀c∈cs "zest",c∈cs LET)/\("zest":Str)∉KEPT:=by decide +kernel
 exact⟨h.1.1,h.1.2,h.2.1,h.2.2⟩
def xZ{V:Wl}(J:wh V)(z:Zs V):wh (zW V):=by
 refine⟨J.n5,?_,J.t3,λp I=>?_,J.tw,?_,λp I=>?_,J.tl⟩
 .show (V.ms++[_]).length<=3;have:=z.m2;rw[eI];simp;omega
 .rcases eR.mp I with I | I
  .exact J.mw p I
  .rw[ke.mp I];exact AAi
 .show ((V.ms++[(("zest":Str),([]:List Nat))]).map (·.1)++V.ts.map (·.1)).Nodup;rw[f6,Bz];have p:(V.ms.map (·.1)++([("zest":Str)]++V.ts.map (·.1))).Perm (("zest":Str)::(V.ms.map (·.1)++V.ts.map (·.1))):=FH;exact p.symm.nodup (mo.mpr ⟨z.nz,J.nd⟩)
 .rcases eR.mp I with I | I
  .exact J.ml p I
  .rw[ke.mp I];exact⟨KW,by simp,λt T=>by cases T⟩
theorem qg{V:Wl}(I:wh V)(z:Zs V):Dp (.dk (eM V.ms)) (.str "zest") (.lst [])=O0 (.dk (eM (zW V).ms)):=
 qQ (W:=V) V.ms "zest" [] (λh=>z.nz (vk _ h)) (by have:=I.m3;omega)
def aR{l m:List D}(h:l.length≠m.length):sd E3 (.lst l) (.lst m)=O0 (.bl E3):=by
 unfold sd;have:YU (.lst l) (.lst m)=O0 ZA:=by
  show (if l.length=m.length then Sl (XZ 180) l m else O0 ZA)=O0 ZA;exact OO h
 rw[this];rfl
def Vy{l:List Str}(h:l.Nodup):(Fq l).length=l.length:=Nat.le_antisymm (Zp (YZ (Lz l)) λy m=>(Iw y l).mp m) (Zp h λy m=>(Iw y l).mpr m)
theorem qi(W V:Wl)(h:wh W)(I:wh V)(Z:(mw V).length≠(mw W).length):Cd [il W,il V]=O0 EU:=by
 obtain⟨T,U⟩:=Nj W h;obtain⟨b1,b2⟩:=Nj V I;have O:=dO W;have J:=dO V;have S:=aR (l:=(Fq (mw W)).map .str) (m:=(Fq (mw V)).map .str) (by
  rw[aI,aI,Vy (qP h),Vy (qP I)];exact λz=>Z z.symm)
 simp only[cK,Cd,GP,Ep,Uz O,Uz J,T,b1,S,XS,qH];rfl
def Vz{V:D}(u:Cd [W,V]=O0 (.exc c gs)):Ak [W,V,r]=O0 (.exc c gs):=by
 simp only[cK,Ak,Bw,u,Dj,Rq]
def eF{V:D}(u:Ak [W,V,r]=O0 (.exc c gs)):DG [W,V,r]=O0 (.exc c gs):=by
 simp only[cK,DG,K1,u,Dj,Rq]
def eG{V s t:D}(u:Ak [W,V,r]=O0 (.exc c gs)):Hl [W,V,r,s,t]=O0 (.exc c gs):=by
 simp only[cK,Hl,Sg,u,Dj,Rq]
def Xd(cs:List Str)(i:Nat)(g h:FS)(ρ:Rho):tryF cs i g h ρ=tryO cs i h (g ρ):=nq _
def qm(cs:List Str)(i:Nat)(h:FS)(ρ:Rho):tryO cs i h (O0 (.nx ρ))=O0 (.nx ρ):=nq _
def qp{cs:List Str}{h:FS}(I:cs.contains c=E3):tryO cs i h (O0 (.rt (.exc c gs) ρ))=offO i (h (ρ.set i (.fz (.err c gs)))):=by
 show (if cs.contains c=E3 then _ else _)=_;rw[ZN I]
def qt(i:Nat)(ρ:Rho):offO i (O0 (.nx ρ))=O0 (.nx (ρ.set i .un)):=nq _
def xf(h:Pe d=W1)(ρ:Rho):dzO ρ (O0 d)=O0 (.nx ρ):=by
 show O0 (match Pe d with | some _=>To.rt d ρ | none=>.nx ρ)=_;rw[h]
def q00:sd ZA (.int 0) (.int 0)=O0 (.bl E3):=Ik 0 0
def q01:sd ZA (.int 0) (.int 1)=O0 (.bl ZA):=Ik 0 1
def q10:sd ZA (.int 1) (.int 0)=O0 (.bl ZA):=Ik 1 0
def q11:sd ZA (.int 1) (.int 1)=O0 (.bl E3):=Ik 1 1
def c0n{V s t:D}(p:DG [W,V,r]=O0 d)(h:Pe d=W1):Aq [.int 0,W,V,r,s,t]=O0 .non:=by
 simp only[cK,Aq,Ei,q00,q01,Xd,Dj,p,xf h,qm]
def c1n{V s t:D}(p:Hl [W,V,r,s,t]=O0 d)(h:Pe d=W1):Aq [.int 1,W,V,r,s,t]=O0 .non:=by
 simp only[cK,Aq,Ei,q10,q11,Xd,Dj,p,xf h,qm]
def c0x{V s t:D}(p:DG [W,V,r]=O0 (.exc c gs))(h:cs_.contains c=E3):Aq [.int 0,W,V,r,s,t]=O0 (.err c gs):=by
 simp only[cK,Aq,Ei,q00,q01,Xd,Dj,p,Rq,qp h,qt]
def c1x{V s t:D}(p:Hl [W,V,r,s,t]=O0 (.exc c gs))(h:cs_.contains c=E3):Aq [.int 1,W,V,r,s,t]=O0 (.err c gs):=by
 simp only[cK,Aq,Ei,q10,q11,Xd,Dj,p,Rq,qp h,qt]
def cs_t:cs_.contains ("NoThing":Str)=E3:=by decide +kernel
def cs_u:cs_.contains ("Unlike":Str)=E3:=by decide +kernel
def cs_p:cs_.contains ("NoPointing":Str)=E3:=by decide +kernel
def ACG:Aw [.non,.lst []]=O0 (.bl E3):=by kernel_rfl
def ACH:Aw [.err "Unlike" [],.lst [.str "unlike"]]=O0 (.bl E3):=by kernel_rfl
def ACI:Aw [.err "NoPointing" [],.lst [.str "pointing"]]=O0 (.bl E3):=by kernel_rfl
def xg(t:Int):Aw [.err "NoThing" [("thing",.int t)],.lst [.str "thing",.int t]]=O0 (.bl E3):=by
 have O:Aw [.err "NoThing" [("thing",.int t)],.lst [.str "thing",.int t]]=sd ZA (.int t) (.int t):=by kernel_rfl
 rw[O,Ii,SO rfl]
def lwA:FS->FS:=λR=>bc (YV (Ag (Ci) (Aa (Bo (QY (kF (.int 4))) (OQ) (QF)) (am))) (Pv 2 (Bb 1 (Bb 2 (Pw))))) (bc (setW 3 (uF Nv (bF vb (vF 2) (kF (.int 1))))) (bc (OV (tx (bF (sd ZA) (bF rz (Ag (An) (Aa (vF 0) (Aa (kF (.int 4)) (am)))) (kF (.int 4))) (kF (.int 2)))) (putF 3 (kF (.str "zest")) (pp (am))) (Pc)) (bc (jl 4 (mkI "World" (Bq) (Aa (bF vb (vF 1) (kF (.int 0))) (Aa (bF vb (vF 1) (kF (.int 1))) (Aa (bF vb (vF 1) (kF (.int 2))) (am)))))) (bc (fzS [3] (jl 5 (mkI "World" (Bq) (Aa (bF vb (vF 2) (kF (.int 0))) (Aa (vF 3) (Aa (bF vb (vF 2) (kF (.int 2))) (am))))))) R))))
def lwB:FS->FS:=λR=>bc (jl 6 (Ag (Gg) (Aa (vF 0) (Aa (vF 4) (Aa (vF 5) (am)))))) (bc (jl 7 (bF rz (bF Cr (Ag (An) (Aa (vF 0) (Aa (kF (.int 4)) (am)))) (kF (.int 4))) (kF (.int 2)))) (bc (jl 8 (bF vb (pp (Aa (uF (kc "size") (vF 4)) (Aa (uF (kc "size") (vF 5)) (am)))) (vF 7))) (bc (jl 9 (Ag (Be) (Aa (bF Cr (Ag (An) (Aa (vF 0) (Aa (kF (.int 4)) (am)))) (kF (.int 8))) (Aa (vF 8) (am))))) (bc (OV (andT (tx (bF (sd ZA) (bF rz (bF Cr (Ag (An) (Aa (vF 0) (Aa (kF (.int 4)) (am)))) (kF (.int 16))) (kF (.int 2))) (kF (.int 0)))) (tx (bF gtD (vF 8) (kF (.int 0))))) (jl 9 (bF rz (bF Cr (Ag (An) (Aa (vF 0) (Aa (kF (.int 4)) (am)))) (kF (.int 32))) (vF 8))) (Pc)) R))))
def lwM:FS:=bc (jl 11 (pp (am))) (bc (OV (orT (tx (bF ltD (vF 9) (kF (.int 0)))) (tx (bF geD (vF 9) (vF 8)))) (jl 11 (pp (Aa (kF (.str "thing")) (Aa (vF 9) (am))))) (Pc)) (im (Ag (Aw) (Aa (Ag (Aq) (Aa (kF (.int 1)) (Aa (vF 4) (Aa (vF 5) (Aa (vF 6) (Aa (vF 7) (Aa (vF 9) (am)))))))) (Aa (vF 11) (am))))))
def lwK:FS:=bc (jl 12 (Ag (Q9) (Aa (vF 4) (Aa (vF 5) (Aa (vF 6) (am)))))) (bc (OV (orT (tx (uF (isND ZA) (vF 12))) (tx (bF (sd ZA) (vF 12) (kF (.int 0))))) (jl 11 (pp (Aa (kF (.str "pointing")) (am)))) (Pc)) (bc (OV (Sj (trF (Ag (Aw) (Aa (Ag (Aq) (Aa (kF (.int 0)) (Aa (vF 4) (Aa (vF 5) (Aa (vF 6) (Aa (vF 7) (Aa (vF 9) (am)))))))) (Aa (vF 11) (am)))))) (im (kF (.bl ZA))) (Pc)) (bc (jl 11 (pp (am))) (bc (OV (orT (tx (bF ltD (vF 9) (kF (.int 0)))) (tx (bF geD (vF 9) (vF 8)))) (jl 11 (pp (Aa (kF (.str "thing")) (Aa (vF 9) (am))))) (Pc)) (im (Ag (Aw) (Aa (Ag (Aq) (Aa (kF (.int 1)) (Aa (vF 4) (Aa (vF 5) (Aa (vF 6) (Aa (vF 7) (Aa (vF 9) (am)))))))) (Aa (vF 11) (am)))))))))
def AAj:lwK=bc (jl 12 (Ag (Q9) (Aa (vF 4) (Aa (vF 5) (Aa (vF 6) (am)))))) (bc (OV (orT (tx (uF (isND ZA) (vF 12))) (tx (bF (sd ZA) (vF 12) (kF (.int 0))))) (jl 11 (pp (Aa (kF (.str "pointing")) (am)))) (Pc)) (bc (OV (Sj (trF (Ag (Aw) (Aa (Ag (Aq) (Aa (kF (.int 0)) (Aa (vF 4) (Aa (vF 5) (Aa (vF 6) (Aa (vF 7) (Aa (vF 9) (am)))))))) (Aa (vF 11) (am)))))) (im (kF (.bl ZA))) (Pc)) lwM)):=rfl
def lwT:FS:=bc (jl 10 (Ag (Ew) (Aa (vF 6) (Aa (vF 4) (Aa (vF 5) (am)))))) (bc (jl 11 (pp (am))) (bc (OV (tx (bF (sd ZA) (bF rz (Ag (An) (Aa (vF 0) (Aa (kF (.int 4)) (am)))) (kF (.int 4))) (kF (.int 2)))) (jl 11 (pp (Aa (kF (.str "unlike")) (am)))) (OV (tx (bF (sd E3) (vF 10) (pp (am)))) (jl 11 (pp (Aa (kF (.str "thing")) (Aa (bF vb (vF 10) (kF (.int 0))) (am))))) (Pc))) (bc (OV (tx (bF (sd E3) (vF 11) (pp (am)))) (bc (OV (Sj (trF (Ag (Aw) (Aa (Ag (Aq) (Aa (kF (.int 0)) (Aa (vF 4) (Aa (vF 5) (Aa (vF 6) (Aa (vF 7) (Aa (vF 9) (am)))))))) (Aa (vF 11) (am)))))) (im (kF (.bl ZA))) (Pc)) (im (Ag (Aw) (Aa (Ag (Aq) (Aa (kF (.int 1)) (Aa (vF 4) (Aa (vF 5) (Aa (vF 6) (Aa (vF 7) (Aa (vF 9) (am)))))))) (Aa (vF 11) (am)))))) (Pc)) lwK)))
def AAk:oU=lwA (lwB lwT):=rfl
def ACJ{W V:Wl}(z:Zs W)(O:mw V=mw W)(I:tw V=tw W):Zs V:=by
 refine⟨?_,by rw[O,I];exact z.nz⟩;have:=UO eS O;simp only[mw,aI] at this;have:=z.m2;omega
theorem preA(S:List Int)(r0:∀i∈S,i8 i<=1048576):∃(W X:Wl) (x2 x3:Slot),wh W/\wh X/\(S.getD 4 0%4=2->(mw X).length≠(mw W).length)/\(S.getD 4 0%4≠2->Spk W X) ∧
    ∀R,lwA R [.fz (.lst (S.map .int)),.un,.un,.un,.un,.un,.un,.un,.un,.un,.un,.un,.un]=R [.fz (.lst (S.map .int)),.fz (wd W),x2,x3,.fz (il W),.fz (il X),.un,.un,.un,.un,.un,.un,.un]:=by
  have cm:Bo (QY (kF (.int 4))) OQ QF [.fz (.lst (S.map .int)),.un,.un,.un,.un,.un,.un,.un,.un,.un,.un,.un,.un]=O0 (.lst [.int (S.getD 0 0),.int (S.getD 1 0),.int (S.getD 2 0),.int (S.getD 3 0)]):=
    ZD (n:=4) (λk=>.int (S.getD k 0)) _ rfl .(2) λk _=>by
      have:=Nh S k;simp only[cK,QF,this]
  have hb:i8 (S.getD 1 0)<=1048576:=by
    rw[tJ];cases e:S[1]? with
    |none=>decide
    |some i=>exact r0 i (sk e)
  obtain⟨W,V,zs,hw,T,Z,tt,te⟩:=qY (S.getD 0 0) (S.getD 1 0) (S.getD 2 0) (S.getD 3 0) hb;have Y:=ACJ zs Z tt;have S0:∀I:Rho,Pv 2 (Bb 1 (Bb 2 Pw)) (.lst [wd W,wd V]) I=O0 ((I.set 1 (.fz (wd W))).set 2 (.fz (wd V))):=λI=>rfl;have J:∀(f:FE) (g:FG) (I:Rho) (d:D),f I=O0 d->YV f g I=(g d I).map .nx:=λf g I d e=>by unfold YV;rw[e];rfl
  have t1:Ag (Ci) (Aa (Bo (QY (kF (.int 4))) (OQ) (QF)) (am)) [.fz (.lst (S.map .int)),.un,.un,.un,.un,.un,.un,.un,.un,.un,.un,.un,.un]=O0 (.lst [wd W,wd V]):=by simp only[cK,cm,te]
  have i0:=ixw0 W;have i1:=ixw1 W;have i2:=ixw2 W;have j0:=ixw0 V;have j1:=ixw1 V;have j2:=ixw2 V;have dd:∀k,Nv (.dk k)=O0 (.dk k):=λ_=>rfl;have c4:An [.lst (S.map .int),.int 4]=O0 (.int (S.getD 4 0)):=Nh S 4;have m4:=Dk (S.getD 4 0) 4 .(2);have U:=Ii (S.getD 4 0%4) 2;have O:∀X:Wl,wh X->X.n=V.n->X.ts=V.ts->(∀R,OV (tx (bF (sd ZA) (bF rz (Ag (An) (Aa (vF 0) (Aa (kF (.int 4)) (am)))) (kF (.int 4))) (kF (.int 2)))) (putF 3 (kF (.str "zest")) (pp (am))) (Pc) [.fz (.lst (S.map .int)),.fz (wd W),.fz (wd V),.ow (.dk (eM V.ms)),.un,.un,.un,.un,.un,.un,.un,.un,.un]=O0 (.nx [.fz (.lst (S.map .int)),.fz (wd W),.fz (wd V),.ow (.dk (eM X.ms)),.un,.un,.un,.un,.un,.un,.un,.un,.un])) ->
      ∀R,lwA R [.fz (.lst (S.map .int)),.un,.un,.un,.un,.un,.un,.un,.un,.un,.un,.un,.un]=R [.fz (.lst (S.map .int)),.fz (wd W),.fz (wd V),.fz (.dk (eM X.ms)),.fz (il W),.fz (il X),.un,.un,.un,.un,.un,.un,.un]:=λX hx xn xt hi R=>by
    have hi:=hi R;have k1:=xO W hw (Aa (bF vb (vF 1) (kF (.int 0))) (Aa (bF vb (vF 1) (kF (.int 1))) (Aa (bF vb (vF 1) (kF (.int 2))) (am)))) [.fz (.lst (S.map .int)),.fz (wd W),.fz (wd V),.ow (.dk (eM X.ms)),.un,.un,.un,.un,.un,.un,.un,.un,.un] (by simp only[cK,i0,i1,i2]);have k2:=xO X hx (Aa (bF vb (vF 2) (kF (.int 0))) (Aa (vF 3) (Aa (bF vb (vF 2) (kF (.int 2))) (am)))) [.fz (.lst (S.map .int)),.fz (wd W),.fz (wd V),.fz (.dk (eM X.ms)),.fz (il W),.un,.un,.un,.un,.un,.un,.un,.un] (by rw[xn,xt];simp only[cK,j0,j2]);unfold lwA;rw[Em,J _ _ _ _ t1,S0,Lq,Re];simp only[fq,fw];rw[Em,Zw];have dj:uF Nv (bF vb (vF 2) (kF (.int 1))) [.fz (.lst (S.map .int)),.fz (wd W),.fz (wd V),.un,.un,.un,.un,.un,.un,.un,.un,.un,.un]=O0 (.dk (eM V.ms)):=by simp only[cK,j1,dd]
    rw[dj,Wg,Re];simp only[fq,fw];rw[Em,hi,Re];simp only[Em,YD,Tp,Re,k1,k2,lX,lY,NK,Wi,Wj,Ca,DW,NP,NQ,Rf,Lw,lZ,bw,wu,ww,lg,Km,Rg,fq,fw,kg,kz]
  by_cases z:S.getD 4 0%4=2
  . rw[SO z] at U
    have pz:=qg T Y;refine⟨W,zW V,_,_,hw,xZ T Y,λ_=>?_,λk=>QO z k,O (zW V) (xZ T Y) rfl rfl λR=>?_⟩
    . have:=UO eS Z
      simp only[mw,aI] at this;simp only[mw,zW,aI,eI,cq,mB];omega
    . simp only[dK,c4,m4,U,pz]
  . rw[RO z] at U
    refine⟨W,V,_,_,hw,T,λk=>QO k z,λ_=>⟨by rw[Z],by rw[tt]⟩,O V T rfl rfl λR=>?_⟩;simp only[cK,c4,m4,U]
theorem preB{W X:Wl}(hw:wh W)(hx:wh X)(S:List Int)(x1 x2 x3:Slot):∃(I:List (Int×Int)) (J:Nat) (t:Int),RwOk W X I/\J<=1/\Sm t ∧
  ∀R,lwB R [.fz (.lst (S.map .int)),x1,x2,x3,.fz (il W),.fz (il X),.un,.un,.un,.un,.un,.un,.un]=R [.fz (.lst (S.map .int)),x1,x2,x3,.fz (il W),.fz (il X),.fz (.lst (I.map pI)),.fz (.int (J:Int)),.fz (.int (QU W X J:Nat)),.fz (.int t),.un,.un,.un]:=by
 obtain⟨I,ro,re⟩:=vz hw hx S;have c4:An [.lst (S.map .int),.int 4]=O0 (.int (S.getD 4 0)):=Nh S 4;have d4:=CZ (S.getD 4 0) 4 .(2) .(2);have d8:=CZ (S.getD 4 0) 8 .(2) .(2);have U:=CZ (S.getD 4 0) 16 .(2) .(2);have r0:=CZ (S.getD 4 0) 32 .(2) .(2);obtain⟨J,h2,q2,_⟩:=Ho (S.getD 4 0/4) 2 .(2);have k2:((2:Nat):Int)=2:=rfl;rw[k2] at q2;have Z:=El W;have Y:=El X;have ix:=(vZ (.int (W.n:Int)) (.int (X.n:Int)) J .(0)).trans (UO O0 (vd W X J));have n5:=ZC hw hx J;obtain⟨t0,st,_,et⟩:=Xc (S.getD 4 0/8) (QU W X J) n5;have T:=Dk (S.getD 4 0/16) 2 .(2);have O:=Ii (S.getD 4 0/16%2) 0;have g:=pG (QU W X J)
 by_cases c1:S.getD 4 0/16%2=0
 .rw[SO c1] at O
  by_cases c2:0<QU W X J
  .rw[SO c2] at g;obtain⟨k,hk,qk,_⟩:=Ho (S.getD 4 0/32) (QU W X J) c2;refine⟨I,J,(k:Int),ro,by omega,RM k .(0),λR=>?_⟩;simp only[cK,lwB,re,c4,d4,q2,Z,Y,ix,d8,et,U,T,O,g,r0,qk]
  .rw[RO c2] at g;refine⟨I,J,t0,ro,by omega,st,λR=>?_⟩;simp only[cK,lwB,re,c4,d4,q2,Z,Y,ix,d8,et,U,T,O,g]
 .rw[RO c1] at O;refine⟨I,J,t0,ro,by omega,st,λR=>?_⟩;simp only[cK,lwB,re,c4,d4,q2,Z,Y,ix,d8,et,U,T,O]
def ACL:sd E3 (.lst []) (.lst [])=O0 (.bl ZA):=pJ []
theorem qu:∀ns:List Int,ns.length<=63->(∀i∈ns,i8 i<=1048576)->Vo [.lst (ns.map .int)]=O0 (.bl E3):=by
 intro ns _ U1;obtain⟨W,X,x2,x3,hw,hx,un,li,ea⟩:=preA ns U1;obtain⟨I,J,t,ro,s1,st,eb⟩:=preB hw hx ns (.fz (wd W)) x2 x3;have P1:Vo [.lst (ns.map .int)]=runO (lwT [.fz (.lst (ns.map .int)),.fz (wd W),x2,x3,.fz (il W),.fz (il X),.fz (.lst (I.map pI)),.fz (.int (J:Int)),.fz (.int (QU W X J:Nat)),.fz (.int t),.un,.un,.un]):=by
  unfold Vo;rw[AAk,KJ (show [D.lst (ns.map .int)].length=1 from rfl),Dr];simp only[cq,mB,bn,gy,u7,ua,ub,uk,uu,ko];rw[ea,eb]
 rw[P1];have c4:An [.lst (ns.map .int),.int 4]=O0 (.int (ns.getD 4 0)):=Nh ns 4;have m4:=Dk (ns.getD 4 0) 4 .(2);have e4:=Ii (ns.getD 4 0%4) 2;have T:=AAh W X I;have n0:=ACL;have n1:∀a:D,sd E3 (.lst [a]) (.lst [])=O0 (.bl E3):=λa=>aR .(1);have n2:∀a b:D,sd E3 (.lst [a,b]) (.lst [])=O0 (.bl E3):=λa b=>aR .(1)
 by_cases z:ns.getD 4 0%4=2
 .rw[SO z] at e4;have u:=qi W X hw hx (un z);have Z:=c0x (s:=.int (J:Int)) (t:=.int t) (eF (Vz (r:=.lst (I.map pI)) u)) cs_u;have Y:=c1x (eG (s:=.int (J:Int)) (t:=.int t) (Vz (r:=.lst (I.map pI)) u)) cs_u;have r:=ACH;simp only[cK,lwT,T,c4,m4,e4,n1,Z,Y,r]
 .rw[RO z] at e4;have h:=li z;have sz:=Vu W X hw hx h I ro.sm;cases hf:I.findSome? (bd1 W.n X.n) with
  |some b=>
   rw[hf] at T sz;have T:Ew [.lst (I.map pI),il W,il X]=O0 (.lst [.int b]):=T;have Z:=c0x (s:=.int (J:Int)) (t:=.int t) (eF sz) cs_t;have Y:=c1x (eG (s:=.int (J:Int)) (t:=.int t) sz) cs_t;have r:=xg b;simp only[dK,lwT,T,c4,m4,e4,n1,n2,Z,Y,r]
  |none=>
   rw[hf] at T;have T:Ew [.lst (I.map pI),il W,il X]=O0 (.lst []):=T;obtain⟨O,rfl,hi,hl⟩:=ro.ps hf;rw[Y6] at T ⊢;have U:=vV hw hx h O hi .(0);obtain⟨d,pe,px,pn⟩:=qI hw hx h O hi hl;obtain⟨d',qe,qx,qn⟩:=qJ hw hx h O hi hl J s1 t st;have ed:=Ik (Sf W X (Av O)) 0;have kk:(D.int ((0:Nat):Int))=.int 0:=rfl;rw[kk] at ed;have l1:=Pn t 0;have g1:=Vd t (QU W X J:Nat);have rn:=ACG;have S:∀X0 S0 r0,runO (lwM [.fz (.lst (ns.map .int)),.fz (wd W),x2,x3,.fz (il W),.fz (il X),.fz (.lst (O.map pN)),.fz (.int (J:Int)),.fz (.int (QU W X J:Nat)),.fz (.int t),X0,S0,r0])=O0 (.bl E3):=λX0 S0 r0=>by
    by_cases c:Bad (QU W X J) t
    .have qe:Hl [il W,il X,.lst (O.map pN),.int (J:Int),.int t]=O0 (.exc "NoThing" [("thing",.int t)]):=by rw[qe,qx c];rfl
     have Y:=c1x qe cs_t;have r:=xg t
     by_cases k:t<0
     .rw[SO k] at l1;simp only[cK,lwM,l1,Y,r]
     .rw[RO k] at l1;rw[SO (c.resolve_left k)] at g1;simp only[cK,lwM,l1,g1,Y,r]
    .have Y:=c1n qe (qn c);rw[RO λz=>c (.inl z)] at l1;rw[RO λz=>c (.inr z)] at g1;simp only[cK,lwM,l1,g1,Y,rn]
   have S1:runO (lwK [.fz (.lst (ns.map .int)),.fz (wd W),x2,x3,.fz (il W),.fz (il X),.fz (.lst (O.map pN)),.fz (.int (J:Int)),.fz (.int (QU W X J:Nat)),.fz (.int t),.fz (.lst []),.fz (.lst []),.un])=O0 (.bl E3):=by
    rw[AAj]
    by_cases c:Sf W X (Av O)=0∨Sf W X (Av O)=Pm W X
    .have pe:DG [il W,il X,.lst (O.map pN)]=O0 (.exc "NoPointing" []):=by rw[pe,px c];rfl
     have Z:=c0x (s:=.int (J:Int)) (t:=.int t) pe cs_p;have r:=ACI
     by_cases c1:Sf W X (Av O)=Pm W X
     .unfold told at U;rw[ZN c1] at U;have is:isND ZA .non=O0 (.bl E3):=rfl;simp only[cK,U,is,Z,r,S]
     .unfold told at U;rw[OO c1] at U;rw[SO (c.resolve_right c1)] at ed;simp only[cK,U,xX,ed,Z,r,S]
    .have Z:=c0n (s:=.int (J:Int)) (t:=.int t) pe (pn c);unfold told at U;rw[OO λz=>c (.inr z)] at U;rw[RO λz=>c (.inl z)] at ed;simp only[cK,U,xX,ed,Z,rn,S]
   simp only[cK,lwT,T,c4,m4,e4,n0,S1]
end K63
end
open PySem PySem.W PyProof.Rows
def L2.head_at{r:OpenRow}{q:cE}{d:DefRec}{I:List (Str×Expr)}{N:Nat}(H:Hook)(J:LeftO r.prog q loose (λs=>xlAt q [] s&&recOk r.records s) H.obs H.val N)(e1:defOf q r.name=O0 (d,I))(e2:r.prog.theDef r.name=O0 (d.params,d.body,d.scope))(e3:kwWritten? d.params.kwonlyargs d.params.kw_defaults=O0 I)(Z:(!r.writes||r.records.isEmpty)=E3)(Y:r.wellSaid=E3)(U:(chainsOk q&&opensWell r.prog&&(frees r.toRowW&&r.within.isEmpty))=E3)(T:r.prog.bare)(S:r.toRowW.promised)(O:WalkO q loose (XL q []) H.says r.toRowW d I λf vs=>F8 f vs):r.Holds:=
 holds_open (XP:=XL q []) J H.of H.keeps (λs e=>xl_of s (OC.mp e).1) XL.keeps e1 e2 e3 (λ_ e=>recFacts_of (OC.mp e).2) Z Y U T S O
def PySem.W.Fast.tw18241185844750340533:PySem.Program:=PySem.Challenge.pw_twinrounds_k63_hands_refused
theorem PySem.W.Fast.te18241185844750340533:PySem.Challenge.pw_twinrounds_k63_hands_refused=PySem.W.Fast.tw18241185844750340533:=rfl
set_option maxHeartbeats 0 in
theorem PySem.Challenge.cw_twinrounds_k63_hands_refused_holds : PySem.Challenge.rw_twinrounds_k63_hands_refused.Holds := by
 w_on;o_law;refine L2.head_at (q:=K63.vw) (loose:=[]) (N:=6000) K63.hook K63.look (by rfl) (by rfl) (by rfl) (by rfl) (by assumption) (by decide +kernel) ⟨rfl,rfl,rfl,rfl,rfl,by decide +kernel⟩ ?_ ?_
 .w_witness2
 unfold K63.hook
 k_fill
 refine PV.lW (l:=OF) (n:=63) (k:=41) (x:="_law_script") (CX:=λ_=>L2.CX0) (sp:=λw=>K63.xM _) rfl .(2) rfl ⟨rfl,by decide,by decide⟩ (λw h Y=>PySem.W.kIn_of Y) ?F (λ_ _ a ns hl hbt _ hS=>⟨a,ns,rfl,hS,hl,hbt,λ_=>rfl⟩) λ_ _ _ _ _ z=>z
 case F=>
  intro w mg fa h KX G hmg;have TT:∃c_:Addr,∃w_:Addr,∃l:List (Str×Addr),∃T:K63.Tx (K63.gx (L2.KOf KX) c_ w_ l) mg,∀(s:av) (u:ac),ya s T.OH.fd ⟨[u],[]⟩ [("_law_script",u)]:=by
   dsimp only [L2.KOf];refine' ⟨_,_,[("NoThing",_),("Unlike",_),("NoPointing",_)],{ c_:=_,f_:=PV.oJ,r_:=(PV.cls KX ?pg_World ?hd_World ?po_World ?sa_World :),s_:=mP KX G ?aC_World,w_:=_,p0:=(PV.zm .(2) PV.oJ),z0:=(PV.cls KX ?pg_Ranks ?hd_Ranks ?po_Ranks ?sa_Ranks :),x4:=mP KX G ?aC_Ranks,x6:=(PV.dx KX G ?a0 ?l0 ?c0 ?k0 ?b0 :),h7:=(PV.dx KX G ?a1 ?l1 ?c1 ?k1 ?b1 :),e8:=(PV.dx KX G ?a2 ?l2 ?c2 ?k2 ?b2 :),h8:=(PV.dx KX G ?a3 ?l3 ?c3 ?k3 ?b3 :),h9:=(PV.dx KX G ?a4 ?l4 ?c4 ?k4 ?b4 :),QA:=(PV.dx KX G ?a5 ?l5 ?c5 ?k5 ?b5 :),RA:=(PV.dx KX G ?a6 ?l6 ?c6 ?k6 ?b6 :),SA:=(PV.dx KX G ?a7 ?l7 ?c7 ?k7 ?b7 :),UA:=(PV.dx KX G ?a8 ?l8 ?c8 ?k8 ?b8 :),VA:=(PV.dx KX G ?a9 ?l9 ?c9 ?k9 ?b9 :),WA:=(PV.dx KX G ?a10 ?l10 ?c10 ?k10 ?b10 :),XA:=(PV.ix KX ?mk_World ?kc_World ?a11 ?i11 ?l11 ?c11 ?k11 ?b11 :),YA:=(PV.dx KX G ?a12 ?l12 ?c12 ?k12 ?b12 :),lB:=(PV.dx KX G ?a13 ?l13 ?c13 ?k13 ?b13 :),SB:=(PV.dx KX G ?a14 ?l14 ?c14 ?k14 ?b14 :),TB:=(PV.dx KX G ?a15 ?l15 ?c15 ?k15 ?b15 :),UB:=(PV.mx KX ?a16 ?i16 ?l16 ?c16 ?k16 ?b16 :),WB:=(PV.mx KX ?a17 ?i17 ?l17 ?c17 ?k17 ?b17 :),XB:=(PV.dx KX G ?a18 ?l18 ?c18 ?k18 ?b18 :),ZB:=(PV.dx KX G ?a19 ?l19 ?c19 ?k19 ?b19 :),SC:=(PV.dx KX G ?a20 ?l20 ?c20 ?k20 ?b20 :),TC:=(PV.dx KX G ?a21 ?l21 ?c21 ?k21 ?b21 :),UC:=(PV.dx KX G ?a22 ?l22 ?c22 ?k22 ?b22 :),VC:=(PV.dx KX G ?a23 ?l23 ?c23 ?k23 ?b23 :),WC:=(PV.dx KX G ?a24 ?l24 ?c24 ?k24 ?b24 :),PD:=(PV.mx KX ?a25 ?i25 ?l25 ?c25 ?k25 ?b25 :),SD:=(PV.mx KX ?a26 ?i26 ?l26 ?c26 ?k26 ?b26 :),TD:=(PV.mx KX ?a27 ?i27 ?l27 ?c27 ?k27 ?b27 :),UD:=(PV.mx KX ?a28 ?i28 ?l28 ?c28 ?k28 ?b28 :),QE:=(PV.dx KX G ?a29 ?l29 ?c29 ?k29 ?b29 :),RE:=(PV.mx KX ?a30 ?i30 ?l30 ?c30 ?k30 ?b30 :),SE:=(PV.mx KX ?a31 ?i31 ?l31 ?c31 ?k31 ?b31 :),UE:=(PV.ix KX ?mk_Ranks ?kc_Ranks ?a32 ?i32 ?l32 ?c32 ?k32 ?b32 :),VE:=(PV.dx KX G ?a33 ?l33 ?c33 ?k33 ?b33 :),WE:=(PV.dx KX G ?a34 ?l34 ?c34 ?k34 ?b34 :),XE:=(PV.dx KX G ?a35 ?l35 ?c35 ?k35 ?b35 :),YE:=(PV.dx KX G ?a36 ?l36 ?c36 ?k36 ?b36 :),ZE:=(PV.dx KX G ?a37 ?l37 ?c37 ?k37 ?b37 :),RF:=(PV.dx KX G ?a38 ?l38 ?c38 ?k38 ?b38 :),UF:=(PV.dx KX G ?a39 ?l39 ?c39 ?k39 ?b39 :),OG:=(PV.dx KX G ?a40 ?l40 ?c40 ?k40 ?b40 :),SG:=(PV.dx KX G ?a41 ?l41 ?c41 ?k41 ?b41 :),WG:=(PV.dx KX G ?a42 ?l42 ?c42 ?k42 ?b42 :),XG:=(PV.dx KX G ?a43 ?l43 ?c43 ?k43 ?b43 :),OH:=(PV.dx KX G ?a44 ?l44 ?c44 ?k44 ?b44 :),PM:=(PV.Oq KX (PV.fl_c (PV.cls KX ?pg_World ?hd_World ?po_World ?sa_World) ?n_World_size (PV.fl_c (PV.cls KX ?pg_Ranks ?hd_Ranks ?po_Ranks ?sa_Ranks) ?n_Ranks_size (PV.fl_n))) :),TM:=(PV.Oq KX (PV.fl_c (PV.cls KX ?pg_World ?hd_World ?po_World ?sa_World) ?n_World_marked (PV.fl_c (PV.cls KX ?pg_Ranks ?hd_Ranks ?po_Ranks ?sa_Ranks) ?n_Ranks_marked (PV.fl_n))) :),UM:=(PV.Oq KX (PV.fl_c (PV.cls KX ?pg_World ?hd_World ?po_World ?sa_World) ?n_World_tied (PV.fl_c (PV.cls KX ?pg_Ranks ?hd_Ranks ?po_Ranks ?sa_Ranks) ?n_Ranks_tied (PV.fl_n))) :),ON:=(PV.Oq KX (PV.fl_c (PV.cls KX ?pg_World ?hd_World ?po_World ?sa_World) ?n_World_other (PV.fl_c (PV.cls KX ?pg_Ranks ?hd_Ranks ?po_Ranks ?sa_Ranks) ?n_Ranks_other (PV.fl_n))) :),QN:=(PV.Oq KX (PV.fl_c (PV.cls KX ?pg_World ?hd_World ?po_World ?sa_World) ?n_World_one (PV.fl_c (PV.cls KX ?pg_Ranks ?hd_Ranks ?po_Ranks ?sa_Ranks) ?n_Ranks_one (PV.fl_n))) :),TN:=(PV.Oq KX (PV.fl_c (PV.cls KX ?pg_World ?hd_World ?po_World ?sa_World) ?n_World_endless (PV.fl_c (PV.cls KX ?pg_Ranks ?hd_Ranks ?po_Ranks ?sa_Ranks) ?n_Ranks_endless (PV.fl_n))) :),UN:=(PV.Oq KX (PV.fl_c (PV.cls KX ?pg_World ?hd_World ?po_World ?sa_World) ?n_World_reckoned (PV.fl_c (PV.cls KX ?pg_Ranks ?hd_Ranks ?po_Ranks ?sa_Ranks) ?n_Ranks_reckoned (PV.fl_n))) :),QI:=kA KX G ?QI,RI:=kA KX G ?RI,SI:=kA KX G ?SI,UI:=kA KX G ?UI,VI:=kA KX G ?VI,WI:=kA KX G ?WI,XI:=kA KX G ?XI,YI:=kA KX G ?YI,ZI:=kA KX G ?ZI,WJ:=kA KX G ?WJ,SK:=kA KX G ?SK,TK:=kA KX G ?TK,UK:=kA KX G ?UK,OL:=(PV.sx (f:=(.int 8)) KX G ?a_MOST_LETTERS :),SL:=(PV.sx (f:=(.str "abcdefghijklmnopqrstuvwxyz")) KX G ?a_LETTERS :),TL:=(PV.sx (f:=(.int 5)) KX G ?a_MOST_THINGS :),OM:=(PV.sx (f:=(.int 3)) KX G ?a_MOST_WORDS :),YN:=(PV.kxM (xs:=["not","and","or","some","all"]) KX G ?a_KEPT_TEXTS ?l_KEPT_TEXTS ?h_KEPT_TEXTS ?v_KEPT_TEXTS :),r:=(PV.rx KX G ?rA ?rE ?r1 ?r2 ?r3 :),xt:=(PV.ux KX ?xt :),PH:=(PV.xxM KX G ?eA_NoThing ?eg_NoThing (PV.n8 ?xt ?eg_NoThing) ?hi_NoThing ?ii_NoThing ?kp_NoThing ?na_NoThing ?el_NoThing ?ec_NoThing ?ek_NoThing ?eb_NoThing :),RH:=(PV.xx0M KX G ?eA_Unlike ?eg_Unlike (PV.n8 ?xt ?eg_Unlike) ?hi_Unlike ?kp_Unlike :),SH:=(PV.xx0M KX G ?eA_NoPointing ?eg_NoPointing (PV.n8 ?xt ?eg_NoPointing) ?hi_NoPointing ?kp_NoPointing :),TH:=(PV.ax KX G ?sA_NoName :),UH:=(PV.ax KX G ?sA_NoSaying :),WH:=(PV.ax KX G ?sA_NoWord :),ZH:=(PV.ax KX G ?sA_TooGreat :),k_0:=(PV.MK KX ?k0a :),k_1:=(PV.MK KX ?k1a :),k_2:=(PV.MK KX ?k2a :),k_3:=(PV.MK KX ?k3a :),k_4:=(PV.MK KX ?k4a :),OI:=(PV.uy KX ?OI :) },?bt⟩
   case aC_World | pg_World | hd_World | po_World | sa_World | mk_World | kc_World | n_World_size | n_World_marked | n_World_tied | n_World_other | n_World_one | n_World_endless | n_World_reckoned | aC_Ranks | pg_Ranks | hd_Ranks | po_Ranks | sa_Ranks | mk_Ranks | kc_Ranks | n_Ranks_size | n_Ranks_marked | n_Ranks_tied | n_Ranks_other | n_Ranks_one | n_Ranks_endless | n_Ranks_reckoned | a0 | l0 | c0 | k0 | a1 | l1 | c1 | k1 | a2 | l2 | c2 | k2 | a3 | l3 | c3 | k3 | a4 | l4 | c4 | k4 | a5 | l5 | c5 | k5 | a6 | l6 | c6 | k6 | a7 | l7 | c7 | k7 | a8 | l8 | c8 | k8 | a9 | l9 | c9 | k9 | a10 | l10 | c10 | k10 | a11 | i11 | l11 | c11 | k11 | a12 | l12 | c12 | k12 | a13 | l13 | c13 | k13 | a14 | l14 | c14 | k14 | a15 | l15 | c15 | k15 | a16 | i16 | l16 | c16 | k16 | a17 | i17 | l17 | c17 | k17 | a18 | l18 | c18 | k18 | a19 | l19 | c19 | k19 | a20 | l20 | c20 | k20 | a21 | l21 | c21 | k21 | a22 | l22 | c22 | k22 | a23 | l23 | c23 | k23 | a24 | l24 | c24 | k24 | a25 | i25 | l25 | c25 | k25 | a26 | i26 | l26 | c26 | k26 | a27 | i27 | l27 | c27 | k27 | a28 | i28 | l28 | c28 | k28 | a29 | l29 | c29 | k29 | a30 | i30 | l30 | c30 | k30 | a31 | i31 | l31 | c31 | k31 | a32 | i32 | l32 | c32 | k32 | a33 | l33 | c33 | k33 | a34 | l34 | c34 | k34 | a35 | l35 | c35 | k35 | a36 | l36 | c36 | k36 | a37 | l37 | c37 | k37 | a38 | l38 | c38 | k38 | a39 | l39 | c39 | k39 | a40 | l40 | c40 | k40 | a41 | l41 | c41 | k41 | a42 | l42 | c42 | k42 | a43 | l43 | c43 | k43 | a44 | l44 | c44 | k44 | QI | RI | SI | UI | VI | WI | XI | YI | ZI | WJ | SK | TK | UK | a_MOST_LETTERS | a_LETTERS | a_MOST_THINGS | a_MOST_WORDS | a_KEPT_TEXTS | l_KEPT_TEXTS | rA | eA_NoThing | hi_NoThing | ii_NoThing | kp_NoThing | el_NoThing | ec_NoThing | ek_NoThing | eA_Unlike | hi_Unlike | kp_Unlike | eA_NoPointing | hi_NoPointing | kp_NoPointing | sA_NoName | sA_NoSaying | sA_NoWord | sA_TooGreat=>k_is
   case b5 | b10 | b16 | b17 | b44=>exact λ_ _ _ _ _ _ us hl=>by (obtain⟨_,rfl⟩:=PV.wz hl;rfl)
   case b1 | b2 | b3 | b4 | b6 | b7 | b8 | b9 | b12 | b13 | b18 | b20 | b27 | b28 | b30 | b31 | b34 | b35 | b39 | eb_NoThing=>exact λ_ _ _ _ _ _ us hl=>by (obtain⟨_,_,rfl⟩:=PV.w5 hl;rfl)
   case b14 | b15 | b19 | b21 | b25 | b26 | b29 | b32 | b33 | b36 | b37 | b40=>exact λ_ _ _ _ _ _ us hl=>by (obtain⟨_,_,_,rfl⟩:=PV.xF hl;rfl)
   case b0 | b11 | b22 | b23 | b24 | b38 | b41=>exact λ_ _ _ _ _ _ us hl=>by (obtain⟨_,_,_,_,rfl⟩:=PV.xG hl;rfl)
   case b42=>exact λ_ _ _ _ _ _ us hl=>by (obtain⟨_,_,_,_,_,rfl⟩:=PV.xH hl;rfl)
   case b43=>exact λ_ _ _ _ _ _ us hl=>by (obtain⟨_,_,_,_,_,_,rfl⟩:=PV.ABg hl;rfl)
   case h_KEPT_TEXTS=>decide
   case v_KEPT_TEXTS=>exact .cons ⟨_,rfl⟩ (.cons ⟨_,rfl⟩ (.cons ⟨_,rfl⟩ (.cons ⟨_,rfl⟩ (.cons ⟨_,rfl⟩ (.nil)))))
   case eg_NoThing=>rfl
   case eg_Unlike=>rfl
   case eg_NoPointing=>rfl
   case rE | r1 | r2 | r3 | xt | na_NoThing | k0a | k1a | k2a | k3a | k4a | OI=>kernel_rfl
   case bt=>exact λs u=>.of_eq rfl
  obtain⟨c_,w_,l,T,e1⟩:=TT;have e0:fa=T.OH.f:=by
   have q:=hmg.symm.trans T.OH.m;cases q;rfl
  subst e0;exact⟨T.OH.fd,e1,λbase kb nb=>(K63.zq (w:=w) (base:=base) T).imp (K63.zr K63.qu)⟩
