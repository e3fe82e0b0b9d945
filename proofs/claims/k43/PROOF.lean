import PyProof.Rows.All
import Wide.All
import OpenK.AllK
import Wide.FinOn
import Lean
import PyProof.EqAt
import PyProof.EqKinds
import PyProof.TupleCall
import PyProof.TupleKey
import PyProof.DictRoadsH
import PyProof.StationsW
import PyProof.DictWalks
import PyProof.DictItemsLoops
import KE.KPairComp
import KE.KDictList
import PyProof.StrWalks
import PyProof.ConsumeWalk
import PyProof.DictUpdate
import PyProof.ExcClass2
import PyProof.ExcClass3
import PyProof.ExcArgsOwn
import PyProof.ExcAttrAll.ValueError
import PyProof.InstStoreFacts
import PyProof.StrLawsRepr
import PyProof.ReprStr
import PyProof.NsDelKeeps
import PyProof.RulesAs
import KE.KIsAll
import KE.KRevIter
import PyProof.EnumMake
import PyProof.MeetsSeq
import PySem.SetOps
import KE.KSortTup
import Wide.Txt2
import PyProof.NeKinds
import PySem.Challenge.RW_twinrounds_k43_groups
set_option genInjectivity false
set_option compiler.extract_closed false
set_option genSizeOf false
set_option Elab.async false
set_option linter.all false
set_option maxRecDepth 100000
set_option maxHeartbeats 4000000
open Array renaming length_toList->ke,forIn_toList->vk,mk->zv,toList_inj->AK,toList->Cc,mem_toList_iff->CB,getElem?_toList->ER,getElem?_eq_getElem->EZ,perm_iff_toList_perm->KW,getD_eq_getD_getElem?->L1,size_map->L4,getElem?_eq_none->L8
open Bool renaming false_ne_true->df,false_eq_true->dP,and_eq_true->fh,eq_iff_iff->ib,not_true->kS,true_and->ve,false_and->zD,false_or->DF,and_true->DU,not_false->Fu,true_or->HG,or_eq_true->IJ,and_comm->LV,and_eq_true_iff->Me
open Classical renaming choose_spec->EJ,byContradiction->EL
open False renaming elim->kf
open ForInStep renaming yield->sT
open Function renaming comp_def->kz
open Int renaming toNat_natCast->eD,emod_nonneg->md,emod_lt_of_pos->qV,reduceLT->uS,toNat_of_nonneg->AX,le_refl->BI,ediv_one->GN
open List renaming length_map->aw,mem_map->aT,range->bb,map_cons->bn,mem_cons->bP,map_map->bS,getElem?_map->cb,lookup->cf,lookup_cons->ck,getElem?_eq_getElem->cr,size_toArray->cw,mem_cons_of_mem->cE,mem_filter->d4,mem_range->da,length_cons->db,map_append->dc,mem_cons_self->dn,all_eq_true->dL,mem_append->dQ,length->eS,getElem_mem->eW,length_append->ff,getElem?_eq_some_iff->fF,mem_singleton->fR,append_nil->g9,nodup_append->gE,mem_append_right->gX,pairwise_map->hJ,getElem?_set_ne->hW,getElem?_append_right->ii,length_take->iO,map_nil->ja,map_congr_left->jv,getElem?_append_left->kt,pairwise_cons->kA,mem_append_left->kG,nodup_cons->kK,getElem?_set_self->mv,length_drop->mE,length_range->mN,length_filter_le->ng,getElem?_eq_none->oe,mem_iff_getElem->ol,nil_append->oy,set_cons_zero->oB,set_cons_succ->oC,mem_of_getElem?->pT,length_eq_zero_iff->qf,any_eq_true->qr,any_cons->rL,find?_cons->rS,length_set->sg,drop_eq_getElem_cons->sh,getElem?_cons_succ->si,pairwise_iff_getElem->sj,nodup_range->sk,getElem?_cons_zero->so,range_succ->t5,length_pos_of_mem->tm,Nodup->tJ,getD_eq_getElem?_getD->uu,take_take->v3,replicate->wn,length_replicate->wq,all_cons->xa,take_of_length_le->xo,all_map->xp,drop_length->xt,getElem_of_mem->xD,mem_iff_getElem?->za,getElem?_zip_eq_some->zb,getElem?_inj->zc,take_append_drop->zd,map_take->zg,take_succ->zk,getElem?_replicate->zZ,length_nil->A9,getElem?_drop->AA,set_append_right->AE,append_assoc->AG,foldr_cons->AO,mem_erase_of_ne->AQ,length_erase_of_mem->AR,eq_nil_of_length_eq_zero->AV,mem_of_mem_drop->B0,map_drop->B4,ext_getElem->Bn,map->BH,zip_cons_cons->BQ,filterMap_cons->C7,of_mem_zip->CY,getElem?_take_of_lt->D1,take_sublist->D2,nodup_nil->DH,ext_getElem?->DO,length_pos_iff->DZ,getD->EF,getElem_take->EM,mem_of_mem_take->EN,mem_of_find?_eq_some->EQ,toArray->EV,filter_congr->F3,filter_sublist->F5,pairwise_lt_range->F7,idxOf_lt_length_iff->F8,getElem_idxOf->F9,getElem_inj->FL,mem_filterMap->Gc,any_eq_false->GA,filterMap_map->GT,length_singleton->HE,drop_zero->IA,range_succ_eq_map->IB,not_mem_nil->IC,length_eq_one_iff->IG,any_map->IR,not_lt->IS,getElem_drop->K0,pairwise_append->K2,find?_isSome->KA,find?_some->KB,perm_middle->KF,foldl_append->KG,pairwise_singleton->L6,take_length->LD,mapM_toArray->LN,nodup_iff_pairwise_ne->LO,find?_eq_none->LU,replicate_succ->M1,replicate_zero->M2,cons_append->Mb,range'->Md
open List.Nodup renaming sublist->F4
open List.Pairwise renaming nil->xi,imp_of_mem->B1,imp->F6,filter->Mc
open List.Perm renaming refl->lI,swap->IT,cons->IU
open List.cons renaming injEq->zr
open Nat renaming le_refl->aE,ne_of_lt->bX,le_trans->cy,zero_le->eA,lt_of_lt_of_le->eK,lt_irrefl->iE,lt_succ_of_lt->jp,le_succ->kr,lt_of_le_of_lt->kx,not_lt->kP,zero_add->lS,ne_of_gt->nE,lt_succ_self->pw,lt_or_ge->qh,le_of_lt_succ->qE,sub_self->se,le_of_lt->sD,add_assoc->zp,le_of_eq->zX,le_succ_of_le->AF,mod_lt->AS,lt_trichotomy->AZ,le_zero->B5,min_self->DT,lt_or_eq_of_le->EK,lt_trans->HK,add_le_add_left->HZ,succ_ne_self->Iq,add_zero->Kb,succ_pos->Ki,eq_zero_or_pos->LP,div_add_mod->LS,exists_eq_succ_of_ne_zero->LW,le_total->LX,reduceAdd->LZ,reduceSub->M0
open Nat.succ renaming inj->AY
open Ne renaming symm->cq
open Option renaming bind_some->eI,map_some->i7,map_eq_some_iff->iA,isNone_iff_eq_none->tq,bind_eq_some_iff->u7,isSome_map->xh,getD->B3,isSome_iff_exists->D0,getD_none->GW,none->Ic
open Option.some renaming inj->eJ,injEq->EE
open Or renaming inr->cS,inl->dE
open Prod renaming ext->wt
open Prod.mk renaming injEq->sA,inj->FB
open PyProof.Rows renaming envOfC->gu,seqObj->lP,seqObj->ma,AllBare->nw,isTrue_and->sL,IntsAre->sQ,listUpdate_at->ua,seqEpoch_at->ub,pairsOf->uk,kind_sorted->xS,plain_sorted->y0,entry_sorted->ya,args_sorted1->yi,slot_list_sort->yn,entry_list_sort->yA,args_list_sort->yB,sortedHeap_at->yT,sortedHeap_old->yY,subscriptTail->A7,StrsAre->AT,sortedHeap->B8,general'->Bi,isTrue_and_nil->C9,isTrue_not->Cb,callWith_type1->CA,slot_tuple_getitem->D9,Subscript_->DA,entry_proto_collect'->EG,entry_list_iadd'->EH,arrOf->EI,IntsAre->F0,subscriptTail_builtinR->GU,risingS->Jn,wpAny_notIn_heap->Kt,pairsOf_size->L5,listItems_at->Lc,oneLt'->LH,oneLt'_eq->LI
open PyProof.Rows.F renaming plain_set_update_loop->B6,entry_set_update_loop->KI
open PyProof.Rows.IsTup renaming new->DB
open PyProof.Rows.SortSt renaming mk'->B9
open PySem renaming Value->ac,wpAny_bind->ae,wpAny->ag,Shared->ah,model->ai,wpAny_pure->av,starEach->ay,Around->aS,cLine->bE,World->ca,Program->d3,bootBuiltins->d6,Builtin->de,compareOp->dA,backTo->dS,atKey->eC,rawInt->eP,sizeLine_eq->eR,swapsWith->fw,codeAny->fA,attributeBase->fN,pyNext->gg,intItems->gv,mainGlobals->gI,wpAny_mono->gT,wpAny_call_entry->hU,sysModules->hV,behindInMarks->hZ,codeAny_builtin->ia,argBest->ip,assignEach->iF,keywordEach->iL,numAt->jI,wpAny_truthy_bool->jS,execs->ka,binaryOp->kg,wpAny_field->ku,foldedSetIterable->kH,wpAny_newObj_type->kL,plainId_quiet->kQ,intKind->kX,Scope->la,wpAny_execs_nil->lc,wpAny_execs_cons->lh,holding->li,FuncData->lj,backToKw->ll,NameKind->lm,Paired->mo,Keyword->mB,Walks->mP,IsEnum->n9,wpAny_loadPart'->nc,wpAny_specialOf->nh,wpAny_seqItems->nv,assign->ny,pyIter->nI,Result->nL,getItem->nX,relabel->oa,argsOk->og,wpAny_newList->oj,wpAny_setState_of->om,Value->oP,isTrue->oS,CmpOp->pd,standAt->pj,bindL->pE,bindC->pS,IsPart->qc,isSubtype_type->qk,setNext->qo,pickOrder->qq,collect->qv,field->qS,wpAny_forIn_list->ra,wpAny_rule->rb,getMethod->rj,codeAny_mono->rl,wpAny_callSpecial?_slot->ro,sliceBounds->rq,valueAt->rX,callerA->sd,wpAny_isInstance->sv,wpAny_Name->sK,callWith->sN,wpAny_askSetting->ti,tupleKeyHash->vi,treeTable->vn,wpAny_eqBool_int->vt,tupleKind->vx,wpAny_If->vE,wpAny_load->vS,wpAny_pyIter_tuple->vT,PassesOwn->w9,wpAny_passesOwn->wa,wpAny_isTrue_Compare1->wb,BindsTo->wf,bindArgs->wl,wpAny_Call_Name_kw->wm,mem_of_lookup->wo,wpAny_typeOf->wv,subscripted->wx,storedH->xb,DictEntry->xk,newList->xl,entryFor->xv,seqItems?->xw,wpAny_tryCatch->xy,wpAny_updateSeq->xB,wpAny_letGo->xC,wpAny_runValue->xE,checkCount->yk,hashByValue->ze,setAddHashed->zf,wpAny_setField_rec->zj,Addr->zl,Str->zm,IsTupleKey->zn,isInstance->zq,eqIsQuiet->zu,wpAny_Return_some->zz,letOwnedTupleGo->zC,wpAny_pyIter_list->zI,wpAny_standAt->zY,concat_meets->A3,call_meets->A8,tupleKind_room_in1->Ap,wpAny_Assign_Subscript->As,lookup_relabel_local->Au,wpAny_getItem_str_slice->AC,post_val_or_str->AD,updateSeq->AH,wpAny_of_eq->AI,putSet_of->AL,wpAny_attempt->AM,firstArgMember->AN,ofAClassStatement->B2,setsByText->Bz,intKind_is->BE,reduceHash->BM,wpAny_tupleItemsOf->BN,isSubtype_tuple_tuple->BO,carriedByValue->BS,entryOfKey->C3,Within->C4,builtinsNs->C6,wpAny_Constant_int->C8,wpAny_assign_Name->Cf,wpAny_call->CS,noFill_tuple_add->D3,seq_tuple_add->D4,typeLookup->Da,typeIs_str->DC,PlainAttrs->DE,wpAny_Dict_empty->DI,call->DJ,sliceRange->DM,intItems_at->DV,Slot->E5,wpAny_setField->E9,wpAny_setEntries_of->Ee,setSearchFrom->ES,unsupported->ET,wpAny_newTuple->EW,Shared->Fa,Expr->Fc,Stmt->Fh,wpAny_pyHash_tuple->Fn,wpAny_eqBool_tuple->Fs,wpAny_loadName_local->FR,wpAny_loadName_cell->FU,wpAny_loadName_free->FV,wpAny_pyNext_list_item->FY,wpAny_pyNext_list_end->G0,slot_list_getitem->GV,evalArgs_none->HC,wpAny_getItem_heap->HL,wpAny_setItem_heap->HM,getitemInPython_of_ne->HP,wpAny_letTemporaryGo->HU,wpAny_comprehension_free->Iy,wpAny_storeSet_of->IN,builtinLookup_eq_fast->IQ,wpAny_pyIter_slot->IY,searchCouldBeSeen->Kk,wpAny_eqIsQuiet_tuple->Kn,codeAny_call_builtin->KO,check_set_init_1->KS,wpAny_pyIter_enum->LB,wpAny_callSpecialIfBound?_slot->LJ
open PySem.Around renaming under_plainId->ly,under->CM
open PySem.AutoSeq1 renaming wpAny_loadPart'->BD,sub_list_list->LG
open PySem.Builtin renaming max->IH
open PySem.Builtin.Builtins renaming bindParams->II
open PySem.Builtin.Frozenset renaming updateFrom->KU
open PySem.Builtin.Int renaming intBits->DL
open PySem.Builtin.List renaming listExtendWith->xI,listLengthHint->IZ,listSameRef->L9
open PySem.Builtin.Range renaming rangeSize->G1
open PySem.Builtin.Slice renaming slicePlaces->A4,sliceAdjust->D8,sliceApplied->GO
open PySem.Builtin.SmallTypes renaming nextOf->BA,ownedTupleIsFree->Lo,ownedTupleHandOut->Lu
open PySem.Builtin.Str renaming occurrences->pc
open PySem.Builtin.Tuple renaming tupleHashOf->zo,tupleExact->A6,tupleItemsOf->Fk
open PySem.Calls renaming call_function_entry->xL,Name_function_global->FX,callWith_builtin->HA
open PySem.Challenge renaming pw_twinrounds_k43_groups->Mn,rw_twinrounds_k43_groups->Mo
open PySem.Code renaming isFrame->CO,quiet_builtin->E4,frames->GH
open PySem.Data renaming fields->Co,cell->Ct
open PySem.F renaming slot_tuple_hash->vj,slot_tuple_eq->zt,called_set->B7,slot_enumerate_next->BB,slot_tuple_iterator_next->BC,slot_list_lt->BG,slot_tuple_add->D5,entry_tuple_add->D6,args_tuple_add_2->D7,plainAttrs_list->E1,slot_dict_getitem->EB,slot_list_append->IL,type_list_append->IM,plain_set_new->IP,slot_dict_items->JA,plain_list_iadd->JE,typeCall_set_1->KL,entry_set_init->KP,slot_set_iter->L7,entry_enumerate_next->Ll,args_enumerate_next_1->Lm,entry_tuple_iterator_next->Lv,args_tuple_iterator_next_1->LA,entry_list_lt->LL,args_list_lt_2->LM
open PySem.Heap renaming get?_push_of_some->bg,lt_size->bv,get?_push_size->cp,SameBut->f6,size_push->gi,get?_update_other->kN,get?_update_self->mS,ExtBut->AU,get?_push_cases->ED
open PySem.Heap.SameBut renaming update->tf,refl->EC
open PySem.NameKind renaming free->sR
open PySem.Obj renaming mapSeq->i6,data_mapFields->tj,mapFields->E6,isFreed_of_fields->E7,cls_mapFields->E8
open PySem.Paired renaming length->zy,snoc->HI
open PySem.PassesOwn renaming never->fE
open PySem.SeqAt renaming EqAt->mI,in_listAt->GY,notIn_listAt->H0
open PySem.SeqAt.EqAt renaming same->DD,of_refs->DS,int_str->FD,str_int->FH
open PySem.SeqAt.RcAt renaming lists->ID,lists_lengths->IE,tuples->IF
open PySem.SetTable renaming runEnd->gy,bits->iq,leap->kR,turns->mT,below->zi,fresh->EU,slot->JU,has->JY,fill->Kj,insertAt->LF
open PySem.SetTable.probe renaming go->qA
open PySem.Str renaming ofString->eB,empty->nV,length->o0
open PySem.Txt renaming slice->AB
open PySem.Value renaming ref->ba,none->fq,type->gL,int->kU,bool->rh,str->sC,isInt->BU,float->C0,isStrOf->FC,bytes->FK
open PySem.W renaming Frag->aI,findIn->fI,keepIn->ic,fnOf->io,kia_one->kq,sortI->kB,mg_none_of->kD,boot_heap->mh,emptyDict->nN,instObj->oQ,codeIn->pV,isFn->ri,SharedT->sB,kitOne->sM,mg_of->tz,plainGet->wc,kas_rev->zh,boot_drawn->zw,boot_toks->zx,lookIn->zS,hasDictIn->zW,nsIn->AW,eq_sortI->BF,methodObj->C5,plainGet_of->CC,plainOver->CD,takerIn->CF,makesIn->CH,specialIn->CI,kitx_list->CL,callWith_K->CU,handedIn->GB,kitx_tuple->GE,kitx_dict->GG,methodCall_KW->GI,cellsFrom_some->GL,kdl_dict->JI,readsIn->JJ,findCls->JO
open PySem.W.WShape renaming has->HV
open PySem.Walks renaming list->AJ
open PySem.pickOrder renaming go->EA
open StateT renaming run_pure->L3
open Sum renaming inl->rd,inr->re
open Sum.inl renaming inj->rf
open Sum.inr renaming inj->BY,injEq->LY
open True renaming intro->ko
open Option renaming some->W1,none->E2
open Bool renaming true->E3,false->ZA
def OF:=@if_pos
def RF:=@if_neg
def SF:=@absurd
def UF:=@decide_eq_false
def MG:=@decide_eq_true
def NG:=@congrArg
def OG:=@of_decide_eq_true
def SG:=@beq_iff_eq
def WG:=@if_true
def XG:=@if_false
def hH:=@decide_eq_true_eq
def MH:=@beq_self_eq_true
abbrev zFr:=PySem.W.Frag
abbrev zQ0:=PySem.Value->PySem.Shared->Prop
abbrev NI:=List (PySem.Addr×PySem.Obj)
variable {h h':PySem.Heap}{vs us its:List oP}{o:PySem.Obj}{s:Fa}{a b it p C q:zl}{Q E:oP->Fa->Prop}{u doc pm cdv ct oc:oP}{P prog:PySem.Program}{w:PySem.World}{t' i n j c ep x1 k':Nat}{ch A fp B A0:List zl}{x y f m qual:zm}{e tg:Fc}{N ps loose:List zm}{M:PySem.Model}{pos pos' spos tp xpos apos pos2 p1 p2 p3 p4 p5 p6 p7 p8 p9 p10 p11:PySem.Pos}{π:List (zl×PySem.Obj)}{es:Array (Int×oP)}{l js:List Nat}{body s1:List Fh}{kw:List (zm×oP)}{env:PySem.Env}{mg:zm->Option oP}{fd:PySem.FuncData}{sc scope:PySem.Scope}{an od:Option zl}{osl sl:Array (Option oP)}{ns:List Int}{st:Fh}{elts:List Fc}{qs:List (Int×oP)}
def fx{d:Sort _}(a:d):a=a:=of_eq_true (eq_self a)
namespace PV
open PySem
section
variable {K:Type} [DecidableEq K] (kd:KeyKind prog w K)
inductive ZI (h:Heap):List (List K)->List ac->Prop
 |nil:ZI h [] []
 |cons {k:List K}{b:Addr}{ks:List (List K)}{vs:List ac}:zn kd h k b->ZI h ks vs->ZI h (k::ks) (.ref b::vs)
def OW(h:Heap)(ks:List (List K))(a:Addr):Prop:=∃o xs n,h.get? a=W1 o/\o.cls=.type "tuple"/\o.data=.seq xs n/\ZI kd h ks xs.toList
variable {kd}
theorem ZI.inj{h:Heap}{x y:List (List K)}{vs:List ac}(p:ZI kd h x vs):ZI kd h y vs->x=y:=by
 induction p generalizing y with
 |nil=>intro q;cases q;rfl
 |cons a _ d=>intro q;cases q with | cons b t=>rw[a.inj b,d t]
def ZI.kept{g:Heap}{d:Addr}{es ep}(v:h.get? d=W1 o)(z:o.data=.dict es ep)(hs:f6 d h g){x:List (List K)}{vs:List ac}(p:ZI kd h x vs):ZI kd g x vs:=by
 induction p with
 |nil=>exact .nil
 |cons a _ r=>exact .cons (a.keeps v z hs) r
theorem OW.ty{ks:List (List K)}(x:OW kd s.heap ks a):s.TypeIs (.ref a) "tuple":=let ⟨o,_,_,g,c,_⟩:=x;⟨o,g,c⟩
theorem OW.inj{h:Heap}{a:Addr}{x y:List (List K)}(p:OW kd h x a)(q:OW kd h y a):x=y:=by
 obtain⟨o,G,n,g,_,d,i⟩:=p;obtain⟨H,F,m,v,_,z,r⟩:=q;cases g.symm.trans v;cases d.symm.trans z;exact i.inj r
theorem OW.kept{h g:Heap}{ks:List (List K)}{a d:Addr}{o:Obj}{es ep}(x:OW kd h ks a)(v:h.get? d=W1 o)(r:o.data=.dict es ep)(hs:f6 d h g):OW kd g ks a:=by
 obtain⟨I,H,n,F,c,G,i⟩:=x;refine⟨I,H,n,(hs.2 a λz=>?_).trans F,c,G,i.kept v r hs⟩;subst z;cases v.symm.trans F;cases r.symm.trans G
def cB(d:KeyKind prog w K)(ks:List (List K)):Int:=BM (zo (ks.map (vi d)))
def Wu(ks:List (List K)):Nat:=(ks.map λk=>k.length+1).sum+1
variable {A:aS}
theorem aG{ks:List (List K)}{Q:Int->ah->Prop}(S:A.units+1<bE)(I:OW kd s.heap ks a)(k:Q (cB kd ks) { s with toks:=s.toks+Wu ks }):ag (ai prog w) A (pyHash (.ref a)) Q E s:=by
 have ty:=I.ty;obtain⟨o,T,n,g,_,d,i⟩:=I;unfold pyHash pyHashByItsType;refine ae (wpAny_cRoomFor_or (.inr (by omega)) ?_);refine ae (nh ty vj.lookup ?_);show ag _ _ (if (W1 (Value.builtin "tuple.__hash__")==W1 fq)=E3 then _ else _) Q E s;rw[RF (by rw[beq_builtin_none];exact df)];refine ae (nh ty vj.lookup ?_);show ag _ _ (callSpecialIfBoundUnlessNone? (.ref a) "__hash__" _ >>= _) Q E s;refine ae (wpAny_callSpecialIfBoundUnlessNone?_slot ty vj (hU vj ty F.entry_tuple_hash ?_ (F.args_tuple_hash_1 _)));show ag _ _ (Fk (.ref a) >>= _) _ _ s;refine ae (BN g d ?_);refine ae ?_;rw[<-vk];refine ra _ (λr (b:Array Int) z=>∃p q,ks=p++q/\ZI kd s.heap q r/\b.toList=p.map (vi kd)/\z={ s with toks:=s.toks+(p.map λk=>k.length+1).sum }) _ ?_ ?_ _ _ ⟨[],ks,rfl,i,rfl,rfl⟩
 .rintro x r b z ⟨p,q,rfl,G,H,rfl⟩;cases G with
  | @cons m c J _ L v=>
   refine ae (Fn (s:={ s with toks:=s.toks+(p.map λk=>k.length+1).sum }) (show A.in1.units<bE from S) L ?_);exact av ⟨p++[m],J,by simp,v,by simp[H],by simp[zp]⟩
 .rintro b z ⟨p,q,rfl,G,H,rfl⟩;cases G;rw[g9] at k;show ag _ _ (retInt (zo b.toList)) _ _ _;rw[H];refine wpAny_ret_mkInt ?_;generalize O:zo (p.map (vi kd))=y;unfold cB BM Wu at k;rw[O] at k;show ag _ _ (if (decide (-(2:Int)^63<=y)&&decide (y<2^63))=E3 then _ else _) Q E _
  by_cases c:(decide (-(2:Int)^63<=y)&&decide (y<2^63))=E3
  .rw[OF c] at k ⊢;exact av (by simpa [zp] using k)
  .rw[RF c] at k ⊢;exact ae (rb (av (by simpa [zp] using k)))
def lg{x y:List (List K)}{P:Fin->ah->Prop}(hu:A.units<bE)(hx:OW kd s.heap x a)(hy:OW kd s.heap y b)(k:P (.done (.ret (.bool (decide (x=y))))) s):ag (ai prog w) A (de.«tuple.__eq__» ⟨[.ref a,.ref b],[]⟩) P E s:=by
 have ty:=hy.ty;obtain⟨o,T,n,g,_,d,i⟩:=hx;obtain⟨o2,S,m,g2,_,d2,i2⟩:=hy;show ag _ _ (zq (.ref b) (.type "tuple") >>= _) _ _ s;refine ae (sv ty BO ?_);simp only[kS,dP,XG];refine ae (BN g d (ae (BN g2 d2 (ae ?_))));refine ra _ (λr q z=>q.1=E2/\z=s/\∃L J G F,r=List.zip G F/\ZI kd s.heap L G/\ZI kd s.heap J F/\decide (L=J)=decide (x=y)/\(G.length==F.length)=(T.size==S.size)) _ ?_ ?_ _ _ ⟨rfl,rfl,x,y,T.toList,S.toList,rfl,i,i2,rfl,by simp⟩
 .rintro⟨u,v⟩ r q z ⟨e,rfl,L,J,G,F,O,I,H,U,Y⟩;cases I with
  |nil=>simp at O
  | @cons k1 b1 x2 X h1 t1=>
   cases H with
   |nil=>simp at O
   | @cons k2 b2 Z W h2 t2=>
    simp only[BQ,zr,sA] at O;obtain⟨⟨rfl,rfl⟩,rfl⟩:=O;refine ae (Fs hu h1 h2 ?_)
    by_cases c:k1=k2
    .subst c;rw[MG rfl];simp only[kS,dP,XG];refine av ⟨rfl,rfl,x2,Z,X,W,rfl,t1,t2,?_,by simpa using Y⟩;rw[<-U]
     by_cases c2:x2=Z<;>simp[c2]
    .rw[UF c];simp only[Fu,WG];have f:decide (x=y)=ZA:=by rw[<-U];simp[c]
     rw[f] at k;exact ae (av (av (av k)))
 .rintro⟨q1,q2⟩ z ⟨e,rfl,L,J,G,F,O,I,H,U,Y⟩;simp only at e;subst e;refine av ?_;have f:(T.size==S.size)=decide (x=y):=by
   rw[<-U,<-Y];cases I with
   |nil=>cases H<;>simp
   |cons _ _=>
    cases H with
    |nil=>simp
    |cons _ _=>simp at O
  show P (.done (.ret (.bool (T.size==S.size)))) z;rw[f];exact k
def l_{x y:List (List K)}{Q:Bool->ah->Prop}(S:A.units+1<bE)(d:OW kd s.heap x a)(g:OW kd s.heap y b)(k:Q (decide (x=y)) s):ag (ai prog w) A (eqBool (.ref a) (.ref b)) Q E s:=by
 unfold eqBool;refine wpAny_holding ?_;show ag _ _ (if (ba a==ba b)=E3 then _ else _) Q E s
 by_cases c:(ba a==ba b)=E3
 .rw[OF c];have e:a=b:=by have:=eq_of_beq c;injection this
  subst e;cases d.inj g;exact ae (rb (av (by simpa using k)))
 .rw[RF c];exact ae (wpAny_richCompare_same_room (op:=.Eq) d.ty g.ty zt (hU zt d.ty F.entry_tuple_eq (lg (show A.in1.units<bE from S) d g ⟨_,rfl,(λe=>nomatch e),jS k⟩) (F.args_tuple_eq_2 _ _)) (by omega))
def cC(n:Nat){ks:List K}{a:Addr}{Q:Bool->ah->Prop}(I:zn kd s.heap ks a)(k:Q E3 s):ag (ai prog w) A (zu (n+1) (.ref a)) Q E s:=by
 have ty:=I.typeIs;obtain⟨o,G,m,g,_,d,i⟩:=I;unfold zu;refine ae (nh ty zt.lookup ?_);show ag _ _ (zq (.ref a) (.type "tuple") >>= _) _ _ s;refine ae (sv ty BO ?_);simp only[kS,dP,XG];refine ae (nv g d (ae ?_));show ag _ _ (forIn G _ _) _ _ s;rw[<-vk];refine ra _ (λr q z=>q.1=E2/\z=s/\∀v∈r,BS v=E3) _ ?_ ?_ _ _ ⟨rfl,rfl,i.byValue⟩
 .rintro v r q z ⟨e,rfl,al⟩;rw[eqIsQuiet_byValue _ (al v (by simp))];refine ae (av ?_);simp only[kS,dP,XG];exact av ⟨rfl,rfl,λu S=>al u (by simp[S])⟩
 .rintro⟨q1,q2⟩ z ⟨e,rfl,_⟩;simp only at e;subst e;exact av k
def Wv(n:Nat){ks:List (List K)}{a:Addr}{Q:Bool->ah->Prop}(I:OW kd s.heap ks a)(k:Q E3 s):ag (ai prog w) A (zu (n+2) (.ref a)) Q E s:=by
 have ty:=I.ty;obtain⟨o,H,m,g,_,d,i⟩:=I;unfold zu;refine ae (nh ty zt.lookup ?_);show ag _ _ (zq (.ref a) (.type "tuple") >>= _) _ _ s;refine ae (sv ty BO ?_);simp only[kS,dP,XG];refine ae (nv g d (ae ?_));show ag _ _ (forIn H _ _) _ _ s;rw[<-vk];refine ra _ (λr q z=>q.1=E2/\z=s/\∃F,ZI kd s.heap F r) _ ?_ ?_ _ _ ⟨rfl,rfl,_,i⟩
 .rintro v r q z ⟨e,rfl,F,G⟩;cases G with
  |cons L G=>
   refine ae (cC n L ?_);simp only[kS,dP,XG];exact av ⟨rfl,rfl,_,G⟩
 .rintro⟨q1,q2⟩ z ⟨e,rfl,_⟩;simp only at e;subst e;exact av k
end
def Qc{prog:d3}{w:ca}{K:Type}[DecidableEq K](d:KeyKind prog w K):HeapKind prog w (List (List K)) where
 is:=OW d
 hash:=cB d
 draws:=Wu
 room:=λA=>A.units+1<bE
 inj:=λp q=>p.inj q
 keeps:=λx v z hs=>x.kept v z hs
 pyHash:=λS I k=>aG S I k
 eqBool:=λS r g k=>l_ S r g k
 quiet:=λI k=>Wv 6 I k
end PV
section
open PySem PySem.W PyProof.Rows
def L2.viewAt(p:d3)(ks:List Nat):d3:={ p with main:={ p.main with body:=ks.filterMap λi=>p.main.body[i]? } }
abbrev K43.R:=PySem.Challenge.rw_twinrounds_k43_groups.row
def K43.vw:d3:=L2.viewAt Mn [0,2,3,4,5,6,8,9,10,11,12,13,14,15,16,17,18,20,21,22,23,24,25,26,28,29,30,31,32,34,35,36,37,38,39,40,41]
namespace L2T
def runG(st:sB->Thread->Option (sB×Thread))(ok:Thread->Bool):Nat->sB->Thread->Option sB
 |0,_,_=>E2
 |n+1,s,t=>match through t with
  |true=>W1 s
  |false=>match ok t with
   |false=>E2
   |true=>match st s t with
    |some (d,t')=>runG st ok n d t'
    |none=>E2
theorem YB{g:String->Option de}{p:d3}{w:ca}{d:Nat}{ann:Option ac}:∀{n:Nat}{s v:sB}{t:Thread},runG (stepT (denote g) p w) (stepOk d ann) n s t=W1 v->topRun g p w d ann n s.abs t=W1 v.abs
 |0,_,_,_,h=>by cases h
 |n+1,s,v,t,h=>by
  unfold runG at h;unfold topRun;cases G:through t with
  |true=>rw[G] at h;cases h;rfl
  |false=>
   rw[G] at h;cases I:stepOk d ann t with
   |false=>rw[I] at h;cases h
   |true=>
    rw[I] at h;cases hs:stepT (denote g) p w s t with
    |none=>rw[hs] at h;cases h
    |some r=>obtain⟨F,z⟩:=r;rw[hs] at h;rw[stepT_spec hs];exact YB h
def treeOf(l:List Obj):BT:=(l.foldl (λ(a:BT×Nat) o=>(a.1.ins a.2 o,a.2+1)) (BT.nil,0)).1
noncomputable abbrev boot (w:ca) (os:OsState):sB:=⟨treeOf (mh w.params).objs.toList,11,(mh w.params).life,zv [],zw,zx,os⟩
set_option maxHeartbeats 0 in
def boot_abs(w:ca)(d:OsState):(boot w d).abs=⟨mh w.params,zv [],zw,zx,d⟩:=by kernel_rfl
set_option maxHeartbeats 0 in
def aH(w:ca):((mh w.params).isNs gI,(mh w.params).objs.size)=(E3,11):=by kernel_rfl
noncomputable abbrev ann (w:ca):Option ac:=(mh w.params).nsMap gI "__annotations__"
noncomputable def fits(p:d3)(w:ca)(s:ah):Bool:=staticsOk (importedModules p.main.body) (mh w.params) s.heap&&namesBound p s.heap&&gensDone s&&laidKept (mh w.params) s.heap
def left{p:d3}{N:Nat}{F:Type}{f:ah->F}{v:ca->F}(H:opening p=plainProg p.main.scope.names)(G:∀s,fenceModules? p s=W1 s)(I:Nat.ble 600 N=E3)(h:∀(w:ca) (os:OsState),(runG (Fast.tw10156331382660048174 (Fast.tw11892475500146522536 Fast.tw14364793385576792824) p w) (Fast.tw6613529449190102663 11 (ann w)) N (boot w os) (topStub p)).map (λs=>(fits p w s.abs,f s.abs))=W1 (E3,v w))(w:ca):(openEnds vn p w N).map f=W1 (v w):=by
 obtain⟨⟨J,L,d,k,os⟩,e,O⟩:=iA.mp (boot_open H I G w);obtain⟨rfl,rfl,rfl,rfl⟩:J=mh w.params/\L=zv []/\d=zw/\k=zx:=by simpa using O
 have h:=h w os;rw[<-Fast.te10156331382660048174,<-Fast.te11892475500146522536,<-Fast.te14364793385576792824,<-Fast.te6613529449190102663] at h;obtain⟨z,r,q⟩:=iA.mp h;obtain⟨q1,q2⟩:=FB q;have t:=YB r;rw[boot_abs] at t;obtain⟨b1,b2⟩:=FB (aH w);have g:topFrom vn p w N ⟨mh w.params,zv [],zw,zx,os⟩=W1 z.abs:=by
  unfold topFrom;dsimp only;rw[b1,b2];show (topRun vn p w 11 (ann w) N _ (topStub p)).bind _=_;rw[t];show (match fits p w z.abs with | true=>W1 z.abs | false=>E2)=_;rw[q1]
 unfold openEnds;rw[e];show (topFrom vn p w N _).map f=_;rw[g];exact NG W1 q2
end L2T
section
local macro_rules | `(tactic| o_head $H) => `(tactic| exact ‹∀P : Prop, P› _)
set_option maxHeartbeats 0 in
def K43.side(d:∀P:Prop,P):K43.R.Holds:=by
 k_head
end
def K43.as:List Addr:=[2,3,15,17,18,20,21,22,29,30,31,32,35,42,44,45,47,48,49,50,51,54,61,63,64,66,67,68,69,70,73,80,82,83,85,86,87,88,89,92,99,100,101,104,105,108,109,110,112,113,115,116,117,119,120,122,123,124,126,127,129,130,131,133,134,136,137,145,147,148,150,151,152,154,155,157,158,159,161,162,164,165,166,168,169,171,172,173,175,176,178,179,180,181,182,183,184,187,189,190,192,193,194,196,197,199,200,201,203,204,206,207,208,210,211,213,214,215,217,218,220,221,222,225,226,227,230,231,232,235,236,244,246,247,249,250,251,253,254,256,257,258,260,261,263,264,265,267,268,270,271,272,275,276,277,280,281,282,284,285,287,288,289,291,292,294,295,296,297,298,299,300,303,305,306,308,309,310,313,314,315,318,319,320,322,323,325,326,327,329,330,332,333,334,336,337,339,340,341,344,345,346,349,350,351,353,354,356,357,358,361,362,363,365,366,368,369]
set_option maxHeartbeats 0 in
def K43.as_ok:∀P,K43.as=(K43.side.heap_1 P).map (·.1):=λ_=>by kernel_rfl
noncomputable def K43.hook:Hook:=kHook K43.side.heap_1 K43.as K43.as_ok
set_option maxHeartbeats 0 in
theorem K43.look:LeftO K43.R.prog K43.vw [] (λs=>xlAt K43.vw [] s&&recOk K43.R.records s) K43.hook.obs K43.hook.val 6000:=by
 rw[show LeftO K43.R.prog K43.vw [] (λs=>xlAt K43.vw [] s&&recOk K43.R.records s) K43.hook.obs K43.hook.val 6000=∀w,(openEnds vn K43.R.prog w 6000).map (λs=>(openSeen K43.vw [] (importedModules K43.R.prog.main.body) (λs=>xlAt K43.vw [] s&&recOk K43.R.records s) E3 s,K43.hook.obs s))=W1 (openGood K43.vw [],K43.hook.val w) from rfl,Fast.te4187177175401517315];exact L2T.left (by kernel_rfl) (λ_=>by kernel_rfl) rfl (λw d=>by kernel_rfl)
end
open Lean.Parser.Command in
local macro_rules | `(def $i:declId $s:optDeclSig $v:declVal)=>`(noncomputable def $i:declId $s:optDeclSig $v:declVal) | `(abbrev $i:declId $s:optDeclSig $v:declVal)=>`(noncomputable abbrev $i:declId $s:optDeclSig $v:declVal)
namespace L2
open PySem PySem.Spec PyProof.Rows
abbrev Key:=Sum Int Str
def PL:Key->ac->Bool
 |.inl k,v=>BU k v
 |.inr x,v=>FC x v
def keyH(w:ca):Key->Int
 |.inl k=>hashInt k
 |.inr x=>hashStr w x
def Bd:∀{k:Key}{v:ac},PL k v=E3->(∃i t,k=rd i/\v=kU i t)∨(∃x t,k=re x/\v=sC x t)
 |.inl i,v,h=>by
  obtain⟨t,e⟩:=Value.isInt_shape (k:=i) (v:=v) h;exact .inl ⟨i,t,rfl,e⟩
 |.inr x,v,h=>by
  obtain⟨t,e⟩:=Value.isStrOf_shape (x:=x) (v:=v) h;exact .inr ⟨x,t,rfl,e⟩
def aJ(i:Int)(t:Tok):PL (.inl i) (.int i t)=E3:=by simp[PL,BU]
def aK(x:Str)(t:Tok):PL (.inr x) (.str x t)=E3:=by simp[PL,FC]
def uN(a b:Int):decide ((rd a:Key)=rd b)=(a==b):=by
 by_cases e:a=b
 .subst e;simp
 .have h:¬ (rd a:Key)=rd b:=λq=>e (rf q);rw[UF h];exact (beq_eq_false_iff_ne.mpr e).symm
def uO(a b:Str):decide ((re a:Key)=re b)=decide (a=b):=by
 by_cases e:a=b
 .subst e;simp
 .have h:¬ (re a:Key)=re b:=λq=>e (BY q);rw[UF h,UF e]
def uP(a:Int)(b:Str):decide ((rd a:Key)=re b)=ZA:=UF (λq=>nomatch q)
def uQ(a:Str)(b:Int):decide ((re a:Key)=rd b)=ZA:=UF (λq=>nomatch q)
def Av(prog:d3)(w:ca):PySem.KeyKind prog w Key where
 is:=PL
 hash:=keyH w
 inj:=λv a b r H=>by
  rcases Bd r with ⟨i,t,rfl,rfl⟩ | ⟨x,t,rfl,rfl⟩
  .rcases Bd H with ⟨j,u,rfl,e⟩ | ⟨y,u,rfl,e⟩
   .injection e with d _;rw[d]
   .exact nomatch e
  .rcases Bd H with ⟨j,u,rfl,e⟩ | ⟨y,u,rfl,e⟩
   .exact nomatch e
   .injection e with d _;rw[d]
 byValue:=λk v h=>by
  rcases Bd h with ⟨i,t,rfl,rfl⟩ | ⟨x,t,rfl,rfl⟩<;>rfl
 pyHash:=λg h=>by
  rcases Bd g with ⟨i,t,rfl,rfl⟩ | ⟨x,t,rfl,rfl⟩
  .exact wpAny_pyHash_int h
  .exact wpAny_pyHash_str h
 eqBool:=λS g h=>by
  rcases Bd S with ⟨i,t,rfl,rfl⟩ | ⟨x,t,rfl,rfl⟩
  .rcases Bd g with ⟨j,u,rfl,rfl⟩ | ⟨y,u,rfl,rfl⟩
   .rw[uN] at h;exact vt h
   .rw[uP] at h;exact FD i t y u _ _ _ _ h
  .rcases Bd g with ⟨j,u,rfl,rfl⟩ | ⟨y,u,rfl,rfl⟩
   .rw[uQ] at h;exact FH x t j u _ _ _ _ h
   .rw[uO] at h;exact wpAny_eqBool_str h
 «strs»:=λk x t v h=>by
  rcases Bd h with ⟨i,u,rfl,e⟩ | ⟨y,u,rfl,e⟩
  .exact nomatch e
  .injection e with d _
   subst d;cases v<;>rfl
def VF(prog:d3)(w:ca)(i:Int)(t:Tok):(Av prog w).is (.inl i) (.int i t)=E3:=aJ i t
def VG(prog:d3)(w:ca)(x:Str)(t:Tok):(Av prog w).is (.inr x) (.str x t)=E3:=aK x t
set_option genInjectivity true in
inductive V where
 |non | bl (b:Bool) | int (i:Int) | str (x:Str) | byt (b:Array UInt8) | flt (b:UInt64) | ref (a:Addr) | ty (n:String)
 deriving DecidableEq
def cx:V->ac->Prop
 |.non,u=>u=fq
 |.bl b,u=>u=rh b
 |.int i,u=>∃t,u=kU i t
 |.str x,u=>∃t,u=sC x t
 |.byt b,u=>∃t,u=FK b t
 |.flt b,u=>∃t,u=C0 b t
 |.ref a,u=>u=ba a
 |.ty n,u=>u=gL n
abbrev cc:List V->List ac->Prop:=mo cx
theorem cc.length{xs:List V}{us:List ac}(r:cc xs us):xs.length=us.length:=zy r
theorem cc.get:∀{xs:List V}{us:List ac}{i:Nat}{x:V},cc xs us->xs[i]?=W1 x->∃u,us[i]?=W1 u/\cx x u
 |_,_,_,_,.nil,e=>by simp at e
 |_,_,0,_,.cons r _,e=>by simp at e;subst e;exact⟨_,rfl,r⟩
 |_,_,i+1,x,.cons _ t,e=>by
  obtain⟨u,g,d⟩:=cc.get (i:=i) (x:=x) t (by simpa using e);exact⟨u,by simpa using g,d⟩
theorem cc.append:∀{xs ys:List V}{us d:List ac},cc xs us->cc ys d->cc (xs++ys) (us++d)
 |_,_,_,_,.nil,s=>s
 |_,_,_,_,.cons r t,s=>.cons r (cc.append t s)
theorem cc.take:∀{xs:List V}{us:List ac}(n:Nat),cc xs us->cc (xs.take n) (us.take n)
 |_,_,0,_=>.nil
 |_,_,_+1,.nil=>.nil
 |_,_,n+1,.cons r t=>.cons r (cc.take n t)
theorem cc.drop:∀{xs:List V}{us:List ac}(n:Nat),cc xs us->cc (xs.drop n) (us.drop n)
 |_,_,0,r=>r
 |_,_,_+1,.nil=>.nil
 |_,_,n+1,.cons _ t=>cc.drop n t
def Os:Option V->Option ac->Prop
 |some v,W1 u=>cx v u
 |none,E2=>True
 |_,_=>False
def KV{d:Type}:List (d×V)->List (d×ac)->Prop:=mo λ(p:d×V) (q:d×ac)=>p.1=q.1/\cx p.2 q.2
def kV:Key->V
 |.inl i=>.int i
 |.inr x=>.str x
set_option genInjectivity true in
inductive HO where
 |lst (xs:List V)
 |tup (xs:List V)
 |dK (kvs:List (Key×V)) | dT (kvs:List (List Key×V))
 |set (S:Int->Bool) (n:Nat)
 |ins (C dx:Addr) (fs:List (Str×V))
 |own (x:Addr)
 |xd (fs:List (Str×V))
 |met (f x:Addr)
 |rng (lo hi:Int)
 |frz (o:Obj) (u:HO)
 |tbl (ps:Array ac)
 |ext (φ:Heap->Prop)
 |mem (F:List (List Key)->Int) (K:aI)
abbrev Hp:=Addr->Option HO
def fk(H:Hp)(a:Addr)(o:HO):Hp:=λb=>if b=a then W1 o else H b
def Ag{H:Hp}{o:HO}:fk H a o a=W1 o:=by unfold fk;rw[OF rfl]
def Ai{H:Hp}{o:HO}(h:b≠a):fk H a o b=H b:=by unfold fk;rw[RF h]
def qt{H:Hp}{o u:HO}(h:H a=W1 o)(h':H b=W1 u)(d:o≠u):a≠b:=by
 intro e;subst e;rw[h] at h';exact d (eJ h')
def C_{H:Hp}{o:HO}(h:H a=W1 o)(h':H b=E2):a≠b:=by
 intro e;subst e;rw[h] at h';cases h'
def NM(K:aI)(H:Hp)(a:Addr)(xs:List V):Prop:=(H a=W1 (.tup xs)∨∃o,H a=W1 (.frz o (.tup xs))) ∨
 ∃(o:Obj) (d:Array ac) (n:Nat),K.lookup a=W1 o/\o.cls=.type "tuple"/\o.data=.seq d n/\d.size<=sizeLine/\cc xs d.toList
def MZ(K:aI)(H:Hp)(ks:List (List Key))(b:Addr):Prop:=∃bs:List Addr,NM K H b (bs.map V.ref)/\mo (λk c=>NM K H c (k.map kV)) ks bs
def TU(ks:List (List Key)):Prop:=∃ps:List (Nat×Nat),ks=ps.map (λp=>[.inl (p.1:Int),.inl (p.2:Int)])/\ps.length<=5/\∀p∈ps,p.1<5/\p.2<5
def Tu:HO->Prop
 |.tup _=>True
 |.frz _ (.tup _)=>True
 |_=>False
section
variable (P:d3) (w:ca)
def BJ(H:Hp)(h:Heap)(a:Addr):HO->Prop
  |.mem F K=>(a==hV)=ZA/\∃xs:List (List (List Key)×Addr×ac),(∀q∈xs,MZ K H q.1 q.2.1/\TU q.1/\cx (.int (F q.1)) q.2.2) ∧
      ∃o es ep,h.get? a=W1 o/\o.ExactDict/\o.data=.dict es ep/\es.toList=xs.map (C3 (PV.Qc (Av P w)))/\(xs.map (·.1)).Nodup
  |.lst xs=>xs.length<=sizeLine/\∃(d:List ac) (n:Nat),cc xs d/\h.get? a=W1 { cls:=.type "list",data:=.seq d.toArray n }
  |.tup xs=>xs.length<=sizeLine/\∃d:List ac,cc xs d/\IsTup h a d.toArray
  |.dK kvs=>kvs.length<=sizeLine/\(a==hV)=ZA/\∃vs,KV kvs vs/\h.DictOf (Av P w) a vs
  |.dT kvs=>kvs.length<=sizeLine/\(a==hV)=ZA/\∃xs:List (List Key×Addr×ac),
      mo (λ(p:List Key×V) (q:List Key×Addr×ac)=>p.1=q.1/\H q.2.1=W1 (.tup (p.1.map kV))/\cx p.2 q.2.2) kvs xs ∧
      ∃o es ep,h.get? a=W1 o/\o.ExactDict/\o.data=.dict es ep/\es.toList=xs.map (C3 (vx (Av P w)))/\(xs.map (·.1)).Nodup
  |.set S n=>h.SetOf (kX P w) a S n
  |.ins C dx fs=>H dx=W1 (.own a)/\fs.length<=1000/\dx≠a/\h.get? a=W1 (oQ C dx) ∧
      ∃mA,h.Ns1 dx mA/\(∀f,Os (fs.lookup f) (mA f))/\C4 mA (fs.map (·.1))
  |.own _=>∃o,h.get? a=W1 o
  |.xd fs=>∃mA,h.Ns1 a mA/\∀f,Os (fs.lookup f) (mA f)
  |.rng r z=>∃t u v,h.get? a=W1 { cls:=.type "range",data:=.fields #[.int r t,.int z u,.int 1 v] }
  |.frz o u=>h.get? a=W1 o/\BJ H h a u
  |.tbl ps=>h.get? a=W1 { cls:=.none,data:=.fields ps }
  |.met f x=>h.get? a=W1 (C5 (.ref f) (.ref x))
  |.ext φ=>φ h/\(∃o,h.get? a=W1 o)/\∀h1 g:Heap,φ h1->(∀o,h1.get? a=W1 o->g.get? a=W1 o)->φ g
def Pf(H:Hp)(h:Heap):Prop:=∀a o,H a=W1 o->BJ P w H h a o
end
section
variable {H H':Hp}{o:HO}
theorem BJ.lt(x:BJ P w H h a o):a<h.objs.size:=by
 cases o with
 |mem F K=>obtain⟨_,_,_,o,_,_,e,_⟩:=x;exact bv e
 |lst g=>obtain⟨_,_,_,_,e⟩:=x;exact bv e
 |tup g=>obtain⟨_,_,_,p⟩:=x;exact p.lt
 |dK d=>obtain⟨_,_,_,_,o,_,_,e,_⟩:=x;exact bv e
 |dT d=>obtain⟨_,_,_,_,o,_,_,e,_⟩:=x;exact bv e
 |set S n=>obtain⟨o,_,_,_,e,_⟩:=x;exact bv e
 |ins C dx fs=>obtain⟨_,_,_,e,_⟩:=x;exact bv e
 |own y=>obtain⟨_,e⟩:=x;exact bv e
 |xd fs=>obtain⟨_,⟨_,_,_,e,_⟩,_⟩:=x;exact bv e
 |rng v z=>obtain⟨_,_,_,e⟩:=x;exact bv e
 |frz ob u=>obtain⟨e,_⟩:=x;exact bv e
 |tbl r=>exact bv (show h.get? a=W1 _ from x)
 |met f y=>exact bv (show h.get? a=W1 _ from x)
 |ext φ=>obtain⟨_,⟨_,e⟩,_⟩:=x;exact bv e
theorem Paired.mapP{z v:Type}{F G:z->v->Prop}:∀{g:List z}{d:List v},mo F g d->(∀a b,F a b->G a b)->mo G g d
 |_,_,.nil,_=>.nil
 |_,_,.cons r t,f=>.cons (f _ _ r) (Paired.mapP t f)
def BJ.stay(x:BJ P w H h a o)(k:∀b u,(b=a∨H b=W1 (.own a))->h.get? b=W1 u->h'.get? b=W1 u)(ho:∀b,H b=W1 (.own a)->H' b=W1 (.own a))(O:∀b o,Tu o->H b=W1 o->H' b=W1 o):BJ P w H' h' a o:=by
 have T:∀{K:aI}{b:Addr}{xs:List V},NM K H b xs->NM K H' b xs:=λ{K b xs} z=>by
  rcases z with (z | ⟨o,z⟩) | z
  .exact .inl (.inl (O b _ trivial z))
  .exact .inl (.inr ⟨o,O b _ trivial z⟩)
  .exact .inr z
 induction o with
 |mem F K=>
  obtain⟨y,xs,al,ob,g,G,e,c⟩:=x;exact⟨y,xs,λq hq=>by
   obtain⟨⟨bs,Z,Y⟩,X⟩:=al q hq;exact⟨⟨bs,T Z,Paired.mapP Y λ_ _ z=>T z⟩,X⟩,ob,g,G,k _ _ (.inl rfl) e,c⟩
 |lst xs=>obtain⟨z,I,n,r,e⟩:=x;exact⟨z,I,n,r,k _ _ (.inl rfl) e⟩
 |tup xs=>obtain⟨z,I,r,ob,e,c⟩:=x;exact⟨z,I,r,ob,k _ _ (.inl rfl) e,c⟩
 |dK L=>obtain⟨z,y,vs,r,ob,g,G,e,c⟩:=x;exact⟨z,y,vs,r,ob,g,G,k _ _ (.inl rfl) e,c⟩
 |dT L=>
  obtain⟨z,y,xs,r,ob,g,G,e,c⟩:=x;exact⟨z,y,xs,Paired.mapP r λp q z=>⟨z.1,O _ _ trivial z.2.1,z.2.2⟩,ob,g,G,k _ _ (.inl rfl) e,c⟩
 |set S n=>obtain⟨ob,g,G,t,e,c⟩:=x;exact⟨ob,g,G,t,k _ _ (.inl rfl) e,c⟩
 |ins C dx fs=>
  obtain⟨d,z,ne,e,mA,⟨J,g,G,e2,c⟩,r⟩:=x;exact⟨ho _ d,z,ne,k _ _ (.inl rfl) e,mA,⟨J,g,G,k _ _ (.inr d) e2,c⟩,r⟩
 |own y=>obtain⟨ob,e⟩:=x;exact⟨ob,k _ _ (.inl rfl) e⟩
 |xd fs=>obtain⟨mA,⟨J,g,G,e,c⟩,r⟩:=x;exact⟨mA,⟨J,g,G,k _ _ (.inl rfl) e,c⟩,r⟩
 |rng lo hi=>obtain⟨t,u,v,e⟩:=x;exact⟨t,u,v,k _ _ (.inl rfl) e⟩
 |frz ob u ih=>obtain⟨e,q⟩:=x;exact⟨k _ _ (.inl rfl) e,ih q⟩
 |tbl W=>
  have e:h.get? a=W1 { cls:=.none,data:=.fields W }:=x;show h'.get? a=W1 { cls:=.none,data:=.fields W };exact k a _ (.inl rfl) e
 |met f y=>
  have e:h.get? a=W1 (C5 (.ref f) (.ref y)):=x;show h'.get? a=W1 (C5 (.ref f) (.ref y));exact k a _ (.inl rfl) e
 |ext φ=>obtain⟨p,⟨o,e⟩,U⟩:=x;exact⟨U _ _ p λo q=>k _ _ (.inl rfl) q,⟨o,k _ _ (.inl rfl) e⟩,U⟩
theorem Pf.lt(x:Pf P w H h)(e:H a=W1 o):a<h.objs.size:=(x a o e).lt
def Pf.fresh(x:Pf P w H h)(e:h.objs.size<=a):H a=E2:=by
 cases q:H a with
 |none=>rfl
 |some u=>exact SF (eK (x.lt q) e) (iE _)
def Pf.kept(x:Pf P w H h)(k:∀b u,h.get? b=W1 u->h'.get? b=W1 u):Pf P w H h':=λa o e=>
 (x a o e).stay (λb u _ q=>k b u q) (λ_ q=>q) λ_ _ _ q=>q
def Pf.laid(x:Pf P w H h)(k:∀b u,h.get? b=W1 u->h'.get? b=W1 u)(r:h.objs.size<=a)(new:BJ P w (fk H a o) h' a o):Pf P w (fk H a o) h':=λb u e=>by
 have d:=x.fresh r
 by_cases g:b=a
 .subst g;rw[Ag] at e;cases e;exact new
 .rw[Ai g] at e;exact (x b u e).stay (λc v _ q=>k c v q) (λc q=>by rw[Ai (C_ q d)];exact q) λc z _ q=>by rw[Ai (C_ q d)];exact q
end
def Rd(H:Hp)(a:Addr)(u:HO):Prop:=H a=W1 u∨∃o,H a=W1 (.frz o u)
def Rd.of{H:Hp}{u:HO}(h:H a=W1 u):Rd H a u:=.inl h
def Rd.ok{H:Hp}{u:HO}(r:Rd H a u)(x:Pf P w H h):BJ P w H h a u:=by
 rcases r with r | ⟨o,r⟩
 .exact x a u r
 .obtain⟨_,q⟩:=x a _ r;exact q
def Mut:Option HO->Prop
 |some (.lst _)=>True
 |some (.dK _)=>True
 |some (.dT _)=>True
 |some (.set _ _)=>True
 |some (.ins _ _ _)=>True
 |some (.ext _)=>True
 |some (.mem _ _)=>True
 |_=>False
section
variable {H:Hp}{x e:Addr}{o':HO}
def Pf.write(ok:Pf P w H h)(G:Mut (H x))(U:e=x∨H e=W1 (.own x))(k:∀b u,b≠e->h.get? b=W1 u->h'.get? b=W1 u)(O:∃u,h'.get? e=W1 u)(new:BJ P w (fk H x o') h' x o'):Pf P w (fk H x o') h':=λb u q=>by
 have g:∀c y,H c=W1 (.own y)->c≠x:=λc y r z=>by subst z;rw[r] at G;exact G
 have F:∀c o,Tu o->H c=W1 o->c≠x:=λc o L r z=>by
  subst z;rw[r] at G;cases o with
  |tup S=>exact G
  |frz p u=>exact G
  |_=>exact L
 by_cases J:b=x
 .subst J;rw[Ag] at q;cases q;exact new
 .rw[Ai J] at q
  by_cases d:b=e
  .have T:H b=W1 (.own x):=by
    rcases U with z | z
    .exact SF (d.trans z) J
    .rw[d];exact z
   rw[q] at T;cases T;obtain⟨v,W⟩:=O;exact⟨v,by rw[d];exact W⟩
  .refine (ok b u q).stay (λc v I r=>k c v ?_ r) (λc r=>by rw[Ai (g c b r)];exact r) λc S L r=>by rw[Ai (F c S L r)];exact r
   rcases I with rfl | I
   .exact d
   .rintro rfl
    rcases U with z | z
    .exact g c b I z
    .rw[I] at z;cases z;exact J rfl
end
structure Un (fs ex:List Addr) (H H':Hp) (h h':Heap):Prop where
 keep:∀b o,h.get? b=W1 o->H b=E2->b∉fs->b∉ex->h'.get? b=W1 o
 slot:∀b o,h.get? b=W1 o->H b=E2->b∈fs->b∉ex->∃sl,h'.get? b=W1 { o with slots:=sl }
 free:∀b o,h.get? b=W1 o->H b=E2->b∉ex->H' b=E2
 there:∀b o,h.get? b=W1 o->b∉ex->∃o',h'.get? b=W1 o'
 tups:∀b xs,H b=W1 (.tup xs)->H' b=W1 (.tup xs)
 frzs:∀b o u,H b=W1 (.frz o u)->H' b=W1 (.frz o u)
 tbls:∀b ps,H b=W1 (.tbl ps)->∃more,H' b=W1 (.tbl (ps++more))
section
variable {fs fs' ex ex':List Addr}{H H1 H2:Hp}{h1 h2:Heap}{x e:Addr}{o:HO}
def Un.any(u:Un fs ex H H1 h h1){b:Addr}{ob:Obj}(q:h.get? b=W1 ob)(n:H b=E2)(d:b∉ex):∃sl,h1.get? b=W1 { ob with slots:=sl }:=by
 by_cases g:b∈fs
 .exact u.slot b ob q n g d
 .exact⟨ob.slots,u.keep b ob q n g d⟩
def Un.kept(k:∀b u,h.get? b=W1 u->h'.get? b=W1 u):Un fs ex H H h h':=
 ⟨λb ob q _ _ _=>k b ob q,λb ob q _ _ _=>⟨ob.slots,k b ob q⟩,λ_ _ _ n _=>n,λb ob q _=>⟨ob,k b ob q⟩,λ_ _ q=>q,λ_ _ _ q=>q,λ_ r q=>⟨#[],by rw[q];simp⟩⟩
def Un.refl:Un fs ex H H h h:=Un.kept λ_ _ q=>q
def Un.laid(k:∀b u,h.get? b=W1 u->h'.get? b=W1 u)(r:h.objs.size<=a)(d:H a=E2):Un fs ex H (fk H a o) h h' where
 keep:=λb u q _ _ _=>k b u q
 slot:=λb u q _ _ _=>⟨u.slots,k b u q⟩
 free:=λb u q n _=>by rw[Ai (bX (eK (bv q) r))];exact n
 there:=λb u q _=>⟨u,k b u q⟩
 tups:=λb g q=>by rw[Ai (C_ q d)];exact q
 frzs:=λb u g q=>by rw[Ai (C_ q d)];exact q
 tbls:=λb v q=>⟨#[],by rw[Ai (C_ q d),q];simp⟩
def Un.write(G:Mut (H x))(L:e=x∨H e=W1 (.own x))(k:∀b u,b≠e->h.get? b=W1 u->h'.get? b=W1 u)(O:∃u,h'.get? e=W1 u):Un fs ex H (fk H x o) h h':=by
 have v:∀b,H b=E2->b≠x:=λb n z=>by subst z;rw[n] at G;exact G
 have F:∀b,H b=E2->b≠e:=λb n z=>by
  subst z
  rcases L with r | r
  .exact v b n r
  .rw[n] at r;cases r
 have g:∀b u,H b=W1 u->¬ Mut (W1 u)->b≠x:=λb u q J z=>by subst z;rw[q] at G;exact J G
 refine⟨λb u q n _ _=>k b u (F b n) q,λb u q n _ _=>⟨u.slots,k b u (F b n) q⟩,λb u q n _=>by rw[Ai (v b n)];exact n,λb u q _=>?_,
  λb I q=>by rw[Ai (g b _ q λz=>z)];exact q,λb u I q=>by rw[Ai (g b _ q λz=>z)];exact q,λb S q=>⟨#[],by rw[Ai (g b _ q λz=>z),q];simp⟩⟩
 by_cases d:b=e
 .subst d;exact O
 .exact⟨u,k b u d q⟩
end
def trk(h:Heap)(H:Hp):List Addr:=(bb h.objs.size).filter λa=>(H a).isSome
def US(h:Heap)(H:Hp):Heap:=PySem.W.hideAll h (trk h H)
def aL(h:Heap)(H:Hp):(US h H).objs.size=h.objs.size:=PySem.W.hideAll_size _ _
def cD{H:Hp}(e:h.get? b=W1 o)(n:H b=E2):(US h H).get? b=W1 o:=
 PySem.W.hideAll_get _ e λg=>by
  have q:(H b).isSome=E3:=(d4.mp g).2;rw[n] at q;simp at q
def mC{H:Hp}(e:(US h H).get? b=W1 o):h.get? b=W1 o/\H b=E2:=by
 have O:h.get? b=W1 o:=PySem.W.of_hideAll (trk h H) e;refine⟨O,?_⟩;cases q:H b with
 |none=>rfl
 |some x=>
  have g:b∈trk h H:=d4.mpr ⟨da.mpr (bv O),by simp[q]⟩;have z:(US h H).get? b=E2:=PySem.W.hideAll_none (trk h H) g;rw[z] at e;cases e
def mD(g h:Heap)(L:Addr):List (Addr×Obj):=(bb h.objs.size).filterMap λa=>if a=L∨(g.get? a).isSome=E3 then E2 else (h.get? a).map λo=>(a,o)
def gq(g h:Heap)(L d:Addr):List (Addr×Obj):=(mD g h L).filter λp=>decide (p.1≠d)
structure Mod (K:aI) (mg:Str->Option ac) (base:Heap):Prop where
 kin:K.In base
 glob:base.Ns gI mg
 blt:∃mb,base.Ns C6 mb/\∀x:Str,x≠"__name__"->mb x=d6 x
 nolimit:base.NoLimit
set_option genInjectivity true in
structure Cx where
 prog:d3
 w:ca
 K:aI
 mg:Str->Option ac
 base:Heap
 A:aS
 N:List Str
 s₀:ah
 H₀:Hp
 env:Env
 outer:List Env
 stack:List Env
 ex:List Addr
 fn:Str->Bool
 calm:Bool
 pn:List (Addr×Obj)
 xe:ac->ah->Prop
def frs(l:List Env):List Addr:=l.filterMap (·.frame)
abbrev Cx.fs (X:Cx):List Addr:=frs X.outer
def VO(sc:la)(x:Str):Prop:=sc.names.lookup x=W1 .local ∨sc.names.lookup x=W1 .cell ∨sc.names.lookup x=W1 .free
def Loc(sc:la)(x:Str):Prop:=sc.names.lookup x=W1 .local ∨sc.names.lookup x=W1 .cell
def Look(env:Env)(h:Heap)(m:Str->Option ac)(x:Str)(u:ac):Prop:=
 (env.kindOf x=W1 .local /\m x=W1 u)∨((env.kindOf x=W1 .cell ∨env.kindOf x=W1 .free)/\∃c,env.cells.lookup x=W1 c/\h.IsCell c (W1 u))
structure Cx.Ok (X:Cx):Prop where
 mod:Mod X.K X.mg X.base
 kind:X.env.scope.kind=.function
 glob:X.env.globals=gI
 blt:X.env.builtins=C6
 above:X.s₀.heap.objs.size<=X.env.locals
 inj:∀x y c,X.env.cells.lookup x=W1 c->X.env.cells.lookup y=W1 c->x=y
 has:∀x,(X.env.kindOf x=W1 .cell ∨X.env.kindOf x=W1 .free)->∃c,X.env.cells.lookup x=W1 c
 cab:∀x c,X.fn x=E3->X.env.cells.lookup x=W1 c->X.s₀.heap.objs.size<=c
 hd:X.calm=E3->X.A.handled=E2
 frames:X.A.frames=W1 X.stack
 stk:X.stack=X.outer∨(X.stack=X.env::X.outer/\X.env.frame=W1 X.env.locals)
 exf:∀b∈X.ex,b≠X.env.locals/\∀x c,X.env.cells.lookup x=W1 c->c≠b
 bs:∀b o,X.base.get? b=W1 o->X.s₀.heap.get? b=W1 o/\X.H₀ b=E2
 bsz:X.base.objs.size<=X.s₀.heap.objs.size
 noex:∀b o,X.base.get? b=W1 o->b∉X.ex
 exfs:∀b∈X.ex,b∉X.fs
 funs:X.s₀.heap.FunFrames X.base X.outer
 frf:∀b∈X.fs,X.H₀ b=E2
structure Inv (X:Cx) (π:NI) (σ:List (Option V)) (H:Hp) (s:ah):Prop where
 ok:X.Ok
 os:s.os=X.s₀.os
 bare:nw s.gens
 base:Un X.fs X.ex X.H₀ H X.s₀.heap s.heap
 loc:∃m,s.heap.Ns X.env.locals m/\∀(i:Nat) (x:Str) (v:V),X.N[i]?=W1 x->σ[i]?=W1 (W1 v)->VO X.env.scope x->∃u,cx v u/\Look X.env s.heap m x u
 cell:∀x c,X.env.cells.lookup x=W1 c->∃v,s.heap.IsCell c v
 free:H X.env.locals=E2
 freeC:∀x c,X.env.cells.lookup x=W1 c->H c=E2
 pin:∀p∈X.pn++π,s.heap.get? p.1=W1 p.2/\H p.1=E2/\p.1≠X.env.locals/\p.1∉X.fs/\∀v,p.2.data≠.cell v
 hok:Pf X.prog X.w H s.heap
 len:σ.length=X.N.length
section
variable {X:Cx}{H H':Hp}
def Cx.Ok.nofr(ok:X.Ok){b:Addr}{o:Obj}(e:X.base.get? b=W1 o):b∉X.fs:=λd=>by
 have:=(ok.funs.mem d).1;rw[e] at this;cases this
theorem Inv.bs(I:Inv X π σ H s):∀b o,X.base.get? b=W1 o->s.heap.get? b=W1 o/\H b=E2:=λb o e=>
 ⟨I.base.keep b o (I.ok.bs b o e).1 (I.ok.bs b o e).2 (I.ok.nofr e) (I.ok.noex b o e),I.base.free b o (I.ok.bs b o e).1 (I.ok.bs b o e).2 (I.ok.noex b o e)⟩
def Inv.bk(I:Inv X π σ H s):∀b o,X.base.get? b=W1 o->s.heap.get? b=W1 o:=λb o e=>(I.bs b o e).1
theorem Inv.mod(I:Inv X π σ H s):Mod X.K X.mg X.base:=I.ok.mod
def Inv.kIn(I:Inv X π σ H s):X.K.In s.heap:=I.ok.mod.kin.keeps I.bk
theorem Inv.lt(I:Inv X π σ H s):X.env.locals<s.heap.objs.size:=let ⟨_,hn,_⟩:=I.loc;hn.lt
def Inv.sz(I:Inv X π σ H s):X.s₀.heap.objs.size<=s.heap.objs.size:=cy I.ok.above (sD I.lt)
def Inv.nofs(I:Inv X π σ H s){a:Addr}(h:s.heap.objs.size<=a):a∉X.fs:=λd=>by
 obtain⟨_,o,v,_⟩:=I.ok.funs.mem d;exact SF (eK (bv v) (cy I.sz h)) (iE _)
def Inv.cne(I:Inv X π σ H s):∀x c,X.env.cells.lookup x=W1 c->c≠X.env.locals:=λx c e z=>by
 obtain⟨v,o,r,F⟩:=I.cell x c e;obtain⟨m,⟨G,J,L,d,g,_⟩,_⟩:=I.loc;rw[z,d] at r;cases r;rw[g] at F;cases F
theorem Inv.funs(I:Inv X π σ H s):s.heap.FunFrames X.base X.outer:=by
 have all:∀(l:List Env),(∀b∈frs l,b∈X.fs)->X.s₀.heap.FunFrames X.base l->s.heap.FunFrames X.base l:=by
  intro l
  induction l with
  |nil=>intro _ _;trivial
  |cons U r v=>
   intro hs Y;obtain⟨S,⟨L,o,G,O,J,T⟩,F⟩:=Y;have g:L∈X.fs:=hs L (by unfold frs;rw[C7,G];exact dn);obtain⟨W,e⟩:=I.base.slot L o J (I.ok.frf L g) g λz=>I.ok.exfs L z g;exact⟨S,⟨L,_,G,O,e,T⟩,v (λb d=>hs b (by unfold frs;rw[C7,G];exact cE _ d)) F⟩
 exact all X.outer (λ_ d=>d) I.ok.funs
theorem Inv.stack(I:Inv X π σ H s):s.heap.FunFrames X.base X.stack:=by
 rcases I.ok.stk with e | ⟨e,G⟩
 .rw[e];exact I.funs
 .rw[e];obtain⟨m,d,_⟩:=I.loc;refine .cons (by rw[I.ok.kind];decide) G d ?_ I.funs;exact Heap.get?_none_of_le (cy I.ok.bsz I.ok.above)
def Inv.stkSub(I:Inv X π σ H s):∀b∈frs X.stack,b∈X.env.locals::X.fs:=λb d=>by
 rcases I.ok.stk with e | ⟨e,G⟩
 .rw[e] at d;exact cE _ d
 .rw[e] at d;unfold frs at d;rw[C7,G] at d;exact d
def Inv.stkFree(I:Inv X π σ H s):∀b∈frs X.stack,H b=E2:=λb d=>by
 rcases bP.mp (I.stkSub b d) with e | d
 .rw[e];exact I.free
 .obtain⟨_,o,v,_⟩:=I.ok.funs.mem d;exact I.base.free b o v (I.ok.frf b d) λz=>I.ok.exfs b z d
def Inv.step{g':Array GenState}{d':Drawn}(I:Inv X π σ H s)(G:∀b∈ch,(b∈X.ex∨X.s₀.heap.objs.size<=b)/\b≠X.env.locals/\(∀x c,X.env.cells.lookup x=W1 c->c≠b)/\∀p∈X.pn++π,p.1≠b)(keep:∀b o,b≠X.env.locals->b∉X.fs->b∉ch->s.heap.get? b=W1 o->H b=E2->h'.get? b=W1 o)(S:∀b o,b≠X.env.locals->b∈X.fs->b∉ch->s.heap.get? b=W1 o->H b=E2->∃sl,h'.get? b=W1 { o with slots:=sl })(free:∀b o,b∉ch->s.heap.get? b=W1 o->H b=E2->H' b=E2)(T:∀b o,b∉ch->s.heap.get? b=W1 o->∃o',h'.get? b=W1 o')(Y:∀b xs,H b=W1 (.tup xs)->H' b=W1 (.tup xs))(S0:∀b o u,H b=W1 (.frz o u)->H' b=W1 (.frz o u))(Z:∀b ps,H b=W1 (.tbl ps)->∃O0,H' b=W1 (.tbl (ps++O0)))(ns:∀m,s.heap.Ns X.env.locals m->h'.Ns X.env.locals m)(X0:Pf X.prog X.w H' h')(hg:nw g'):
  Inv X π σ H' { s with heap:=h',gens:=g',drawn:=d',toks:=t' }:=by
 have N0:∀b o,X.s₀.heap.get? b=W1 o->b≠X.env.locals:=λb o e=>bX (eK (bv e) I.ok.above);have L:∀b o,X.s₀.heap.get? b=W1 o->b∉X.ex->b∉ch:=λb o e g U=>by
  rcases (G b U).1 with z | z
  .exact g z
  .exact SF (eK (bv e) z) (iE _)
 have J:∀x c,X.env.cells.lookup x=W1 c->∀v,s.heap.IsCell c v->h'.IsCell c v:=by
  rintro x c e v ⟨o,W,hd⟩
  have F:c∉ch:=λz=>(G c z).2.2.1 x c e rfl
  by_cases hc:c∈X.fs
  .obtain⟨sl,q⟩:=S c o (I.cne x c e) hc F W (I.freeC x c e);exact⟨_,q,hd⟩
  .exact⟨o,keep c o (I.cne x c e) hc F W (I.freeC x c e),hd⟩
 refine⟨I.ok,I.os,hg,⟨λb o e n U g=>?_,λb o e n U g=>?_,λb o e n g=>?_,λb o e g=>?_,λb xs e=>Y b xs (I.base.tups b xs e),λb o xs e=>S0 b o xs (I.base.frzs b o xs e),λb ps e=>?_⟩,?_,λx c e=>?_,?_,λx c e=>?_,λp hp=>?_,X0,I.len⟩
 .exact keep b o (N0 b o e) U (L b o e g) (I.base.keep b o e n U g) (I.base.free b o e n g)
 .obtain⟨sl,O⟩:=I.base.slot b o e n U g;obtain⟨T0,e2⟩:=S b _ (N0 b o e) U (L b o e g) O (I.base.free b o e n g);exact⟨T0,e2⟩
 .obtain⟨o',O⟩:=I.base.there b o e g;exact free b o' (L b o e g) O (I.base.free b o e n g)
 .obtain⟨o',O⟩:=I.base.there b o e g;exact T b o' (L b o e g) O
 .obtain⟨m1,O⟩:=I.base.tbls b ps e;obtain⟨m2,e2⟩:=Z b _ O;exact⟨m1++m2,by rw[e2,Array.append_assoc]⟩
 .obtain⟨m,hn,hl⟩:=I.loc;refine⟨m,ns m hn,λi x v O e2 e3=>?_⟩;obtain⟨u,r,l⟩:=hl i x v O e2 e3;refine⟨u,r,?_⟩
  rcases l with l | ⟨k,c,e,z⟩
  .exact .inl l
  .exact .inr ⟨k,c,e,J x c e _ z⟩
 .obtain⟨v,z⟩:=I.cell x c e;exact⟨v,J x c e v z⟩
 .obtain⟨m,⟨o,_,_,W,_⟩,_⟩:=I.loc;exact free _ o (λz=>(G _ z).2.1 rfl) W I.free
 .obtain⟨v,o,W,hd⟩:=I.cell x c e;exact free c o (λz=>(G c z).2.2.1 x c e rfl) W (I.freeC x c e)
 .obtain⟨e,n,ne,nf,d⟩:=I.pin p hp;have F:p.1∉ch:=λz=>(G p.1 z).2.2.2 p hp rfl;exact⟨keep p.1 p.2 ne nf F e n,free p.1 p.2 F e n,ne,nf,d⟩
theorem Inv.un(I:Inv X π σ H s)(u:Un X.fs [] H H' s.heap h')(g:Pf X.prog X.w H' h'):Inv X π σ H' { s with heap:=h',toks:=t' }:=by
 obtain⟨m,⟨o,Y,Z,J,r⟩,_⟩:=id I.loc;obtain⟨W,S⟩:=u.any J I.free (by simp);exact I.step (g':=s.gens) (d':=s.drawn) (ch:=[]) (λ_ z=>nomatch z) (λb o _ v _ e n=>u.keep b o e n v (by simp)) (λb o _ v _ e n=>u.slot b o e n v (by simp)) (λb o _ e n=>u.free b o e n (by simp)) (λb o _ e=>u.there b o e (by simp)) u.tups u.frzs u.tbls (λU O=>by
  obtain⟨T,F,G,d,L⟩:=O;rw[J] at d;cases d;exact⟨_,F,G,S,L⟩) g I.bare
def Inv.call{g':Array GenState}{d':Drawn}(I:Inv X π σ H s)(u:Un (frs X.stack) ch H H' s.heap h')(v:Pf X.prog X.w H' h')(U:nw g')(G:∀b∈ch,(b∈X.ex∨X.s₀.heap.objs.size<=b)/\b≠X.env.locals/\(∀x c,X.env.cells.lookup x=W1 c->c≠b)/\∀p∈X.pn++π,p.1≠b):
  Inv X π σ H' { s with heap:=h',gens:=g',drawn:=d',toks:=t' }:=by
 obtain⟨m,⟨o,es,ep,O,r⟩,_⟩:=id I.loc;obtain⟨Y,F⟩:=u.any O I.free λz=>(G _ z).2.1 rfl;exact I.step (ch:=ch) G (λb o F W d e n=>u.keep b o e n (λz=>(bP.mp (I.stkSub b z)).elim F W) d) (λb o _ _ d e n=>u.any e n d) (λb o d e n=>u.free b o e n d) (λb o d e=>u.there b o e d) u.tups u.frzs u.tbls (λm' T=>by
  obtain⟨Z,J,L,g,S⟩:=T;rw[O] at g;cases g;exact⟨_,J,L,F,S⟩) v U
theorem Inv.turned(I:Inv X π σ H s)(k:∀b o,b≠it->s.heap.get? b=W1 o->h'.get? b=W1 o)(J:H it=E2)(F:it≠X.env.locals)(h1:it∈X.ex∨X.s₀.heap.objs.size<=it)(T:∀x c,X.env.cells.lookup x=W1 c->c≠it)(S:∀p∈X.pn++π,p.1≠it):Inv X π σ H { s with heap:=h',toks:=t' }:=by
 have g:∀b u,H b=W1 u->b≠it:=λb u e z=>by rw[z,J] at e;cases e
 refine I.step (g':=s.gens) (d':=s.drawn) (ch:=[it]) (λb O=>?_) (λb o _ _ d e _=>k b o (λz=>d (by simp[z])) e) (λb o _ _ d e _=>⟨o.slots,k b o (λz=>d (by simp[z])) e⟩) (λ_ _ _ _ n=>n)
  (λb o d e=>⟨o,k b o (λz=>d (by simp[z])) e⟩) (λ_ _ e=>e) (λ_ _ _ e=>e) (λb Y e=>⟨#[],by rw[e];simp⟩) (λm L=>?_) (λb u e=>?_) I.bare
 .have e:b=it:=by simpa using O
  subst e;exact⟨h1,F,T,S⟩
 .obtain⟨o,U,W,G,r⟩:=L;exact⟨o,U,W,k _ o (cq F) G,r⟩
 .refine (I.hok b u e).stay (λc v d q=>k c v ?_ q) (λ_ q=>q) λ_ _ _ q=>q
  rcases d with z | z
  .rw[z];exact g b u e
  .exact g c _ z
theorem Inv.tok(I:Inv X π σ H s)(t:Nat):Inv X π σ H { s with toks:=t }:=I.un (h':=s.heap) (t':=t) Un.refl I.hok
theorem Inv.kept{t':Nat}(I:Inv X π σ H s)(k:∀b u,s.heap.get? b=W1 u->h'.get? b=W1 u):Inv X π σ H { s with heap:=h',toks:=t' }:=I.un (Un.kept k) (I.hok.kept k)
theorem Inv.laid{a:Addr}{o:HO}{t':Nat}(I:Inv X π σ H s)(k:∀b u,s.heap.get? b=W1 u->h'.get? b=W1 u)(r:s.heap.objs.size<=a)(new:BJ X.prog X.w (fk H a o) h' a o):
  Inv X π σ (fk H a o) { s with heap:=h',toks:=t' }:=I.un (Un.laid k r (I.hok.fresh r)) (I.hok.laid k r new)
theorem Inv.write{x e:Addr}{o:HO}{t':Nat}(I:Inv X π σ H s)(G:Mut (H x))(d:e=x∨H e=W1 (.own x))(k:∀b u,b≠e->s.heap.get? b=W1 u->h'.get? b=W1 u)(O:∃u,h'.get? e=W1 u)(new:BJ X.prog X.w (fk H x o) h' x o):Inv X π σ (fk H x o) { s with heap:=h',toks:=t' }:=I.un (Un.write G d k O) (I.hok.write G d k O new)
def Inv.pins_of{d:NI}(I:Inv X π σ H s)(h:∀p∈d,s.heap.get? p.1=W1 p.2/\H p.1=E2/\p.1≠X.env.locals/\p.1∉X.fs/\∀v,p.2.data≠.cell v):Inv X d σ H s:=
 ⟨I.ok,I.os,I.bare,I.base,I.loc,I.cell,I.free,I.freeC,λp r=>(dQ.mp r).elim (λz=>I.pin p (kG _ z)) (h p),I.hok,I.len⟩
def Ma(I:N.Nodup){i j:Nat}{x:Str}(a:N[i]?=W1 x)(b:N[j]?=W1 x):i=j:=by
 obtain⟨v,g⟩:=fF.mp a;obtain⟨r,d⟩:=fF.mp b;exact (FL I).mp (g.trans d.symm)
def Uq(N:List Str)(x:Str):Prop:=∀i j:Nat,N[i]?=W1 x->N[j]?=W1 x->i=j
def xf(I:N.Nodup):Uq N x:=λ_ _ a b=>Ma I a b
theorem Qd{A:aS}{v:V}{Q:Unit->ah->Prop}(I:Inv X π σ H s)(hN:Uq X.N x)(hi:X.N[i]?=W1 x)(J:Loc X.env.scope x)(r:cx v u)(h:∀s',Inv X π (σ.set i (W1 v)) H s'->(∃a,f6 a s.heap s'.heap/\(a=X.env.locals∨X.env.cells.lookup x=W1 a))->Q () s')(hf:X.fn x=E3∨X.env.scope.names.lookup x=W1 .local :=by first | exact .inl rfl | exact .inr rfl | assumption):ag M A (storeName X.env x u) Q E s:=by
 obtain⟨m,hn,hl⟩:=id I.loc;have O0:(X.env.scope.kind==.class||(X.env.scope.kind==.module&&X.env.locals != X.env.globals))=ZA:=by rw[I.ok.kind];rfl
 have T:i<σ.length:=by rw[I.len];exact (fF.mp hi).1
 have cne:=I.cne;have g:∀{a:Addr}{h':Heap},(∃o,s.heap.get? a=W1 o/\H a=E2)->f6 a s.heap h'->Pf X.prog X.w H h':=λ{a h'} ha hs b ob e=>by
  obtain⟨_,_,L⟩:=ha;refine (I.hok b ob e).stay (λc w' G q=>(hs.2 c ?_).trans q) (λ_ q=>q) λ_ _ _ q=>q;rintro rfl
  rcases G with rfl | G
  .rw[L] at e;cases e
  .rw[L] at G;cases G
 rcases J with S | S
 .refine wpAny_storeName_local S hn (λh' N1 hs=>?_) O0;obtain⟨oL,_,_,X0,_⟩:=id hn;refine h _ ⟨I.ok,I.os,I.bare,⟨λb o e n Y J=>?_,λb o e n Y J=>?_,I.base.free,λb o e J=>?_,I.base.tups,I.base.frzs,I.base.tbls⟩,⟨_,N1,λj y v' F O e3=>?_⟩,λy c e=>?_,I.free,I.freeC,λp hp=>?_,g ⟨oL,X0,I.free⟩ hs,by simpa using I.len⟩ ⟨_,hs,.inl rfl⟩
  .exact (hs.2 b (bX (eK (bv e) I.ok.above))).trans (I.base.keep b o e n Y J)
  .obtain⟨sl,F⟩:=I.base.slot b o e n Y J;exact⟨sl,(hs.2 b (bX (eK (bv e) I.ok.above))).trans F⟩
  .obtain⟨o',F⟩:=I.base.there b o e J;exact⟨o',(hs.2 b (bX (eK (bv e) I.ok.above))).trans F⟩
  .by_cases U:j=i
   .subst U;rw[hi] at F;cases F;rw[mv T] at O;cases O;exact⟨u,r,.inl ⟨S,by simp⟩⟩
   .rw[hW (cq U)] at O;obtain⟨u',r',q⟩:=hl j y v' F O e3;refine⟨u',r',?_⟩
    rcases q with ⟨k,e⟩ | ⟨k,c,e,z⟩
    .refine .inl ⟨k,?_⟩;have:y≠x:=λe=>U (hN _ _ (e▸F) hi);simp[this,e]
    .exact .inr ⟨k,c,e,z.sameBut hs (cne y c e)⟩
  .obtain⟨w',z⟩:=I.cell y c e;exact⟨w',z.sameBut hs (cne y c e)⟩
  .obtain⟨e,n,ne,nf,d⟩:=I.pin p hp;exact⟨(hs.2 p.1 ne).trans e,n,ne,nf,d⟩
 .have W:X.fn x=E3:=by
   rcases hf with z | z
   .exact z
   .rw[z] at S;cases S
  obtain⟨c,G⟩:=I.ok.has x (.inl S);obtain⟨w',z⟩:=I.cell x c G;refine wpAny_storeName_cell I.ok.kind S G z (λh' T0 hs=>?_);obtain⟨oc,N0,Z⟩:=id z;refine h { s with heap:=h' } ⟨I.ok,I.os,I.bare,⟨λb o e n Y J=>?_,λb o e n Y J=>?_,I.base.free,λb o e J=>?_,I.base.tups,I.base.frzs,I.base.tbls⟩,⟨m,hn.sameBut hs (cq (cne x c G)),λj y v' F O e3=>?_⟩,λy c' e=>?_,I.free,I.freeC,λp hp=>?_,g ⟨oc,N0,I.freeC x c G⟩ hs,by simpa using I.len⟩ ⟨c,hs,.inr G⟩
  .exact (hs.2 b (bX (eK (bv e) (I.ok.cab x c W G)))).trans (I.base.keep b o e n Y J)
  .obtain⟨sl,F⟩:=I.base.slot b o e n Y J;exact⟨sl,(hs.2 b (bX (eK (bv e) (I.ok.cab x c W G)))).trans F⟩
  .obtain⟨o',F⟩:=I.base.there b o e J;exact⟨o',(hs.2 b (bX (eK (bv e) (I.ok.cab x c W G)))).trans F⟩
  .by_cases U:j=i
   .subst U;rw[hi] at F;cases F;rw[mv T] at O;cases O;exact⟨u,r,.inr ⟨.inl S,c,G,T0⟩⟩
   .rw[hW (cq U)] at O;obtain⟨u',r',q⟩:=hl j y v' F O e3;refine⟨u',r',?_⟩
    rcases q with q | ⟨k,c',e,z'⟩
    .exact .inl q
    .refine .inr ⟨k,c',e,z'.sameBut hs ?_⟩;rintro rfl;exact U (hN _ _ (I.ok.inj _ _ _ e G▸F) hi)
  .by_cases S0:c'=c
   .subst S0;exact⟨_,T0⟩
   .obtain⟨w2,z2⟩:=I.cell y c' e;exact⟨w2,z2.sameBut hs S0⟩
  .obtain⟨e,n,ne,nf,d⟩:=I.pin p hp;refine⟨(hs.2 p.1 ?_).trans e,n,ne,nf,d⟩;intro q;rw[q,N0] at e;have q':oc=p.2:=eJ e;exact d w' (by rw[<-q'];exact Z)
def R4{A:aS}{v:V}{Q:Unit->ah->Prop}(I:Inv X π σ H s)(F:X.N.Nodup)(z:X.N[i]?=W1 x)(g:Loc X.env.scope x)(r:cx v u)(h:∀d,Inv X π (σ.set i (W1 v)) H d->(∃a,f6 a s.heap d.heap/\(a=X.env.locals∨X.env.cells.lookup x=W1 a))->Q () d)(G:X.fn x=E3∨X.env.scope.names.lookup x=W1 .local :=by first | exact .inl rfl | exact .inr rfl | assumption):ag M A (storeName X.env x u) Q E s:=Qd I (xf F) z g r h G
def VH{A:aS}{v:V}{Q:Unit->ah->Prop}(I:Inv X π σ H s)(F:X.N.Nodup)(z:X.N[i]?=W1 x)(g:Loc X.env.scope x)(r:cx v u)(h:∀d,Inv X π (σ.set i (W1 v)) H d->Q () d)(G:X.fn x=E3∨X.env.scope.names.lookup x=W1 .local :=by first | exact .inl rfl | exact .inr rfl | assumption):ag M A (storeName X.env x u) Q E s:=
 R4 I F z g r (λd J _=>h d J) G
theorem Inv.call'{s':ah}(I:Inv X π σ H s)(F:s'.os=s.os)(u:Un (frs X.stack) ch H H' s.heap s'.heap)(g:Pf X.prog X.w H' s'.heap)(U:nw s'.gens)(G:∀b∈ch,(b∈X.ex∨X.s₀.heap.objs.size<=b)/\b≠X.env.locals/\(∀x c,X.env.cells.lookup x=W1 c->c≠b)/\∀p∈X.pn++π,p.1≠b):Inv X π σ H' s':=by
 obtain⟨J,r,v,d,z⟩:=s';have e:z=s.os:=F;subst e;exact I.call (g':=r) (t':=d) (d':=v) u g U G
end
abbrev XK:=ac->Option Addr->Hp->Prop
abbrev St:=List (Option V)
abbrev VK:=V->Hp->Prop
abbrev TE:=St->Hp->VK->Prop
abbrev TT:=St->Hp->(Bool->Hp->Prop)->Prop
abbrev TA:=St->Hp->(List V->Hp->Prop)->Prop
structure Sf where
 nx:St->Hp->Prop
 rt:VK
 bk:St->Hp->Prop:=λ_ _=>False
 ct:St->Hp->Prop:=λ_ _=>False
abbrev TS:=Sf->St->Hp->Prop
def EP(X:Cx)(r:NI)(g:St)(Q:VK)(u:ac)(z:ah):Prop:=∃v d,Inv X r g d z/\cx v u/\Q v d
def TP(X:Cx)(r:NI)(g:St)(Q:Bool->Hp->Prop)(b:Bool)(v:ah):Prop:=∃d,Inv X r g d v/\Q b d
def AP(X:Cx)(r:NI)(g:St)(Q:List V->Hp->Prop)(us:List ac)(v:ah):Prop:=∃vs d,Inv X r g d v/\cc vs us/\Q vs d
def SP(X:Cx)(r:NI)(D:Sf)(f:Flow)(z:ah):Prop:=
 match f with
 |.next=>∃d g,Inv X r d g z/\D.nx d g
 |.brk=>∃d g,Inv X r d g z/\D.bk d g
 |.cont=>∃d g,Inv X r d g z/\D.ct d g
 |.ret u=>∃v d g,Inv X r d g z/\cx v u/\D.rt v g
def PE(X:Cx)(e:Expr)(t:TE):Prop:=
 ∀(r:NI) (s:ah) (g:St) (H:Hp) (Q:VK),Inv X r g H s->t g H Q->ag (ai X.prog X.w) X.A (eval e X.env) (EP X r g Q) X.xe s
def PT(X:Cx)(e:Expr)(t:TT):Prop:=
 ∀(r:NI) (s:ah) (g:St) (H:Hp) (Q:Bool->Hp->Prop),Inv X r g H s->t g H Q->ag (ai X.prog X.w) X.A (oS e X.env (eval e X.env)) (TP X r g Q) X.xe s
def PW(X:Cx)(e:Expr)(t:TT):Prop:=
 ∀(whole:Sem ac) (r:NI) (s:ah) (g:St) (H:Hp) (Q:Bool->Hp->Prop),Inv X r g H s->t g H Q->ag (ai X.prog X.w) X.A (oS e X.env whole) (TP X r g Q) X.xe s
def PW.pt{X:Cx}{t:TT}(h:PW X e t):PT X e t:=h _
def PA(X:Cx)(es:List Expr)(t:TA):Prop:=
 ∀(d:Pos) (r:NI) (s:ah) (g:St) (H:Hp) (Q:List V->Hp->Prop),Inv X r g H s->t g H Q->ag (ai X.prog X.w) X.A (spliced (dS d (ay es X.env))) (AP X r g Q) X.xe s
def PS(X:Cx)(st:Stmt)(t:TS):Prop:=
 ∀(r:NI) (s:ah) (g:St) (H:Hp) (D:Sf),Inv X r g H s->t D g H->ag (ai X.prog X.w) X.A (exec st X.env) (SP X r D) X.xe s
def SS(X:Cx)(st:List Stmt)(t:TS):Prop:=
 ∀(r:NI) (s:ah) (g:St) (H:Hp) (D:Sf),Inv X r g H s->t D g H->ag (ai X.prog X.w) X.A (ka st X.env) (SP X r D) X.xe s
def mr{d:Type}{t:Sem d}{Q g:d->ah->Prop}{A:aS}(h:ag M A t Q E s)(r:∀a s,Q a s->g a s):ag M A t g E s:=gT h r λ_ _ x=>x
section
variable {X:Cx}
def OH(i:Nat):TE:=λg H Q=>∃v,g[i]?=W1 (W1 v)/\Q v H
def tC(v:V):TE:=λ_ H Q=>Q v H
def Ww(U:X.N[i]?=W1 x)(O:VO X.env.scope x)(z:(x==("__debug__":Str))=ZA:=by decide)(F:(x==("__classdict__":Str))=ZA:=by decide):PE X (.Name x pos) (OH i):=by
 intro L s J H Q I h;obtain⟨v,e,h⟩:=h;obtain⟨m,S,Y⟩:=I.loc;obtain⟨u,r,l⟩:=Y i x v U e O;have ot:EP X L J Q u s:=⟨v,H,I,r,h⟩
 rcases l with ⟨g,T⟩ | ⟨g,c,G,d⟩
 .exact sK (FR I.ok.kind g S T ot) z
 .rcases g with g | g
  .exact sK (FU I.ok.kind g G d ot) z
  .exact sK (FV I.ok.kind g G d ot F) z
def uR{i j pos}:PE X (.Constant (.int i) j pos) (tC (.int i)):=λ_ _ _ H _ I h=>C8 ⟨.int i,H,I.tok _,⟨_,rfl⟩,h⟩
def xg{b j pos}:PE X (.Constant (.bool b) j pos) (tC (.bl b)):=λ_ _ _ H _ I h=>Constant_bool ⟨.bl b,H,I,rfl,h⟩
def uT{x j pos}:PE X (.Constant (.str x) j pos) (tC (.str x)):=λ_ _ _ H _ I h=>Calls.Constant_str ⟨.str x,H,I.tok _,⟨_,rfl⟩,h⟩
def Gl(X:Cx)(x:Str):Prop:=X.env.kindOf x=W1 .globalImplicit
def TQ{g:St}{H:Hp}(I:Inv X π g H s)(U:Gl X x)(d:X.mg x=W1 u)(h:Q u s)(z:(x==("__debug__":Str))=ZA:=by decide):ag (ai X.prog X.w) X.A (eval (.Name x pos) X.env) Q E s:=
 FX I.ok.kind U (Calls.loadGlobal_global (by rw[I.ok.glob];exact I.mod.glob.keeps I.bk) d h) z
def N6{g:St}{H:Hp}(I:Inv X π g H s)(U:Gl X x)(v:X.mg x=E2)(d:d6 x=W1 u)(h:Q u s)(r:x≠"__name__":=by decide)(z:(x==("__debug__":Str))=ZA:=by decide):ag (ai X.prog X.w) X.A (eval (.Name x pos) X.env) Q E s:=by
 obtain⟨J,G,F⟩:=I.mod.blt;exact FX I.ok.kind U (Calls.loadGlobal_builtin (by rw[I.ok.glob];exact I.mod.glob.keeps I.bk) v (by rw[I.ok.blt];exact G.keeps I.bk) ((F x r).trans d) h) z
def Kg{v:V}(U:Gl X x)(g:X.mg x=W1 u)(r:cx v u)(z:(x==("__debug__":Str))=ZA:=by decide):PE X (.Name x pos) (tC v):=
 λ_ _ _ H _ I h=>TQ I U g ⟨v,H,I,r,h⟩ z
def mF{v:V}(U:Gl X x)(z:X.mg x=E2)(g:d6 x=W1 u)(r:cx v u)(d:x≠"__name__":=by decide)(F:(x==("__debug__":Str))=ZA:=by decide):PE X (.Name x pos) (tC v):=
 λ_ _ _ H _ I h=>N6 I U z g ⟨v,H,I,r,h⟩ d F
def t2I(r d:TE)(k:Int->Int->Hp->Prop):St->Hp->Prop:=λg H=>r g H λx z=>d g z λy v=>∃i j,x=.int i/\y=.int j/\k i j v
variable {a b:Expr}{ta tb:TE}
def tCmp(p:Int->Int->Bool)(r d:TE):TE:=λg H Q=>t2I r d (λi j v=>Q (.bl (p i j)) v) g H
abbrev tLt:TE->TE->TE:=tCmp λi j=>decide (i<j)
abbrev tGt:TE->TE->TE:=tCmp λi j=>decide (j<i)
abbrev tGe:TE->TE->TE:=tCmp λi j=>decide (j<=i)
variable {tA tB':TT}{gq:List Expr}
def tAnd(t u:TT):TT:=λg H Q=>t g H λc z=>if c=E3 then u g z Q else Q ZA z
def tOr(t u:TT):TT:=λg H Q=>t g H λc z=>if c=E3 then Q E3 z else u g z Q
def tNot(t:TT):TT:=λg H Q=>t g H λc z=>Q (!c) z
def mG(d:PT X a tA):PW X (.BoolOp .And [a] pos) tA:=by
 intro v r s g H Q I h;refine sL (mr (d r s g H Q I h) λc z e=>?_);cases c with
 |true=>exact C9 e
 |false=>exact e
def cF(d:PT X a tA):PW X (.BoolOp .Or [a] pos) tA:=by
 intro v r s g H Q I h;refine isTrue_or (mr (d r s g H Q I h) λc z e=>?_);cases c with
 |false=>exact isTrue_or_nil e
 |true=>exact e
def uU(J:PT X a tA)(G:PW X (.BoolOp .And (b::gq) pos) tB'):PW X (.BoolOp .And (a::b::gq) pos) (tAnd tA tB'):=by
 intro v r s g H Q I h;refine sL (mr (J r s g H _ I h) λc F q0=>?_);obtain⟨z,d,q1⟩:=q0;cases c with
 |true=>exact G v r F g z Q d q1
 |false=>exact⟨z,d,q1⟩
def qu(J:PT X a tA)(G:PW X (.BoolOp .Or (b::gq) pos) tB'):PW X (.BoolOp .Or (a::b::gq) pos) (tOr tA tB'):=by
 intro v r s g H Q I h;refine isTrue_or (mr (J r s g H _ I h) λc F q9=>?_);obtain⟨z,d,q1⟩:=q9;cases c with
 |true=>exact⟨z,d,q1⟩
 |false=>exact G v r F g z Q d q1
def uV(d:PT X a tA):PT X (.UnaryOp .Not a pos) (tNot tA):=by
 intro r s g H Q I h;exact Cb (d r s g H (λc z=>Q (!c) z) I h)
def xj(r d:TE):TE:=λg H Q=>r g H λx z=>∃c,x=.bl c/\if c=E3 then d g z Q else Q (.bl ZA) z
def tOrV(r d:TE):TE:=λg H Q=>r g H λx z=>∃c,x=.bl c/\if c=E3 then Q (.bl E3) z else d g z Q
def uW{op}{t:TE}(h:PE X a t):PE X (.BoolOp op [a] pos) t:=λr s g H Q I d=>BoolOp_one (h r s g H Q I d)
def uX(L:PE X a ta)(J:PE X (.BoolOp .And (b::gq) pos) tb):PE X (.BoolOp .And (a::b::gq) pos) (xj ta tb):=by
 intro r s g H Q I h;refine BoolOp_and (mr (L r s g H _ I h) λv F p0=>?_);obtain⟨x,z,d,G,q1⟩:=p0;obtain⟨c,rfl,q1⟩:=q1;cases G;refine jS ?_;cases c with
 |true=>exact J r F g z Q d q1
 |false=>exact⟨.bl ZA,z,d,rfl,q1⟩
def xm(L:PE X a ta)(J:PE X (.BoolOp .Or (b::gq) pos) tb):PE X (.BoolOp .Or (a::b::gq) pos) (tOrV ta tb):=by
 intro r s g H Q I h;refine BoolOp_or (mr (L r s g H _ I h) λv F p9=>?_);obtain⟨x,z,d,G,q1⟩:=p9;obtain⟨c,rfl,q1⟩:=q1;cases G;refine jS ?_;cases c with
 |false=>exact J r F g z Q d q1
 |true=>exact⟨.bl E3,z,d,rfl,q1⟩
end
def MR(K:aI)(H:Hp)(a:Addr)(xs:List V):Prop:=
 Rd H a (.lst xs) ∨
  ∃(o:Obj) (d:Array ac) (n:Nat),K.lookup a=W1 o/\o.cls=.type "list"/\o.dict=E2/\o.data=.seq d n/\d.size<=sizeLine/\cc xs d.toList
def Nn(K:aI)(H:Hp)(a:Addr)(xs:List V):Prop:=
 Rd H a (.tup xs) ∨
  ∃(o:Obj) (d:Array ac) (n:Nat),K.lookup a=W1 o/\o.cls=.type "tuple"/\o.data=.seq d n/\d.size<=sizeLine/\cc xs d.toList
def absV:ac->Option V
 |.none=>W1 .non
 |.bool b=>W1 (.bl b)
 |.int i _=>W1 (.int i)
 |.str x _=>W1 (.str x)
 |.bytes b _=>W1 (.byt b)
 |.float b _=>W1 (.flt b)
 |.ref a=>W1 (.ref a)
 |.type n=>W1 (.ty n)
 |_=>E2
def cx.abs{x:V}(r:cx x u):absV u=W1 x:=by
 cases x with
 |non=>cases r;rfl
 |bl _=>cases r;rfl
 |int _=>obtain⟨t,rfl⟩:=r;rfl
 |str _=>obtain⟨t,rfl⟩:=r;rfl
 |byt _=>obtain⟨t,rfl⟩:=r;rfl
 |flt _=>obtain⟨t,rfl⟩:=r;rfl
 |ref _=>cases r;rfl
 |ty _=>cases r;rfl
def cx.inj{x y:V}{u:ac}(r:cx x u)(q:cx y u):x=y:=eJ (r.abs.symm.trans q.abs)
theorem cc.inj:∀{xs ys:List V}{us:List ac},cc xs us->cc ys us->xs=ys
 |_,_,_,.nil,.nil=>rfl
 |_,_,_,.cons r t,.cons L d=>by rw[r.inj L,cc.inj t d]
section
variable {X:Cx}{H:Hp}{xs ys:List V}
def MR.of{K:aI}(h:H a=W1 (.lst xs)):MR K H a xs:=.inl (.inl h)
def Nn.of{K:aI}(h:H a=W1 (.tup xs)):Nn K H a xs:=.inl (.inl h)
def Inv.list(I:Inv X π σ H s)(h:MR X.K H a xs):∃its:List ac,cc xs its/\PlainL s.heap a its.toArray/\xs.length<=sizeLine:=by
 rcases h with h | ⟨o,its,n,d,v,g,hs,O,r⟩
 .obtain⟨z,its,n,r,e⟩:=h.ok I.hok;exact⟨its,r,⟨_,n,e,rfl,rfl,rfl⟩,z⟩
 .refine⟨its.toList,r,⟨o,n,I.kIn a o d,v,g,by simpa using hs⟩,?_⟩;have e:=r.length;simp only[ke] at e;omega
def Inv.tuple(I:Inv X π σ H s)(h:Nn X.K H a xs):∃its:List ac,cc xs its/\IsTup s.heap a its.toArray/\xs.length<=sizeLine:=by
 rcases h with h | ⟨o,its,n,d,g,hs,O,r⟩
 .obtain⟨z,its,r,p⟩:=h.ok I.hok;exact⟨its,r,p,z⟩
 .refine⟨its.toList,r,⟨o,I.kIn a o d,g,n,by simpa using hs⟩,?_⟩;have e:=r.length;simp only[ke] at e;omega
def Inv.list_inj(I:Inv X π σ H s)(h:MR X.K H a xs)(h':MR X.K H a ys):xs=ys:=by
 obtain⟨g,r,⟨o,n,e,_,_,d⟩,_⟩:=I.list h;obtain⟨its',L,⟨G,F,O,_,_,v⟩,_⟩:=I.list h';rw[e] at O;cases O;rw[d] at v;injection v with z _
 have:g=its':=by simpa using NG Cc z
 subst this;exact r.inj L
def Inv.tuple_inj(I:Inv X π σ H s)(h:Nn X.K H a xs)(h':Nn X.K H a ys):xs=ys:=by
 obtain⟨g,r,⟨o,e,_,n,d⟩,_⟩:=I.tuple h;obtain⟨its',L,⟨G,O,_,F,v⟩,_⟩:=I.tuple h';rw[e] at O;cases O;rw[d] at v;injection v with z _
 have:g=its':=by simpa using NG Cc z
 subst this;exact r.inj L
end
abbrev Cx.wish (X:Cx) (E:ac->ah->Prop):Cx:={ X with xe:=E }
abbrev Cx.nox (X:Cx):Cx:=X.wish λ_ _=>False
theorem Cx.Ok.wish{X:Cx}(ok:X.Ok)(E:ac->ah->Prop):(X.wish E).Ok:=
 ⟨ok.mod,ok.kind,ok.glob,ok.blt,ok.above,ok.inj,ok.has,ok.cab,ok.hd,ok.frames,ok.stk,ok.exf,ok.bs,ok.bsz,ok.noex,ok.exfs,ok.funs,ok.frf⟩
def Cx.Ok.unwish{X:Cx}(ok:(X.wish E).Ok):X.Ok:=
 ⟨ok.mod,ok.kind,ok.glob,ok.blt,ok.above,ok.inj,ok.has,ok.cab,ok.hd,ok.frames,ok.stk,ok.exf,ok.bs,ok.bsz,ok.noex,ok.exfs,ok.funs,ok.frf⟩
section
variable {X:Cx}{H:Hp}
theorem Inv.wish(I:Inv X π σ H s)(E:ac->ah->Prop):Inv (X.wish E) π σ H s:=⟨I.ok.wish E,I.os,I.bare,I.base,I.loc,I.cell,I.free,I.freeC,I.pin,I.hok,I.len⟩
theorem Inv.unwish(I:Inv (X.wish E) π σ H s):Inv X π σ H s:=⟨I.ok.unwish,I.os,I.bare,I.base,I.loc,I.cell,I.free,I.freeC,I.pin,I.hok,I.len⟩
theorem SP.unwish{D:Sf}{f:Flow}{s':ah}(h:SP (X.wish E) π D f s'):SP X π D f s':=by
 cases f with
 |next=>obtain⟨d,g,I,q⟩:=h;exact⟨d,g,I.unwish,q⟩
 |brk=>obtain⟨d,g,I,q⟩:=h;exact⟨d,g,I.unwish,q⟩
 |cont=>obtain⟨d,g,I,q⟩:=h;exact⟨d,g,I.unwish,q⟩
 |ret u=>obtain⟨v,d,g,I,r,q⟩:=h;exact⟨v,d,g,I.unwish,r,q⟩
theorem SS.nox{st:List Stmt}{t:TS}(h:SS X.nox st t):SS X st t:=λr s g H D I d=>
 gT (h r s g H D (I.wish _) d) (λ_ _ q=>q.unwish) λ_ _ z=>kf z
end
section
variable {X:Cx}{gq:List Stmt}{t u:TS}{te:TE}
def xn:TS:=λD g H=>D.nx g H
def tSeq(t u:TS):TS:=λD g H=>t { D with nx:=u D } g H
def JW:SS X [] xn:=λ_ _ g H _ I h=>lc ⟨g,H,I,h⟩
def Mf(h1:PS X st t)(F:SS X gq u):SS X (st::gq) (tSeq t u):=by
 intro r s g H D I h;refine lh (mr (h1 r s g H { D with nx:=u D } I h) λf z q=>?_);cases f with
 |next=>
  obtain⟨d,G,J,q⟩:=q;exact F r z d G D J q
 |ret v=>exact q
 |brk=>exact q
 |cont=>exact q
def TV(h1:PS X st t):SS X [st] t:=by
 intro r s g H D I h;refine lh (mr (h1 r s g H D I h) λf z q=>?_);cases f with
 |next=>exact lc q
 |ret v=>exact q
 |brk=>exact q
 |cont=>exact q
def Inv.quiet{g:St}{H:Hp}(I:Inv X π g H s):interactive X.env=ZA:=by simp[interactive,I.ok.kind]
def xr(te:TE):TS:=λD g H=>te g H λ_ z=>D.nx g z
def TX(G:PE X e te)(hs:fw e E2 pos.line X.env=pure ZA:=by rfl):PS X (.Expr e pos) (xr te):=by
 intro r s g H D I h;exact wpAny_Expr_any (mr (G r s g H _ I h) (by rintro v F ⟨x,z,d,J,q1⟩;exact ⟨g,z,d,q1⟩)) I.quiet hs
def tRet(te:TE):TS:=λD g H=>te g H D.rt
def cG(d:PE X e te):PS X (.Return (W1 e) pos) (tRet te):=by
 intro r s g H D I h;exact zz (mr (d r s g H _ I h) (by rintro v J ⟨x,F,z,G,q1⟩;exact ⟨x,g,F,z,G,q1⟩))
def tIfS(c:TT)(t u:TS):TS:=λD g H=>c g H λb z=>if b=E3 then t D g z else u D g z
def cH{c:Expr}{a b:List Stmt}{tc:TT}(G:PT X c tc)(L:SS X a t)(J:SS X b u):PS X (.If c a b pos) (tIfS tc t u):=by
 intro r s g H D I h;refine vE (mr (G r s g H _ I h) λd z q0=>?_);obtain⟨F,v,q1⟩:=q0;cases d with
 |true=>exact L r z g F D v q1
 |false=>exact J r z g F D v q1
end
abbrev TG:=V->St->Hp->(St->Hp->Prop)->Prop
abbrev TGs:=List V->St->Hp->(St->Hp->Prop)->Prop
def PG(X:Cx)(d:Expr)(t:TG):Prop:=
 ∀(z:NI) (s:ah) (r:St) (H:Hp) (v:V) (u:ac) (Q:St->Hp->Prop),Inv X z r H s->cx v u->t v r H Q ->
  ag (ai X.prog X.w) X.A (ny d X.env u) (λ_ G=>∃g F,Inv X z g F G/\Q g F) X.xe s
def PGs(X:Cx)(ts:List Expr)(t:TGs):Prop:=
 ∀(r:NI) (s:ah) (g:St) (H:Hp) (vs:List V) (us:List ac) (Q:St->Hp->Prop),Inv X r g H s->cc vs us->t vs g H Q ->
  ag (ai X.prog X.w) X.A (assignInOrder ((iF ts X.env).map (·.2)) us) (λ_ z=>∃d v,Inv X r d v z/\Q d v) X.xe s
section
variable {X:Cx}
def Em(i:Nat):TG:=λv g H Q=>Q (g.set i (W1 v)) H
def mH(g:X.N.Nodup)(z:X.N[i]?=W1 x)(d:Loc X.env.scope x)(G:X.fn x=E3∨X.env.scope.names.lookup x=W1 .local :=by first | exact .inl rfl | exact .inr rfl | assumption):PG X (.Name x pos) (Em i):=by
 intro L s F H v u Q I r h;exact Cf (VH I g z d r (λO J=>⟨_,H,J,h⟩) G)
def gNil:TGs:=λvs g H Q=>vs=[]/\Q g H
def VJ(t:TG)(u:TGs):TGs:=λvs g H Q=>∃v r,vs=v::r/\t v g H λd z=>u r d z Q
def YC:PGs X [] gNil:=by
 intro d s g H F G Q I r h;obtain⟨e,h⟩:=h;subst e;cases r;exact assignInOrder_nil ⟨g,H,I,h⟩
def Qe{es:List Expr}{t:TG}{u:TGs}(h1:PG X e t)(G:PGs X es u)(hs:(iF (e::es) X.env).map (·.2)=ny e X.env::(iF es X.env).map (·.2):=by rfl):PGs X (e::es) (VJ t u):=by
 intro g s z H S T Q I r h;obtain⟨v,vr,J,h⟩:=h;subst J;cases r with
 |cons r rr=>
  rw[hs];refine assignInOrder_cons (mr (h1 g s z H _ _ _ I r h) λ_ F q9=>?_);obtain⟨d,O,L,q1⟩:=q9;exact G g F d O _ _ Q L rr q1
def gTup(K:aI)(n:Nat)(t:TGs):TG:=λv g H Q=>∃a xs,v=.ref a/\Nn K H a xs/\xs.length=n/\t xs g H Q
theorem cI{es:List Expr}{k:Nat}{t:TGs}(W:X.calm=E3)(h:PGs X es t)(U:(iF es X.env).length=n:=by rfl)(g:(iF es X.env).findIdx? (·.1)=E2:=by rfl):PG X (.Tuple es k pos) (gTup X.K n t):=by
 intro F s z H v u Q I r d;obtain⟨a,J,e1,T,Y,d⟩:=d;subst e1;cases r;obtain⟨L,G,S,hz⟩:=I.tuple T;refine assign_Tuple_tuple (I.ok.hd W) S (by simp[U,<-Y,G.length]) g λZ O=>?_;have I1:Inv X F z H { s with heap:=Z }:=I.kept (t':=s.toks) λb o e=>O b o (bX (bv e)) e;exact h F _ z H J _ Q I1 (by simpa using G) d
def Wp(te:TE)(g:TG):TS:=λD d H=>te d H λx z=>g x d z D.nx
def uY{te:TE}{g:TG}(J:PE X e te)(U:PG X tg g)(hs:swapsWithSole [tg] e pos.line X.env=pure ZA:=by rfl)(F:swappedStores [tg] e X.env=pure E2:=by rfl)(h1:(iF [tg] X.env).map (·.2)=[ny tg X.env]:=by rfl):PS X (.Assign [tg] e pos) (Wp te g):=by
 intro r s d H D I h;refine wpAny_Assign_stores (mr (J r s d H _ I h) λv z p0=>?_) hs F;obtain⟨x,O,L,G,q1⟩:=p0;rw[h1];exact mr (U r z d O x v _ L G q1) λ_ S q=>q
def Wx{te:TE}(L:X.N.Nodup)(z:X.N[i]?=W1 x)(d:Loc X.env.scope x)(J:PE X e te)(hs:fw e (W1 (.Name x pos')) pos.line X.env=pure ZA:=by rfl)(F:X.fn x=E3∨X.env.scope.names.lookup x=W1 .local :=by first | exact .inl rfl | exact .inr rfl | assumption):
  PS X (.Assign [.Name x pos'] e pos) (Wp te (Em i)):=by
 intro r s g H D I h;refine wpAny_Assign_Name (mr (J r s g H _ I h) λv W p9=>?_) hs;obtain⟨y,T,S,G,q1⟩:=p9;exact VH S L z d G (λU O=>⟨_,T,O,q1⟩) F
end
structure It where
 go:Nat->Hp->Prop
 yld:Nat->Hp->V->Hp->Prop
 stop:Nat->Hp->Prop
def To(X:Cx)(r:NI)(H:Hp)(b:Addr):Prop:=
 H b=E2/\b≠X.env.locals/\b∉X.fs/\(b∈X.ex∨X.s₀.heap.objs.size<=b)/\(∀x c,X.env.cells.lookup x=W1 c->c≠b)/\∀p∈X.pn++r,p.1≠b
def Inv.fpOk{X:Cx}{r:St}{H g:Hp}(I:Inv X π r H s)(d:s.heap.objs.size<=b)(G:g b=E2):To X π g b:=by
 refine⟨G,nE (eK I.lt d),I.nofs d,.inr (cy I.sz d),λx c e z=>?_,λp F z=>?_⟩
 .obtain⟨v,q⟩:=I.cell x c e;exact SF (eK q.lt (by rw[z];exact d)) (iE _)
 .exact SF (eK (bv (I.pin p F).1) (by rw[z];exact d)) (iE _)
structure VQ (P:d3) (w:ca) (K:aI) (tg:Expr) (J:It) (fp:List Addr) (it:Addr) (tn:Nat->Heap->Prop):Prop where
 mem:it∈fp
 obj:∀i h,tn i h->∀b∈fp,∃o,h.get? b=W1 o/\∀v,o.data≠.cell v
 keep:∀i h h',tn i h->(∀b∈fp,∀o,h.get? b=W1 o->h'.get? b=W1 o)->tn i h'
 item:∀(X:Cx),X.prog=P->X.w=w->X.K=K->X.calm=E3->∀(i:Nat) (π:NI) (s:ah) (σ:St) (H:Hp) (E:ac->ah->Prop),Inv X π σ H s->(∀b∈fp,To X π H b)->tn i s.heap->J.go i H ->
  ag (ai P w) X.A (gg (.ref it)) (λr s1=>∃u,r=W1 u ∧
   ag (ai P w) X.A (zC tg (.ref it) u) (λ_ s2=>∃x H',Inv X π σ H' s2/\cx x u/\J.yld i H x H'/\tn (i+1) s2.heap/\∀b∈fp,H' b=E2) E s1) E s
 done:∀(X:Cx),X.prog=P->X.w=w->X.K=K->X.calm=E3->∀(i:Nat) (π:NI) (s:ah) (σ:St) (H:Hp) (E:ac->ah->Prop),Inv X π σ H s->(∀b∈fp,To X π H b)->tn i s.heap->J.stop i H ->
  ag (ai P w) X.A (gg (.ref it)) (λr s1=>r=E2/\Inv X π σ H s1) E s
 self:∀(A:aS) (i:Nat) (s:ah) (Q:ac->ah->Prop) (E:ac->ah->Prop),tn i s.heap->Q (.ref it) s->ag (ai P w) A (nI (.ref it)) Q E s
abbrev TI:=St->Hp->(It->Hp->Prop)->Prop
def PIE(X:Cx)(r:NI)(z:St)(tg:Expr)(R:It->Hp->Prop)(d:ac)(S:ah):Prop:=
 ∃(it:Addr) (fp:List Addr) (v:Nat->Heap->Prop) (J:It) (g:Hp),d=.ref it/\Inv X r z g S/\VQ X.prog X.w X.K tg J fp it v/\v 0 S.heap/\(∀b∈fp,To X r g b)/\R J g
def PI(X:Cx)(tg d:Expr)(z:TI):Prop:=
 ∀(r:NI) (s:ah) (g:St) (H:Hp) (R:It->Hp->Prop),Inv X r g H s->z g H R ->
  ag (ai X.prog X.w) X.A (eval d X.env) (λv F=>ag (ai X.prog X.w) X.A (nI v) (PIE X r g tg R) X.xe F) X.xe s
def VL{A:aS}{n:String}{vs:Array ac}{Q:Unit->ah->Prop}(v:s.heap.get? it=W1 o)(I:o.cls=.type n)(z:o.data=.fields vs)(d:["enumerate","zip","dict_itemiterator","dict_reverseitemiterator","odict_iterator","itertools.zip_longest","itertools.pairwise"].contains n=ZA)(r:Q () s):ag M A (zC tg (.ref it) u) Q E s:=by
  unfold zC;cases tg<;>first
    |exact av r
    | (cases u<;>first
        |exact av r
        | (refine ae (vS v ?_)
           rw[I,z];show ag M A (if (["enumerate","zip","dict_itemiterator","dict_reverseitemiterator","odict_iterator","itertools.zip_longest","itertools.pairwise"].contains n&&vs[0]?==W1 (eP _))=E3 then _ else _) Q E s;rw[RF (by intro h;rw[d,zD] at h;cases h)];exact av r))
def Itl(K:aI)(a:Addr):It:=
 ⟨λi H=>∃xs x,MR K H a xs/\xs[i]?=W1 x,λi H x d=>d=H/\∀xs,MR K H a xs->xs[i]?=W1 x,λi H=>∃xs,MR K H a xs/\xs.length<=i⟩
def Itt(K:aI)(a:Addr):It:=
 ⟨λi H=>∃xs x,Nn K H a xs/\xs[i]?=W1 x,λi H x d=>d=H/\∀xs,Nn K H a xs->xs[i]?=W1 x,λi H=>∃xs,Nn K H a xs/\xs.length<=i⟩
def Itr(r:Int)(n:Nat):It:=⟨λi _=>i<n,λi H x d=>d=H/\x=.int (r+i),λi _=>n<=i⟩
theorem aM{K:aI}(a it:Addr):VQ P w K tg (Itl K a) [it] it (λi h=>h.IsListIter it a i) where
 mem:=by simp
 obj:=λi h U b g=>by
  have e:b=it:=by simpa using g
  subst e;obtain⟨o,e,c,d⟩:=U;exact⟨o,e,λv z=>by rw[d] at z;cases z⟩
 keep:=λi h J U k=>U.at λo e=>k it (by simp) o e
 item:=by
  intro X hP S Y hc i π s σ H E I G U W;subst hP S Y;obtain⟨xs,x,T,O⟩:=W;obtain⟨L,F,p,hz⟩:=I.list T;obtain⟨u,hu,ru⟩:=F.get O;obtain⟨f0,f1,f2,f3,f4,Z⟩:=G it (by simp);refine FY U p.isList (x:=u) (by simpa using hu) λJ r sb=>?_;have I1:Inv X π σ H { s with heap:=J }:=I.turned (t':=s.toks) (λb o g e=>(sb.2 b g).trans e) f0 f1 f3 f4 Z;obtain⟨o,e,c,d⟩:=id r;exact⟨u,rfl,VL (s:={ s with heap:=J }) e c d (by decide) ⟨x,H,I1,ru,⟨rfl,λys hy=>by rw[I.list_inj hy T];exact O⟩,r,λb g=>(G b g).1⟩⟩
 done:=by
  intro X hP S Y hc i π s σ H E I G U W;subst hP S Y;obtain⟨xs,T,O⟩:=W;obtain⟨L,F,p,hz⟩:=I.list T;obtain⟨f0,f1,f2,f3,f4,Z⟩:=G it (by simp);have hl:=F.length;exact G0 (I.ok.hd hc) U p.isList (by simp;omega) λJ eb=>⟨rfl,I.turned (t':=s.toks) (λb o g e=>eb b o g e) f0 f1 f3 f4 Z⟩
 self:=λ_ _ _ _ _ U h=>wpAny_pyIter_listiter U h
theorem Wy{K:aI}(a it:Addr):VQ P w K tg (Itt K a) [it] it (λi h=>h.IsTupleIter it a i) where
 mem:=by simp
 obj:=λi h U b r=>by
  have e:b=it:=by simpa using r
  subst e;obtain⟨o,e,c,d⟩:=U;exact⟨o,e,λv z=>by rw[d] at z;cases z⟩
 keep:=λi h J U k=>U.at λo e=>k it (by simp) o e
 item:=by
  intro X hP S Y hc i π s σ H E I G U W;subst hP S Y;obtain⟨xs,x,T,O⟩:=W;obtain⟨g,L,p,hz⟩:=I.tuple T;obtain⟨u,hu,ru⟩:=L.get O;obtain⟨f0,f1,f2,f3,f4,Z⟩:=G it (by simp);refine wpAny_pyNext_tuple_item U (show s.heap.IsTuple a g.toArray from p) (x:=u) (by simpa using hu) λJ F sb=>?_;have I1:Inv X π σ H { s with heap:=J }:=I.turned (t':=s.toks) (λb o r e=>(sb.2 b r).trans e) f0 f1 f3 f4 Z;obtain⟨o,e,c,d⟩:=id F;exact⟨u,rfl,VL (s:={ s with heap:=J }) e c d (by decide) ⟨x,H,I1,ru,⟨rfl,λys hy=>by rw[I.tuple_inj hy T];exact O⟩,F,λb r=>(G b r).1⟩⟩
 done:=by
  intro X hP S Y hc i π s σ H E I G U W;subst hP S Y;obtain⟨xs,T,O⟩:=W;obtain⟨g,L,p,hz⟩:=I.tuple T;obtain⟨f0,f1,f2,f3,f4,Z⟩:=G it (by simp);have hl:=L.length;exact wpAny_pyNext_tuple_end (I.ok.hd hc) U (show s.heap.IsTuple a g.toArray from p) (by simp;omega) λJ eb=>⟨rfl,I.turned (t':=s.toks) (λb o r e=>eb b o r e) f0 f1 f3 f4 Z⟩
 self:=λ_ _ _ _ _ U h=>wpAny_pyIter_tupleiter U h
theorem Wz{K:aI}(it:Addr)(g:Int)(n:Nat):VQ P w K tg (Itr g n) [it] it (λi h=>IsRangeIter h it (g+(i:Nat)*1) ((n:Int)-(i:Nat)) 1) where
 mem:=by simp
 obj:=λi h U b d=>by
  have e:b=it:=by simpa using d
  subst e;exact⟨_,U,λv z=>by
   have z':Co _=Ct v:=z;cases z'⟩
 keep:=λi h J U k=>k it (by simp) _ U
 item:=by
  intro X hP F Y O i π s σ H E I G U L;subst hP F Y;obtain⟨f0,f1,f2,T,S,Z⟩:=G it (by simp);have W:=Walks.range (prog:=X.prog) (w:=X.w) (I.ok.hd O) it g 1 n;refine W.item i s _ _ L U λv J tk hv r kk=>?_;obtain⟨t,rfl⟩:=hv;have I1:Inv X π σ H { s with heap:=J,toks:=tk }:=I.turned (λb o d e=>kk b o (by simpa using d) e) f0 f1 T S Z;refine⟨_,rfl,VL (s:={ s with heap:=J,toks:=tk }) (n:="range_iterator") r rfl rfl (by decide) ⟨.int (g+i),H,I1,⟨t,?_⟩,⟨rfl,rfl⟩,r,λb d=>(G b d).1⟩⟩;rw[Int.mul_one]
 done:=by
  intro X hP F Y O i π s σ H E I G U L;subst hP F Y;obtain⟨f0,f1,f2,T,S,Z⟩:=G it (by simp);exact wpAny_pyNext_range_end (I.ok.hd O) U (by have:n<=i:=L;omega) λJ eb=>⟨rfl,I.turned (t':=s.toks) (λb o d e=>eb b o d e) f0 f1 T S Z⟩
 self:=λ_ _ _ _ _ U h=>wpAny_pyIter_rangeiter U h
section
variable {X:Cx}
def xu(K:aI)(d:TE):TI:=λg H R=>d g H λx z=>∃a,x=.ref a/\(∃xs,MR K z a xs)/\R (Itl K a) z
def iTup(K:aI)(d:TE):TI:=λg H R=>d g H λx z=>∃a,x=.ref a/\(∃xs,Nn K z a xs)/\R (Itt K a) z
theorem TY{l:Expr}{g:TE}(Y:PE X l g):PI X tg l (xu X.K g):=by
 intro F s r H R I h;refine mr (Y F s r H _ I h) λv z q0=>?_;obtain⟨x,O,d,G,q1⟩:=q0;obtain⟨a,e,⟨S,T⟩,q⟩:=q1;subst e;cases G;obtain⟨J,U,p,W⟩:=d.list T;refine zI p.isList ?_;refine⟨z.heap.objs.size,[z.heap.objs.size],_,_,O,rfl,d.kept (t':=z.toks) λb o e=>bg _ e,aM a _,⟨_,cp _ rfl,rfl,rfl⟩,λb L=>?_,q⟩;have e:b=z.heap.objs.size:=by simpa using L
 subst e;exact d.fpOk (aE _) (d.hok.fresh (aE _))
theorem uZ{l:Expr}{r:TE}(Y:PE X l r):PI X tg l (iTup X.K r):=by
 intro G s F H R I h;refine mr (Y G s F H _ I h) λv z q9=>?_;obtain⟨x,O,d,J,q1⟩:=q9;obtain⟨a,e,⟨S,T⟩,q⟩:=q1;subst e;cases J;obtain⟨g,U,p,W⟩:=d.tuple T;refine vT (show z.heap.IsTuple a g.toArray from p) ?_;refine⟨z.heap.objs.size,[z.heap.objs.size],_,_,O,rfl,d.kept (t':=z.toks) λb o e=>bg _ e,Wy a _,⟨_,cp _ rfl,rfl,rfl⟩,λb L=>?_,q⟩;have e:b=z.heap.objs.size:=by simpa using L
 subst e;exact d.fpOk (aE _) (d.hok.fresh (aE _))
theorem cJ{g:St}{H:Hp}{R:It->Hp->Prop}{lo z:Int}{t u v:Tok}{tk:Nat}(I:Inv X π g H s)(h1 : -(2^62)<=lo)(G:lo<2^62)(S : -(2^62)<=z)(F:z<2^62)(q:R (Itr lo (z-lo).toNat) H):ag (ai X.prog X.w) X.A (nI (.ref s.heap.objs.size)) (PIE X π g tg R) E { s with heap:=s.heap.push { cls:=.type "range",data:=.fields #[.int lo t,.int z u,.int 1 v] },toks:=tk }:=by
 refine wpAny_pyIter_range (IsRange.new ..) (small_one h1 G S F) ?_;have d:Inv X π g H { s with heap:=s.heap.push { cls:=.type "range",data:=.fields #[.int lo t,.int z u,.int 1 v] },toks:=tk }:=I.kept λb o e=>bg _ e;refine⟨(s.heap.push { cls:=.type "range",data:=.fields #[.int lo t,.int z u,.int 1 v] }).objs.size,[(s.heap.push { cls:=.type "range",data:=.fields #[.int lo t,.int z u,.int 1 v] }).objs.size],_,_,H,rfl,
  d.kept (t':=tk) λb o e=>bg _ e,Wz _ lo (z-lo).toNat,?_,λb r=>?_,q⟩
 .have L:lo+((0:Nat):Int)*1=lo:=by simp
  have J:(((z-lo).toNat:Nat):Int)-((0:Nat):Int)=G1 lo z 1:=by rw[rangeSize_one];split<;>omega
  show IsRangeIter _ _ (lo+((0:Nat):Int)*1) ((((z-lo).toNat:Nat):Int)-((0:Nat):Int)) 1;rw[L,J];exact cp _ rfl
 .have e:b=(s.heap.push { cls:=.type "range",data:=.fields #[.int lo t,.int z u,.int 1 v] }).objs.size:=by simpa using r
  subst e;exact d.fpOk (aE _) (d.hok.fresh (aE _))
def xx(r:TA):TI:=λg H R=>r g H λvs z=>∃j:Int,vs=[.int j]/\-(2^62)<=j/\j<2^62/\R (Itr 0 j.toNat) z
def aN{a:Expr}{d:TA}{p:Pos}(U:Gl X "range")(z:X.mg "range"=E2)(F:PA X [a] d)(hs:ay [a] X.env=[(ZA,eval a X.env)]:=by rfl):PI X tg (.Call (.Name "range" p) [a] [] pos) (xx d):=by
 intro v s g H R I h;refine Call_ (N6 I U z boot_range (CA (mr (F pos v s g H _ I h) λO S p0=>?_) hs rfl));obtain⟨L,T,J,G,q1⟩:=p0;obtain⟨j,e,q1,q2,q⟩:=q1;subst e;cases G with
 |cons r rr=>
  cases rr;obtain⟨t,rfl⟩:=r;exact call_range_1 (cJ J (by omega) (by omega) q1 q2 (by simpa using q))
def tFor(F:TI)(g:TG)(G:TS):TS:=λD d H=>F d H λJ L=>∃W:Nat->Nat->St->Hp->Prop,(∃m,W 0 m d L)/\∀i m d H,W i m d H ->
 (J.stop i H/\D.nx d H)∨(J.go i H/\∃N:St->Hp->Prop,(∀r v,N r v->∃U,U<m/\W (i+1) U r v)/\∀x v,J.yld i H x v->g x d v λz I=>G { D with nx:=N,ct:=N,bk:=D.nx } z I)
def Qf(fp:List Addr)(h:Heap):List (Addr×Obj):=fp.filterMap λb=>(h.get? b).map λo=>(b,o)
def JX(H:b∈fp)(e:h.get? b=W1 o):(b,o)∈Qf fp h:=Gc.mpr ⟨b,H,by rw[e];rfl⟩
def aO{p:Addr×Obj}(r:p∈Qf fp h):p.1∈fp/\h.get? p.1=W1 p.2:=by
 obtain⟨b,H,e⟩:=Gc.mp r;cases q:h.get? b with
 |none=>rw[q] at e;cases e
 |some o=>
  rw[q] at e;have O:(b,o)=p:=eJ e;subst O;exact⟨H,q⟩
def Inv.pinned{g:St}{H:Hp}(I:Inv X π g H s)(J:∀b∈fp,To X π H b)(G:∀b∈fp,∃o,s.heap.get? b=W1 o/\∀v,o.data≠.cell v):Inv X (π++Qf fp s.heap) g H s:=
 I.pins_of λp F=>(dQ.mp F).elim (λz=>I.pin p (gX _ z)) λz=>by
  obtain⟨r,e⟩:=aO z;obtain⟨T,S,L,_⟩:=J p.1 r;obtain⟨o,O,d⟩:=G p.1 r;rw[e] at O;cases O;exact⟨e,T,S,L,d⟩
def Inv.unpinned{pl:NI}{g:St}{H:Hp}(I:Inv X (π++pl) g H s):Inv X π g H s:=I.pins_of λp r=>I.pin p (gX _ (kG _ r))
def Tc{O:Expr}{wi:TI}{g:TG}{tb:TS}(hp:w9 (ai X.prog X.w) X.A X.env X.xe)(hc:X.calm=E3)(hi:PI X tg O wi)(hg:PG X tg g)(S:SS X body tb)(hs:∀x,kH O X.env x=pure x:=by intro _;rfl):PS X (.For tg O body [] pos) (tFor wi g tb):=by
 intro π s σ H D I h;refine wpAny_For (mr (hi π s σ H _ I h) λv s1 h1=>mr h1 λX1 s2 h2=>?_) hs;obtain⟨it,fp,tn,J,H2,e,I2,T,P1,f2,W,⟨m0,w0⟩,O0⟩:=h2;subst e;have L:∀{H':Hp},(∀b∈fp,H' b=E2)->∀b∈fp,To X π H' b:=λhn b S=>⟨hn b S,(f2 b S).2⟩;refine codeAny_forLoop_any (λn s'=>∃i G H',Inv X π G H' s'/\tn i s'.heap/\(∀b∈fp,H' b=E2)/\W i n G H') ?_ m0 ⟨0,σ,H2,I2,P1,λb S=>(f2 b S).1,w0⟩;rintro n s3 ⟨i,F,H3,I3,T0,X0,w3⟩
 rcases O0 i n F H3 w3 with ⟨S0,qn⟩ | ⟨go,N,hN,step⟩
 .refine wa hp (mr (T.done X rfl rfl rfl hc i π s3 F H3 X.xe I3 (L X0) T0 S0) λr s4 p9=>?_);obtain⟨hr,I4⟩:=p9;subst hr;exact lc ⟨F,H3,I4,qn⟩
 .refine wa hp (mr (T.item X rfl rfl rfl hc i π s3 F H3 X.xe I3 (L X0) T0 go) λr s4 g0=>?_);obtain⟨u,hr,h4⟩:=g0;subst hr;refine wa hp (mr h4 λ_ s5 g9=>?_);obtain⟨x,H5,I5,r5,y5,N0,S1⟩:=g9;have U1:=I5.pinned (L S1) (T.obj _ _ N0);refine wa hp (mr (hg _ s5 F H5 x u _ U1 r5 (step x H5 y5)) λ_ s6 u0=>?_);obtain⟨N1,H6,I6,q6⟩:=u0;refine wa hp (mr (S _ s6 N1 H6 _ I6 q6) λf s7 q7=>?_);have U:∀{z:St}{Z:Hp},Inv X (π++Qf fp s5.heap) z Z s7->N z Z->∃m,m<n/\∃i G H',Inv X π G H' s7/\tn i s7.heap/\(∀b∈fp,H' b=E2)/\W i m G H':=λ{z Z} Y n7=>by
   obtain⟨m',hm,w7⟩:=hN z Z n7;refine⟨m',hm,i+1,z,Z,Y.unpinned,T.keep _ _ _ N0 λb S o e=>(Y.pin (b,o) (gX _ (gX _ (JX S e)))).1,λb S=>?_,w7⟩;obtain⟨o,e,d⟩:=T.obj _ _ N0 b S;exact (Y.pin (b,o) (gX _ (gX _ (JX S e)))).2.1
  cases f with
  |next=>obtain⟨z,Z,Y,n7⟩:=q7;exact U Y n7
  |cont=>obtain⟨z,Z,Y,n7⟩:=q7;exact U Y n7
  |brk=>obtain⟨z,Z,Y,q7⟩:=q7;exact⟨z,Z,Y.unpinned,q7⟩
  |ret v=>obtain⟨x7,z,Z,Y,r7,q7⟩:=q7;exact⟨x7,z,Z,Y.unpinned,r7,q7⟩
end
abbrev R2:=V->V->Hp->VK->Prop
def NH(X:Cx)(f:ac->ac->Sem ac)(r:R2):Prop:=
 ∀(d:NI) (s:ah) (g:St) (H:Hp) (x y:V) (v u:ac) (Q:VK),Inv X d g H s->cx x v->cx y u->r x y H Q ->
  ag (ai X.prog X.w) X.A (f v u) (EP X d g Q) X.xe s
def CN(X:Cx)(f:ac)(r:List V->Hp->VK->Prop):Prop:=
 ∀(d:NI) (s:ah) (g:St) (H:Hp) (xs:List V) (us:List ac) (Q:VK),Inv X d g H s->cc xs us->r xs H Q ->
  ag (ai X.prog X.w) X.A (call f us) (EP X d g Q) X.xe s
def TruR(X:Cx)(r:V->Hp->(Bool->Hp->Prop)->Prop):Prop:=
 ∀(d:NI) (s:ah) (g:St) (H:Hp) (x:V) (v:ac) (Q:Bool->Hp->Prop),Inv X d g H s->cx x v->r x H Q ->
  ag (ai X.prog X.w) X.A (truthy v) (TP X d g Q) X.xe s
def tOp(r:R2)(v d:TE):TE:=λg H Q=>v g H λx F=>d g F λy z=>r x y z Q
def rI(C:Int->Int->Prop)(g:Int->Int->V):R2:=λx y H Q=>∃i j,x=.int i/\y=.int j/\C i j/\Q (g i j) H
def rI0(g:Int->Int->V):R2:=λx y H Q=>∃i j,x=.int i/\y=.int j/\Q (g i j) H
section
variable {X:Cx}{a b:Expr}{ta tb:TE}
def binT(W:PE X a ta)(U:PE X b tb){z:NI}{s:ah}{g:St}{H:Hp}{R:V->V->Hp->Prop}(I:Inv X z g H s)(h:ta g H λx G=>tb g G λy d=>R x y d){Q:ac->ah->Prop}{f:ac->ac->Sem ac}(T:∀v u S x y d,Inv X z g d S->cx x v->cx y u->R x y d->ag (ai X.prog X.w) X.A (f v u) Q X.xe S):
  ag (ai X.prog X.w) X.A (eval a X.env) (λv r=>ag (ai X.prog X.w) X.A (eval b X.env) (λu F=>ag (ai X.prog X.w) X.A (f v u) Q X.xe F) X.xe r) X.xe s:=by
 refine mr (W z s g H _ I h) λv J v0=>?_;obtain⟨x,G,Z,O,q1⟩:=v0;refine mr (U z J g G _ Z q1) λu S y0=>?_;obtain⟨y,d,Y,L,q2⟩:=y0;exact T v u S x y d Y O L q2
def x_{op:Operator}{r:R2}(F:NH X (kg op) r)(J:PE X a ta)(G:PE X b tb):PE X (.BinOp a op b pos) (tOp r ta tb):=by
 intro d s g H Q I h;exact wpAny_BinOp (binT J G I h λv u S x y L O rx z q=>F d S g L x y v u Q O rx z q)
def opI{f:ac->ac->Sem ac}{C:Int->Int->Prop}{g:Int->Int->Int}(d:∀(i j:Int) (t u:Tok) (s:ah) (Q:ac->ah->Prop) (E:ac->ah->Prop),C i j->Q (.int (g i j) s.toks) { s with toks:=s.toks+1 }->ag (ai X.prog X.w) X.A (f (.int i t) (.int j u)) Q E s):
  NH X f (rI C λi j=>.int (g i j)):=by
 intro J s G H x y v u Q I rx z h;obtain⟨i,j,rfl,rfl,F,q⟩:=h;obtain⟨t,rfl⟩:=rx;obtain⟨r,rfl⟩:=z;exact d i j t r s _ _ F ⟨.int (g i j),H,I.tok _,⟨_,rfl⟩,q⟩
def opI0{f:ac->ac->Sem ac}{g:Int->Int->Int}(d:∀(i j:Int) (t u:Tok) (s:ah) (Q:ac->ah->Prop) (E:ac->ah->Prop),Q (.int (g i j) s.toks) { s with toks:=s.toks+1 }->ag (ai X.prog X.w) X.A (f (.int i t) (.int j u)) Q E s):
  NH X f (rI0 λi j=>.int (g i j)):=by
 intro G s F H x y v u Q I rx z h;obtain⟨i,j,rfl,rfl,q⟩:=h;obtain⟨t,rfl⟩:=rx;obtain⟨r,rfl⟩:=z;exact d i j t r s _ _ ⟨.int (g i j),H,I.tok _,⟨_,rfl⟩,q⟩
def opB0{f:ac->ac->Sem ac}{g:Int->Int->Bool}(d:∀(i j:Int) (t u:Tok) (s:ah) (Q:ac->ah->Prop) (E:ac->ah->Prop),Q (.bool (g i j)) s->ag (ai X.prog X.w) X.A (f (.int i t) (.int j u)) Q E s):
  NH X f (rI0 λi j=>.bl (g i j)):=by
 intro G s F H x y v u Q I rx z h;obtain⟨i,j,rfl,rfl,q⟩:=h;obtain⟨t,rfl⟩:=rx;obtain⟨r,rfl⟩:=z;exact d i j t r s _ _ ⟨.bl (g i j),H,I,rfl,q⟩
def CDiv(i j:Int):Prop:=0<j/\j<1073741824
def CPow(i j:Int):Prop:=0<=j/\j<=1000000/\i.natAbs<2^64
def CMul(i j:Int):Prop:=(-(2^64)<i/\i<2^64)∨(-(2^64)<j/\j<2^64)
def CMul.ok{i j:Int}(h:CMul i j):IntMulOk i j:=by
 rcases h with ⟨g,d⟩ | ⟨g,d⟩
 .exact .of_left (intBits_le_64 g d)
 .exact .of_right (intBits_le_64 g d)
def uc:NH X (kg .Add) (rI0 λi j=>.int (i+j)):=opI0 λ_ _ _ _ _ _ _ q=>add_int q
def ud:NH X (kg .Sub) (rI0 λi j=>.int (i-j)):=opI0 λ_ _ _ _ _ _ _ q=>sub_int q
def mJ:NH X (kg .FloorDiv) (rI CDiv λi j=>.int (i/j)):=opI λi j _ _ _ _ _ I q=>by
 have g:(0:Int)<j:=I.1;have d:j<1073741824:=I.2;exact floordiv_int (by omega) (by rw[Int.fdiv_eq_ediv_of_nonneg i (by omega)];exact q) (.inl (PyProof.noPylong_small (by omega)))
def ue:NH X (kg .Mod) (rI (λ_ j=>0<j) λi j=>.int (i%j)):=opI λi j _ _ _ _ _ I q=>by
 have g:(0:Int)<j:=I;exact mod_int' (by omega) (by rw[Int.fmod_eq_emod_of_nonneg i (by omega)];exact q)
end
def scal:V->V->Bool
 |.non,.non=>E3 | .non,.int _=>E3 | .int _,.non=>E3 | .non,.bl _=>E3 | .bl _,.non=>E3 | .non,.str _=>E3 | .str _,.non=>E3
 |.int _,.int _=>E3 | .bl _,.bl _=>E3 | .str _,.str _=>E3 | .byt _,.byt _=>E3
 |.int _,.str _=>E3 | .str _,.int _=>E3 | .bl _,.str _=>E3 | .str _,.bl _=>E3
 |_,_=>ZA
def rEq:R2:=λx y H Q=>scal x y=E3/\Q (.bl (decide (x=y))) H
def rNe:R2:=λx y H Q=>scal x y=E3/\Q (.bl (!decide (x=y))) H
def YD{i j:Int}:decide (V.int i=V.int j)=(i==j):=by
 rw[ib];simp
def cL{i j:Bool}:decide (V.bl i=V.bl j)=(i==j):=by
 rw[ib];simp
def YF{i j:Str}:decide (V.str i=V.str j)=(i==j):=by
 rw[ib];simp
def YG{i j:Array UInt8}:decide (V.byt i=V.byt j)=(i.toList==j.toList):=by
 rw[ib];cases i;cases j;simp
section
variable {X:Cx}{a b c:Expr}{ta tb tc:TE}
def BK{g:St}{H:Hp}{Q:VK}{k d:Bool}(I:Inv X π g H s)(q:Q (.bl k) H)(e:k=d):EP X π g Q (.bool d) s:=by
 subst e;exact⟨.bl k,H,I,rfl,q⟩
def yC:NH X (dA .Eq) rEq:=by
 intro r s g H x y v u Q I rx z h;obtain⟨hs,q⟩:=h;cases x with
 |non=>
  cases rx;cases y with
  |non=>cases z;exact PySem.EqNone.eq_none_none (BK I q (by simp))
  |bl j=>cases z;exact PySem.EqNone.eq_none_bool (BK I q (by simp))
  |int j=>obtain⟨d,rfl⟩:=z;exact PySem.EqNone.eq_none_int (BK I q (by simp))
  |str j=>obtain⟨d,rfl⟩:=z;exact PySem.EqNone.eq_none_str (BK I q (by simp))
  |_=>exact SF (show ZA=E3 from hs) df
 |bl i=>
  cases rx;cases y with
  |non=>cases z;exact PySem.EqNone.eq_bool_none (BK I q (by simp))
  |bl j=>cases z;exact eq_bool (BK I q cL)
  |str j=>obtain⟨d,rfl⟩:=z;exact PySem.EqMixed.eq_bool_str (BK I q (by simp))
  |_=>exact SF (show ZA=E3 from hs) df
 |int i=>
  obtain⟨t,rfl⟩:=rx;cases y with
  |non=>cases z;exact PySem.EqNone.eq_int_none (BK I q (by simp))
  |int j=>obtain⟨d,rfl⟩:=z;exact eq_int (BK I q YD)
  |str j=>obtain⟨d,rfl⟩:=z;exact PySem.EqMixed.eq_int_str (BK I q (by simp))
  |_=>exact SF (show ZA=E3 from hs) df
 |str i=>
  obtain⟨t,rfl⟩:=rx;cases y with
  |non=>cases z;exact PySem.EqNone.eq_str_none (BK I q (by simp))
  |bl j=>cases z;exact PySem.EqMixed.eq_str_bool (BK I q (by simp))
  |int j=>obtain⟨d,rfl⟩:=z;exact PySem.EqMixed.eq_str_int (BK I q (by simp))
  |str j=>obtain⟨d,rfl⟩:=z;exact eq_str (BK I q YF)
  |_=>exact SF (show ZA=E3 from hs) df
 |byt i=>
  obtain⟨t,rfl⟩:=rx;cases y with
  |byt j=>obtain⟨d,rfl⟩:=z;exact PySem.W.eq_bytes (BK I q YG)
  |_=>exact SF (show ZA=E3 from hs) df
 |_=>cases y<;>exact SF (show ZA=E3 from hs) df
def yD:NH X (dA .NotEq) rNe:=by
 intro r s g H x y v u Q I rx z h;obtain⟨hs,q⟩:=h;cases x with
 |non=>
  cases rx;cases y with
  |non=>cases z;exact PySem.EqNone.ne_none_none (BK I q (by simp))
  |bl j=>cases z;exact PySem.EqNone.ne_none_bool (BK I q (by simp))
  |int j=>obtain⟨d,rfl⟩:=z;exact PySem.EqNone.ne_none_int (BK I q (by simp))
  |str j=>obtain⟨d,rfl⟩:=z;exact PySem.EqNone.ne_none_str (BK I q (by simp))
  |_=>exact SF (show ZA=E3 from hs) df
 |bl i=>
  cases rx;cases y with
  |non=>cases z;exact PySem.EqNone.ne_bool_none (BK I q (by simp))
  |bl j=>cases z;exact ne_bool (BK I q (NG not cL))
  |str j=>obtain⟨d,rfl⟩:=z;exact PySem.EqMixed.ne_bool_str (BK I q (by simp))
  |_=>exact SF (show ZA=E3 from hs) df
 |int i=>
  obtain⟨t,rfl⟩:=rx;cases y with
  |non=>cases z;exact PySem.EqNone.ne_int_none (BK I q (by simp))
  |int j=>obtain⟨d,rfl⟩:=z;exact ne_int (BK I q (NG not YD))
  |str j=>obtain⟨d,rfl⟩:=z;exact PySem.EqMixed.ne_int_str (BK I q (by simp))
  |_=>exact SF (show ZA=E3 from hs) df
 |str i=>
  obtain⟨t,rfl⟩:=rx;cases y with
  |non=>cases z;exact PySem.EqNone.ne_str_none (BK I q (by simp))
  |bl j=>cases z;exact PySem.EqMixed.ne_str_bool (BK I q (by simp))
  |int j=>obtain⟨d,rfl⟩:=z;exact PySem.EqMixed.ne_str_int (BK I q (by simp))
  |str j=>obtain⟨d,rfl⟩:=z;exact ne_str (BK I q (NG not YF))
  |_=>exact SF (show ZA=E3 from hs) df
 |byt i=>
  obtain⟨t,rfl⟩:=rx;cases y with
  |byt j=>obtain⟨d,rfl⟩:=z;exact PySem.W.ne_bytes (BK I q (NG not YG))
  |_=>exact SF (show ZA=E3 from hs) df
 |_=>cases y<;>exact SF (show ZA=E3 from hs) df
def qw:NH X (dA .Lt) (rI0 λi j=>.bl (decide (i<j))):=opB0 λ_ _ _ _ _ _ _ q=>lt_int q
def yE:NH X (dA .Gt) (rI0 λi j=>.bl (decide (j<i))):=opB0 λ_ _ _ _ _ _ _ q=>gt_int q
def yF:NH X (dA .GtE) (rI0 λi j=>.bl (decide (j<=i))):=opB0 λ_ _ _ _ _ _ _ q=>ge_int q
def aP:NH X (dA .In) (λx y H Q=>∃i j,x=.str i/\y=.str j/\Q (.bl (!(pc j i 0 j.length 1).isEmpty)) H):=by
 intro r s g H x y v u Q I rx z h;obtain⟨i,j,rfl,rfl,q⟩:=h;obtain⟨t,rfl⟩:=rx;obtain⟨d,rfl⟩:=z;exact in_str (BK I q rfl)
def Td:NH X (dA .NotIn) (λx y H Q=>∃i j,x=.str i/\y=.str j/\Q (.bl (!(!(pc j i 0 j.length 1).isEmpty))) H):=by
 intro r s g H x y v u Q I rx z h;obtain⟨i,j,rfl,rfl,q⟩:=h;obtain⟨t,rfl⟩:=rx;obtain⟨d,rfl⟩:=z;exact notIn_str (BK I q rfl)
def NH.or{f:ac->ac->Sem ac}{r L:R2}(h:NH X f r)(h':NH X f L):NH X f (λx y H Q=>r x y H Q∨L x y H Q):=by
 intro d s g H x y v u Q I rx z q
 rcases q with q | q
 .exact h d s g H x y v u Q I rx z q
 .exact h' d s g H x y v u Q I rx z q
def Jw(b:Expr){op:pd}(h:op≠.In:=by decide)(d:op≠.NotIn:=by decide):hZ op b=ZA:=by
 have r:(op==CmpOp.In)=ZA:=by cases op<;>first | rfl | exact SF rfl h
 have g:(op==CmpOp.NotIn)=ZA:=by cases op<;>first | rfl | exact SF rfl d
 cases b<;>simp[hZ,r,g]
def Te{op:pd}{r:R2}(F:NH X (dA op) r)(L:PE X a ta)(J:PE X b tb)(G:hZ op b=ZA):PE X (.Compare a [op] [b] pos) (tOp r ta tb):=by
 intro d s g H Q I h;exact wpAny_Compare1 (binT L J I h λv u S x y T O rx z q=>F d S g T x y v u Q O rx z q) G
def yG(t:TE):TT:=λg H Q=>t g H λx d=>∃k,x=.bl k/\Q k d
def YH{op:pd}{r:R2}(O:NH X (dA op) r)(W:PE X a ta)(U:PE X b tb)(T:hZ op b=ZA):PT X (.Compare a [op] [b] pos) (yG (tOp r ta tb)):=by
 intro d s g H Q I h;refine wb (mr (W d s g H _ I h) λv F ⟨x,H1,I1,J,q1⟩=>mr (U d F g H1 _ I1 q1) λu S ⟨y,H2,Z,L,q2⟩=>
  mr (O d S g H2 x y v u _ Z J L q2) λc s3 ⟨z,H3,Y,G,k,e,q3⟩=>?_) T
 subst e;cases G;exact jS ⟨H3,Y,q3⟩
def TruV(K:aI)(x:V)(H:Hp)(k:Bool):Prop:=
 match x with
 |.non=>k=ZA
 |.bl b=>k=b
 |.int i=>k=(i != 0)
 |.str y=>y.length<=sizeLine/\k=((y.length:Int) != 0)
 |.byt y=>y.size<=sizeLine/\k=((y.size:Int) != 0)
 |.ref p=>(∃xs,MR K H p xs/\k=!xs.isEmpty)∨(∃xs,Nn K H p xs/\k=!xs.isEmpty)∨∃kvs,H p=W1 (.dK kvs)/\k=!kvs.isEmpty
 |_=>False
def W0{d:Type}{kvs:List (d×V)}{vs:List (d×ac)}(r:KV kvs vs):(!vs.isEmpty)=!kvs.isEmpty:=by
 cases r<;>rfl
def Qg{xs:List V}(r:cc xs its):(!its.toArray.isEmpty)=!xs.isEmpty:=by
 cases r<;>simp
def Qh:(sizeLine:Nat)<2^63:=by rw[eR];decide
theorem uf:TruR X (λx H Q=>∃k,TruV X.K x H k/\Q k H):=by
 intro Y s U H x v Q I rx h;obtain⟨k,e,q⟩:=h;have Z:=Qh;have hs:sizeLine=16777216:=eR;cases x with
 |non=>
  cases rx;have O:k=ZA:=e;subst O;exact truthy_none ⟨H,I,q⟩
 |bl b=>
  cases rx;have O:k=b:=e;subst O;exact jS ⟨H,I,q⟩
 |int i=>
  obtain⟨t,rfl⟩:=rx;have O:k=(i != 0):=e;subst O;exact PySem.P.truthy_int ⟨H,I,q⟩
 |str y=>
  obtain⟨t,rfl⟩:=rx;obtain⟨S,O⟩:y.length<=sizeLine/\k=((y.length:Int) != 0):=e;subst O;exact PySem.P.truthy_str (by omega) ⟨H,I.tok _,q⟩
 |byt y=>
  obtain⟨t,rfl⟩:=rx;obtain⟨S,O⟩:y.size<=sizeLine/\k=((y.size:Int) != 0):=e;subst O;exact PySem.W.truthy_bytes (by omega) ⟨H,I.tok _,q⟩
 |ref p=>
  cases rx;have O:(∃z,MR X.K H p z/\k=!z.isEmpty)∨(∃z,Nn X.K H p z/\k=!z.isEmpty)∨∃d,H p=W1 (.dK d)/\k=!d.isEmpty:=e
  rcases O with ⟨z,F,O⟩ | ⟨z,F,O⟩ | ⟨d,F,O⟩
  .subst O;obtain⟨J,r,G,L⟩:=I.list F;have g:=r.length;exact wpAny_truthy_list G.isList (by simp only[cw];omega) ⟨H,I.tok _,by rw[Qg r];exact q⟩
  .subst O;obtain⟨J,r,G,L⟩:=I.tuple F;have g:=r.length;exact truthy_tuple G (by simp only[cw];omega) ⟨H,I.tok _,by rw[Qg r];exact q⟩
  .subst O;obtain⟨L,T,vs,r,m⟩:d.length<=sizeLine/\(p==hV)=ZA/\∃vs,KV d vs/\s.heap.DictOf (Av X.prog X.w) p vs:=I.hok p _ F;have g:d.length=vs.length:=zy r;exact wpAny_truthy_dict T m (by omega) ⟨H,I.tok _,by rw[W0 r];exact q⟩
 |_=>exact (show False from e).elim
def cM(J:PE X a ta)(F:∀whole,oS a X.env whole=(do let v <-whole;pj a.pos;li [v] (truthy v))):
  PT X a (λg H Q=>ta g H λx d=>∃k,TruV X.K x d k/\Q k d):=by
 intro r s g H Q I h;exact isTrue_plain (mr (J r s g H _ I h) (by rintro v z ⟨x,O,L,G,q1⟩;exact uf r z g O x v Q L G q1)) (F _)
def W2:NH X (kg .Add) (λx y H Q=>∃i j,x=.str i/\y=.str j/\i.length+j.length<=sizeLine/\Q (.str (i++j)) H):=by
 intro r s g H x y v u Q I rx z h;obtain⟨i,j,rfl,rfl,O,q⟩:=h;obtain⟨t,rfl⟩:=rx;obtain⟨d,rfl⟩:=z;exact add_str (λd tk=>⟨.str (i++j),H,I.tok _,⟨_,rfl⟩,q⟩) O
def NJ{x:V}(r:cc [x] us):∃u,us=[u]/\cx x u:=by
 cases r with
 |cons G L=>cases L;exact⟨_,rfl,G⟩
def vals2{x y:V}(r:cc [x,y] us):∃u w',us=[u,w']/\cx x u/\cx y w':=by
 cases r with
 |cons g L=>
  cases L with
  |cons G d=>cases d;exact⟨_,_,rfl,g,G⟩
def aQ(d:X.calm=E3):CN X (.builtin "max") (λxs H Q=>∃i j,xs=[.int i,.int j]/\Q (.int (if j > i then j else i)) H):=by
 intro v s g H xs G Q I r h;obtain⟨i,j,rfl,q⟩:=h;obtain⟨u,z,rfl,⟨t,rfl⟩,⟨F,rfl⟩⟩:=vals2 r;refine max_two_ints (I.ok.hd d) λJ tk k=>⟨_,H,I.kept k,?_,q⟩
 by_cases U:j > i
 .rw[OF U,OF U];exact⟨_,rfl⟩
 .rw[RF U,RF U];exact⟨_,rfl⟩
def aR(d:X.calm=E3):CN X (.builtin "min") (λxs H Q=>∃i j,xs=[.int i,.int j]/\Q (.int (if j<i then j else i)) H):=by
 intro v s g H xs G Q I r h;obtain⟨i,j,rfl,q⟩:=h;obtain⟨u,z,rfl,⟨t,rfl⟩,⟨F,rfl⟩⟩:=vals2 r;refine min_two_ints (I.ok.hd d) λJ tk k=>⟨_,H,I.kept k,?_,q⟩
 by_cases U:j<i
 .rw[OF U,OF U];exact⟨_,rfl⟩
 .rw[RF U,RF U];exact⟨_,rfl⟩
def R5:CN X (.type "int") (λxs H Q=>(∃i,xs=[.int i]/\Q (.int i) H)∨∃k,xs=[.bl k]/\Q (.int (if k then 1 else 0)) H):=by
 intro d s g H xs v Q I r h
 rcases h with ⟨i,rfl,q⟩ | ⟨k,rfl,q⟩
 .obtain⟨u,rfl,t,rfl⟩:=NJ r;exact call_int_int ⟨.int i,H,I,⟨_,rfl⟩,q⟩
 .obtain⟨u,rfl,G⟩:=NJ r;cases G;exact call_int_bool ⟨.int (if k then 1 else 0),H,I.tok _,⟨_,rfl⟩,q⟩
def LenV(K:aI)(x:V)(H:Hp)(n:Nat):Prop:=
 match x with
 |.str y=>y.length<=sizeLine/\n=y.length
 |.byt y=>y.size<=sizeLine/\n=y.size
 |.ref p=>(∃xs,MR K H p xs/\n=xs.length)∨∃xs,Nn K H p xs/\n=xs.length
 |_=>False
def cP:CN X (.builtin "len") (λxs H Q=>∃x n,xs=[x]/\LenV X.K x H n/\Q (.int n) H):=by
 intro S s J H xs T Q I r h;obtain⟨x,n,rfl,e,q⟩:=h;obtain⟨u,rfl,rx⟩:=NJ r;have Y:=Qh;have hs:sizeLine=16777216:=eR;cases x with
 |str y=>
  obtain⟨t,rfl⟩:=rx;obtain⟨F,O⟩:y.length<=sizeLine/\n=y.length:=e;subst O;exact len_str (by omega) ⟨.int _,H,I.tok _,⟨_,rfl⟩,q⟩
 |byt y=>
  obtain⟨t,rfl⟩:=rx;obtain⟨F,O⟩:y.size<=sizeLine/\n=y.size:=e;subst O;exact PySem.W.len_bytes (by omega) ⟨.int _,H,I.tok _,⟨_,rfl⟩,q⟩
 |ref p=>
  cases rx;have O:(∃xs,MR X.K H p xs/\n=xs.length)∨∃xs,Nn X.K H p xs/\n=xs.length:=e
  rcases O with ⟨xs,v,O⟩ | ⟨xs,v,O⟩
  .subst O;obtain⟨d,L,G,z⟩:=I.list v;have g:=L.length;exact Calls.call_len_list G.isList (by simp only[cw];omega) ⟨.int xs.length,H,I.tok _,⟨_,by simp only[cw];rw[g]⟩,q⟩
  .subst O;obtain⟨d,L,G,z⟩:=I.tuple v;have g:=L.length;exact len_tuple G (by simp only[cw];omega) ⟨.int xs.length,H,I.tok _,⟨_,by simp only[cw];rw[g]⟩,q⟩
 |_=>exact (show False from e).elim
end
structure ZH (h:Heap) (x dx C:Addr) (mA:Str->Option ac):Prop where
 obj:h.get? x=W1 (oQ C dx)
 ns:h.Ns1 dx mA
 ne:dx≠x
def aU{dx:Addr}{mA:Str->Option ac}(n:h.Ns1 dx mA):∃od,h.get? dx=W1 od/\∀name,zS name od=W1 (mA name):=by
 obtain⟨o,g,J,v,G,I,_,F⟩:=n;refine⟨o,v,λname=>?_⟩;have e:=F name;unfold nsFind findBy at e;rw[<-Array.find?_toList] at e;unfold zS;rw[G];dsimp only;split
 .rename_i y q;rw[q] at e;exact NG W1 e
 .rename_i q;rw[q] at e;have a:g.toList.any (·.refKey)=ZA:=by
   rw[GA];intro y r;obtain⟨z,t,d⟩:=I y (CB.mp r);simp[DictEntry.refKey,d]
  have H:¬ g.toList.any (·.refKey)=E3:=by rw[a];exact df
  rw[RF H];exact NG W1 e
theorem ZH.look{x dx:Addr}{mA:Str->Option ac}(I:ZH h x dx C mA):∃od,PySem.W.InstAt h x (oQ C dx) C (W1 od)/\∀name,zS name od=W1 (mA name):=
 let ⟨od,ho,hl⟩:=aU I.ns
 ⟨od,⟨I.obj,rfl,rfl,ho⟩,hl⟩
section
variable {A:aS}{K:aI}{x dx f:Addr}{mA:Str->Option ac}{name:Str}{v:ac}
def Tf{d:Bool}(X:K.In s.heap)(I:ZH s.heap x dx C mA)(U:wc K C name=E3)(z:zW K C=E3)(F:fI K (.ref C) name=W1 E2)(r:mA name=W1 v)(g:GB v=E3)(h:Q v { s with toks:=s.toks+1 }):
  ag (ai prog w) A (getAttr (.ref x) name d) Q E s:=by
 obtain⟨G,J,Y⟩:=I.look;exact PySem.W.get_value X J (CC U).1 (PySem.W.findObj_own z F rfl (by rw[Y,r])) g h
def cQ{pl:Sem Bool}{Q:ac×List ac->ah->Prop}(X:K.In s.heap)(I:ZH s.heap x dx C mA)(U:wc K C name=E3)(G:fI K (.ref C) name=W1 (W1 (.ref f)))(O:ri K (.ref f)=E3)(g:mA name=E2)(h:Q (.ref f,[.ref x]) s):
  ag (ai prog w) A (rj (.ref x) name pl) Q E s:=by
 obtain⟨d,J,Y⟩:=I.look;exact PySem.W.method_fn X J (CC U).1 (CC U).2 G (beq_iff_eq.mp O) (by show (zS name d).map (·.isSome)=W1 ZA;rw[Y,g];rfl) h
theorem mK{ns:List Str}{Q:Unit->ah->Prop}(X:K.In s.heap)(I:ZH s.heap x dx C mA)(hs:fI K (.ref C) "__setattr__"=W1 (W1 (.builtin "object.__setattr__")))(T:CD K C=E3)(S:CF K C name=W1 E2)(U:zW K C=E3)(O:C4 mA ns)(hsz:ns.length<=sizeLine)(h:∀h',ZH h' x dx C (λy=>if y=name then W1 v else mA y)->f6 dx s.heap h'->Q () { s with heap:=h',toks:=s.toks+2 }):
  ag (ai prog w) A (setAttr (.ref x) name v) Q E s:=by
 obtain⟨od,J,hl⟩:=I.look;refine PySem.W.set_plain X J hs (PySem.W.osa_open (s:={ s with toks:=s.toks+1 }) (r:=E2) X J T S λb=>?_);obtain⟨cd,Y,G⟩:=PySem.W.any_some U;have L:s.heap.get? x=W1 ⟨.ref C,W1 dx,.plain,#[]⟩:=I.obj;refine ae (av (ae (ae (wpAny_loadPart L (ae (PySem.W.Looks.here (s:={ s with toks:=s.toks+1 }) (PySem.W.looks_clsIn X Y) ?_))))));rw[G];refine av (a:=W1 dx) (ae (av (ae ?_)));refine wpAny_nsSet1 (s:={ s with toks:=s.toks+1 }) I.ns λh' g d=>?_;obtain⟨oD,Z,N0,z,F,H⟩:=g.count (PySem.Within.cons name v O);refine ae (wpAny_lookBehind z (by rw[F];exact pastItsLine_dict (cy H (by rw[db];omega))) ?_);exact av (h _ ⟨(d.2 _ (cq I.ne)).trans I.obj,g,I.ne⟩ d)
def cR{R:nL->ah->Prop}(X:K.In s.heap)(z:CH K C=E3)(F:fI K (.ref C) "__init__"=W1 (W1 (.ref f)))(G:PySem.W.typeIn K (.ref f)=W1 (.type "function"))(h:fA (ai prog w) (A.under (.builtin "type.__call__" ⟨.ref C::vs,kw⟩)) (.call (.ref f) ⟨.ref (s.heap.objs.size+1)::vs,kw⟩) (PySem.W.InitBack (s.heap.objs.size+1) R)
   { s with heap:=(s.heap.push nN).push (oQ C s.heap.objs.size) }):
  fA (ai prog w) A (.call (.ref C) ⟨vs,kw⟩) R s:=by
 obtain⟨I,g,d,t,H⟩:=s;exact PySem.W.make_core (PySem.W.makes_of X z) (PySem.W.looks_findIn X F) (λr=>PySem.W.bind_fn X r G) (.inl rfl) h
end
def putF(f:Str)(v:V):List (Str×V)->List (Str×V)
 |[]=>[(f,v)]
 | (g,x)::r=>if g=f then (g,v)::r else (g,x)::putF f v r
theorem PP(f g:Str)(v:V):∀fs:List (Str×V),(putF f v fs).lookup g=if g=f then W1 v else fs.lookup g
 |[]=>by
  show cf g [(f,v)]=_
  by_cases h:g=f
  .have H:(g==f)=E3:=beq_iff_eq.mpr h;simp only[cf,H,OF h]
  .have H:(g==f)=ZA:=beq_eq_false_iff_ne.mpr h;simp only[cf,H,RF h]
 | (k,x)::r=>by
  have d:=PP f g v r;rw[show putF f v ((k,x)::r)=(if k=f then (k,v)::r else (k,x)::putF f v r) from rfl]
  by_cases I:k=f
  .rw[OF I]
   by_cases h:g=k
   .have H:(g==k)=E3:=beq_iff_eq.mpr h;simp only[cf,H,OF (h.trans I)]
   .have H:(g==k)=ZA:=beq_eq_false_iff_ne.mpr h;simp only[cf,H,RF (λe:g=f=>h (e.trans I.symm))]
  .rw[RF I]
   by_cases h:g=k
   .have H:(g==k)=E3:=beq_iff_eq.mpr h;simp only[cf,H,RF (λe:g=f=>I (h.symm.trans e))]
   .have H:(g==k)=ZA:=beq_eq_false_iff_ne.mpr h;simp only[cf,H];exact d
theorem N7(f:Str)(v:V):∀fs:List (Str×V),f∈(putF f v fs).map (·.1)/\∀g,g∈fs.map (·.1)->g∈(putF f v fs).map (·.1)
 |[]=>⟨by simp[putF],λg h=>by simp at h⟩
 | (k,x)::r=>by
  obtain⟨z,d⟩:=N7 f v r;rw[show putF f v ((k,x)::r)=(if k=f then (k,v)::r else (k,x)::putF f v r) from rfl]
  by_cases I:k=f
  .rw[OF I];subst I;exact⟨by simp,λg h=>by simpa using h⟩
  .rw[RF I];refine⟨?_,λg h=>?_⟩
   .rw[bn];exact cE _ z
   .rw[bn] at h ⊢
    rcases bP.mp h with e | e
    .exact bP.mpr (.inl e)
    .exact cE _ (d g e)
theorem PQ(f:Str)(v:V):∀fs:List (Str×V),(putF f v fs).length<=fs.length+1
 |[]=>by simp[putF]
 | (k,x)::r=>by
  have d:=PQ f v r;rw[show putF f v ((k,x)::r)=(if k=f then (k,v)::r else (k,x)::putF f v r) from rfl]
  by_cases I:k=f
  .rw[OF I,db,db];omega
  .rw[RF I,db,db];omega
def Os.some_of{v:V}{o:Option ac}(r:Os (W1 v) o):∃u,o=W1 u/\cx v u:=by
 cases o with
 |none=>exact (show False from r).elim
 |some u=>exact⟨u,rfl,r⟩
def Os.none_of{o:Option ac}(r:Os E2 o):o=E2:=by
 cases o with
 |none=>rfl
 |some u=>exact (show False from r).elim
def N8{v:V}(r:cx v u):GB u=E3:=by
 cases v with
 |non=>cases (show u=fq from r);rfl
 |bl b=>cases (show u=rh b from r);rfl
 |int i=>obtain⟨t,e⟩:=(show ∃t,u=kU i t from r);cases e;rfl
 |str x=>obtain⟨t,e⟩:=(show ∃t,u=sC x t from r);cases e;rfl
 |byt b=>obtain⟨t,e⟩:=(show ∃t,u=FK b t from r);cases e;rfl
 |flt b=>obtain⟨t,e⟩:=(show ∃t,u=C0 b t from r);cases e;rfl
 |ref a=>cases (show u=ba a from r);rfl
 |ty n=>cases (show u=gL n from r);rfl
section
variable {H:Hp}{dx:Addr}{fs:List (Str×V)}
def Kh(g:Pf P w H h)(e:H a=W1 (.ins C dx fs)):∃mA,ZH h a dx C mA/\(∀f,Os (fs.lookup f) (mA f))/\C4 mA (fs.map (·.1))/\fs.length<=1000/\H dx=W1 (.own a):=by
 obtain⟨d,z,ne,ob,mA,n,r,q⟩:=(show BJ P w H h a (.ins C dx fs) from g a _ e);exact⟨mA,⟨ob,n,ne⟩,r,q,z,d⟩
end
structure NX (K:aI) (C:Addr):Prop where
 pg:wc K C nV=E3
 hd:zW K C=E3
 po:CD K C=E3
 sa:fI K (.ref C) "__setattr__"=W1 (W1 (.builtin "object.__setattr__"))
def NX.get{K:aI}(c:NX K C)(f:Str):wc K C f=E3:=c.pg
def BP(K:aI)(C:Addr)(f:Str):Prop:=fI K (.ref C) f=W1 E2
def BP.taker{K:aI}(n:BP K C f):CF K C f=W1 E2:=by
 unfold CF;rw[show fI K (.ref C) f=W1 E2 from n];rfl
structure Meth (K:aI) (C:Addr) (m:Str) (f:Addr):Prop where
 at_:fI K (.ref C) m=W1 (W1 (.ref f))
 fn:ri K (.ref f)=E3
 kp:ic K (.ref f)=E3
section
variable {X:Cx}{H:Hp}{dx:Addr}{fs:List (Str×V)}{v:V}{A:aS}
theorem W3{b:Bool}(I:Inv X π σ H s)(e:H a=W1 (.ins C dx fs))(c:NX X.K C)(n:BP X.K C f)(l:fs.lookup f=W1 v)(h:∀u d,Inv X π σ H d->cx v u->Q u d):ag (ai X.prog X.w) A (getAttr (.ref a) f b) Q E s:=by
 obtain⟨mA,O,r,_,_,_⟩:=Kh I.hok e;obtain⟨u,S,g⟩:=Os.some_of (v:=v) (o:=mA f) (by rw[<-l];exact r f);exact Tf I.kIn O (c.get f) c.hd n S (N8 g) (h u _ (I.tok _) g)
def Qi{g:Addr}{pl:Sem Bool}{Q:ac×List ac->ah->Prop}(I:Inv X π σ H s)(e:H a=W1 (.ins C dx fs))(c:NX X.K C)(k:Meth X.K C m g)(l:fs.lookup m=E2)(h:Q (.ref g,[.ref a]) s):ag (ai X.prog X.w) A (rj (.ref a) m pl) Q E s:=by
 obtain⟨mA,O,r,_,_,_⟩:=Kh I.hok e;have d:mA m=E2:=Os.none_of (by rw[<-l];exact r m);exact cQ I.kIn O (c.get m) k.at_ k.fn d h
theorem W4{y:V}{Q:Unit->ah->Prop}(I:Inv X π σ H s)(e:H a=W1 (.ins C dx fs))(c:NX X.K C)(n:BP X.K C f)(hl:fs.length<1000)(S:cx y u)(h:∀G,Inv X π σ (fk H a (.ins C dx (putF f y fs))) G->Q () G):ag (ai X.prog X.w) A (setAttr (.ref a) f u) Q E s:=by
 obtain⟨mA,O,r,F,_,J⟩:=Kh I.hok e;have T:(fs.map (·.1)).length<=sizeLine:=by rw[aw,eR];omega
 refine mK I.kIn O c.sa c.po n.taker c.hd F T λZ d L=>h _ ?_;have W:∃o,Z.get? dx=W1 o:=let ⟨o,_,_,e',_⟩:=d.ns;⟨o,e'⟩;refine I.write (x:=a) (e:=dx) (by rw[e];exact ko) (.inr J) (λb q Y z=>(L.2 b Y).trans z) W ?_;refine⟨by rw[Ai O.ne];exact J,?_,O.ne,d.obj,_,d.ns,λg=>?_,λg U=>?_⟩
 .have:=PQ f y fs;omega
 .show Os ((putF f y fs).lookup g) (if g=f then W1 u else mA g);rw[PP]
  by_cases q:g=f
  .rw[OF q,OF q];exact S
  .rw[RF q,RF q];exact r g
 .by_cases q:g=f
  .rw[q];exact (N7 f y fs).1
  .refine (N7 f y fs).2 g (F g λz=>U ?_);show (if g=f then W1 u else mA g)=E2;rw[RF q];exact z
theorem Inv.made(I:Inv X π σ H s):Inv X π σ (fk (fk H s.heap.objs.size (.own (s.heap.objs.size+1))) (s.heap.objs.size+1) (.ins C s.heap.objs.size []))
  { s with heap:=(s.heap.push nN).push (oQ C s.heap.objs.size) }:=by
 have d:(s.heap.push nN).get? s.heap.objs.size=W1 nN:=cp s.heap rfl;have z:((s.heap.push nN).push (oQ C s.heap.objs.size)).get? (s.heap.objs.size+1)=W1 (oQ C s.heap.objs.size):=by
  have:=cp (s.heap.push nN) (o:=oQ C s.heap.objs.size) rfl
  rwa [gi] at this
 have r:(s.heap.push nN).Ns s.heap.objs.size (λ_=>E2):=⟨nN,#[],_,d,rfl,(λe G=>SF G (by simp)),λ_=>rfl⟩;have F:=I.laid (a:=s.heap.objs.size) (o:=.own (s.heap.objs.size+1)) (h':=s.heap.push nN) (t':=s.toks) (λb u q=>bg _ q) (aE _) ⟨_,d⟩;refine F.laid (a:=s.heap.objs.size+1) (o:=.ins C s.heap.objs.size []) (t':=s.toks) (λb u q=>bg _ q) (zX (gi _ _)) ?_;have ne:s.heap.objs.size≠s.heap.objs.size+1:=bX (pw _);refine⟨by rw[Ai ne,Ag],eA _,ne,z,λ_=>E2,(Heap.Ns1.of_empty r).at λo q=>bg _ q,λ_=>ko,λy g=>SF rfl g⟩
def Tg(d:fN e f env (eval e env)=eval e env)(h:ag (ai prog w) A (eval e env) (λo r=>ag (ai prog w) A (getAttr o f E3) Q E r) E s):ag (ai prog w) A (eval (.Attribute e f pos) env) Q E s:=
 Attribute_any_ h (by rw[arm_eval_Attribute,d])
end
def tFld(K:aI)(r:TE)(f:Str):TE:=λg H Q=>r g H λx z=>∃a C dx fs v,x=.ref a/\z a=W1 (.ins C dx fs)/\NX K C/\BP K C f/\fs.lookup f=W1 v/\Q v z
def sFld(K:aI)(r d:TE)(f:Str):TS:=λD g H=>d g H λy z=>r g z λx v=>∃a C dx fs,x=.ref a/\v a=W1 (.ins C dx fs)/\NX K C/\BP K C f/\fs.length<1000 ∧
 D.nx g (fk v a (.ins C dx (putF f y fs)))
section
variable {X:Cx}{o value:Expr}{tpos:Pos}{ta tv:TE}
def W5(G:PE X e ta)(z:fN e f X.env (eval e X.env)=eval e X.env):PE X (.Attribute e f pos) (tFld X.K ta f):=by
 intro r s g H Q I h;refine Tg z (mr (G r s g H _ I h) λu W q0=>?_);obtain⟨x,S,L,rx,a,C,dx,fs,v,F,J,c,n,l,q⟩:=q0;subst F;obtain rfl:u=ba a:=rx;exact W3 L J c n l λT U O d=>⟨v,S,O,d,q⟩
def cT(G:PE X o ta)(F:PE X value tv)(hs:fw value (W1 (.Attribute o f pos')) pos.line X.env=pure ZA):PS X (.Assign [.Attribute o f pos'] value pos) (sFld X.K ta tv f):=by
 intro r s g H D I h;refine plainObj_wpAny_Assign_Attribute (mr (F r s g H _ I h) λu z ⟨y,T,S,d,q⟩=>mr (G r z g T _ S q) λv W q9=>?_) hs;obtain⟨x,Z,O,rx,a,C,dx,fs,J,L,c,n,l,q2⟩:=q9;subst J;obtain rfl:v=ba a:=rx;exact W4 O L c n l d λU Y=>⟨g,_,Y,q2⟩
def rAdd:V->V->Hp->VK->Prop:=λx y H Q=>∃i j,x=.int i/\y=.int j/\Q (.int (i+j)) H
end
section
variable {X:Cx}{H:Hp}{A:aS}{c:ac}{b:Bool}
inductive QN (K:aI) (H:Hp):V->ac->Prop where
  |non:QN K H .non (.type "NoneType")
  |bl (x:Bool):QN K H (.bl x) (.type "bool")
  |int (i:Int):QN K H (.int i) (.type "int")
  |str (x:Str):QN K H (.str x) (.type "str")
  |flt (x:UInt64):QN K H (.flt x) (.type "float")
  |lst {a:Addr}{xs:List V}(e:H a=W1 (.lst xs)):QN K H (.ref a) (.type "list")
  |frz {a:Addr}{o:Obj}{xs:List V}(e:H a=W1 (.frz o (.lst xs))):QN K H (.ref a) (.type "list")
  |tup {a:Addr}{xs:List V}(e:H a=W1 (.tup xs)):QN K H (.ref a) (.type "tuple")
  |dK {a:Addr}{kvs:List (Key×V)}(e:H a=W1 (.dK kvs)):QN K H (.ref a) (.type "dict")
  |dT {a:Addr}{kvs:List (List Key×V)}(e:H a=W1 (.dT kvs)):QN K H (.ref a) (.type "dict")
  |ins {a C dx:Addr}{fs:List (Str×V)}(e:H a=W1 (.ins C dx fs)) (cl:NX K C) (ha:fI K (.ref C) "__class__"=W1 (W1 (.builtin "object.__class__")))
      (hn:CI K (.builtin "object.__class__") "__get__"=W1 (W1 (.builtin "getset_descriptor.__get__"))) (htk:PySem.W.takesIn K (.builtin "object.__class__")=W1 E3)
      (hm:PySem.W.mroIn K C (.type "object")=W1 E3):QN K H (.ref a) (.ref C)
def aV{x:V}{t:ac}(I:Inv X π σ H s)(rx:cx x u)(ty:QN X.K H x t)(e:sM X.K t c=W1 b)(h:∀tk,Q (.bool b) { s with toks:=tk }):
  ag (ai X.prog X.w) A (call (.builtin "isinstance") [u,c]) Q E s:=by
 cases ty with
 |non=>cases (show u=fq from rx);exact kq PySem.W.kitx_none I.kIn ko e (λz=>nomatch z) h
 |bl y=>cases (show u=rh y from rx);exact kq PySem.W.kitx_bool I.kIn ko e (λz=>nomatch z) h
 |int i=>obtain⟨t,q⟩:=(show ∃t,u=kU i t from rx);cases q;exact kq PySem.W.kitx_int I.kIn ko e (λz=>nomatch z) h
 |str y=>obtain⟨t,q⟩:=(show ∃t,u=sC y t from rx);cases q;exact kq PySem.W.kitx_str I.kIn ko e (λz=>nomatch z) h
 |flt y=>obtain⟨t,q⟩:=(show ∃t,u=C0 y t from rx);cases q;exact kq PySem.W.kitx_float I.kIn ko e (λz=>nomatch z) h
 | @lst a v d=>
  cases (show u=ba a from rx);obtain⟨_,_,n,_,g⟩:=(show BJ X.prog X.w H s.heap a (.lst v) from I.hok a _ d);exact kq CL I.kIn ⟨_,g,rfl⟩ e (λz=>nomatch z) h
 | @frz a ob v d=>
  cases (show u=ba a from rx);obtain⟨_,_,_,n,_,g⟩:=(show BJ X.prog X.w H s.heap a (.frz ob (.lst v)) from I.hok a _ d);exact kq CL I.kIn ⟨_,g,rfl⟩ e (λz=>nomatch z) h
 | @tup a v d=>
  cases (show u=ba a from rx);obtain⟨_,_,_,p⟩:=(show BJ X.prog X.w H s.heap a (.tup v) from I.hok a _ d);obtain⟨o,g,F,_⟩:=p;exact kq GE I.kIn ⟨o,g,F⟩ e (λz=>nomatch z) h
 | @dK a r d=>
  cases (show u=ba a from rx);obtain⟨_,_,vs,_,p⟩:=(show BJ X.prog X.w H s.heap a (.dK r) from I.hok a _ d);obtain⟨o,Y,Z,g,F,_⟩:=p;exact kq GG I.kIn ⟨o,g,F.1⟩ e (λz=>nomatch z) h
 | @dT a r d=>
  cases (show u=ba a from rx);obtain⟨_,_,v,_,o,Y,Z,g,F,_⟩:=(show BJ X.prog X.w H s.heap a (.dT r) from I.hok a _ d);exact kq GG I.kIn ⟨o,g,F.1⟩ e (λz=>nomatch z) h
 | @ins a C dx fs d L U S G T=>
  cases (show u=ba a from rx);obtain⟨mA,O,_⟩:=Kh I.hok d;obtain⟨od,J,_⟩:=O.look;exact kq (PySem.W.kitx_own (L.get _) L.hd U S G T) I.kIn J e (λz=>nomatch z) h
end
structure Room (k:Nat) (A:aS):Prop where
 hd:A.handled=E2
 dp:A.depth+3*k+5<recursionLimit
 un:A.units+16*k+200<bE
def Room.mono{k:Nat}{A:aS}(r:Room k A)(h:j<=k):Room j A:=⟨r.hd,by have:=r.dp;omega,by have:=r.un;omega⟩
theorem Room.deeper{k:Nat}{A:aS}(r:Room (k+1) A)(env:Env):Room k (A.deeper env):=
 ⟨r.hd,by have:=r.dp;show A.depth+1+3*k+5<_;omega,by have:=r.un;show A.units+3+16*k+200<_;omega⟩
def W6{A:aS}:(A.under (.builtin "type.__call__" ⟨.ref C::us,kw⟩)).depth=A.depth+1:=by
 first | rfl | simp[CM,Code.weight,Code.isCreation,Code.isGuard,Code.isCaller,GH,CO,guardIds]
def W7{A:aS}:(A.under (.builtin "type.__call__" ⟨.ref C::us,kw⟩)).units=A.units+1:=by
 first | rfl | simp[CM,Code.cUnits,GH,CO]
def Room.make{k:Nat}{A:aS}(r:Room (k+1) A)(C:Addr)(us:List ac)(d:List (Str×ac)):Room k (A.under (.builtin "type.__call__" ⟨.ref C::us,d⟩)):=
 ⟨r.hd,by have:=r.dp;rw[W6];omega,by have:=r.un;rw[W7];omega⟩
theorem Room.depth{k:Nat}{A:aS}(r:Room k A):A.depth<recursionLimit:=by have:=r.dp;omega
theorem Room.units{k:Nat}{A:aS}(r:Room k A):A.units+64<bE:=by have:=r.un;omega
def tNil:TA:=λ_ H Q=>Q [] H
def VM(r:TE)(tr:TA):TA:=λg H Q=>r g H λx z=>tr g z λxs v=>Q (x::xs) v
section
variable {X:Cx}{es:List Expr}{te:TE}{t:TA}
def Cp:PA X [] tNil:=λ_ _ _ _ H Q I h=>Calls.spliced_nil ⟨[],H,I,.nil,h⟩
def BW(J:PE X e te)(F:PA X es t)(hs:ay (e::es) X.env=(ZA,eval e X.env)::ay es X.env:=by rfl):PA X (e::es) (VM te t):=by
 intro d r s g H Q I h;rw[hs];show ag _ _ (spliced ((ZA,eval e X.env)::dS d (ay es X.env))) _ _ s;refine Calls.spliced_cons (mr (J r s g H _ I h) λu z q0=>?_);obtain⟨x,U,S,G,q1⟩:=q0;exact mr (F d r z g U _ S q1) (by rintro W Y ⟨v,T,O,L,q2⟩;exact ⟨x::v,T,O,.cons G L,q2⟩)
def tTup(t:TA):TE:=λg H Q=>t g H λxs z=>xs.length<=sizeLine/\∀p,z p=E2->Q (.ref p) (fk z p (.tup xs))
def tLst(t:TA):TE:=λg H Q=>t g H λxs z=>xs.length<=sizeLine/\∀p,z p=E2->Q (.ref p) (fk z p (.lst xs))
theorem W8{x1}(h:PA X es t):PE X (.Tuple es x1 pos) (tTup t):=by
 intro G s F H Q I T;refine wpAny_Tuple_spliced (mr (h pos G s F H _ I T) λL d ⟨J,v,g,r,z,q⟩=>⟨by rw[<-r.length];exact z,?_⟩);have O:v d.heap.objs.size=E2:=g.hok.fresh (aE _);refine⟨.ref d.heap.objs.size,fk v d.heap.objs.size (.tup J),g.laid (t':=d.toks) (λb u e=>bg _ e) (aE _) ?_,rfl,q _ O⟩;exact⟨z,L,r,⟨_,cp _ rfl,rfl,_,rfl⟩⟩
theorem cU(h:PA X es t):PE X (.List es pos) (tLst t):=by
 intro G s F H Q I T;refine wpAny_List_spliced (mr (h pos G s F H _ I T) λL d ⟨J,v,g,r,z,q⟩=>⟨by rw[<-r.length];exact z,?_⟩);have O:v d.heap.objs.size=E2:=g.hok.fresh (aE _);refine⟨.ref d.heap.objs.size,fk v d.heap.objs.size (.lst J),g.laid (t':=d.toks) (λb u e=>bg _ e) (aE _) ?_,rfl,q _ O⟩;exact⟨z,L,0,r,cp _ rfl⟩
end
abbrev Sp:=List V->Hp->VK->XK->Prop
abbrev CXT:=List Env->Hp->ah->XK->ac->ah->Prop
structure ZN (P:d3) (w:ca) (K:aI) (mg:Str->Option ac) (base:Heap) (A:aS) (outer:List Env) (s:ah) (H:Hp):Prop where
 frames:A.frames=W1 outer
 mod:Mod K mg base
 bs:∀b o,base.get? b=W1 o->s.heap.get? b=W1 o/\H b=E2
 bsz:base.objs.size<=s.heap.objs.size
 funs:s.heap.FunFrames base outer
 frf:∀b∈frs outer,H b=E2
 hok:Pf P w H s.heap
 bare:nw s.gens
def CE(d:List Env)(P:d3)(w:ca)(H:Hp)(s:ah)(Q:VK)(u:ac)(g:ah):Prop:=
 ∃v r,g.os=s.os/\nw g.gens/\Un (frs d) [] H r s.heap g.heap/\Pf P w r g.heap/\cx v u/\Q v r
def CR(CX:CXT)(d:List Env)(P:d3)(w:ca)(H:Hp)(s:ah)(Q:VK)(E:XK)(r:nL)(g:ah):Prop:=
 match r with
 |.ok (.ret u)=>CE d P w H s Q u g
 |.ok _=>False
 |.error e=>CX d H s E e g
structure im (P:d3) (w:ca) (K:aI) (mg:Str->Option ac) (base:Heap) (CX:CXT) (k:Nat) (f:Addr) (fd:lj) (ps:List Str) (sp:Sp):Prop where
 len:∀vs H Q E,sp vs H Q E->vs.length=ps.length
 run:∀(A:aS) (outer:List Env) (s:ah) (H:Hp) (args:Args) (us:List ac) (vs:List V) (Q:VK) (E:XK),Room k A->ZN P w K mg base A outer s H->wf s fd args (ps.zip us)->cc vs us->sp vs H Q E ->
  fA (ai P w) A (.call (.ref f) args) (CR CX outer P w H s Q E) s
theorem im.mono{P:d3}{w:ca}{K:aI}{r:Str->Option ac}{base:Heap}{CX:CXT}{j k:Nat}{f:Addr}{v:lj}{ps:List Str}{sp:Sp}(F:im P w K r base CX j f v ps sp)(h:j<=k):
  im P w K r base CX k f v ps sp:=⟨F.len,λA d s H g G z Q E I=>F.run A d s H g G z Q E (I.mono h)⟩
def im.imp{K:aI}{base:Heap}{CX:CXT}{k:Nat}{f:Addr}{sp sp':Sp}(F:im P w K mg base CX k f fd ps sp)(h:∀vs H Q E,sp' vs H Q E->sp vs H Q E):im P w K mg base CX k f fd ps sp':=
 ⟨λvs H Q E q=>F.len vs H Q E (h _ _ _ _ q),λA d s H g G vs Q E v z I r hs=>F.run A d s H g G vs Q E v z I r (h _ _ _ _ hs)⟩
def ZN.make{K:aI}{base:Heap}{A:aS}{d:List Env}{H:Hp}(e:ZN P w K mg base A d s H)(C:Addr)(us:List ac)(g:List (Str×ac)):
  ZN P w K mg base (A.under (.builtin "type.__call__" ⟨.ref C::us,g⟩)) d s H:=⟨by first | exact e.frames | (simpa [CM,Code.envs,CO,pushEnvs] using e.frames),e.mod,e.bs,e.bsz,e.funs,e.frf,e.hok,e.bare⟩
section
variable {X:Cx}{H:Hp}{s':ah}
def Inv.env0(I:Inv X π σ H s):ZN X.prog X.w X.K X.mg X.base X.A X.stack s H:=
 ⟨I.ok.frames,I.ok.mod,I.bs,cy I.ok.bsz I.sz,I.stack,I.stkFree,I.hok,I.bare⟩
theorem Inv.after{Q:VK}(I:Inv X π σ H s)(h:CE X.stack X.prog X.w H s Q u s'):EP X π σ Q u s':=by
 obtain⟨v,O,os,F,un,J,r,q⟩:=h;obtain⟨L,g,d,t,G⟩:=s';obtain rfl:G=s.os:=os;exact⟨v,O,I.call (h':=L) (g':=g) (d':=d) (t':=t) (ch:=[]) un J F (λb z=>SF z (by simp)),r,q⟩
end
def yH(sp:Sp)(d:List V)(E:XK)(t:TA):TE:=λg H Q=>t g H λvs z=>sp (vs++d) z Q E
def qx(C:Addr)(m:Str)(sp:Sp)(d:List V)(E:XK)(r:TE)(t:TA):TE:=λg H Q=>r g H λx z=>∃a dx fs,x=.ref a/\z a=W1 (.ins C dx fs)/\fs.lookup m=E2 ∧
 t g z λvs v=>sp (x::(vs++d)) v Q E
def yI(C:Addr)(sp:Sp)(d:List V)(E:XK)(t:TA):TE:=λg H Q=>t g H λvs z=>∀x dx,z x=E2->z dx=E2->dx≠x ->
 sp (.ref x::(vs++d)) (fk (fk z dx (.own x)) x (.ins C dx [])) (λv r=>v=.non/\Q (.ref x) r) E
def MO(K:aI)(v:lj)(ps:List Str)(ds:List ac):Prop:=
 ∀(s:ah) (us:List ac),K.In s.heap->(us++ds).length=ps.length->wf s v ⟨us,[]⟩ (ps.zip (us++ds))
def MO.all{K:aI}(h:∀us:List ac,us.length=ps.length->wl fd ⟨us,[]⟩=pure (ps.zip us)):MO K fd ps []:=λs us _ Y=>by
 rw[g9] at Y ⊢;exact .of_eq (h us Y)
def Lg(CX:CXT)(X:Cx)(E:XK):Prop:=∀(r:NI) (g:St) (H:Hp) (s:ah) (e:ac) (d:ah),Inv X r g H s->CX X.stack H s E e d->X.xe e d
section
variable {X:Cx}{CX:CXT}{k:Nat}{f:Addr}{sp:Sp}{dvs:List V}{ds:List ac}{E:XK}{p:Pos}{o:Expr}{es:List Expr}{ta:TE}{t:TA}
def W9{g:St}{H:Hp}{Q:VK}{vs:List V}(F:im X.prog X.w X.K X.mg X.base CX k f fd ps sp)(z:Room k X.A)(J:MO X.K fd ps ds)(G:cc dvs ds)(v:Lg CX X E)(I:Inv X π g H s)(r:cc vs us)(h:sp (vs++dvs) H Q E):ag (ai X.prog X.w) X.A (call (.ref f) us) (EP X π g Q) X.xe s:=by
 have L:cc (vs++dvs) (us++ds):=r.append G;have Y:(us++ds).length=ps.length:=by rw[<-L.length];exact F.len _ _ _ _ h
 refine CS (rl (F.run X.A X.stack s H ⟨us,[]⟩ (us++ds) (vs++dvs) Q E z I.env0 (J s us I.kIn Y) L h) λr d T=>?_);cases r with
 |error e=>exact v π g H s e d I T
 |ok O=>
  cases O with
  |ret u=>exact I.after T
  |next=>exact kf T
  |brk=>exact kf T
  |cont=>exact kf T
def YJ(F:im X.prog X.w X.K X.mg X.base CX k f fd ps sp)(L:Room k X.A)(U:Gl X x)(O:X.mg x=W1 (.ref f))(S:ic X.K (.ref f)=E3)(Y:MO X.K fd ps ds)(W:cc dvs ds)(J:Lg CX X E)(Z:PA X (e::es) t)(g:(x==("__debug__":Str))=ZA:=by decide)(T:ay (e::es) X.env=(ZA,eval e X.env)::ay es X.env:=by rfl)(d:(dS pos (ay es X.env)).any (·.1)=ZA:=by rfl):
  PE X (.Call (.Name x p) (e::es) [] pos) (yH sp dvs E t):=by
 intro G s z H Q I h;refine wm (TQ I U O ?_ g);refine CU (h₀:=X.base) I.ok.mod.kin S (mr (Z pos G s z H _ I h) λus s1 ⟨vs,H1,v,r,q⟩=>⟨v.kIn,?_⟩) T d;exact W9 F L Y W J v r q
theorem YK{pl:Sem Bool}(Z:PE X o ta)(c:NX X.K C)(L:Meth X.K C m f)(F:im X.prog X.w X.K X.mg X.base CX k f fd ps sp)(Y:Room k X.A)(hb:MO X.K fd ps ds)(hd:cc dvs ds)(U:Lg CX X E)(ha:PA X (e::es) t)(g:ay (e::es) X.env=(ZA,eval e X.env)::ay es X.env:=by rfl)(d:(dS pos (ay es X.env)).any (·.1)=ZA:=by rfl)(W:eval (.Call (.Attribute o m apos) (e::es) [] pos) X.env=(do
   let ov <-eval o X.env
   pj apos.atName
   let (f,first) <-li [ov] (rj ov m pl)
   sN pos f first (dS pos (ay (e::es) X.env)) (ll pos (iL [] X.env))):=by rfl):
  PE X (.Call (.Attribute o m apos) (e::es) [] pos) (qx C m sp dvs E ta t):=by
 intro z s v H Q I h;refine GI (pl:=pl) (mr (Z z s v H _ I h) λu T q0=>?_) W;obtain⟨x,H1,S,rx,a,dx,fs,ex,ea,l,q⟩:=q0;subst ex;obtain rfl:u=ba a:=rx;refine Qi S ea c L l ?_;refine CU (first:=[.ref a]) (h₀:=X.base) I.ok.mod.kin L.kp (mr (ha pos z T v H1 _ S q) λJ s2 ⟨G,H2,O,r,q2⟩=>⟨O.kIn,?_⟩) g d;exact W9 (us:=.ref a::J) (vs:=.ref a::G) F Y hb hd U O (.cons rfl r) q2
theorem cV{pl:Sem Bool}(J:PE X o ta)(c:NX X.K C)(g:Meth X.K C m f)(F:im X.prog X.w X.K X.mg X.base CX k f fd ps sp)(G:Room k X.A)(S:MO X.K fd ps ds)(L:cc dvs ds)(z:Lg CX X E)(O:eval (.Call (.Attribute o m apos) [] [] pos) X.env=(do
   let ov <-eval o X.env
   pj apos.atName
   let (f,first) <-li [ov] (rj ov m pl)
   sN pos f first (dS pos (ay [] X.env)) (ll pos (iL [] X.env))):=by rfl):
  PE X (.Call (.Attribute o m apos) [] [] pos) (qx C m sp dvs E ta tNil):=by
 intro v s r H Q I h;refine GI (pl:=pl) (mr (J v s r H _ I h) λu Y q9=>?_) O;obtain⟨x,Z,d,rx,a,dx,fs,T,U,l,q⟩:=q9;subst T;obtain rfl:u=ba a:=rx;refine Qi d U c g l ?_;exact PySem.W.callWith_K0 (first:=[.ref a]) d.kIn g.kp (W9 (us:=[.ref a]) (vs:=[.ref a]) F G S L z d (.cons rfl .nil) q)
structure Mk (K:aI) (C f:Addr):Prop where
 makes:CH K C=E3
 init:fI K (.ref C) "__init__"=W1 (W1 (.ref f))
 fn:ri K (.ref f)=E3
 kp:ic K (.ref C)=E3
def cW{g:St}{H:Hp}{Q:VK}{vs:List V}(M:Mk X.K C f)(F:im X.prog X.w X.K X.mg X.base CX k f fd ps sp)(S:Room (k+1) X.A)(W:MO X.K fd ps ds)(U:cc dvs ds)(J:Lg CX X E)(I:Inv X π g H s)(r:cc vs us)(h:∀x dx,H x=E2->H dx=E2->dx≠x->sp (.ref x::(vs++dvs)) (fk (fk H dx (.own x)) x (.ins C dx [])) (λv H2=>v=.non/\Q (.ref x) H2) E):
  ag (ai X.prog X.w) X.A (call (.ref C) us) (EP X π g Q) X.xe s:=by
 have T:=h (s.heap.objs.size+1) s.heap.objs.size (I.hok.fresh (kr _)) (I.hok.fresh (aE _)) (bX (pw _));have O:=Inv.made (C:=C) I;have L:cc (V.ref (s.heap.objs.size+1)::(vs++dvs)) (ba (s.heap.objs.size+1)::(us++ds)):=.cons rfl (r.append U);have Y:(ba (s.heap.objs.size+1)::us++ds).length=ps.length:=by
  have e:=L.length;rw[F.len _ _ _ _ T] at e;exact e.symm
 refine CS (cR (f:=f) I.kIn M.makes M.init (beq_iff_eq.mp M.fn) (rl (F.run _ X.stack _ _ ⟨ba (s.heap.objs.size+1)::us,[]⟩ (ba (s.heap.objs.size+1)::(us++ds)) _ _ E (S.make C us [])
  (O.env0.make C us []) (W _ (ba (s.heap.objs.size+1)::us) O.kIn Y) L T) λr z d=>?_))
 cases r with
 |error e=>exact J π g _ _ e z O d
 |ok Z=>
  cases Z with
  |ret u=>
   obtain⟨v,H',I3,G,ev,q3⟩:=O.after d;subst ev;exact⟨G,⟨V.ref (s.heap.objs.size+1),H',I3,rfl,q3⟩⟩
  |next=>exact kf d
  |brk=>exact kf d
  |cont=>exact kf d
def mL(M:Mk X.K C f)(F:im X.prog X.w X.K X.mg X.base CX k f fd ps sp)(L:Room (k+1) X.A)(U:Gl X x)(O:X.mg x=W1 (.ref C))(W:MO X.K fd ps ds)(T:cc dvs ds)(J:Lg CX X E)(Y:PA X (e::es) t)(g:(x==("__debug__":Str))=ZA:=by decide)(S:ay (e::es) X.env=(ZA,eval e X.env)::ay es X.env:=by rfl)(d:(dS pos (ay es X.env)).any (·.1)=ZA:=by rfl):
  PE X (.Call (.Name x p) (e::es) [] pos) (yI C sp dvs E t):=by
 intro G s z H Q I h;refine wm (TQ I U O ?_ g);refine CU (h₀:=X.base) I.ok.mod.kin M.kp (mr (Y pos G s z H _ I h) λus s1 ⟨Z,H1,v,r,q⟩=>⟨v.kIn,?_⟩) S d;exact cW M F L W T J v r q
end
def PK(X:Cx)(r:List mB)(t:TA):Prop:=
 ∀(d:Pos) (v:NI) (s:ah) (g:St) (H:Hp) (Q:List V->Hp->Prop),Inv X v g H s->t g H Q->ag (ai X.prog X.w) X.A (evalAll ((ll d (iL r X.env)).map (·.2))) (AP X v g Q) X.xe s
section
variable {X:Cx}{CX:CXT}{k:Nat}{f:Addr}{ks:List Str}{sp:Sp}{E:XK}{p kpos:Pos}{es:List Expr}{kws:List mB}{te:TE}{t tk:TA}{nm:Option Str}
def ug:PK X [] tNil:=λ_ _ _ _ H Q I h=>wpAny_evalAll_nil ⟨[],H,I,.nil,h⟩
theorem mQ(O:PE X e te)(J:PK X kws t):PK X (⟨nm,e,kpos⟩::kws) (VM te t):=by
 intro d r s g H Q I h;show ag _ _ (evalAll ((do let v <-eval e X.env;pj d;pure v)::(ll d (iL kws X.env)).map (·.2))) _ _ s;refine wpAny_evalAll_cons (ae (mr (O r s g H _ I h) λu F ⟨x,W,T,G,q1⟩=>ae (zY (av ?_))));exact mr (J d r F g W _ T q1) (by rintro Y Z ⟨z,U,S,L,q2⟩;exact ⟨x::z,U,S,.cons G L,q2⟩)
variable {g:List ac->List ac->List ac}{gV:List V->List V->List V}
end
structure bc (N P:List Str) (sc:la):Prop where
 kind:sc.kind=.function
 co:sc.isCoroutine=ZA
 gen:sc.isGenerator=ZA
 nd:N.Nodup
 pre:N.take P.length=P
 par:∀x∈P,sc.names.lookup x=W1 .local ∨sc.names.lookup x=W1 .cell
 nofree:∀y∈sc.names,y.2≠.free
theorem R6{d:Str->Option lm}{x:Str}:∀{binds:List (Str×ac)}{m:Str->Option ac},(∀v,(x,v)∉binds)->pE d binds m x=m x
 |[],_,_=>rfl
 | (n,v)::r,m,h=>by
  unfold pE;rw[R6 λw g=>h w (cE _ g)];split
  .have:x≠n:=by rintro rfl;exact h v dn
   simp[this]
  .rfl
theorem R7{d:Str->Option lm}{x:Str}:∀{binds:List (Str×ac)}{m:Str->Option ac},(∀v,(x,v)∉binds)->pS d binds m x=m x
 |[],_,_=>rfl
 | (n,v)::r,m,h=>by
  unfold pS;rw[R7 λw g=>h w (cE _ g)];split
  .rfl
  .have:x≠n:=by rintro rfl;exact h v dn
   simp[this]
theorem R8{d:Str->Option lm}{x:Str}{v:ac}:∀{P:List Str}{vs:List ac}{i:Nat}{m:Str->Option ac},P.Nodup->P[i]?=W1 x->vs[i]?=W1 v->d x=W1 .local ->
  pE d (P.zip vs) m x=W1 v
 |[],_,_,_,_,h,_,_=>by simp at h
 |_::_,[],_,_,_,_,h,_=>by simp at h
 |p::P,w::vs,0,m,z,r,g,I=>by
  simp at r g;subst r;subst g;show pE d ((p,w)::P.zip vs) m p=_;unfold pE;rw[R6 λv F=>(kK.mp z).1 (CY F).1,OF I];simp
 |p::P,w::vs,i+1,m,z,r,g,I=>by
  show pE d ((p,w)::P.zip vs) m x=_;unfold pE;exact R8 (i:=i) (kK.mp z).2 (by simpa using r) (by simpa using g) I
theorem R9{d:Str->Option lm}{x:Str}{v:ac}:∀{P:List Str}{vs:List ac}{i:Nat}{m:Str->Option ac},P.Nodup->P[i]?=W1 x->vs[i]?=W1 v->d x≠W1 .local ->
  pS d (P.zip vs) m x=W1 v
 |[],_,_,_,_,h,_,_=>by simp at h
 |_::_,[],_,_,_,_,h,_=>by simp at h
 |p::P,w::vs,0,m,z,r,g,I=>by
  simp at r g;subst r;subst g;show pS d ((p,w)::P.zip vs) m p=_;unfold pS;rw[R7 λv F=>(kK.mp z).1 (CY F).1,RF I];simp
 |p::P,w::vs,i+1,m,z,r,g,I=>by
  show pS d ((p,w)::P.zip vs) m x=_;unfold pS;exact R9 (i:=i) (kK.mp z).2 (by simpa using r) (by simpa using g) I
def start(N:List Str)(vs:List V):St:=vs.map W1++wn (N.length-vs.length) E2
def Pd(CX:CXT)(P:d3)(w:ca)(K:aI)(mg:Str->Option ac)(base:Heap)(N:List Str)(g:Str)(d:la)(f:Addr)(v:ac)(A:aS)(outer:List Env)(s:ah)(H:Hp)(E:XK):Cx where
 prog:=P
 w:=w
 K:=K
 mg:=mg
 base:=base
 A:=A.deeper (gu g d s.heap.objs.size f v)
 N:=N
 s₀:=s
 H₀:=H
 env:=gu g d s.heap.objs.size f v
 outer:=outer
 stack:=gu g d s.heap.objs.size f v::outer
 ex:=[]
 calm:=E3
 fn:=λ_=>E3
 pn:=[]
 xe:=λe z=>ag (ai P w) (A.deeper (gu g d s.heap.objs.size f v)) (leaving (gu g d s.heap.objs.size f v) e) (λ_ r=>CX outer H s E e r) (λO r=>CX outer H s E O r) z
def VN(h:sc.names.lookup x=W1 .cell):∃c,(cellsFrom n sc.names []).lookup x=W1 c:=by
 have q:=GL sc.names n [] (.inl h);exact D0.mp q
theorem aW{CX:CXT}{K:aI}{base:Heap}{f:Addr}{U:ac}{A:aS}{d:List Env}{s1:ah}{H:Hp}{E:XK}{vs:List V}(S:bc N ps scope)(hd:A.handled=E2)(F:ZN P w K mg base A d s H)(hl:vs.length=ps.length)(r:cc vs us)(x:InCallC s s.heap.objs.size (pE (gu qual scope s.heap.objs.size f U).kindOf (ps.zip us) λ_=>E2) (cellsFrom (s.heap.objs.size+1) scope.names []) (pS (gu qual scope s.heap.objs.size f U).kindOf (ps.zip us) λ_=>E2) s1):
  Inv (Pd CX P w K mg base N qual scope f U A d s H E) [] (start N vs) H s1:=by
 have Z:ps.length<=N.length:=by have:=NG eS S.pre;rw[iO] at this;omega
 obtain⟨T,tk,rfl,X⟩:=x.done;have G:∀b:Addr,b∉(Pd CX P w K mg base N qual scope f U A d s H E).ex:=λb z=>SF (show b∈([]:List Addr) from z) (by simp);refine⟨⟨F.mod,S.kind,rfl,rfl,aE _,λy z c T g=>?_,λy I=>?_,λy c _ h=>?_,λ_=>hd,Around.frames_deeper F.frames,.inr ⟨rfl,rfl⟩,λb z=>SF z (G b),F.bs,F.bsz,λb _ _=>G b,λb z=>SF z (G b),F.funs,F.frf⟩,
  rfl,F.bare,Un.kept X,⟨_,x.toInCall.ns,λi y v T g h3=>?_⟩,λy c h=>⟨_,x.cell y c h⟩,F.hok.fresh (aE _),λy c h=>?_,λp L=>SF (show p∈([]:NI) from L) (by simp),F.hok.kept X,?_⟩
 .exact name_of_addr x.apart (wo T) (wo g)
 .have I:scope.names.lookup y=W1 .cell ∨scope.names.lookup y=W1 .free :=I
  rcases I with I | I
  .exact VN I
  .exact SF rfl (S.nofree _ (wo I))
 .exact sD (x.above y c (wo h))
 .have O:i<vs.length:=by
   unfold start at g
   by_cases O:i<vs.length
   .exact O
   .rw[ii (by simpa using O)] at g;rw[zZ] at g;split at g<;>cases g
  have ha:vs[i]?=W1 v:=by
   unfold start at g;rw[kt (by simpa using O),cb] at g;cases e:vs[i]? with
   |none=>rw[e] at g;cases g
   |some a=>rw[e] at g;cases g;rfl
  obtain⟨u,W,Y⟩:=r.get ha;have L:ps[i]?=W1 y:=by
   rw[<-S.pre,D1 (by omega)];exact T
  have J:ps.Nodup:=by rw[<-S.pre];exact S.nd.sublist (D2 _ _)
  refine⟨u,Y,?_⟩
  rcases S.par y (pT L) with k | k
  .exact .inl ⟨k,R8 J L W k⟩
  .obtain⟨c,e⟩:=VN (n:=s.heap.objs.size+1) k;refine .inr ⟨.inl k,c,e,?_⟩;have q:=x.cell y c e;rw[R9 J L W (by show scope.names.lookup y≠_;rw[k];decide)] at q;exact q
 .exact F.hok.fresh (sD (x.above y c (wo h)))
 .unfold start;show _=N.length;rw[ff,aw,wq];omega
def cX{CX:CXT}{K:aI}{base:Heap}{k:Nat}{f:Addr}{name:Str}{g:Arguments}{dV kV:ac}{sp:Sp}(lk:K.lookup f=W1 ⟨oc,od,.func (io name qual g body scope dV kV doc pm an cdv ct),osl⟩)(Z:pV K cdv qual=E3)(S:bc N ps scope)(len:∀vs H Q E,sp vs H Q E->vs.length=ps.length)(L:∀(A:aS) (d:List Env) (s:ah) (H:Hp) (vs:List V) (Q:VK) (E:XK),Room k (A.deeper (gu qual scope s.heap.objs.size f cdv))->sp vs H Q E ->
   ∃t,SS (Pd CX P w K mg base N qual scope f cdv A d s H E) body t/\t { nx:=λ_ F=>Q .non F,rt:=Q } (start N vs) H):
  im P w K mg base CX (k+1) f (io name qual g body scope dV kV doc pm an cdv ct) ps sp:=by
 refine⟨len,λA d s H N0 us vs Q E Y T hb r O=>?_⟩;have hl:=len _ _ _ _ O;have KX:K.In s.heap:=T.mod.kin.keeps λb o e=>(T.bs b o e).1;have X:s.heap.NoLimit:=T.mod.nolimit.keeps λb o e=>(T.bs b o e).1;have G:∀y∈ps.zip us,scope.names.lookup y.1=W1 .local ∨(scope.names.lookup y.1=W1 .cell /\((cellsFrom (s.heap.objs.size+1) scope.names []).lookup y.1).isSome=E3):=by
  rintro ⟨n,v⟩ hy
  rcases S.par n (CY hy).1 with q | q
  .exact .inl q
  .exact .inr ⟨q,GL _ _ _ (.inl q)⟩
 refine codeAny_call_function Y.depth (KX _ _ lk) rfl S.co S.gen rfl (PySem.W.codeRec_of KX Z) (hb _ _ _ _ ?_);refine wpAny_newFunctionEnv_cells S.kind G λO0 he s1 x=>?_;subst he;refine⟨X.keeps x.toInCall.keep,codeAny_func ?_⟩;obtain⟨t,ht,hq⟩:=L A d s H vs Q E (Y.deeper _) O;have I:Inv (Pd CX P w K mg base N qual scope f cdv A d s H E) [] (start N vs) H s1:=aW S Y.hd T hl r x;refine gT (ht [] s1 (start N vs) H _ I hq) (λfl s' hs=>?_) λe s' hs=>hs;have ot:∀{z:St}{F:Hp}{v:V}{u:ac},Inv (Pd CX P w K mg base N qual scope f cdv A d s H E) [] z F s'->cx v u->Q v F->CE d P w H s Q u s':=
  λ{z F v u} J U q=>⟨v,F,J.os,J.bare,J.base,J.hok,U,q⟩
 cases fl with
 |ret u=>
  obtain⟨v,z,F,J,U,q⟩:=hs;exact ot J U q
 |next=>
  obtain⟨z,F,J,q⟩:=hs;exact ot (v:=V.non) (u:=fq) J rfl q
 |brk=>
  obtain⟨_,_,_,q⟩:=hs;exact kf q
 |cont=>
  obtain⟨_,_,_,q⟩:=hs;exact kf q
end L2
variable {xs ys:List L2.V}{H H' H1 F2 F1 He Hf Hb:L2.Hp}{v:L2.V}{X:L2.Cx}{σ:L2.St}{CX:L2.CXT}{r:List L2.V->L2.Hp->L2.VK->Prop}{kvs:List (L2.Key×L2.V)}{ks:List (List L2.Key)}{F:List (List L2.Key)->Int}
namespace L2
open PySem PySem.Spec PyProof.Rows
section
variable {p:Pos}{es:List Expr}{t:TA}{id T:String}
def tCB(r:List V->Hp->VK->Prop)(t:TA):TE:=λg H Q=>t g H λvs z=>r vs z Q
def Iw(hc:CN X (.builtin id) r)(Z:Gl X x)(Y:X.mg x=E2)(U:d6 x=W1 (.builtin id))(ha:PA X (e::es) t)(W:x≠"__name__":=by decide)(g:(x==("__debug__":Str))=ZA:=by decide)(he:ay (e::es) X.env=(ZA,eval e X.env)::ay es X.env:=by rfl)(d:(dS pos (ay es X.env)).any (·.1)=ZA:=by rfl):PE X (.Call (.Name x p) (e::es) [] pos) (tCB r t):=by
 intro G s z H Q I h;refine wm (N6 I Z Y U ?_ W g);exact PyProof.Rows.callWith_builtin1 (mr (ha pos G s z H _ I h) (by rintro L O ⟨J,H1,I1,S,q1⟩;exact hc G O z H1 J L Q I1 S q1)) he d
def En(hc:CN X (.type T) r)(Z:Gl X x)(Y:X.mg x=E2)(U:d6 x=W1 (.type T))(ha:PA X (e::es) t)(W:x≠"__name__":=by decide)(g:(x==("__debug__":Str))=ZA:=by decide)(he:ay (e::es) X.env=(ZA,eval e X.env)::ay es X.env:=by rfl)(d:(dS pos (ay es X.env)).any (·.1)=ZA:=by rfl):PE X (.Call (.Name x p) (e::es) [] pos) (tCB r t):=by
 intro G s z H Q I h;refine wm (N6 I Z Y U ?_ W g);exact CA (mr (ha pos G s z H _ I h) (by rintro L O ⟨J,H1,I1,S,q1⟩;exact hc G O z H1 J L Q I1 S q1)) he d
end
end L2
namespace HT
open PySem PyProof.Rows
section
open PySem.SeqAt
open PySem.AutoSeq1 (wpAny_loadPart')
open PySem.MeetsSeq PySem.MeetsSeq2 PySem.MeetsSeq3
end
section
variable {A:aS}
def mR{t:Addr}{d:List ac}(ht:IsTup s.heap t vs.toArray)(hb:IsTup s.heap b d.toArray)(T:vs≠[])(h1:d=[]->Q (.ref t) s)(h2:d≠[]->Q (.ref s.heap.objs.size) { s with heap:=s.heap.push { cls:=.type "tuple",data:=.seq (vs++d).toArray } })(hsz:vs.length+d.length<=sizeLine):ag (ai prog w) A (kg .Add (.ref t) (.ref b)) Q E s:=by
 obtain⟨⟨cls,Z,data,W⟩,O,Y,n,U⟩:=id ht;obtain⟨⟨N0,J,S,z⟩,g,I,n2,G⟩:=id hb;simp only at Y U I G;subst Y U I G;have e:vs.toArray++d.toArray=(vs++d).toArray:=by simp
 by_cases L:d=[]
 .exact A3 ⟨_,O,rfl⟩ ⟨_,g,rfl⟩ D3 D4 D5 D6 (D7 _ _)
   (tuple_addW1 t b vs.toArray d.toArray n n2 Z J W z (by simpa using T) (by simp[L])) ⟨O,g,h1 L⟩
 .refine A3 ⟨_,O,rfl⟩ ⟨_,g,rfl⟩ D3 D4 D5 D6 (D7 _ _)
   (tuple_addW2 t b vs.toArray d.toArray n n2 Z J W z (by simpa using T) (by simpa using L) (by rw[cw,cw];exact hsz)) ⟨O,g,?_⟩
  rw[e];exact h2 L
def sIx(n d:Nat):Option Int->Nat
 |none=>d
 |some v=>if v<0 then (v+(n:Int)).toNat else min v.toNat n
def mU(n d k:Nat):sIx n d (W1 (k:Int))=min k n:=by
 show (if (k:Int)<0 then ((k:Int)+(n:Int)).toNat else min (k:Int).toNat n)=min k n;rw[RF (by omega),eD]
def uh(n d:Nat)(z:d<=n)(o:Option Int):sIx n d o<=n:=by
 cases o with
 |none=>exact z
 |some v=>
  show (if v<0 then (v+(n:Int)).toNat else min v.toNat n)<=n
  by_cases g:v<0
  .rw[OF g];omega
  .rw[RF g];exact Nat.min_le_right _ _
def YL(v:Int)(n d:Nat):(if v<0 then max (v+(n:Int)) 0 else min v (n:Int))=((sIx n d (W1 v):Nat):Int):=by
 show (if v<0 then max (v+(n:Int)) 0 else min v (n:Int))=(((if v<0 then (v+(n:Int)).toNat else min v.toNat n):Nat):Int)
 by_cases g:v<0
 .simp only[OF g];omega
 .simp only[RF g];omega
def W_(d z:Option Int)(n:Nat):D8 d z 1 (n:Int)=(((sIx n 0 d:Nat):Int),((sIx n n z:Nat):Int)):=by
 have g:¬ ((1:Int)<0):=by omega
 unfold D8;simp only[g,XG];refine wt ?_ ?_
 .cases d with
  |none=>rfl
  |some v=>exact YL v n 0
 .cases z with
  |none=>rfl
  |some v=>exact YL v n n
def XD(i j:Nat):A4 (i:Int) (j:Int) 1=j-i:=by
 unfold A4;have g:(1:Int) > 0:=by omega
 simp only[g,WG,GN];split<;>omega
def Qj{v:ac}{o:Option Int}{Q:Option Int->ah->Prop}(p:qc v o)(h:Q o s):ag (ai prog w) A (Builtin.Slice.slicePartIndex v) Q E s:=by
 cases p with
 |none=>exact slicePart_none h
 |int i t=>exact slicePart_int h
theorem N_{sl:Addr}{J I:ac}{d z:Option Int}{Q:Int×Int×Nat->ah->Prop}(hs:s.heap.IsSliceOf sl J I .none)(pl:qc J d)(pu:qc I z)(h:Q (((sIx n 0 d:Nat):Int),1,sIx n n z-sIx n 0 d) s):ag (ai prog w) A (GO (.ref sl) (pure (n:Int))) Q E s:=by
 obtain⟨O,g,L,G⟩:=id hs;unfold GO Builtin.Slice.sliceFields;refine ae (ae (ku g G (x:=J) rfl (ae (ku g G (x:=I) rfl (ae (ku g G (x:=.none) rfl (av ?_)))))));refine ae (slicePart_none ?_);show ag _ _ (if ((1:Int)==0)=E3 then _ else _) _ _ s;rw[RF (by decide)];refine ae (Qj pl (ae (Qj pu (ae (av ?_)))));show ag _ _ (match D8 d z 1 (n:Int) with | (d,z)=>pure (d,(1:Int),A4 d z 1)) _ _ s;rw[W_ d z n];show ag _ _ (pure (((sIx n 0 d:Nat):Int),(1:Int),A4 ((sIx n 0 d:Nat):Int) ((sIx n n z:Nat):Int) 1)) _ _ s;rw[XD];exact av h
def cY(xs:Array ac)(i k:Nat):((bb k).filterMap λ(m:Nat)=>xs[((i:Int)+(m:Int)*1).toNat]?).toArray=((xs.toList.drop i).take k).toArray:=by
 have e:(λ(m:Nat)=>xs[((i:Int)+(m:Int)*1).toNat]?)=λm=>xs[i+m]?:=by
  funext m;have:((i:Int)+(m:Int)*1).toNat=i+m:=by omega
  rw[this]
 rw[e];have:=pick_run xs i k;rw[GT] at this;have d:((λx=>xs[x]?) ∘ λx=>i+x)=λm=>xs[i+m]?:=rfl;rw[d] at this;rw[this]
theorem Mg{t sl:Addr}{items:Array ac}{T S:ac}{g z:Option Int}(O:IsTup s.heap t items)(hs:s.heap.IsSliceOf sl T S .none)(pl:qc T g)(pu:qc S z)(W:¬ (sIx items.size 0 g=0/\sIx items.size items.size z=items.size))(h:Q (.ref s.heap.objs.size) { s with heap:=s.heap.push { cls:=.type "tuple",data:=.seq ((items.toList.drop (sIx items.size 0 g)).take (sIx items.size items.size z-sIx items.size 0 g)).toArray } })(hsz:items.size<=sizeLine):ag (ai prog w) A (nX (.ref t) (.ref sl)) Q E s:=by
 have d:sizeOk (.seq ((items.toList.drop (sIx items.size 0 g)).take (sIx items.size items.size z-sIx items.size 0 g)).toArray):=by
  show ((items.toList.drop (sIx items.size 0 g)).take (sIx items.size items.size z-sIx items.size 0 g)).toArray.size<=sizeLine;rw[cw,iO,mE,ke];omega
 have Z:sIx items.size items.size z<=items.size:=uh _ _ (aE _) z;obtain⟨U,G,L,Y⟩:=id hs;have J:s.TypeIs (.ref sl) "slice":=⟨U,G,L⟩;unfold nX
 try with_reducible refine wpAny_holding ?_
 first | refine ae (av ?_) | skip
 refine ae (wpAny_sequenceKey O.typeIs (by decide) ?_);refine ae (ro (name:=eB "__getitem__") O.typeIs D9
  (hU D9 O.typeIs entry_tuple_getitem ?_ (args_tuple_getitem _ _)))
 show ag _ _ (Fk (.ref t) >>= _) _ _ s;refine ae (tupleItemsOf_ O ?_);refine ae (wv J ?_);rw[OF (by decide)];refine ae (N_ hs pl pu ?_);have I:¬ ((((sIx items.size 0 g:Nat):Int)==0&&(1:Int)==1&&(sIx items.size items.size z-sIx items.size 0 g)==items.size)=E3):=by
  intro q;rw[fh,fh] at q;have q1:((sIx items.size 0 g:Nat):Int)=0:=eq_of_beq q.1.1;have q2:sIx items.size items.size z-sIx items.size 0 g=items.size:=eq_of_beq q.2;exact W ⟨by omega,by omega⟩
 show ag _ _ (if (((sIx items.size 0 g:Nat):Int)==0&&(1:Int)==1&&(sIx items.size items.size z-sIx items.size 0 g)==items.size)=E3 then _ else _) _ _ s;rw[RF I,cY]
 first
  |exact ae (m:=A6 _) (kL (av ⟨_,rfl,av h⟩) d)
  |exact ae (m:=A6 _) (kL (ae (av (av ⟨_,rfl,av h⟩))) d)
  |exact ae (ae (m:=A6 _) (kL (av (av ⟨_,rfl,av h⟩)) d))
  |exact ae (ae (m:=A6 _) (kL (av ⟨_,rfl,av h⟩) d))
end
end HT
namespace L2
open PySem PySem.Spec PyProof.Rows
abbrev TO:=St->Hp->(Option Int->Hp->Prop)->Prop
def PO(X:Cx)(e:Option Expr)(t:TO):Prop:=
 ∀(d:NI) (s:ah) (g:St) (H:Hp) (Q:Option Int->Hp->Prop),Inv X d g H s->t g H Q ->
  ag (ai X.prog X.w) X.A (evalPart e X.env) (λu G=>∃o z,Inv X d g z G/\qc u o/\Q o z) X.xe s
def mV:TO:=λ_ H Q=>Q E2 H
def yJ(t:TE):TO:=λg H Q=>t g H λx z=>∃i,x=.int i/\Q (W1 i) z
def Sr:∀{us:List ac},cc (ns.map V.int) us->sQ us ns:=by
 induction ns with
 |nil=>intro us r;rw[ja] at r;cases r;exact .nil
 |cons n ns d=>
  intro us r;rw[bn] at r;cases r with
  |cons G L=>
   obtain⟨t,e⟩:=G;subst e;exact .cons n t (d L)
section
variable {te:TE}{lo hi:Option Expr}{tl th:TO}
def mW:PO X E2 mV:=by
 intro d s g H Q I h;rw[evalPart_none];exact av ⟨E2,H,I,.none,h⟩
def mX(h:PE X e te):PO X (W1 e) (yJ te):=by
 intro d s g H Q I z;rw[evalPart_some];refine mr (h d s g H _ I z) λu O q0=>?_;obtain⟨x,L,J,G,q1⟩:=q0;obtain⟨i,rfl,q⟩:=q1;obtain⟨t,rfl⟩:=G;exact⟨W1 i,L,J,.int i t,q⟩
def SlR(X:Cx)(r:V->Option Int->Option Int->Hp->VK->Prop):Prop:=
 ∀(d:NI) (s:ah) (g:St) (H:Hp) (x:V) (v J I:ac) (z G:Option Int) (sl:Addr) (Q:VK),Inv X d g H s->cx x v->s.heap.IsSliceOf sl J I .none->qc J z->qc I G->r x z G H Q ->
  ∃T id,Da (.type T) "__getitem__"=pure (W1 (.builtin id))/\s.TypeIs v T/\ag (ai X.prog X.w) X.A (nX v (.ref sl)) (EP X d g Q) X.xe s
def SlR.or{r L:V->Option Int->Option Int->Hp->VK->Prop}(h:SlR X r)(h':SlR X L):SlR X (λx lo hi H Q=>r x lo hi H Q∨L x lo hi H Q):=by
 intro d s g H x v J z lo hi W Q I rx hs G pu q
 rcases q with q | q
 .exact h d s g H x v J z lo hi W Q I rx hs G pu q
 .exact h' d s g H x v J z lo hi W Q I rx hs G pu q
def tSl(r:V->Option Int->Option Int->Hp->VK->Prop)(te:TE)(d th:TO):TE:=λg H Q=>te g H λx I=>d g I λl G=>th g G λu z=>r x l u z Q
theorem cZ{r:V->Option Int->Option Int->Hp->VK->Prop}(Z:SlR X r)(he:PE X e te)(hl:PO X lo tl)(Y:PO X hi th):PE X (.Subscript e (.Slice lo hi E2 p2) pos) (tSl r te tl th):=by
 intro d s g H Q I h;refine DA (mr (he d s g H _ I h) λv L q9=>?_);obtain⟨x,H1,I1,O,q1⟩:=q9;refine wpAny_Slice (mr (hl d L g H1 _ I1 q1) λJ S ⟨l,H2,I2,W,q2⟩=>mr (Y d S g H2 _ I2 q2) λz U p0=>?_);obtain⟨u,G,I3,pu,q3⟩:=p0;rw[evalPart_none];refine av ?_;have I4:Inv X d g G { U with heap:=U.heap.push { cls:=.type "slice",data:=.fields #[J,z,.none] } }:=I3.kept (t':=U.toks) λb ob q=>bg _ q;obtain⟨T,id,hT,ht,hg⟩:=Z d { U with heap:=U.heap.push { cls:=.type "slice",data:=.fields #[J,z,.none] } } g G x v J z l u U.heap.objs.size Q I4 O (Heap.IsSliceOf.new ..) W pu q3;show ag (ai X.prog X.w) X.A (A7 e (.Slice lo hi E2 p2) v (.ref U.heap.objs.size)) (EP X d g Q) X.xe { U with heap:=U.heap.push { cls:=.type "slice",data:=.fields #[J,z,.none] } };exact tail_any (ops:=[.ref U.heap.objs.size,v]) ht hT hg (by with_unfolding_all rfl)
def Xt(xs:List V)(d z:Option Int):List V:=(xs.drop (HT.sIx xs.length 0 d)).take (HT.sIx xs.length xs.length z-HT.sIx xs.length 0 d)
def PX(xs:List V)(d z:Option Int):(Xt xs d z).length<=xs.length:=by
 unfold Xt;rw[iO,mE];omega
def rSlT(K:aI):V->Option Int->Option Int->Hp->VK->Prop:=λx d z H Q=>∃a xs,x=.ref a/\Nn K H a xs ∧
 ¬ (HT.sIx xs.length 0 d=0/\HT.sIx xs.length xs.length z=xs.length)/\∀p,H p=E2->Q (.ref p) (fk H p (.tup (Xt xs d z)))
theorem ul:SlR X (rSlT X.K):=by
 intro Y s W H x v vl Z z J sl Q I rx hs S pu h;obtain⟨a,d,rfl,T,U,q⟩:=h;cases rx;obtain⟨G,r,L,O⟩:=I.tuple T;have g:G.toArray.size=d.length:=by rw[cw];exact r.length.symm
 refine⟨"tuple",_,D9.lookup,L.typeIs,?_⟩;refine HT.Mg L hs S pu (by rw[g];exact U) ?_ (by rw[g];exact O);rw[g];refine⟨.ref s.heap.objs.size,_,I.laid (t':=s.toks) (o:=.tup (Xt d z J)) (λb ob q=>bg _ q) (aE _) ?_,rfl,q _ (I.hok.fresh (aE _))⟩;exact⟨cy (PX d z J) O,_,(r.drop (HT.sIx d.length 0 z)).take (HT.sIx d.length d.length J-HT.sIx d.length 0 z),DB _ _⟩
def cc.nil_iff(r:cc xs us):us=[]↔xs=[]:=by
 cases r with
 |nil=>simp
 |cons _ _=>simp
end
def ixN(n:Nat)(i:Int):Option Nat:=if 0<=i then (if i<n then W1 i.toNat else E2) else if -(n:Int)<=i then W1 (i+n).toNat else E2
def atI{α:Type}(xs:List α)(i:Int):Option α:=(ixN xs.length i).bind λj=>xs[j]?
def mY{i:Int}(h:ixN n i=W1 j):seqIndex? i n=W1 j/\j<n/\-(n:Int)<=i/\i<n:=by
 unfold ixN at h
 by_cases J:0<=i
 .rw[OF J] at h
  by_cases g:i<n
  .rw[OF g] at h;have e:i.toNat=j:=eJ h;exact⟨by rw[seqIndex_of J g,e],by omega,by omega,g⟩
  .rw[RF g] at h;cases h
 .rw[RF J] at h
  by_cases g : -(n:Int)<=i
  .rw[OF g] at h;have e:(i+n).toNat=j:=eJ h;exact⟨by rw[seqIndex_neg (by omega) g,e],by omega,g,by omega⟩
  .rw[RF g] at h;cases h
def Th{d:Type}{xs:List d}{i:Int}{v:d}(h:atI xs i=W1 v):∃j,seqIndex? i xs.length=W1 j/\xs[j]?=W1 v/\j<xs.length/\-(xs.length:Int)<=i/\i<xs.length:=by
 unfold atI at h;cases e:ixN xs.length i with
 |none=>rw[e] at h;cases h
 |some j=>
  rw[e] at h;obtain⟨G,z,S,g⟩:=mY e;exact⟨j,G,h,z,S,g⟩
def Mh(b:Expr):Prop:=∀o i,wx b ZA o i=operate [o,i] (nX o i)
def IxR(X:Cx)(r:R2):Prop:=
 ∀(g d:Expr) (G:NI) (s:ah) (z:St) (H:Hp) (x y:V) (v u:ac) (Q:VK),Inv X G z H s->cx x v->cx y u->r x y H Q ->
  wx d ZA v u=operate [v,u] (nX v u)->ag (ai X.prog X.w) X.A (A7 g d v u) (EP X G z Q) X.xe s
def MtR(X:Cx)(id:String)(r:V->List V->Hp->VK->Prop):Prop:=
 ∀(d:NI) (s:ah) (g:St) (H:Hp) (x:V) (xs:List V) (v:ac) (us:List ac) (Q:VK),Inv X d g H s->cx x v->cc xs us->r x xs H Q ->
  ag (ai X.prog X.w) X.A (call (.builtin id) (v::us)) (EP X d g Q) X.xe s
section
variable {a b:Expr}{ta tb:TE}
def IxR.or{r L:R2}(h:IxR X r)(h':IxR X L):IxR X (λx y H Q=>r x y H Q∨L x y H Q):=by
 intro g d G s z H x y v u Q I rx J q hs
 rcases q with q | q
 .exact h g d G s z H x y v u Q I rx J q hs
 .exact h' g d G s z H x y v u Q I rx J q hs
def qy{r:R2}(G:IxR X r)(L:PE X a ta)(J:PE X b tb)(hs:Mh b):PE X (.Subscript a b pos) (tOp r ta tb):=by
 intro d s g H Q I h;exact DA (binT L J I h λv u S x y T O rx z q=>G a b d S g T x y v u Q O rx z q (hs _ _))
def rIxL(K:aI):R2:=λx y H Q=>∃p xs i v,x=.ref p/\y=.int i/\MR K H p xs/\atI xs i=W1 v/\Q v H
def rIxT(K:aI):R2:=λx y H Q=>∃p xs i v,x=.ref p/\y=.int i/\Nn K H p xs/\atI xs i=W1 v/\Q v H
def rIxS:R2:=λx y H Q=>∃z i c,x=.str z/\y=.int i/\z.length<=sizeLine/\atI z.cps.toList i=W1 c/\Q (.str ⟨#[c]⟩) H
def mZ:IxR X (rIxL X.K):=by
 intro d G T s S H x y v u Q I rx ry h hs;obtain⟨p,xs,i,z,rfl,rfl,hq,he,q⟩:=h;cases rx;obtain⟨t,rfl⟩:=ry;obtain⟨O,r,L,hz⟩:=I.list hq;obtain⟨j,g,h2,h3,h4,h5⟩:=Th he;obtain⟨w,Y,J⟩:=r.get h2;have hl:=r.length;have hn:=Qh;have ot:EP X T S Q w s:=⟨z,H,I,J,q⟩
 by_cases W:0<=i
 .have U:i.toNat=j:=by
   rw[seqIndex_of W h5] at g;exact eJ g
  exact item_listR L.isList W (by omega) (by rw[U];simpa using Y) ot hs
 .have U:(i+(O.toArray.size:Int)).toNat=j:=by
   rw[seqIndex_neg (by omega) h4] at g;rw[cw,<-hl];exact eJ g
  exact GU (x:=w) L.isList.typeIs GV.lookup
   (wpAny_getItem_list_neg (Q:=λr Z=>r=w/\EP X T S Q r Z) L.isList (by omega) (by rw[cw]<;>omega) (by omega) (by rw[U];simpa using Y) ⟨rfl,ot⟩) hs
def um:IxR X (rIxT X.K):=by
 intro g d L s G H x y v u Q I rx T h hs;obtain⟨p,xs,i,z,rfl,rfl,W,Z,q⟩:=h;cases rx;obtain⟨t,rfl⟩:=T;obtain⟨U,r,O,hz⟩:=I.tuple W;obtain⟨j,h1,h2,h3,h4,h5⟩:=Th Z;obtain⟨w,ew,J⟩:=r.get h2;have Y:=r.length;have hn:=Qh;have ot:EP X L G Q w s:=⟨z,H,I,J,q⟩;exact GU (x:=w) O.typeIs slot_tuple_getitem.lookup
  (getItem_tuple (j:=j) (Q:=λr S=>r=w/\EP X L G Q r S) O (by omega) (by omega) (by rw[cw,<-Y];exact h1) (by simpa using ew) ⟨rfl,ot⟩) hs
def Ti:IxR X rIxS:=by
 intro g d π s Z H x y v u Q I rx J h hs;obtain⟨z,i,c,rfl,rfl,hz,L,q⟩:=h;obtain⟨t,rfl⟩:=rx;obtain⟨t',rfl⟩:=J;obtain⟨j,G,T,h3,S,O⟩:=Th L;have Y:z.cps.toList.length=z.length:=by simp[o0]
 rw[Y] at G S O;have hn:=Qh;exact tail_any (DC s z t) slot_str_getitem.lookup (getItem_str (c:=c) (by
  have W:decide (i < -(2^63:Int))=ZA:=UF (by omega);have U:decide (i≥2^63)=ZA:=UF (by omega);rw[W,U,Bool.or_false]) (by rw[G];simpa using T) ⟨.str ⟨#[c]⟩,H,I.tok _,⟨_,rfl⟩,q⟩) hs
def rIx(K:aI):R2:=λx y H Q=>rIxL K x y H Q∨rIxT K x y H Q∨rIxS x y H Q
def cg:IxR X (rIx X.K):=mZ.or (um.or Ti)
def Tj(d z:Option Int)(n:Nat):(rq d z E2 n).1=((HT.sIx n 0 d:Nat):Int)/\(rq d z E2 n).2.1=((HT.sIx n n z:Nat):Int)/\(rq d z E2 n).2.2=1:=by
 refine⟨?_,?_,rfl⟩
 .cases d with
  |none=>simp[rq,HT.sIx]
  |some i=>
   simp only[rq,HT.sIx,GW,show (1:Int) > 0 by decide,WG]
   by_cases h:i<0
   .simp only[h,WG]<;>omega
   .simp only[h,XG]<;>omega
 .cases z with
  |none=>simp[rq,HT.sIx]
  |some i=>
   simp only[rq,HT.sIx,GW,show (1:Int) > 0 by decide,WG]
   by_cases h:i<0
   .simp only[h,WG]<;>omega
   .simp only[h,XG]<;>omega
def Rt(d:List ac)(g z:Option Int):slicePick d.toArray g z E2=((d.drop (HT.sIx d.length 0 g)).take (HT.sIx d.length d.length z-HT.sIx d.length 0 g)).toArray:=by
 obtain⟨I,G,S⟩:=Tj g z d.toArray.size;unfold slicePick;rw[I,G,S];simp only[sliceRange_one,pick_run,cw]<;>rfl
def rSlL(K:aI):V->Option Int->Option Int->Hp->VK->Prop:=λx d z H Q=>∃a xs,x=.ref a/\MR K H a xs/\∀p,H p=E2->Q (.ref p) (fk H p (.lst (Xt xs d z)))
theorem mq:SlR X (rSlL X.K):=by
 intro W s U H x v Z Y z G sl Q I rx hs J pu h;obtain⟨a,g,rfl,T,q⟩:=h;cases rx;obtain⟨L,r,O,S⟩:=I.list T;have d:=r.length;refine⟨"list",_,GV.lookup,O.isList.typeIs,?_⟩;refine wpAny_getItem_list_slice O.isList hs J pu .none (by simp) ?_ (by rw[cw]<;>omega);rw[Rt,<-d];refine⟨.ref s.heap.objs.size,_,I.laid (t':=s.toks) (o:=.lst (Xt g z G)) (λb ob q=>bg _ q) (aE _) ?_,rfl,q _ (I.hok.fresh (aE _))⟩;exact⟨cy (PX g z G) S,_,0,(r.drop (HT.sIx g.length 0 z)).take (HT.sIx g.length g.length G-HT.sIx g.length 0 z),cp _ rfl⟩
def Jm:V->Bool
 |.non=>E3
 |.bl _=>E3
 |.int _=>E3
 |.str _=>E3
 |_=>ZA
def UY:V->V->Bool
 |.non,.non=>E3
 |.bl a,.bl b=>a==b
 |.bl a,.int b=>(if a then 1 else 0)==b
 |.int a,.bl b=>a==(if b then 1 else 0)
 |.int a,.int b=>a==b
 |.str a,.str b=>a==b
 |_,_=>ZA
def cj{A:aS}{y x:V}{v:ac}(z:cx y u)(rx:cx x v)(G:Jm y=E3)(g:Jm x=E3):mI A s u v (UY y x):=by
 cases y with
 |non=>
  cases z;cases x with
  |non=>cases rx;exact DD _
  |bl b=>cases rx;exact SeqAt.EqAt.none_bool b
  |int b=>obtain⟨t,rfl⟩:=rx;exact SeqAt.EqAt.none_int b t
  |str b=>obtain⟨t,rfl⟩:=rx;exact SeqAt.EqAt.none_str b t
  |_=>exact SF (show ZA=E3 from g) df
 |bl a=>
  cases z;cases x with
  |non=>cases rx;exact SeqAt.EqAt.bool_none a
  |bl b=>cases rx;exact SeqAt.EqAt.bool_bool a b
  |int b=>obtain⟨t,rfl⟩:=rx;exact SeqAt.EqAt.bool_int a b t
  |str b=>obtain⟨t,rfl⟩:=rx;exact SeqAt.EqAt.bool_str a b t
  |_=>exact SF (show ZA=E3 from g) df
 |int a=>
  obtain⟨d,rfl⟩:=z;cases x with
  |non=>cases rx;exact SeqAt.EqAt.int_none a d
  |bl b=>cases rx;exact SeqAt.EqAt.int_bool a d b
  |int b=>obtain⟨t,rfl⟩:=rx;exact SeqAt.EqAt.int_int a d b t
  |str b=>obtain⟨t,rfl⟩:=rx;exact FD a d b t
  |_=>exact SF (show ZA=E3 from g) df
 |str a=>
  obtain⟨d,rfl⟩:=z;cases x with
  |non=>cases rx;exact SeqAt.EqAt.str_none a d
  |bl b=>cases rx;exact SeqAt.EqAt.str_bool a d b
  |int b=>obtain⟨t,rfl⟩:=rx;exact FH a d b t
  |str b=>obtain⟨t,rfl⟩:=rx;exact SeqAt.EqAt.str_str a d b t
  |_=>exact SF (show ZA=E3 from g) df
 |_=>exact SF (show ZA=E3 from G) df
def YV(x:V)(u:ac):Bool:=match u with
 |.none=>UY .non x
 |.bool b=>UY (.bl b) x
 |.int i _=>UY (.int i) x
 |.str z _=>UY (.str z) x
 |_=>ZA
def cu{x y:V}(r:cx y u)(f:Jm y=E3):YV x u=UY y x:=by
 cases y with
 |non=>cases r;rfl
 |bl b=>cases r;rfl
 |int i=>obtain⟨t,rfl⟩:=r;rfl
 |str z=>obtain⟨t,rfl⟩:=r;rfl
 |_=>exact SF (show ZA=E3 from f) df
theorem Mi{x:V}:∀{xs:List V}{us:List ac},cc xs us->xs.all Jm=E3->us.any (YV x)=xs.any λy=>UY y x
 |_,_,.nil,_=>rfl
 |y::xs,u::us,.cons r t,f=>by
  rw[xa,fh] at f;rw[rL,rL,cu r f.1,Mi t f.2]
theorem Jx{A:aS}{s:ah}{x:V}{v:ac}(rx:cx x v)(g:Jm x=E3):∀{xs:List V}{us:List ac},cc xs us->xs.all Jm=E3->∀u∈us,mI A s u v (YV x u)
 |_,_,.nil,_=>λu S=>by cases S
 |y::xs,u::us,.cons r t,f=>λT S=>by
  rw[xa,fh] at f
  rcases bP.mp S with rfl | S
  .rw[cu r f.1];exact cj r rx f.1 g
  .exact Jx rx g t f.2 T S
def VX(x:V)(xs:List V):Bool:=xs.any λy=>UY y x
def rIn(K:aI)(d:Bool):R2:=λx y H Q=>∃p xs,y=.ref p/\(MR K H p xs∨Nn K H p xs)/\Jm x=E3/\xs.all Jm=E3/\Q (.bl (if d then !VX x xs else VX x xs)) H
def aX:NH X (dA .In) (rIn X.K ZA):=by
 intro S s L H x y v u Q I rx J h;obtain⟨p,U,rfl,T,z,fs,q⟩:=h;cases J
 rcases T with T | T
 .obtain⟨d,r,G,O⟩:=I.list T;refine GY (YV x) G.isList (λw g=>Jx rx z r fs w (by simpa using g)) ⟨.bl _,H,I,rfl,?_⟩;rw[show d.toArray.any (YV x)=d.any (YV x) by simp,Mi r fs];exact q
 .obtain⟨d,r,G,O⟩:=I.tuple T;refine SeqAt.in_tupleAt (YV x) G (λw g=>Jx rx z r fs w (by simpa using g)) ⟨.bl _,H,I,rfl,?_⟩;rw[show d.toArray.any (YV x)=d.any (YV x) by simp,Mi r fs];exact q
def Tn:NH X (dA .NotIn) (rIn X.K E3):=by
 intro S s L H x y v u Q I rx J h;obtain⟨p,U,rfl,T,z,fs,q⟩:=h;cases J
 rcases T with T | T
 .obtain⟨d,r,G,O⟩:=I.list T;refine H0 (YV x) G.isList (λw g=>Jx rx z r fs w (by simpa using g)) ⟨.bl _,H,I,rfl,?_⟩;rw[show d.toArray.any (YV x)=d.any (YV x) by simp,Mi r fs];exact q
 .obtain⟨d,r,G,O⟩:=I.tuple T;refine SeqAt.notIn_tupleAt (YV x) G (λw g=>Jx rx z r fs w (by simpa using g)) ⟨.bl _,H,I,rfl,?_⟩;rw[show d.toArray.any (YV x)=d.any (YV x) by simp,Mi r fs];exact q
def CN.or{f:ac}{L:List V->Hp->VK->Prop}(h:CN X f r)(h':CN X f L):CN X f (λxs H Q=>r xs H Q∨L xs H Q):=by
 intro d s g H xs G Q I z q
 rcases q with q | q
 .exact h d s g H xs G Q I z q
 .exact h' d s g H xs G Q I z q
theorem Tp:CN X (.type "list") (λxs H Q=>∃p ys,xs=[.ref p]/\(MR X.K H p ys∨Nn X.K H p ys)/\∀l,H l=E2->Q (.ref l) (fk H l (.lst ys))):=by
  intro π s σ H xs us Q I r h;obtain⟨p,ys,rfl,T,q⟩:=h;obtain⟨u,rfl,rx⟩:=NJ r;cases rx;have ot:∀(d:List ac),cc ys d->ys.length<=sizeLine->∀(J:Heap) (g:Nat),(∀b Z,s.heap.get? b=W1 Z->J.get? b=W1 Z) ->
      J.get? s.heap.objs.size=W1 { cls:=.type "list",dict:=E2,data:=.seq d.toArray g,slots:=#[] }->EP X π σ Q (.ref s.heap.objs.size) { s with heap:=J }:=λd L O J g z e=>
    ⟨.ref s.heap.objs.size,_,I.laid (t':=s.toks) z (aE _) (show BJ X.prog X.w _ J _ (.lst ys) from⟨O,d,g,L,e⟩),rfl,q _ (I.hok.fresh (aE _))⟩
  rcases T with T | T
  . obtain⟨d,L,S,O⟩:=I.list T
    have G:=L.length;obtain⟨o,U,Y,n,W⟩:=S.isList;exact call_list_seq p (.inl rfl) U Y W (λJ g z e=>ot d L O J g z e) (by simp only[cw]<;>omega)
  . obtain⟨d,L,S,O⟩:=I.tuple T
    have G:=L.length;obtain⟨o,U,Y,n,W⟩:=S;exact call_list_seq p (.inr rfl) U Y W (λJ g z e=>ot d L O J g z e) (by simp only[cw]<;>omega)
theorem K7:CN X (.type "tuple") (λxs H Q=>∃p ys,xs=[.ref p]/\((MR X.K H p ys/\∀l,H l=E2->Q (.ref l) (fk H l (.tup ys)))∨(Nn X.K H p ys/\Q (.ref p) H))):=by
 intro z s g H xs Z Q I r h;obtain⟨p,ys,rfl,h⟩:=h;obtain⟨u,rfl,rx⟩:=NJ r;cases rx
 rcases h with ⟨T,q⟩ | ⟨T,q⟩
 .obtain⟨d,L,G,O⟩:=I.list T;have S:=L.length;refine call_tuple_list G.isList (λJ W=>?_) (by simp only[cw]<;>omega);have U:Inv X z g H { s with heap:=J }:=I.kept (t':=s.toks) W;have Y:Inv X z g (fk H J.objs.size (.tup ys)) { s with heap:=J.push { cls:=.type "tuple",data:=.seq d.toArray } }:=
   U.laid (t':=s.toks) (λb o e=>bg _ e) (aE _) (show BJ X.prog X.w _ _ _ (.tup ys) from⟨O,d,L,DB _ _⟩)
  exact⟨.ref J.objs.size,_,Y,rfl,q _ (U.hok.fresh (aE _))⟩
 .obtain⟨d,L,G,O⟩:=I.tuple T;exact call_tuple_same G ⟨.ref p,H,I,rfl,q⟩
def tyV(K:aI)(T:String)(x:V)(H:Hp):Prop:=match x with
  |.str _=>T="str"
  |.int _=>T="int"
  |.ref p=>(T="list"/\∃xs,MR K H p xs)∨(T="tuple"/\∃o,K.lookup p=W1 o/\o.cls=.type "tuple"/\o.dict=E2) ∨
      (T="dict"/\((∃kvs,H p=W1 (.dK kvs))∨∃kvs,H p=W1 (.dT kvs)))∨(T="set"/\∃S n,H p=W1 (.set S n))
  |_=>False
def cz{T:String}{x:V}{v:ac}(I:Inv X π σ H s)(r:cx x v)(ty:tyV X.K T x H):
  s.TypeIs v T/\∀a,v=.ref a->∃ob,s.heap.get? a=W1 ob/\ob.dict=E2:=by
 cases x with
 |str z=>
  obtain⟨t,rfl⟩:=r;cases (show T="str" from ty);exact⟨DC s z t,λ_ e=>nomatch e⟩
 |int i=>
  obtain⟨t,rfl⟩:=r;cases (show T="int" from ty);exact⟨typeIs_int s i t,λ_ e=>nomatch e⟩
 |ref p=>
  cases r
  rcases ty with ⟨rfl,Z,W⟩ | ⟨rfl,o,d,Y,J⟩ | ⟨rfl,d⟩ | ⟨rfl,S,n,d⟩
  .obtain⟨U,_,O,_⟩:=I.list W;refine⟨O.isList.typeIs,λa e=>?_⟩;cases e;obtain⟨o,n,e,c,J,_⟩:=O;exact⟨o,e,J⟩
  .refine⟨⟨o,I.kIn p o d,Y⟩,λa e=>?_⟩;cases e;exact⟨o,I.kIn _ o d,J⟩
  .have z:∃o,s.heap.get? p=W1 o/\o.ExactDict:=by
    rcases d with ⟨G,d⟩ | ⟨G,d⟩
    .obtain⟨_,_,_,_,o,_,_,e,g,_⟩:=I.hok p _ d;exact⟨o,e,g⟩
    .obtain⟨_,_,_,_,o,_,_,e,g,_⟩:=I.hok p _ d;exact⟨o,e,g⟩
   obtain⟨o,e,g⟩:=z;refine⟨⟨o,e,g.1⟩,λa L=>?_⟩;cases L;exact⟨o,e,g.2.1⟩
  .obtain⟨o,_,_,_,e,g,_⟩:=I.hok p _ d;refine⟨⟨o,e,g.1⟩,λa L=>?_⟩;cases L;exact⟨o,e,g.2.1⟩
 |_=>exact kf ty
def tBM0(K:aI)(T:String)(r:V->List V->Hp->VK->Prop)(d:TE):TE:=λg H Q=>d g H λx z=>tyV K T x z/\r x [] z Q
def tBM(K:aI)(T:String)(r:V->List V->Hp->VK->Prop)(d:TE)(t:TA):TE:=λg H Q=>d g H λx z=>tyV K T x z/\t g z λxs G=>r x xs G Q
variable {o:Expr}{es:List Expr}{to:TE}{t:TA}{name:Str}{cpos:Pos}{T id:String}{r:V->List V->Hp->VK->Prop}
def uo(W:DE T)(S:Slot T name id)(z:typeOf (.builtin id)=pure (.type "method_descriptor"))(Z:MtR X id r)(Y:PE X o to)(g:fN o name X.env (eval o X.env)=eval o X.env:=by rfl)(d:(apos.endLine==cpos.line)=E3:=by rfl):PE X (.Call (.Attribute o name apos) [] [] cpos) (tBM0 X.K T r to):=by
 intro J s G H Q I h;refine wpAny_Call_method0_late g d (mr (Y J s G H _ I h) λv U q0=>?_);obtain⟨x,H1,O,L,ty,q1⟩:=q0;obtain⟨h1,h2⟩:=cz O L ty;exact⟨T,id,W,S,z,h1,h2,HA rfl (HC (Z J U G H1 x [] v [] Q O L .nil q1))⟩
def qz(pa:DE T)(S:Slot T name id)(O:typeOf (.builtin id)=pure (.type "method_descriptor"))(hm:MtR X id r)(ho:PE X o to)(ha:PA X (e::es) t)(z:fN o name X.env (eval o X.env)=eval o X.env:=by rfl)(G:((dS cpos (ay (e::es) X.env)).all (λx=>!x.1)&&(ll cpos (iL [] X.env)).all (λx=>x.1.isSome)
   && decide ((e::es).length+([]:List mB).length+(if ([]:List mB).isEmpty then 0 else 1)<30))=E3:=by rfl)(g:(apos.endLine==cpos.line)=E3:=by rfl)(hs:ay (e::es) X.env=(ZA,eval e X.env)::ay es X.env:=by rfl)(d:(dS cpos (ay es X.env)).any (·.1)=ZA:=by rfl):
  PE X (.Call (.Attribute o name apos) (e::es) [] cpos) (tBM X.K T r to t):=by
 intro L s J H Q I h;refine wpAny_Call_method_late z G g rfl (mr (ho L s J H _ I h) λv s1 q9=>?_);obtain⟨x,H1,Y,U,ty,q1⟩:=q9;obtain⟨h1,h2⟩:=cz Y U ty;refine⟨T,id,pa,S,O,h1,h2,?_⟩;have W:=ha cpos L s1 J H1 _ Y q1;rw[hs] at W ⊢;refine HA (by show (ZA||(dS cpos (ay es X.env)).any (·.1))=ZA;rw[d]<;>rfl) (Calls.evalArgs_plain ?_);exact mr W (by rintro us s2 ⟨Z,H2,I2,r2,q2⟩;exact hm L s2 J H2 x Z v us Q I2 U r2 q2)
end
def MtM(X:Cx)(id:String)(r:V->List V->Hp->VK->Prop):Prop:=
 ∀(d:NI) (s:ah) (g:St) (H:Hp) (x:V) (xs:List V) (v:ac) (us:List ac) (Q:VK),Inv X d g H s->cx x v->cc xs us->r x xs H Q ->
  ag (ai X.prog X.w) X.A (call (.builtin id) (v::us)) (EP X d g Q) X.xe s
def cc.one:∀{x:V}{us:List ac},cc [x] us->∃u,us=[u]/\cx x u
 |_,_,.cons r .nil=>⟨_,rfl,r⟩
def cc.zero:∀{us:List ac},cc [] us->us=[]
 |_,.nil=>rfl
section
variable {l:Addr}
theorem Inv.lset{its':List ac}{f:Array ac->Array ac}(I:Inv X π σ H s)(z:H l=W1 (.lst xs))(e:s.heap.get? l=W1 { cls:=.type "list",data:=.seq its.toArray n })(G:f its.toArray=its'.toArray)(g:cc ys its')(hz:ys.length<=sizeLine):
  Inv X π σ (fk H l (.lst ys)) { s with heap:=s.heap.update l (i6 f),toks:=t' }:=by
 have q:=PySem.IsL.update e f;rw[G] at q;refine I.write (x:=l) (e:=l) (by rw[z];exact trivial) (.inl rfl) (λJ u d S=>(kN s.heap (i6 f) (cq d)).trans S) ⟨_,q⟩ ?_;exact⟨hz,its',_,g,q⟩
def Inv.lnew(I:Inv X π σ H s)(g:cc ys its)(hz:ys.length<=sizeLine):
  Inv X π σ (fk H s.heap.objs.size (.lst ys)) { s with heap:=s.heap.push { cls:=.type "list",data:=.seq its.toArray },toks:=t' }:=
 I.laid (λ_ _ q=>bg _ q) (aE _) ⟨hz,its,0,g,cp _ rfl⟩
theorem Inv.fresh(I:Inv X π σ H s):H s.heap.objs.size=E2:=I.hok.fresh (aE _)
def Inv.lstM(I:Inv X π σ H s)(d:H l=W1 (.lst xs)):xs.length<=sizeLine/\∃(its:List ac) (n:Nat),cc xs its/\xs.length=its.length/\s.heap.get? l=W1 { cls:=.type "list",data:=.seq its.toArray n }:=by
 obtain⟨z,its,n,r,e⟩:=I.hok l _ d;exact⟨z,its,n,r,r.length,e⟩
end
section
def YM:V->List V->Hp->VK->Prop:=λx vs H Q=>∃l xs y,x=.ref l/\vs=[y]/\H l=W1 (.lst xs)/\xs.length<sizeLine/\Q .non (fk H l (.lst (xs++[y])))
theorem OD:MtM X "list.append" YM:=by
 intro O s L H x T v U Q I rx G h;obtain⟨l,S,y,rfl,rfl,g,W,q⟩:=h;cases rx;obtain⟨u,rfl,J⟩:=G.one;obtain⟨z,d,n,r,Y,e⟩:=I.lstM g;refine A8 F.slot_list_append ⟨_,e,rfl⟩ F.entry_list_append (F.args_list_append_2 _ _) (PySem.list_append l d.toArray n u (by rw[cw];omega)) ⟨e,?_⟩;refine⟨.non,_,I.lset (its':=d++[u]) g e (by simp) (r.append (.cons J .nil)) ?_,rfl,q⟩;rw[ff,HE];omega
def uq:V->List V->Hp->VK->Prop:=λx vs H Q=>∃l xs,x=.ref l/\vs=[]/\H l=W1 (.lst xs)/\Q .non (fk H l (.lst []))
theorem dB:MtM X "list.clear" uq:=by
 intro O s L H x T v U Q I rx J h;obtain⟨l,S,rfl,rfl,G,q⟩:=h;cases rx;have g:=J.zero;subst g;obtain⟨z,d,n,r,Y,e⟩:=I.lstM G;refine A8 F.slot_list_clear ⟨_,e,rfl⟩ F.entry_list_clear (F.args_list_clear_1 _) (AutoSeq1.list_clear_list_0 l d.toArray n (by rw[cw];omega)) ⟨e,?_⟩;exact⟨.non,_,I.lset (its':=[]) (ys:=[]) G e rfl .nil (eA _),rfl,q⟩
end
section
variable {κ:Type} [DecidableEq κ]
def OR(kvs:List (κ×V))(k:κ):Option V:=(kvs.find? λd=>decide (d.1=k)).map (·.2)
def OS(kvs:List (κ×V))(k:κ)(v:V):List (κ×V):=
 if (kvs.any λd=>decide (d.1=k))=E3 then kvs.map (λd=>if d.1=k then (d.1,v) else d) else kvs++[(k,v)]
def Mj{p:κ×V}{r:List (κ×V)}{k:κ}(e:p.1=k):OR (p::r) k=W1 p.2:=by simp[OR,rS,e]
def Ml{p:κ×V}{r:List (κ×V)}{k:κ}(e:¬ p.1=k):OR (p::r) k=OR r k:=by simp[OR,rS,e]
theorem Qk(k:κ):∀kvs:List (κ×V),(kvs.any λd=>decide (d.1=k))=(OR kvs k).isSome
 |[]=>rfl
 |p::r=>by
  rw[rL]
  by_cases e:p.1=k
  .simp only[Mj e,MG e,HG,Option.isSome_some]
  .rw[Ml e,UF e,DF];exact Qk k r
def Pa(kvs:List (κ×V))(k:κ)(v:V):(OS kvs k v).length<=kvs.length+1:=by
 unfold OS;split
 .rw[aw];omega
 .rw[ff,db,A9];omega
def Os.isSome_eq{o:Option V}{u:Option ac}(r:Os o u):o.isSome=u.isSome:=by
 cases o with
 |none=>cases u with
  |none=>rfl
  |some _=>exact (show False from r).elim
 |some _=>cases u with
  |none=>exact (show False from r).elim
  |some _=>rfl
def KV.val{kvs:List (κ×V)}{vs:List (κ×ac)}(r:KV kvs vs)(k:κ):Os (OR kvs k) (rX vs k):=by
 unfold KV at r
 induction r with
 |nil=>exact ko
 | @cons p q J d h t G=>
  obtain⟨g,I⟩:=h
  by_cases e:p.1=k
  .have O:q.1=k:=g.symm.trans e;have b:rX (q::d) k=W1 q.2:=by simp[rX,rS,O]
   rw[Mj e,b];exact I
  .have O:¬ q.1=k:=λz=>e (g.trans z);have b:rX (q::d) k=rX d k:=by simp[rX,rS,O]
   rw[Ml e,b];exact G
theorem KV.any{kvs:List (κ×V)}{vs:List (κ×ac)}(r:KV kvs vs)(k:κ):(kvs.any λd=>decide (d.1=k))=vs.any λd=>decide (d.1=k):=by
 unfold KV at r
 induction r with
 |nil=>rfl
 |cons h t g=>rw[rL,rL,g,h.1]
def KV.repl{kvs:List (κ×V)}{vs:List (κ×ac)}(r:KV kvs vs)(k:κ){y:V}{u:ac}(G:cx y u):
  KV (kvs.map λd=>if d.1=k then (d.1,y) else d) (vs.map λd=>if d.1=k then (d.1,u) else d):=by
 unfold KV at r ⊢
 induction r with
 |nil=>exact .nil
 | @cons p q O L h t I=>
  rw[bn,bn];refine .cons ?_ I;obtain⟨g,J⟩:=h
  by_cases e:p.1=k
  .rw[OF e,OF (g.symm.trans e)];exact⟨g,G⟩
  .rw[RF e,RF (λz=>e (g.trans z))];exact⟨g,J⟩
def KV.put{kvs:List (κ×V)}{vs:List (κ×ac)}(r:KV kvs vs)(k:κ){y:V}{u:ac}(z:cx y u):KV (OS kvs k y) (stored vs k u):=by
 unfold OS stored;rw[r.any k]
 by_cases e:(vs.any λd=>decide (d.1=k))=E3
 .rw[OF e,OF e];exact r.repl k z
 .rw[RF e,RF e];exact HI r ⟨rfl,z⟩
theorem KV.length{kvs:List (κ×V)}{vs:List (κ×ac)}(r:KV kvs vs):kvs.length=vs.length:=zy r
end
def VP{k:Key}(r:cx (kV k) u):(Av P w).is k u=E3:=by
 cases k with
 |inl i=>obtain⟨t,e⟩:=(show ∃t,u=kU i t from r);subst e;exact VF P w i t
 |inr x=>obtain⟨t,e⟩:=(show ∃t,u=sC x t from r);subst e;exact VG P w x t
theorem OJ{P:d3}{w:ca}:∀{ks:List Key}{us:List ac},cc (ks.map kV) us->ItemsAre (Av P w) ks us
 |[],_,r=>by rw[ja] at r;cases r;exact .nil
 |k::ks,_,r=>by
  rw[bn] at r;cases r with
  |cons h t=>exact .cons (VP h) (OJ t)
abbrev KT (H:Hp):List (List Key×V)->List (List Key×Addr×ac)->Prop:=mo λp q=>p.1=q.1/\H q.2.1=W1 (.tup (p.1.map kV))/\cx p.2 q.2.2
def KT.val{kvs:List (List Key×V)}{xs:List (List Key×Addr×ac)}(r:KT H kvs xs)(k:List Key):Os (OR kvs k) ((eC xs k).map (·.2)):=by
 induction r with
 |nil=>exact ko
 | @cons p q J d h t G=>
  obtain⟨g,_,I⟩:=h
  by_cases e:p.1=k
  .have O:q.1=k:=g.symm.trans e;have b:eC (q::d) k=W1 q.2:=by simp[eC,rS,O]
   rw[Mj e,b];exact I
  .have O:¬ q.1=k:=λz=>e (g.trans z);have b:eC (q::d) k=eC d k:=by simp[eC,rS,O]
   rw[Ml e,b];exact G
def KT.repl{kvs:List (List Key×V)}{xs:List (List Key×Addr×ac)}(r:KT H kvs xs)(k:List Key){y:V}{u:ac}(I:cx y u):
  KT H (kvs.map λd=>if d.1=k then (d.1,y) else d) (xs.map (putAt k u)):=by
 induction r with
 |nil=>exact .nil
 | @cons p q O L h t J=>
  rw[bn,bn];refine .cons ?_ J;obtain⟨g,G,S⟩:=h;unfold putAt
  by_cases e:p.1=k
  .rw[OF e,OF (g.symm.trans e)];exact⟨g,G,I⟩
  .rw[RF e,RF (λz=>e (g.trans z))];exact⟨g,G,S⟩
def KT.put{kvs:List (List Key×V)}{xs:List (List Key×Addr×ac)}(r:KT H kvs xs)(k:List Key){b:Addr}{y:V}{u:ac}(g:H b=W1 (.tup (k.map kV)))(z:cx y u):
  KT H (OS kvs k y) (xb xs k b u):=by
 have e:(kvs.any λd=>decide (d.1=k))=(eC xs k).isSome:=by
  rw[Qk,(r.val k).isSome_eq,xh]
 unfold OS xb;rw[e]
 by_cases q:(eC xs k).isSome=E3
 .rw[OF q,OF q];exact r.repl k z
 .rw[RF q,RF q];exact HI r ⟨rfl,g,z⟩
def KT.keeps{kvs:List (List Key×V)}{xs:List (List Key×Addr×ac)}(r:KT H kvs xs)(O:∀b ys,H b=W1 (.tup ys)->H' b=W1 (.tup ys)):KT H' kvs xs:=
 Paired.mapP r λ_ _ z=>⟨z.1,O _ _ z.2.1,z.2.2⟩
section
def q8{u:HO}(ok:Pf P w H h)(e:Rd H a u):BJ P w H h a u:=e.ok ok
def Pb(ok:Pf P w H h)(e:Rd H a (.dK kvs)):kvs.length<=sizeLine/\(a==hV)=ZA/\∃vs,KV kvs vs/\h.DictOf (Av P w) a vs:=
 show BJ P w H h a (.dK kvs) from q8 ok e
def q9(ok:Pf P w H h)(e:H a=W1 (.dK kvs)):kvs.length<=sizeLine/\(a==hV)=ZA/\∃vs,KV kvs vs/\h.DictOf (Av P w) a vs:=Pb ok (.inl e)
def Ql{ks:List Key}(ok:Pf P w H h)(e:H a=W1 (.tup (ks.map kV))):(vx (Av P w)).is h ks a:=by
 obtain⟨_,d,r,o,z,g,n,S⟩:=(show BJ P w H h a (.tup (ks.map kV)) from ok a _ e);exact⟨o,d.toArray,n,z,g,S,by simpa using OJ r⟩
def VR{kvs:List (List Key×V)}(ok:Pf P w H h)(e:Rd H a (.dT kvs)):kvs.length<=sizeLine/\(a==hV)=ZA ∧
  ∃xs,KT H kvs xs/\h.DictOfH (vx (Av P w)) a xs:=by
 obtain⟨z,y,xs,r,o,L,U,J,I,S,G,O⟩:=(show BJ P w H h a (.dT kvs) from q8 ok e);refine⟨z,y,xs,r,o,L,U,J,I,S,G,λx d=>?_,O⟩;have all:∀{l:List (List Key×V)}{m:List (List Key×Addr×ac)},KT H l m->∀x∈m,(vx (Av P w)).is h x.1 x.2.1:=by
  intro l m q
  induction q with
  |nil=>intro x d;exact nomatch d
  | @cons p q Y W T t g=>
   intro x d
   rcases bP.mp d with e | d
   .subst e;exact Ql ok (by rw[<-T.1];exact T.2.1)
   .exact g x d
 exact all r x d
def yK{kvs:List (List Key×V)}(ok:Pf P w H h)(e:H a=W1 (.dT kvs)):kvs.length<=sizeLine/\(a==hV)=ZA ∧
  ∃xs,KT H kvs xs/\h.DictOfH (vx (Av P w)) a xs:=VR ok (.inl e)
end
def DGet(H:Hp)(a:Addr)(y:V)(r:Option V):Prop:=
 (∃kvs k,Rd H a (.dK kvs)/\y=kV k/\r=OR kvs k)∨∃kvs k b,Rd H a (.dT kvs)/\y=.ref b/\H b=W1 (.tup (k.map kV))/\r=OR kvs k
def VT(H:Hp)(a:Addr)(y v:V)(d:Hp):Prop:=
 (∃kvs k,H a=W1 (.dK kvs)/\y=kV k/\kvs.length<sizeLine/\d=fk H a (.dK (OS kvs k v))) ∨
 ∃kvs k b,H a=W1 (.dT kvs)/\y=.ref b/\H b=W1 (.tup (k.map kV))/\kvs.length<sizeLine/\d=fk H a (.dT (OS kvs k v))
theorem VT.k{H:Hp}{a:Addr}{kvs:List (Key×V)}{k:Key}{v:V}(e:H a=W1 (.dK kvs))(Y:kvs.length<sizeLine):VT H a (kV k) v (fk H a (.dK (OS kvs k v))):=.inl ⟨kvs,k,e,rfl,Y,rfl⟩
def VT.t{kvs:List (List Key×V)}{k:List Key}(e:H a=W1 (.dT kvs))(d:H b=W1 (.tup (k.map kV)))(Y:kvs.length<sizeLine):
  VT H a (.ref b) v (fk H a (.dT (OS kvs k v))):=.inr ⟨kvs,k,b,e,rfl,d,Y,rfl⟩
section
variable {y:V}{r:ac}{o:Option V}{A:aS}
def Inv.big(I:Inv X π σ H s):hV<s.heap.objs.size:=by
 have h:gI<s.heap.objs.size:=(I.mod.glob.keeps I.bk).lt;exact HK (by decide) h
theorem aZ(hu:A.units+1<bE)(I:Inv X π σ H s)(g:DGet H a y (W1 v))(W:cx y u)(h:∀G U,Inv X π σ H U->cx v G->Q G U):
  ag (ai X.prog X.w) A (nX (.ref a) u) Q E s:=by
 rcases g with ⟨L,k,e,T,l⟩ | ⟨L,k,b,e,T,eb,l⟩
 .subst T;obtain⟨z,hd,vs,d,Z⟩:=Pb I.hok e;obtain⟨G,O,J⟩:=Os.some_of (v:=v) (o:=rX vs k) (by rw[l];exact d.val k);exact wpAny_getItem_of (VP W) Z.mapOf O (h G _ (I.tok _) J)
 .subst T;cases (show u=ba b from W);obtain⟨z,hd,Y,d,Z⟩:=VR I.hok e;obtain⟨G,O,J⟩:=Os.some_of (v:=v) (o:=(eC Y k).map (·.2)) (by rw[l];exact d.val k);obtain⟨p,hp,S⟩:=iA.mp O;refine HL (Ap hu) (Ql I.hok eb) Z hp ?_;rw[S];exact h G _ (I.tok _) J
def d_in(S:A.units+1<bE)(I:Inv X π σ H s)(g:DGet H a y o)(O:cx y u)(h:∀L,Inv X π σ H L->Q (.bool o.isSome) L):
  ag (ai X.prog X.w) A (dA .In u (.ref a)) Q E s:=by
 rcases g with ⟨G,k,e,T,l⟩ | ⟨G,k,b,e,T,U,l⟩
 .subst T;obtain⟨z,J,Y,d,Z⟩:=Pb I.hok e;refine wpAny_in_of (VP O) J Z.mapOf ?_;rw[<-(d.val k).isSome_eq,<-l];exact h _ (I.tok _)
 .subst T;cases (show u=ba b from O);obtain⟨z,J,W,d,Z⟩:=VR I.hok e;refine wpAny_in_heap (Ap S) (Ql I.hok U) J Z ?_;have q:=(d.val k).isSome_eq;rw[xh] at q;rw[<-q,<-l];exact h _ (I.tok _)
def my(S:A.units+1<bE)(I:Inv X π σ H s)(g:DGet H a y o)(O:cx y u)(h:∀L,Inv X π σ H L->Q (.bool (!o.isSome)) L):
  ag (ai X.prog X.w) A (dA .NotIn u (.ref a)) Q E s:=by
 rcases g with ⟨G,k,e,T,l⟩ | ⟨G,k,b,e,T,U,l⟩
 .subst T;obtain⟨z,J,Y,d,Z⟩:=Pb I.hok e;refine wpAny_notIn_of (VP O) J Z.mapOf ?_;rw[<-(d.val k).isSome_eq,<-l];exact h _ (I.tok _)
 .subst T;cases (show u=ba b from O);obtain⟨z,J,W,d,Z⟩:=VR I.hok e;refine wpAny_notIn_heap (Ap S) (Ql I.hok U) J Z ?_;have q:=(d.val k).isSome_eq;rw[xh] at q;rw[<-q,<-l];exact h _ (I.tok _)
theorem QG{ob:HO}(I:Inv X π σ H s)(G:Mut (H a))(hs:f6 a s.heap h')(d:∃q,h'.get? a=W1 q)(new:BJ X.prog X.w (fk H a ob) h' a ob):
  Inv X π σ (fk H a ob) { s with heap:=h',toks:=t' }:=
 I.write (x:=a) (e:=a) G (.inl rfl) (λb q g z=>(hs.2 b g).trans z) d new
def ur{vs:List (Key×ac)}(z:kvs.length<=sizeLine)(g:(a==hV)=ZA)(d:KV kvs vs)(Z:h'.DictOf (Av P w) a vs):
  BJ P w H' h' a (.dK kvs):=⟨z,g,vs,d,Z⟩
def aa{Q:Unit->ah->Prop}(hu:A.units+1<bE)(I:Inv X π σ H s)(g:VT H a y v H')(ry:cx y u)(rv:cx v r)(h:∀W,Inv X π σ H' W->Q () W):
  ag (ai X.prog X.w) A (setItem (.ref a) u r) Q E s:=by
 rcases g with ⟨G,k,e,S,l,U⟩ | ⟨G,k,b,e,S,eb,l,U⟩
 .subst S U;obtain⟨z,L,vs,d,Z⟩:=q9 I.hok e;have O:vs.length<=sizeLine:=by rw[<-d.length];exact z
  have Y:(OS G k v).length<=sizeLine:=by have:=Pa G k v;omega
  refine wpAny_setItem_pairs (hsz:=O) (VP ry) Z λh' J hs=>h _ ?_;have he:∃q,h'.get? a=W1 q:=let ⟨q,_,_,T,_⟩:=J;⟨q,T⟩;exact QG I (by rw[e];exact ko) hs he (ur Y L (d.put k rv) J)
 .subst S U;cases (show u=ba b from ry);obtain⟨z,L,xs,d,Z⟩:=yK I.hok e;have O:xs.length<=sizeLine:=by rw[<-zy d];exact z
  have Y:(OS G k v).length<=sizeLine:=by have:=Pa G k v;omega
  refine HM (hsz:=O) (Ap hu) (Ql I.hok eb) Z λh' J hs=>h _ ?_;obtain⟨q,es,ep,T,h2,h3,h4,_,h5⟩:=J;refine QG I (by rw[e];exact ko) hs ⟨q,T⟩ ⟨Y,L,_,(d.put k eb rv).keeps λc ys ec=>?_,q,es,ep,T,h2,h3,h4,h5⟩;rw[Ai (qt ec e (λz=>nomatch z))];exact ec
end
section
variable {k:Key}{A:aS}
def yL(I:Inv X π σ H s)(e:Rd H a (.dK kvs))(h:∀t g,Inv X π σ H g->Q (.int kvs.length t) g):ag (ai X.prog X.w) A (call (.builtin "len") [.ref a]) Q E s:=by
 obtain⟨z,G,J,d,Z⟩:=Pb I.hok e;refine call_len_dict G Z (by rw[<-d.length];rw[eR] at z;omega) ?_;rw[<-d.length];exact h _ _ (I.tok _)
end
def NoSl(i:Expr):Prop:=∀d g,wx i ZA d g=operate [d,g] (nX d g)
def YQ{A:aS}{g d:Expr}{T id:String}(Y:Da (.type T) "__getitem__"=pure (W1 (.builtin id)))(hs:NoSl d)(h:ag (ai prog w) A (eval g env) (λo I=>ag (ai prog w) A (eval d env) (λi s₂=>s₂.TypeIs o T/\ag (ai prog w) A (nX o i) Q E s₂) E I) E s):
  ag (ai prog w) A (eval (.Subscript g d pos) env) Q E s:=by
 refine DA (gT h (λo I L=>gT L (λi s₂ z=>?_) λ_ _ x=>x) λ_ _ x=>x);obtain⟨O,z⟩:=z;unfold A7;refine ae ?_;rw[HP O.not_modules];refine ae (nh O Y ?_);have ot:ag (ai prog w) A (wx d ZA o i) (λr G=>ag (ai prog w) A (letTemporaryGo g o r >>= λ_=>pure r) Q E G) E s₂:=by
  rw[hs o i];exact wpAny_operating (gT z (λr G J=>ae (HU (av J))) λ_ _ x=>x)
 first
  |exact av (ae ot)
  |exact ae (av (ae ot))
  |exact ae ot
def VV{y:V}{o:Option V}(I:Inv X π σ H s)(g:DGet H a y o):s.TypeIs (.ref a) "dict":=by
 rcases g with ⟨d,k,e,_,_⟩ | ⟨d,k,b,e,_,_,_⟩
 .obtain⟨_,_,G,_,Z⟩:=Pb I.hok e;exact Z.typeIs
 .obtain⟨_,_,z,_,Z⟩:=VR I.hok e;exact Z.typeIs
def yM(G ty z:TE):TS:=λD g H=>z g H λv L=>G g L λx J=>ty g J λy I=>∃a d,x=.ref a/\VT I a y v d/\D.nx g d
section
variable {o i value:Expr}{tpos:Pos}{td ty tv:TE}
def Tq(T:X.A.units+1<bE)(U:PE X o td)(W:PE X i ty)(O:PE X value tv)(hs:fw value (W1 (.Subscript o i pos')) pos.line X.env=pure ZA):
  PS X (.Assign [.Subscript o i pos'] value pos) (yM td ty tv):=by
 intro z s d H D I h;refine As (mr (O z s d H _ I h) λr G ⟨v,H1,I1,L,q1⟩=>mr (U z G d H1 _ I1 q1) λu S ⟨x,H2,I2,rx,q2⟩=>mr (W z S d H2 _ I2 q2) λiv s3 q0=>?_) hs;obtain⟨y,H3,I3,J,a,H4,Y,g,q3⟩:=q0;subst Y;obtain rfl:u=ba a:=rx;exact aa T I3 g J L λs4 Z=>⟨d,H4,Z,q3⟩
end
def Va(h:Heap)(d:hV<h.objs.size):BJ P w H (h.push { cls:=.type "dict",data:=.dict #[] }) h.objs.size (.dK []):=
 ⟨eA _,beq_eq_false_iff_ne.mpr (cq (bX d)),[],.nil,Heap.DictOf.new h⟩
def dC(h:Heap)(d:hV<h.objs.size):BJ P w H (h.push { cls:=.type "dict",data:=.dict #[] }) h.objs.size (.dT []):=
 ⟨eA _,beq_eq_false_iff_ne.mpr (cq (bX d)),[],.nil,_,#[],0,cp _ rfl,⟨rfl,rfl,rfl⟩,rfl,rfl,DH⟩
def ut:TE:=λ_ H Q=>∀p,H p=E2->Q (.ref p) (fk H p (.dK []))
def uv:TE:=λ_ H Q=>∀p,H p=E2->Q (.ref p) (fk H p (.dT []))
section
theorem dD:PE X (.Dict [] [] pos) ut:=λd s g H Q I h=>
 DI ⟨.ref s.heap.objs.size,_,I.laid (a:=s.heap.objs.size) (o:=.dK []) (t':=s.toks) (λ_ _ q=>bg _ q) (aE _) (Va s.heap I.big),rfl,h _ (I.hok.fresh (aE _))⟩
theorem dF:PE X (.Dict [] [] pos) uv:=λd s g H Q I h=>
 DI ⟨.ref s.heap.objs.size,_,I.laid (a:=s.heap.objs.size) (o:=.dT []) (t':=s.toks) (λ_ _ q=>bg _ q) (aE _) (dC s.heap I.big),rfl,h _ (I.hok.fresh (aE _))⟩
end
end L2
namespace Att
open PySem PySem.W PySem.Calls PyProof.Rows
def QD{P:Params}:∀(ns:List Int) (vs:List ac),WellAll P h vs (ns.map WData.int)->sQ vs ns:=by
 intro ns
 induction ns with
 |nil=>
  intro vs w;rw[ja] at w;cases w;exact .nil
 |cons n ns d=>
  intro vs w;rw[bn] at w;cases w with
  |cons a b=>
   cases a;exact .cons _ _ (d _ b)
def aj{l:OpenLaw}(hn:l.most=W1 n){P:Params}{h:Heap}{args:List WData}{g:List ac}(z:l.row.toRowW.claim.pre args=E3)(L:WellAll P h g args):
  ∃a vs ns,g=[ba a]/\args=[WData.list (ns.map WData.int)]/\h.get? a=W1 { cls:=.type "list",data:=.seq vs.toArray }/\sQ vs ns/\ns.length<=n:=by
 have S:WShape.hasAll [] args [.list .int]=E3:=(pre_splitW z).1;have T:l.pre.holds [] { args:=args }=E3:=(pre_splitW z).2;obtain⟨d,r,rfl,h1,h2⟩:=hasAllW_cons S;obtain rfl:=hasAllW_nil h2;obtain⟨xs,rfl,h3⟩:=hasW_list h1;obtain⟨ns,rfl⟩:=items_int h3;have G:ns.length<=n:=by
  unfold OpenLaw.pre at T;have J:(WTm.not (.lt (.lit (.int (n:Int))) (.len (.arg 0)))).holds [] { args:=[.list (ns.map .int)] }=E3:=by
   have J:=(holds_andW T).1;rw[hn] at J;exact J
  have O:=condW_of J (w_not (w_lt w_lit (w_len_list (w_arg rfl))));rw[aw] at O;refine Nat.le_of_not_lt λq=>?_;have Y:(n:Int)<((ns.length:Nat):Int):=by omega
  first
   | (rw[MG Y] at O;exact SF O (by decide))
   | (simp at O;omega)
 cases L with
 |cons W U=>
  cases U;cases W with
  |list Z I=>exact⟨_,_,ns,rfl,rfl,Z,QD ns _ I,G⟩
theorem ak(l:OpenLaw)(args:List WData):l.row.toRowW.claim.post args (.bool E3) args=E3:=
 postW_of (r:=l.row.toRowW) (X:=(E3==E3))
  (show HV [] (.bool E3) .bool=E3 by first | rfl | decide | simp[HV,WShape.arms,WShape.armsAll])
  (show (WTm.eq .res (.lit (.bool E3))).value [] { args:=args,res:=W1 (.bool E3),after:=args }=W1 (.bool (E3==E3)) from w_eq_bool (w_res rfl) w_lit) rfl
def Vb{l:OpenLaw}{q:d3}{XP:(Str->Option ac)->Heap->Prop}{YP:ca->Heap->Prop}{d:DefRec}(hn:l.most=W1 n)(N0:d.params.defaults=[])(call:∀(w:ca) (z g:ah) (mg U:Str->Option ac) (fa:Addr) (o:Obj) (pm T doc:ac) (a:Addr) (vs:List ac) (ns:List Int),
   Ground q loose [] XP w z mg U g.heap->YP w g.heap ->
   g.heap.get? fa=W1 o->o.data=.func (docDef d.name d.params d.body d.scope pm T doc)->g.heap.CodeRec T d.name->mg d.name=W1 (.ref fa) ->
   g.heap.get? a=W1 { cls:=.type "list",data:=.seq vs.toArray }->sQ vs ns->ns.length<=n->g.gens=#[] ->
   fA (ai l.prog w) sd (.call (.ref fa) ⟨[.ref a],[]⟩) (λr S=>r=.ok (.ret (.bool E3))/\OldK g.heap S.heap/\S.os=g.os/\nw S.gens) g):
  WalkO q loose XP YP l.row.toRowW d [] (λf vs=>DJ f vs):=by
 intro w z g mg U G Y fa o pm T doc dV kV ho hd O0 hD Z hg X0 S0 as J T0 N1 W P1;obtain rfl:dV=.none:=Dflts.none hD N0;obtain rfl:kV=.none:=Dflts.noKw hD;obtain⟨a,vs,ns,rfl,rfl,L,I,O⟩:=aj hn J W;refine enter_call (rl (call w z g mg U fa o pm T doc a vs ns G Y ho (fd_plain hd) O0 Z L I O hg) λr S hq=>?_);obtain⟨rfl,h2,h3,h4⟩:=hq;exact⟨.inl ⟨.bool E3,.bool E3,[],rfl,λ_=>rfl,.bool E3,ak l _,λ_=>⟨xi,λ_ hm=>(nomatch hm)⟩⟩,h2,h3,h4⟩
end Att
namespace L2
open PySem PySem.Spec PyProof.Rows
theorem Iz:∀{vs:List ac}{ns:List Int},sQ vs ns->cc (ns.map V.int) vs
 |_,_,.nil=>.nil
 |_,_,.cons n t h=>.cons ⟨t,rfl⟩ (Iz h)
def Only(H:Hp):Prop:=∀b,H b=E2∨∃o xs,H b=W1 (.frz o (.lst xs))
def dG{K:aI}{mb:Str->Option ac}{k:Nat}{fa:Addr}{sp:Sp}{s₁:ah}(KX:K.In s₁.heap)(Y:s₁.heap.Ns gI mg)(G:s₁.heap.Ns C6 mb)(X0:∀x:Str,x≠"__name__"->mb x=d6 x)(Z:s₁.heap.NoLimit)(hg:s₁.gens=#[])(ha:s₁.heap.get? a=W1 { cls:=.type "list",data:=.seq vs.toArray })(hi:sQ vs ns)(hl:ns.length<=sizeLine)(hr:Room k sd)(F:∀base:Heap,K.In base->base.Ns gI mg->im P w K mg base CX k fa fd [x] sp)(O:∀(s:ah) (u:ac),wf s fd ⟨[u],[]⟩ [(x,u)])(T0:∀H:Hp,Only H->MR K H a (ns.map V.int)->sp [.ref a] H (λv _=>v=.bl E3) λ_ _ _=>False)(N1:∀H e I,CX [] H s₁ (λ_ _ _=>False) e I->False):
    fA (ai P w) sd (.call (.ref fa) ⟨[.ref a],[]⟩) (λr I=>r=.ok (.ret (.bool E3))/\OldK s₁.heap I.heap/\I.os=s₁.os/\nw I.gens) s₁:=by
  have rv:=Iz hi;have T:=hi.length;have L:∀H:Hp,Only H->MR K H a (ns.map V.int)->Pf P w H s₁.heap->(∀b,H b≠E2->b=a)->(H a≠E2->K.lookup a=E2) ->
      fA (ai P w) sd (.call (.ref fa) ⟨[.ref a],[]⟩) (λr I=>r=.ok (.ret (.bool E3))/\OldK s₁.heap I.heap/\I.os=s₁.os/\nw I.gens) s₁:=by
    intro H hO hS W hA hK;have g:∀{b:Addr}{o:Obj},s₁.heap.get? b=W1 o->H b=E2->(US s₁.heap H).get? b=W1 o:=λe n=>cD e n;have S0:∀{b:Addr}{o:Obj}{es:Array xk}{ep:Nat},s₁.heap.get? b=W1 o->o.data=.dict es ep->H b=E2:=λ{b o es ep} e d=>by
      cases q:H b with
      |none=>rfl
      |some u=>
        have e':b=a:=hA b (by rw[q];simp);subst e';rw[ha] at e;cases e;have d':Data.seq vs.toArray _=Data.dict es ep:=d;cases d'
    have J:∀{b:Addr}{m:Str->Option ac},s₁.heap.Ns b m->(US s₁.heap H).Ns b m:=λ{b m} ⟨o,es,ep,e,d,r⟩=>⟨o,es,ep,g e (S0 e d),d,r⟩;have N0:K.In (US s₁.heap H):=λb o e=>g (KX b o e) (by
      cases q:H b with
      |none=>rfl
      |some u=>
        have e':b=a:=hA b (by rw[q];simp);subst e';rw[hK (by rw[q];simp)] at e;cases e)
    have hM:Mod K mg (US s₁.heap H):=⟨N0,J Y,⟨mb,J G,X0⟩,let ⟨mc,h1,h2⟩:=Z;⟨mc,J h1,h2⟩⟩;have e0:ZN P w K mg (US s₁.heap H) sd [] s₁ H:=⟨rfl,hM,λb o e=>mC e,zX (aL _ _),trivial,λb G=>SF (show b∈([]:List Addr) from G) (by simp),W,.of_eq hg⟩;refine rl ((F _ N0 (J Y)).run sd [] s₁ H ⟨[.ref a],[]⟩ [.ref a] [.ref a] _ _ hr e0 (O s₁ (.ref a)) (.cons rfl .nil) (T0 H hO hS)) λr I h=>?_;cases r with
    |error e=>exact (N1 H e I h).elim
    |ok fl=>
      cases fl with
      |next=>exact kf h
      |brk=>exact kf h
      |cont=>exact kf h
      |ret u=>
        obtain⟨v,H',os,O0,un,U,r',q⟩:=h;have q':v=.bl E3:=q;subst q';obtain rfl:u=rh E3:=r';refine⟨rfl,OldK.of_keep λb o e=>?_,os,O0⟩;cases q:H b with
        |none=>exact un.keep b o e q (by intro z;exact SF (show b∈([]:List Addr) from z) (by simp)) (by simp)
        |some u=>
          rcases hO b with z | ⟨ob,xs,z⟩
          . rw[q] at z;cases z
          . have z2:=un.frzs b ob _ z
            obtain⟨e1,_⟩:=W b _ z;obtain⟨e2,_⟩:=U b _ z2;rw[e] at e1;cases e1;exact e2
  cases hk:K.lookup a with
  |some o=>
    have e:=KX a o hk;rw[ha] at e;cases e;refine L (λ_=>E2) (λ_=>.inl rfl) (.inr ⟨_,vs.toArray,_,hk,rfl,rfl,rfl,by rw[cw,T];exact hl,by simpa using rv⟩) (λb u z=>by have S:(E2:Option HO)=W1 u:=z;cases S) (λb z=>SF rfl z) λz=>SF rfl z
  |none=>
    refine L (λb=>if b=a then W1 (.frz { cls:=.type "list",data:=.seq vs.toArray } (.lst (ns.map V.int))) else E2) (λb=>?_) (.inl (.inr ⟨{ cls:=.type "list",data:=.seq vs.toArray },OF rfl⟩)) (λb u z=>?_) (λb z=>?_) λ_=>hk
    . by_cases G:b=a
      . exact .inr ⟨_,_,OF G⟩
      . exact .inl (RF G)
    . by_cases G:b=a
      . have S:=(OF G).symm.trans z
        cases S;subst G;exact⟨ha,by rw[aw];exact hl,vs,_,rv,ha⟩
      . have S:=(RF G).symm.trans z
        cases S
    . by_cases G:b=a
      . exact G
      . exact SF (RF G) z
abbrev KOf {K:aI}{h:Heap}(_:K.In h):aI:=K
theorem mz{l:PySem.W.OpenLaw}{k:Nat}{q:d3}{XP:(Str->Option ac)->Heap->Prop}{YP:ca->Heap->Prop}{d:DefRec}{K:Params->aI}{CX:ca->CXT}{sp:ca->Sp}(hn:l.most=W1 n)(U:n<=sizeLine)(N0:d.params.defaults=[])(hr:Room k sd)(hY:∀(w:ca) (h:Heap),YP w h->(K w.params).In h)(F:∀(w:ca) (mg:Str->Option ac) (fa:Addr) (h:Heap),(K w.params).In h->h.Ns gI mg->mg d.name=W1 (.ref fa) ->
   ∃fd:lj,(∀(s:ah) (u:ac),wf s fd ⟨[u],[]⟩ [(x,u)]) ∧
    ∀base:Heap,(K w.params).In base->base.Ns gI mg->im l.prog w (K w.params) mg base (CX w) k fa fd [x] (sp w))(S:∀(w:ca) (H:Hp) (a:Addr) (ns:List Int),ns.length<=n->Only H->MR (K w.params) H a (ns.map V.int)->sp w [.ref a] H (λv _=>v=.bl E3) λ_ _ _=>False)(O0:∀(w:ca) (H:Hp) (s:ah) (e:ac) (O:ah),CX w [] H s (λ_ _ _=>False) e O->False):
  PySem.W.WalkO q loose XP YP l.row.toRowW d [] (λf vs=>DJ f vs):=by
 refine Att.Vb hn N0 λw S0 J mg mb fa o pm cd X0 a vs ns G Y ho hd T0 Z L I z hg=>?_;have KX:=hY w _ Y;obtain⟨fd,hb,hF⟩:=F w mg fa _ KX G.T.g Z;exact dG KX G.T.g G.T.b G.T.builtins G.T.nolimit hg L I (cy z U) hr hF hb (λH hO hS=>S w H a ns z hO hS) λH e O=>O0 w H J e O
def MM(s:Stmt)(j:Nat):Stmt:=match s with
 |.ClassDef _ _ _ d _ _ _ _ _ _ _=>d.getD j (.Pass ⟨0,0,0,0⟩)
 |_=>.Pass ⟨0,0,0,0⟩
def Dp(s:Stmt):Arguments:=match s with
 |.FunctionDef _ a _ _ _ _ _ _ _ _=>a
 |_=>{ posonlyargs:=[],args:=[],vararg:=E2,kwonlyargs:=[],kw_defaults:=[],kwarg:=E2,defaults:=[] }
def BX(s:Stmt):List Stmt:=match s with
 |.FunctionDef _ _ b _ _ _ _ _ _ _=>b
 |_=>[]
def Ab(s:Stmt):la:=match s with
 |.FunctionDef _ _ _ _ _ _ sc _ _ _=>sc
 |_=>{ kind:=.function,names:=[],isGenerator:=ZA,isCoroutine:=ZA }
abbrev CX0:CXT:=λ_ _ _ _ _ _=>False
abbrev E0:XK:=λ_ _ _=>False
def R_:Lg CX0 X E0:=λ_ _ _ _ _ _ _ h=>h.elim
structure Fun (K:aI) (x qual:Str) (st:Stmt) (f:Addr) (fd:lj):Prop where
 ex:∃(oc:ac) (od:Option Addr) (kV doc pm:ac) (an:Option Addr) (cdv ct:ac) (osl:Array (Option ac)),
  fd=io x qual (Dp st) (BX st) (Ab st) .none kV doc pm an cdv ct/\K.lookup f=W1 ⟨oc,od,.func fd,osl⟩/\pV K cdv qual=E3
 kp:ic K (.ref f)=E3
section
variable {K:aI}{base:Heap}
def Fun.ok{f:Addr}{k:Nat}{sp:Sp}(F:Fun K x qual st f fd)(S:bc N ps (Ab st))(len:∀vs H Q E,sp vs H Q E->vs.length=ps.length)(L:∀(cdv:ac) (A:aS) (d:List Env) (s:ah) (H:Hp) (vs:List V) (Q:VK) (E:XK),Room k (A.deeper (gu qual (Ab st) s.heap.objs.size f cdv))->sp vs H Q E ->
   ∃t,SS (Pd CX0 P w K mg base N qual (Ab st) f cdv A d s H E).nox (BX st) t/\t { nx:=λ_ H'=>Q .non H',rt:=Q } (start N vs) H):im P w K mg base CX0 (k+1) f fd ps sp:=by
 obtain⟨W,U,kV,J,T,Z,cdv,Y,z,rfl,G,g⟩:=F.ex;refine cX G g S len λA d s H vs Q E I O=>?_;obtain⟨t,h,q⟩:=L cdv A d s H vs Q E I O;exact⟨t,h.nox,q⟩
def Fun.binds{f:Addr}(F:Fun K x qual st f fd)(h:∀(kV doc pm:ac) (an:Option Addr) (cdv ct:ac) (us:List ac),us.length=ps.length->wl (io x qual (Dp st) (BX st) (Ab st) .none kV doc pm an cdv ct) ⟨us,[]⟩=pure (ps.zip us)):MO K fd ps []:=by
 obtain⟨W,J,kV,doc,pm,an,cdv,ct,z,rfl,G,d⟩:=F.ex;exact .all (h kV doc pm an cdv ct)
def Qm{f:Addr}{kV:ac}(l:K.lookup f=W1 ⟨oc,od,.func (io x qual (Dp st) (BX st) (Ab st) .none kV doc pm an cdv ct),osl⟩)(c:pV K cdv qual=E3)(k:ic K (.ref f)=E3):Fun K x qual st f (io x qual (Dp st) (BX st) (Ab st) .none kV doc pm an cdv ct):=⟨⟨oc,od,kV,doc,pm,an,cdv,ct,osl,rfl,l,c⟩,k⟩
end
def G_{A:aS}{k:Nat}(d:Room k A):A.units+1<bE:=kx (HZ (by decide:1<=64) _) d.units
section
def pv(i:Nat){x:Str}{d:Pos}(I:X.N[i]?=W1 x:=by rfl)(z:VO X.env.scope x:=by first | exact dE rfl | exact cS (dE rfl) | exact cS (cS rfl))(G:(x==("__debug__":Str))=ZA:=by decide)(g:(x==("__classdict__":Str))=ZA:=by decide):PE X (.Name x d) (OH i):=Ww I z G g
end
def YI{A B:Prop}(h:B):if ZA=E3 then A else B:=by
 rw[RF df];exact h
def iteT{A B:Prop}(h:A):if E3=E3 then A else B:=by
 rw[OF rfl];exact h
def ab(H d:Hp):Prop:=∀b o,H b=W1 o->d b=W1 o
def ab.refl(H:Hp):ab H H:=λ_ _ h=>h
def ab.trans{H2:Hp}(a:ab H H1)(b:ab H1 H2):ab H H2:=λc o h=>b c o (a c o h)
def ab.free(e:ab H H'){l:Addr}(h:H' l=Ic):H l=Ic:=by
 cases q:H l with
 |none=>rfl
 |some o=>
  rw[e l o q] at h;cases h
def ab.seq{K:aI}(e:ab H H')(h:MR K H a xs):MR K H' a xs:=by
 rcases h with (h | ⟨o,h⟩) | h
 .exact .inl (.inl (e _ _ h))
 .exact .inl (.inr ⟨o,e _ _ h⟩)
 .exact .inr h
def ON(cells:List (Str×Addr)):List (Str×lm)->List (Str×Addr)->List (Str×Addr)
 |[],cs=>cs
 |y::r,cs=>if y.2==.free then ON cells r ((y.1,(cells.lookup y.1).getD 0)::cs) else ON cells r cs
theorem Qn{cells:List (Str×Addr)}{x:Str}{c:Addr}:∀{names:List (Str×lm)}{cs:List (Str×Addr)},(∀y∈names,y.2=.free ->∃c,cells.lookup y.1=W1 c) ->
  (ON cells names cs).lookup x=W1 c->cs.lookup x=W1 c∨cells.lookup x=W1 c
 |[],_,_,h=>.inl h
 |y::r,cs,G,h=>by
  unfold ON at h;split at h
  .rename_i g;have d:y.2=.free :=by simpa using g
   obtain⟨L,I⟩:=G y dn d
   rcases Qn (λz O=>G z (cE _ O)) h with q | q
   .rw[ck] at q;split at q
    .rename_i e;have J:x=y.1:=by simpa using e
     rw[I] at q;subst J;right;rw[I];simpa using q
    .exact .inl q
   .exact .inr q
  .exact Qn (λz O=>G z (cE _ O)) h
theorem Oa{cells:List (Str×Addr)}{x:Str}:∀{names:List (Str×lm)}{cs:List (Str×Addr)},(∃c,cs.lookup x=W1 c)->∃c,(ON cells names cs).lookup x=W1 c
 |[],_,h=>h
 |y::r,cs,h=>by
  unfold ON;split
  .apply Oa;rw[ck];split
   .exact⟨_,rfl⟩
   .exact h
  .exact Oa h
theorem Jy{cells:List (Str×Addr)}{x:Str}:∀{names:List (Str×lm)}{cs:List (Str×Addr)},(x,sR)∈names->∃c,(ON cells names cs).lookup x=W1 c
 |[],_,h=>by cases h
 |y::r,cs,h=>by
  unfold ON
  rcases bP.mp h with e | h
  .subst e;rw[OF (by rfl)];apply Oa;rw[ck];simp
  .split
   .exact Jy h
   .exact Jy h
theorem YS{env:Env}:∀(names:List (Str×lm)) (cs:List (Str×Addr)),(∀y∈names,y.2=.free ->∃c,env.cells.lookup y.1=W1 c) ->
  (forIn names cs (λx r=>match x with
   | (name,d)=>if (d==sR)=E3 then do let a <-cellOf env name;pure (sT ((name,a)::r)) else pure (sT r)):Sem (List (Str×Addr)))=pure (ON env.cells names cs)
 |[],_,_=>rfl
 | (n,k)::r,cs,J=>by
  have G:=λcs=>YS r cs (λz O=>J z (cE _ O));rw[List.forIn_cons]
  by_cases I:(k==sR)=E3
  .obtain⟨c,L⟩:=J (n,k) dn (by simpa using I);have g:env.cells.lookup n=W1 c:=L;have e:cellOf env n=pure c:=by unfold cellOf;rw[g]
   simp only[I,WG,e];show (forIn r ((n,c)::cs) _:Sem _)=_;rw[G]
   conv=>rhs;unfold ON
   simp only[I,WG,g,Option.getD_some]
  .simp only[I,XG];show (forIn r cs _:Sem _)=_;rw[G]
   conv=>rhs;unfold ON
   simp only[I,XG];rfl
def K8(G:∀y∈scope.names,y.2=.free ->∃c,env.cells.lookup y.1=W1 c):closureFor scope env=pure (ON env.cells scope.names []):=by
 have h:=YS (env:=env) scope.names [] G;unfold closureFor;show ((forIn scope.names [] _:Sem _) >>= λr=>pure r)=_;exact (NG (λm=>m >>= λr=>pure r) h)
theorem Ew{env:Env}{x:Str}{k:lm}:∀{names:List (Str×lm)},(names.map λ(n,k)=>if (k==sR&&env.scope.kind==.function&&env.kindOf n==W1 .cell) then (n,NameKind.cell) else (n,k)).lookup x=W1 k ->
  ∃k',(x,k')∈names/\(k'=k∨(k'=.free /\k=.cell))
 |[],h=>by simp at h
 | (n,d)::r,h=>by
  rw[bn] at h;have J:=@Ew env x k r
  by_cases I:(d==sR&&env.scope.kind==.function&&env.kindOf n==W1 .cell)=E3
  .simp only[I,WG] at h;rw[ck] at h;split at h
   .rename_i e;have O:x=n:=by simpa using e
    subst O;have g:d=.free :=by
     rw[fh,fh] at I;simpa using I.1.1
    cases h;exact⟨d,dn,.inr ⟨g,rfl⟩⟩
   .obtain⟨k',G,z⟩:=J h;exact⟨k',cE _ G,z⟩
  .simp only[I,XG] at h;rw[ck] at h;split at h
   .rename_i e;have O:x=n:=by simpa using e
    subst O;cases h;exact⟨d,dn,.inl rfl⟩
   .obtain⟨k',G,z⟩:=J h;exact⟨k',cE _ G,z⟩
def Bg(ts N:List Str):List Str:=N.map λy=>if y∈ts then nV else y
abbrev Dd (t:Str) (N:List Str):List Str:=Bg [t] N
abbrev Bj (X:Cx) (scope:la) (N2:List Str) (s2:ah) (H2:Hp) (fp:List Addr):Cx:=
 { X with N:=N2,s₀:=s2,H₀:=H2,env:=compEnvC scope (ON X.env.cells scope.names []) (s2.heap.objs.size+1) X.env,outer:=X.stack,ex:=fp,fn:=λ_=>ZA,pn:=[],xe:=λ_ _=>False }
structure nj (X:Cx) (scope:la) (ts:List Str):Prop where
 nocell:∀y∈scope.names,y.2≠.cell
 kind:scope.kind=.function
 names:∀y∈scope.names,y.2=.local ->scope.names.lookup y.1=W1 .local
 tl:∀t∈ts,scope.names.lookup t=W1 .local
 loc:∀y∈scope.names,y.2=.local ->y.1∈ts∨y.1∉X.N
 fre:∀y∈scope.names,y.2=.free ->X.env.kindOf y.1=W1 .cell ∨X.env.kindOf y.1=W1 .free
 emp:∀y∈scope.names,y.1≠nV
 nd:∀t∈ts,Uq (Bg ts X.N++ts) t
section
variable {t:Str}{ts:List Str}
theorem nj.cells(c:nj X scope ts)(ok:X.Ok):∀y∈scope.names,y.2=.free ->∃c,X.env.cells.lookup y.1=W1 c:=λy g G=>ok.has y.1 (c.fre y g G)
def nj.sub(c:nj X scope ts)(ok:X.Ok){x:Str}{a:Addr}(h:(ON X.env.cells scope.names []).lookup x=W1 a):X.env.cells.lookup x=W1 a:=by
 rcases Qn (c.cells ok) h with q | q
 .simp at q
 .exact q
theorem nj.inv{h1:Heap}{tk:Nat}(c:nj X scope ts)(I:Inv X π σ H s)(hf:∀b∈fp,To X π H b)(ho:∀b∈fp,∃o,s.heap.get? b=W1 o)(X0:h1.Ns (s.heap.objs.size+1) (λ_=>E2))(kp:∀b o,s.heap.get? b=W1 o->h1.get? b=W1 o)(Z:h1.get? s.heap.objs.size=W1 { cls:=.type "list",data:=.seq #[] }):
  Inv (Bj X scope (Bg ts X.N++ts) s H fp) [] (σ++wn ts.length E2) (fk H s.heap.objs.size (.lst [])) { s with heap:=h1,toks:=tk }:=by
 have L:∀b o,s.heap.get? b=W1 o->b<s.heap.objs.size:=λb o e=>bv e;have S0:(Bj X scope (Bg ts X.N++ts) s H fp).Ok:=by
  refine⟨I.ok.mod,c.kind,I.ok.glob,I.ok.blt,kr _,λx y a h1 h2=>I.ok.inj x y a (c.sub I.ok h1) (c.sub I.ok h2),λx hx=>?_,λx a h _=>SF (show ZA=E3 from h) df,I.ok.hd,I.ok.frames,.inl rfl,λb W=>⟨?_,λx a h=>?_⟩,I.bs,cy I.ok.bsz I.sz,λb o e W=>?_,λb W hs=>?_,I.stack,I.stkFree⟩
  .have T0:(oa scope X.env).names.lookup x=W1 .cell ∨(oa scope X.env).names.lookup x=W1 .free :=hx;have go:∀k,(oa scope X.env).names.lookup x=W1 k->(k=.cell ∨k=.free)->(x,sR)∈scope.names:=λk hk U=>by
    obtain⟨J,m,e⟩:=Ew hk
    rcases e with e | ⟨e,_⟩
    .subst e
     rcases U with z | z
     .exact SF z (c.nocell _ m)
     .rw[<-z];exact m
    .rw[<-e];exact m
   rcases T0 with h | h
   .exact Jy (go _ h (.inl rfl))
   .exact Jy (go _ h (.inr rfl))
  .obtain⟨o,e⟩:=ho b W;exact bX (jp (L b o e))
  .exact (hf b W).2.2.2.2.1 x a (c.sub I.ok h)
  .rcases (hf b W).2.2.2.1 with z | z
   .exact I.ok.noex b o e z
   .exact SF (eK (bv e) (cy I.ok.bsz z)) (iE _)
  .rcases bP.mp (I.stkSub b hs) with z | z
   .exact (hf b W).2.1 z
   .exact (hf b W).2.2.1 z
 have fr:H s.heap.objs.size=E2:=I.hok.fresh (aE _);have new:BJ X.prog X.w (fk H s.heap.objs.size (.lst [])) h1 s.heap.objs.size (.lst []):=⟨eA _,[],0,.nil,Z⟩;refine⟨S0,rfl,I.bare,Un.laid kp (aE _) fr,⟨_,X0,λi x v e1 e2 e3=>?_⟩,λx a h=>?_,?_,λx a h=>?_,λp hp=>SF (show p∈([]:NI) from hp) (by simp),I.hok.laid kp (aE _) new,?_⟩
 .have O0:(Bg ts X.N++ts)[i]?=W1 x:=e1;have Y:i<σ.length:=by
   by_cases z:i<σ.length
   .exact z
   .rw[ii (by omega),zZ] at e2;split at e2<;>cases e2
  have U1:σ[i]?=W1 (W1 v):=by rw[kt Y] at e2;exact e2
  have hN:i<X.N.length:=by rw[<-I.len];exact Y
  have g:(Bg ts X.N)[i]?=W1 x:=by rw[kt (by unfold Bg;rw[aw];exact hN)] at O0;exact O0
  unfold Bg at g;rw[cb] at g;have S1:(oa scope X.env).names.lookup x=W1 .local ∨(oa scope X.env).names.lookup x=W1 .cell ∨(oa scope X.env).names.lookup x=W1 .free :=e3;have N1:∃J,(x,J)∈scope.names/\(J=.local ∨J=.free)/\(J=.free ->(oa scope X.env).names.lookup x=W1 .cell ∨(oa scope X.env).names.lookup x=W1 .free):=by
   rcases S1 with z | z | z
   .obtain⟨J,m,e⟩:=Ew z
    rcases e with e | ⟨_,e⟩
    .exact⟨J,m,.inl e,λq=>by rw[q] at e;cases e⟩
    .cases e
   .obtain⟨J,m,e⟩:=Ew z
    rcases e with e | ⟨e,_⟩
    .exact SF e (c.nocell _ m)
    .exact⟨J,m,.inr e,λ_=>.inl z⟩
   .obtain⟨J,m,e⟩:=Ew z
    rcases e with e | ⟨e,q⟩
    .exact⟨J,m,.inr e,λ_=>.inr z⟩
    .cases q
  cases ey:X.N[i]? with
  |none=>rw[ey] at g;cases g
  |some y=>
   rw[ey] at g;have O:(if y∈ts then nV else y)=x:=eJ g;obtain⟨J,m,G,P1⟩:=N1
   by_cases T:y∈ts
   .rw[OF T] at O;exact SF O.symm (c.emp _ m)
   .rw[RF T] at O;subst O
    rcases G with G | G
    .rcases c.loc _ m G with z | z
     .exact SF z T
     .exact SF (pT ey) z
    .have U:=c.fre _ m G;have S:X.env.kindOf y=W1 .cell ∨X.env.kindOf y=W1 .free :=U;obtain⟨mm,hn,hl⟩:=I.loc;have hv:VO X.env.scope y:=by
      rcases S with z | z
      .exact .inr (.inl z)
      .exact .inr (.inr z)
     obtain⟨u,r,l⟩:=hl i y v ey U1 hv;refine⟨u,r,.inr ⟨P1 G,?_⟩⟩
     rcases l with ⟨kl,_⟩ | ⟨_,a,ea,hc⟩
     .rcases S with z | z
      .rw[kl] at z;cases z
      .rw[kl] at z;cases z
     .rw[G] at m;obtain⟨a',N0⟩:=Jy (cells:=X.env.cells) (cs:=[]) m;refine⟨a',N0,?_⟩;have:=c.sub I.ok N0;rw[ea] at this;cases this;obtain⟨o,e,d⟩:=hc;exact⟨o,kp _ _ e,d⟩
 .obtain⟨v,o,e,d⟩:=I.cell x a (c.sub I.ok h);exact⟨v,o,kp _ _ e,d⟩
 .show fk H s.heap.objs.size (.lst []) (s.heap.objs.size+1)=E2;rw[Ai (Iq _)];exact I.hok.fresh (kr _)
 .have ha:=c.sub I.ok h;obtain⟨v,o,e,d⟩:=I.cell x a ha;rw[Ai (bX (L _ _ e))];exact I.freeC x a ha
 .show (σ++wn ts.length E2).length=(Bg ts X.N++ts).length;unfold Bg;rw[ff,ff,aw,I.len,wq]
def XF(n:Nat)(Y:TI)(g:TG)(tc:TT)(te:TE):TE:=λG H Q=>Y G H λJ d=>∀p,d p=E2->∃W:Nat->Nat->List V->Hp->Prop,(∃m,W 0 m [] (fk d p (.lst []))) ∧
 ∀i m ys H,W i m ys H->(J.stop i H/\Q (.ref p) H)∨(J.go i H/\∀x T,J.yld i H x T->∀I:List (Option V),I.length=n->g x (G++I) T λz d=>(∃L,z=G++L/\L.length=n)/\tc z d λb S=>
  if b=E3 then te z S λy O=>O p=W1 (.lst ys)/\ys.length<sizeLine/\∃U,U<m/\W (i+1) U (ys++[y]) (fk O p (.lst (ys++[y]))) else ∃U,U<m/\W (i+1) U ys S)
def PTs(X:Cx)(d:List Expr)(tc:TT):Prop:=
 ∀(z:NI) (s:ah) (g:St) (H:Hp) (Q:Bool->Hp->Prop),Inv X z g H s->tc g H Q ->
  ag (ai X.prog X.w) X.A (forIn d E3 λc r=>if r=E3 then do let ok <-oS c X.env (eval c X.env);pure (sT ok) else pure (sT r)) (TP X z g Q) X.xe s
def YT:PTs X [] (λ_ H Q=>Q E3 H):=λ_ _ _ H _ I h=>wpAny_tests_nil ⟨H,I,h⟩
def m5{tc:TT}(h:PT X e tc):PTs X [e] tc:=λd s g H Q I q=>wpAny_tests_one (h d s g H Q I q)
variable {elt iter:Expr}{ifs:List Expr}{px:Pos}{wi:TI}{tc:TT}{te:TE}{g:TG}
def XH{A:aS}{R:nL->ah->Prop}{d z:ac}(J:Nat->ah->Prop)(E:ac->ah->Prop)(hE:E=notedBy (ai prog w) A env λe T=>R (.error e) T)(go:∀n s,J n s->ag (ai prog w) A (gg d) (λr s1=>match r with
      |none=>R (.ok .next) s1
      |some v=>ag (ai prog w) A (zC tg d v) (λ_ S=>ag (ai prog w) A (ny tg env v) (λ_ U=>
          ag (ai prog w) A (forIn ifs E3 λc r=>if r=E3 then do let ok <-oS c env (eval c env);pure (sT ok) else pure (sT r)) (λok G=>
            if ok=E3 then ag (ai prog w) A (eval elt env) (λx L=>ag (ai prog w) A (call (.builtin "list.append") [z,x]) (λ_ I=>∃m,m<n/\J m I) E L) E G else ∃m,m<n/\J m G) E U) E S) E s1) E s)(n:Nat)(j0:J n s):fA (ai prog w) A (.compLoop (.ListComp elt [⟨tg,iter,ifs,0⟩] scope pos) 0 d z env) R s:=by
  subst hE;refine codeAny_loop rfl J (λn s Z=>?_) n j0;show ag _ A (Sem.onRaise (compTurn (.ListComp elt [⟨tg,iter,ifs,0⟩] scope pos) 0 d z env) (λx=>do noteFrame x env;theTreesLotGoes x)) _ _ s;refine wpAny_noted ?_;rw[compTurn_list];refine ae (zY (ae (mr (go n s Z) λr s1 q1=>?_)));cases r with
  |none=>exact av q1
  |some v=>
    refine ae (mr q1 λ_ S q2=>ae (mr q2 λ_ U q3=>ae (mr q3 λok G O=>?_)));cases ok with
    |false=>exact av ⟨rfl,O⟩
    |true=>exact ae (ae (mr O λx L Y=>ae (mr Y λ_ I W=>av (av ⟨rfl,W⟩))))
def Qo{Q:VK}{tn:Nat->Heap->Prop}{J:It}{RR:ac->Addr->nL->ah->Prop}(c:nj X scope ts)(hc:X.calm=E3)(I:Inv X π σ H s)(T:VQ X.prog X.w X.K tg J fp it tn)(U2:tn 0 s.heap)(hf:∀b∈fp,To X π H b)(hG:∀s2 H2 fp,PG (Bj X scope (Bg ts X.N++ts) s2 H2 fp) tg g)(hI:∀s2 H2 fp,PTs (Bj X scope (Bg ts X.N++ts) s2 H2 fp) ifs tc)(hE:∀s2 H2 fp,PE (Bj X scope (Bg ts X.N++ts) s2 H2 fp) elt te)(h:∀p,H p=E2->∃W:Nat->Nat->List V->Hp->Prop,(∃m,W 0 m [] (fk H p (.lst []))) ∧
      ∀i m ys H,W i m ys H->(J.stop i H/\Q (.ref p) H)∨(J.go i H/\∀x H',J.yld i H x H'->∀os:List (Option V),os.length=ts.length->g x (σ++os) H' λT0 H1=>(∃o2,T0=σ++o2/\o2.length=ts.length)/\tc T0 H1 λb H2=>
        if b=E3 then te T0 H2 λy H3=>H3 p=W1 (.lst ys)/\ys.length<sizeLine/\∃m',m'<m/\W (i+1) m' (ys++[y]) (fk H3 p (.lst (ys++[y]))) else ∃m',m'<m/\W (i+1) m' ys H2))(P7:∀p C s' H' m,Inv X π σ H' s'->H' C=E2->C≠X.env.locals->X.s₀.heap.objs.size<=C->(∀x a,X.env.cells.lookup x=W1 a->a≠C)->(∀q∈X.pn++π,q.1≠C)->s'.heap.Ns C m->Q (.ref p) H'->RR (.ref p) C (.ok .next) s'):
    ag (ai X.prog X.w) X.A (xl []) (λY3 s₃=>ag (ai X.prog X.w) X.A (newFunctionEnv scope X.env.globals (ON X.env.cells scope.names []) [] X.env.qual E2 .none (W1 X.env)) (λO0 Y1=>
      fA (ai X.prog X.w) X.A (.compStart (.ListComp elt [⟨tg,iter,ifs,0⟩] scope pos) 0 (.ref it) Y3 { O0 with scope:=oa scope X.env }) (RR Y3 O0.locals) Y1) E s₃) E s:=by
  refine kL (wpAny_newFunctionEnv c.nocell (by intro y hy;simp at hy) (λh₁ L G=>?_) c.kind);dsimp only at L G ⊢;generalize P1:s.heap.push { cls:=.type "list",dict:=E2,data:=.seq ([]:List ac).toArray }=G2 at L G ⊢;have hC:G2.objs.size=s.heap.objs.size+1:=by rw[<-P1,gi]
  rw[hC] at L G ⊢;have kp:∀b o,s.heap.get? b=W1 o->h₁.get? b=W1 o:=λb o e=>G.extBut b o (bX (jp (bv e))) (bg _ (P1▸bg _ e));have N3:h₁.get? s.heap.objs.size=W1 { cls:=.type "list",data:=.seq #[] }:=G.extBut _ _ (bX (pw _)) (bg _ (P1▸cp _ rfl));have N1:∀b∈fp,∃o,s.heap.get? b=W1 o:=λb O=>let ⟨o,e,_⟩:=T.obj 0 _ U2 b O;⟨o,e⟩;have I0:=c.inv (fp:=fp) (h1:=h₁) (tk:=s.toks+([]:List (Str×ac)).length) I hf N1 (by simpa using L) kp N3;have fr:H s.heap.objs.size=E2:=I.hok.fresh (aE _);obtain⟨W,⟨m0,w0⟩,U1⟩:=h _ fr;have T2:tn 0 h₁:=T.keep 0 _ _ U2 λb _ o e=>kp b o e;generalize S:Bj X scope (Bg ts X.N++ts) s H fp=Y at I0;have Y2:Y.calm=E3:=by rw[<-S];exact hc
  have U:∀{H':Hp},(∀b∈fp,H' b=E2)->∀b∈fp,To Y [] H' b:=λ{H'} hn b O=>by
    obtain⟨o,e⟩:=N1 b O;refine⟨hn b O,?_,?_,.inl ?_,λx a e'=>?_,λp hp=>?_⟩
    . rw[<-S];exact bX (jp (bv e))
    . intro z
      exact I0.ok.exfs b (by rw[<-S];exact O) z
    . rw[<-S];exact O
    . exact (I0.ok.exf b (by rw[<-S];exact O)).2 x a e'
    . rw[<-S] at hp
      exact SF (show p∈([]:NI) from hp) (by simp)
  have N9:∀b∈fp,fk H s.heap.objs.size (.lst []) b=E2:=λb O=>by
    obtain⟨o,e⟩:=N1 b O;rw[Ai (bX (bv e))];exact (hf b O).1
  have Z:Y.env=compEnvC scope (ON X.env.cells scope.names []) (s.heap.objs.size+1) X.env:=by rw[<-S]
  have pY:Y.prog=X.prog:=by rw[<-S]
  have wY:Y.w=X.w:=by rw[<-S]
  have aY:Y.A=X.A:=by rw[<-S]
  have kY:Y.K=X.K:=by rw[<-S]
  have xY:Y.xe=λ_ _=>False:=by rw[<-S]
  have f8:PTs Y ifs tc:=by rw[<-S];exact hI s H fp
  have P8:PE Y elt te:=by rw[<-S];exact hE s H fp
  have u8:PG Y tg g:=by rw[<-S];exact hG s H fp
  have N0:∀s₃:ah,s₃={ s with heap:=h₁,toks:=s.toks+([]:List (Str×ac)).length } ->
      fA (ai X.prog X.w) X.A (.compLoop (.ListComp elt [⟨tg,iter,ifs,0⟩] scope pos) 0 (.ref it) (.ref s.heap.objs.size) (compEnvC scope (ON X.env.cells scope.names []) (s.heap.objs.size+1) X.env)) (RR (.ref s.heap.objs.size) (s.heap.objs.size+1)) s₃:=by
    rintro s₃ rfl;rw[<-Z];refine XH (λn s'=>∃i ys os H',os.length=ts.length/\Inv Y [] (σ++os) H' s'/\tn i s'.heap/\(∀b∈fp,H' b=E2)/\W i n ys H') _ rfl ?_ m0 ⟨0,[],_,_,wq,I0,T2,N9,w0⟩;rintro n s3 ⟨i,ys,os,H3,r6,I3,S2,P3,w3⟩
    rcases U1 i n ys H3 w3 with ⟨Q2,qn⟩ | ⟨go,step⟩
    . have d:=T.done Y pY wY kY Y2 i [] s3 _ H3 (λ_ _=>False) I3 (U P3) S2 Q2
      rw[aY] at d;refine gT d (λr s4 q0=>?_) λ_ _ z=>z.elim;obtain⟨hr,I4⟩:=q0;subst hr;have cN:=I4.free;have P9:H3 (s.heap.objs.size+1)=E2:=by rw[Z] at cN;exact cN
      have un:=I4.base;obtain⟨m,hm,_⟩:=I4.loc;have P6:s4.heap.Ns (s.heap.objs.size+1) m:=by rw[Z] at hm;exact hm
      have N4:Un (frs X.stack) fp H H3 s.heap s4.heap:=by rw[<-S] at un;exact un
      have P4:s4.os=s.os:=by have:=I4.os;rw[<-S] at this;exact this
      have X2:Pf X.prog X.w H3 s4.heap:=by have:=I4.hok;rw[<-S] at this;exact this
      have S1:=I4.bare;have IX:Inv X π σ H3 s4:=I.call' P4 N4 X2 S1 λb O=>⟨(hf b O).2.2.2.1,(hf b O).2.1,(hf b O).2.2.2.2.1,(hf b O).2.2.2.2.2⟩;refine P7 _ _ _ _ m IX P9 (nE (jp I.lt)) (cy I.sz (kr _)) (λx a e z=>?_) (λq hq z=>?_) P6 qn
      . obtain⟨v,oc,e',_⟩:=I.cell x a e
        have q2:a<s.heap.objs.size:=bv e';have z':a=s.heap.objs.size+1:=z;exact SF (z'▸q2) (kP.mpr (kr _))
      . have q2:q.1<s.heap.objs.size:=bv (I.pin q hq).1
        have z':q.1=s.heap.objs.size+1:=z;exact SF (z'▸q2) (kP.mpr (kr _))
    . have d:=T.item Y pY wY kY Y2 i [] s3 _ H3 (λ_ _=>False) I3 (U P3) S2 go
      rw[aY] at d;refine gT d (λr s4 q9=>?_) λ_ _ z=>z.elim;obtain⟨u,hr,h4⟩:=q9;subst hr;refine gT h4 (λ_ s4 p0=>?_) λ_ _ z=>z.elim;obtain⟨x,H5,I5,r5,y5,X0,r9⟩:=p0;have X9:=I5.pinned (U r9) (T.obj _ _ X0);have S3:=u8 _ s4 _ H5 x u _ X9 r5 (step x H5 y5 os r6);rw[aY,pY,wY,xY] at S3;refine gT S3 (λ_ s6 p9=>?_) λ_ _ z=>z.elim;obtain⟨σ6,H6,I6,⟨o2,e6,l6⟩,q⟩:=p9;subst e6;have X1:=f8 _ s6 _ H6 _ I6 q;rw[aY,pY,wY,xY] at X1;refine gT X1 (λb s7 g0=>?_) λ_ _ z=>z.elim;obtain⟨H7,I7,q7⟩:=g0;have S0:∀{H8:Hp}{s8:ah},Inv Y ([]++Qf fp s4.heap) (σ++o2) H8 s8->tn (i+1) s8.heap/\∀b∈fp,H8 b=E2:=λ{H8 s8} I8=>by
        refine⟨T.keep _ _ _ X0 λb O ob e=>(I8.pin (b,ob) (gX _ (gX _ (JX O e)))).1,λb O=>?_⟩;obtain⟨ob,e,d⟩:=T.obj _ _ X0 b O;exact (I8.pin (b,ob) (gX _ (gX _ (JX O e)))).2.1
      cases b with
      |false=>
        rw[RF df] at q7 ⊢;obtain⟨m',hm,w7⟩:=q7;obtain⟨t7,f7⟩:=S0 I7;exact⟨m',hm,i+1,ys,o2,H7,l6,I7.unpinned,t7,f7,w7⟩
      |true=>
        rw[OF rfl] at q7 ⊢;have ev:=P8 _ s7 _ H7 _ I7 q7;rw[aY,pY,wY,xY] at ev;refine gT ev (λy s8 g9=>?_) λ_ _ z=>z.elim;obtain⟨yv,H8,I8,r8,P5,S4,m',hm,w8⟩:=g9;have ap:=OD (X:=Y) _ s8 _ H8 (.ref s.heap.objs.size) [yv] (.ref s.heap.objs.size) [y] (λ_ H9=>H9=fk H8 s.heap.objs.size (.lst (ys++[yv]))) I8 rfl (.cons r8 .nil) ⟨_,ys,yv,rfl,rfl,P5,S4,rfl⟩;rw[aY,pY,wY,xY] at ap;refine gT ap (λ_ s9 u0=>?_) λ_ _ z=>z.elim;obtain⟨_,H9,I9,_,e9⟩:=u0;subst e9;obtain⟨t9,f9⟩:=S0 I9;exact⟨m',hm,i+1,_,o2,_,l6,I9.unpinned,t9,f9,w8⟩
  exact codeAny_compStart_list (N0 _ rfl) (T.self X.A 0 _ _ _ T2 (N0 _ rfl))
theorem dH(c:nj X scope ts)(hc:X.calm=E3)(hi:PI X tg iter wi)(hG:∀S d fp,PG (Bj X scope (Bg ts X.N++ts) S d fp) tg g)(hI:∀S d fp,PTs (Bj X scope (Bg ts X.N++ts) S d fp) ifs tc)(hE:∀S d fp,PE (Bj X scope (Bg ts X.N++ts) S d fp) elt te)(hs:∀x,kH iter X.env x=pure x:=by intro _;rfl):PE X (.ListComp elt [⟨tg,iter,ifs,0⟩] scope pos) (XF ts.length wi g tc te):=by
 intro L s G H Q I h;rw[eval_ListComp];refine Iy (use:=E2) rfl hs (K8 (c.cells I.ok)) c.kind c.names (mr (hi L s G H _ I h) λv s1 h1=>mr h1 λN0 S h2=>?_);obtain⟨it,fp,tn,J,d,e,I2,T,z,f2,q⟩:=h2;subst e;refine Qo (Q:=Q) c hc I2 T z f2 hG hI hE q λp C U H' m I' n1 n2 n3 Z Y hm W=>?_;exact⟨m,hm,λh' O=>⟨.ref p,H',I'.turned (t':=U.toks) (λb o hb e=>(O.2 b hb).trans e) n1 (cq (cq n2)) (.inr n3) Z Y,rfl,W⟩⟩
theorem dI{G:Pos}(c:nj X scope ts)(hc:X.calm=E3)(hN:X.N.Nodup)(Y:X.N[i]?=W1 y)(hx:Loc X.env.scope y)(hi:PI X tg iter wi)(hG:∀S d fp,PG (Bj X scope (Bg ts X.N++ts) S d fp) tg g)(hI:∀S d fp,PTs (Bj X scope (Bg ts X.N++ts) S d fp) ifs tc)(hE:∀S d fp,PE (Bj X scope (Bg ts X.N++ts) S d fp) elt te)(W:fw (.ListComp elt [⟨tg,iter,ifs,0⟩] scope pos) (W1 (.Name y G)) spos.line X.env=pure E3:=by rfl)(hf:X.fn y=E3∨X.env.scope.names.lookup y=W1 .local :=by first | exact .inl rfl | exact .inr rfl | assumption)(hs:∀x,kH iter X.env x=pure x:=by intro _;rfl):
  PS X (.Assign [.Name y G] (.ListComp elt [⟨tg,iter,ifs,0⟩] scope pos) spos) (Wp (XF ts.length wi g tc te) (Em i)):=by
 intro π s σ H D I h;rw[exec_Assign_Name_used _ _ _ _ W];refine ae (zY (ae ?_));show ag _ X.A (do let _ <-comprehension (.ListComp elt [⟨tg,iter,ifs,0⟩] scope pos) scope X.env _ (xl []) ZA (eval iter X.env) (W1 (ny (.Name y G) X.env))) _ _ s;refine ae (gT (Iy (use:=W1 (ny (.Name y G) X.env)) (Q:=λ_ U=>SP X π D .next U) rfl hs (K8 (c.cells I.ok)) c.kind c.names
  (mr (hi π s σ H _ I h) λv s1 h1=>mr h1 λN0 S h2=>?_)) (λ_ U hq=>av (av hq)) λ_ _ e=>e)
 obtain⟨it,fp,tn,J,d,e,I2,T,L,f2,q⟩:=h2;subst e;refine Qo (Q:=λx H1=>Em i x σ H1 D.nx) c hc I2 T L f2 hG hI hE q λp C U H' m I' n1 n2 n3 n4 n5 hm q'=>?_;show ag _ X.A (ny (.Name y G) X.env (.ref p)) _ _ _;refine Cf (R4 (v:=.ref p) I' hN Y hx rfl (λs3 I3 v0=>?_) hf);obtain⟨a,sb,ha⟩:=v0;have Z:C≠a:=by
  rcases ha with z | z
  .rw[z];exact n2
  .exact cq (n4 _ _ z)
 exact⟨m,hm.sameBut sb Z,λh' O=>⟨_,H',I3.turned (t':=s3.toks) (λb o hb e=>(O.2 b hb).trans e) n1 n2 (.inr n3) n4 n5,q'⟩⟩
abbrev Lh (X:Cx) (scope:la) (t:Str):Prop:=nj X scope [t]
abbrev Qp (X:Cx) (scope:la) (t:Str) (s2:ah) (H2:Hp) (fp:List Addr):Cx:=Bj X scope (Dd t X.N++[t]) s2 H2 fp
def Qq(J:Uq X.N x)(z:X.N[i]?=W1 x)(d:Loc X.env.scope x)(G:X.fn x=E3∨X.env.scope.names.lookup x=W1 .local):PG X (.Name x pos) (Em i):=by
 intro S s O H v u Q I r h;exact Cf (Qd I J z d r (λT L _=>⟨_,H,L,h⟩) G)
def gOne(c:Lh X scope t)(S:ah)(d:Hp)(fp:List Addr):PG (Qp X scope t S d fp) (.Name t px) (Em X.N.length):=
 Qq (c.nd t (fR.mpr rfl)) (by show (Dd t X.N++[t])[X.N.length]?=W1 t;unfold Dd Bg;rw[ii (by rw[aw];exact aE _),aw,se];rfl) (.inl (Au (c.tl t (fR.mpr rfl)))) (.inr (Au (c.tl t (fR.mpr rfl))))
def q_(X:Cx)(I:TI):TI:=λd H R=>∃z,I d H z/\∀J G,d.length=X.N.length->z J G->R J G
def m6(Y:PI X tg iter wi):PI X tg iter (q_ X wi):=λG s z H R I ⟨R0,h0,W⟩=>
 mr (Y G s z H R0 I h0) λv s1 Z=>mr Z (by rintro O s2 ⟨S,fp,L,J,d,e,I',T,U,f,r⟩;exact ⟨S,fp,L,J,d,e,I',T,U,f,W J d I.len r⟩)
end
end L2
namespace PV
open PySem L2
set_option genInjectivity true in
inductive D where
 |non | bl (b:Bool) | int (i:Int) | str (x:Str) | tup (ds:List D) | lst (ds:List D)
 |dk (kvs:List (Key×D)) | dt (kvs:List (List Key×D)) | ob (c:Str) (fs:List (Str×D)) | adr (a:Addr) | exc (c:Str) (fs:List (Str×D)) | err (c:Str) (fs:List (Str×D)) | mem (F:List (List Key)->Int)
set_option genInjectivity true in
inductive Slot where
 |un | fz (d:D) | ow (d:D)
abbrev Rho:=List Slot
abbrev FE:=Rho->Option D
abbrev FA:=Rho->Option (List D)
abbrev FT:=Rho->Option Bool
abbrev FO:=Rho->Option (Option Int)
abbrev FI:=Rho->Option (List D)
def vF(i:Nat):FE:=λρ=>match ρ[i]? with | some (.fz d)=>W1 d | _=>E2
def vU(i:Nat):FE:=λρ=>match ρ[i]? with | some (.fz d)=>W1 d | some (.ow d)=>W1 d | _=>E2
def kF(d:D):FE:=λ_=>W1 d
def bF(g:D->D->Option D)(fa d:FE):FE:=λρ=>(fa ρ).bind λx=>(d ρ).bind λy=>g x y
def uF(g:D->Option D)(fa:FE):FE:=λρ=>(fa ρ).bind g
def MW(f:FE):FT:=λρ=>match f ρ with | some (.bl b)=>W1 b | _=>E2
def ZY(g:Int->Int->Option D):D->D->Option D:=λx y=>match x,y with | .int i,.int j=>g i j | _,_=>E2
instance (i j:Int):Decidable (CMul i j):=by unfold CMul;infer_instance
instance (i j:Int):Decidable (CDiv i j):=by unfold CDiv;infer_instance
instance (i j:Int):Decidable (CPow i j):=by unfold CPow;infer_instance
def subD:=ZY λi j=>W1 (.int (i-j))
def Mp(i j:Int):Prop:=CMul i j∨(DL i<=4194304/\DL j<=4194304)
instance (i j:Int):Decidable (Mp i j):=by unfold Mp;infer_instance
def CShl(i j:Int):Prop:=0<=j/\j<=1000000/\DL i<=4194304
instance (i j:Int):Decidable (CShl i j):=by unfold CShl;infer_instance
def Pc:=ZY λi j=>if Mp i j then W1 (.int (i*j)) else E2
def Ex:=ZY λi j=>if CDiv i j then W1 (.int (i/j)) else E2
def tx:=ZY λi j=>if 0<j then W1 (.int (i%j)) else E2
def shlD:=ZY λi j=>if CShl i j then W1 (.int (i*2^j.toNat)) else E2
def ltD:=ZY λi j=>W1 (.bl (decide (i<j)))
def gtD:=ZY λi j=>W1 (.bl (decide (j<i)))
def geD:=ZY λi j=>W1 (.bl (decide (j<=i)))
def rc:D->D->Option D:=λx y=>match x,y with
 |.int i,.int j=>W1 (.int (i+j))
 |.str i,.str j=>if i.length+j.length<=sizeLine then W1 (.str (i++j)) else E2
 |.lst i,.lst j=>if i.length+j.length<=sizeLine then W1 (.lst (i++j)) else E2
 |_,_=>E2
def andF(fa d:FE):FE:=λρ=>match fa ρ with | some (.bl E3)=>d ρ | some (.bl ZA)=>W1 (.bl ZA) | _=>E2
def orF(fa d:FE):FE:=λρ=>match fa ρ with | some (.bl E3)=>W1 (.bl E3) | some (.bl ZA)=>d ρ | _=>E2
def andT(fa d:FT):FT:=λρ=>match fa ρ with | some E3=>d ρ | some ZA=>W1 ZA | none=>E2
def Ya(fa d:FT):FT:=λρ=>match fa ρ with | some E3=>W1 E3 | some ZA=>d ρ | none=>E2
def OZ(fa:FT):FT:=λρ=>(fa ρ).map (!·)
def truD:D->Option Bool
 |.non=>W1 ZA
 |.bl b=>W1 b
 |.int i=>W1 (i != 0)
 |.str y=>if y.length<=sizeLine then W1 ((y.length:Int) != 0) else E2
 |.lst ds=>W1 (!ds.isEmpty)
 |.tup ds=>W1 (!ds.isEmpty)
 |_=>E2
def Ts(f:FE):FT:=λρ=>(f ρ).bind truD
def af:FA:=λ_=>W1 []
def Aa(fa:FE)(fs:FA):FA:=λρ=>(fa ρ).bind λd=>(fs ρ).map (d::·)
def UI(fs:FA):FE:=λρ=>(fs ρ).bind λds=>if ds.length<=sizeLine then W1 (.tup ds) else E2
def ML(fs:FA):FE:=λρ=>(fs ρ).bind λds=>if ds.length<=sizeLine then W1 (.lst ds) else E2
def ixD:D->D->Option D:=λx y=>match x,y with
 |.lst ds,.int i=>atI ds i
 |.tup ds,.int i=>atI ds i
 |.str z,.int i=>if z.length<=sizeLine then (atI z.cps.toList i).map λc=>.str ⟨#[c]⟩ else E2
 |_,_=>E2
def noO:FO:=λ_=>W1 E2
def Rl(f:FE):FO:=λρ=>match f ρ with | some (.int i)=>W1 (W1 i) | _=>E2
def OM{α:Type}(ds:List α)(d z:Option Int):List α:=(ds.drop (HT.sIx ds.length 0 d)).take (HT.sIx ds.length ds.length z-HT.sIx ds.length 0 d)
def cutS(z:Str)(d g:Option Int):Str:=⟨(OM z.cps.toList d g).toArray⟩
def slD(x:D)(d g:Option Int):Option D:=match x with
 |.lst ds=>W1 (.lst (OM ds d g))
 |.tup ds=>if HT.sIx ds.length 0 d=0/\HT.sIx ds.length ds.length g=ds.length then E2 else W1 (.tup (OM ds d g))
 |.str z=>if z.length<=sizeLine then W1 (.str (cutS z d g)) else E2
 |_=>E2
def slF(f:FE)(l h:FO):FE:=λρ=>(f ρ).bind λx=>(l ρ).bind λd=>(h ρ).bind λz=>slD x d z
def SR:D->Option V
 |.non=>W1 .non
 |.bl b=>W1 (.bl b)
 |.int i=>W1 (.int i)
 |.str x=>W1 (.str x)
 |_=>E2
def On:List D->Option (List V)
 |[]=>W1 []
 |d::r=>(SR d).bind λv=>(On r).map (v::·)
def inD(d:Bool):D->D->Option D:=λx y=>match x,y with
 |.str i,.str j=>W1 (.bl (if d then !(!(pc j i 0 j.length 1).isEmpty) else !(pc j i 0 j.length 1).isEmpty))
 |x,.lst ds=>(SR x).bind λv=>(On ds).map λvs=>.bl (if d then !VX v vs else VX v vs)
 |x,.tup ds=>(SR x).bind λv=>(On ds).map λvs=>.bl (if d then !VX v vs else VX v vs)
 |_,_=>E2
def OU(f:D->D->Option Bool):List D->List D->Option Bool
 |[],[]=>W1 E3
 |x::xs,y::ys=>match f x y,OU f xs ys with | some a,W1 b=>W1 (a&&b) | _,_=>E2
 |_,_=>E2
def flD(x y:D):Option Bool:=(SR x).bind λu=>(SR y).map λv=>UY u v
def eqS(f:D->D->Option Bool):D->D->Option Bool
 |.lst xs,.lst ys=>if xs.length=ys.length then OU f xs ys else W1 ZA
 |.tup xs,.tup ys=>if xs.length=ys.length then OU f xs ys else E2
 |x,y=>flD x y
def RH:Nat->D->D->Option Bool
 |0=>flD
 |n+1=>eqS (RH n)
def UX(x y:D):Option Bool:=match x,y with
 |.int i,.int j=>W1 (decide (i=j))
 |.str i,.str j=>W1 (decide (i=j))
 |.bl i,.bl j=>W1 (decide (i=j))
 |.lst xs,.lst ys=>if xs.length=ys.length then OU (RH 180) xs ys else W1 ZA
 |.tup xs,.tup ys=>if xs.length=ys.length then OU (RH 180) xs ys else E2
 |_,_=>E2
def MQ(d:Bool)(x y:D):Option D:=(UX x y).map λb=>.bl (if d then !b else b)
def UQ:D->Option D
 |.str y=>if y.length<=sizeLine then W1 (.int y.length) else E2
 |.lst ds=>W1 (.int ds.length)
 |.tup ds=>W1 (.int ds.length)
 |_=>E2
def maxD:=ZY λi j=>W1 (.int (if j > i then j else i))
def minD:=ZY λi j=>W1 (.int (if j<i then j else i))
def intD:D->Option D
 |.int i=>W1 (.int i)
 |.bl k=>W1 (.int (if k then 1 else 0))
 |_=>E2
def seqI(f:FE):FI:=λρ=>match f ρ with | some (.lst ds)=>W1 ds | some (.tup ds)=>W1 ds | _=>E2
def wh(n:Nat):List D:=(bb n).map λ(i:Nat)=>.int i
def MU(f:FE):FI:=λρ=>match f ρ with | some (.int j)=>if -(2^62)<=j/\j<2^62 then W1 (wh j.toNat) else E2 | _=>E2
set_option genInjectivity true in
inductive QU where
 |nx (ρ:Rho) | rt (d:D) (ρ:Rho) | bk (ρ:Rho) | ct (ρ:Rho)
abbrev FS:=Rho->Option QU
def Sn:FS:=λρ=>W1 (.nx ρ)
def dq(g L:FS):FS:=λρ=>match g ρ with | some (.nx d)=>L d | o=>o
def PY(t:FT)(g L:FS):FS:=λρ=>match t ρ with | some E3=>g ρ | some ZA=>L ρ | none=>E2
def nq(i:Nat)(f:FE):FS:=λρ=>(f ρ).map λd=>.nx (ρ.set i (.fz d))
def jn(f:FE):FS:=λρ=>(f ρ).map λd=>.rt d ρ
def GJ(f:FE):FS:=λρ=>(f ρ).map λ_=>.nx ρ
def badF:FS:=λ_=>E2
def vb(b:D->FS):List D->FS
 |[],ρ=>W1 (.nx ρ)
 |d::r,ρ=>match b d ρ with
  |some (.nx g)=>vb b r g
  |some (.ct g)=>vb b r g
  |some (.bk g)=>W1 (.nx g)
  |some (.rt e g)=>W1 (.rt e g)
  |none=>E2
abbrev FG:=D->Rho->Option Rho
def Bh(i:Nat):FG:=λd ρ=>W1 (ρ.set i (.fz d))
def SL(tg:FG)(b:FS):D->FS:=λd ρ=>(tg d ρ).bind b
def NL(src:FI)(tg:FG)(b:FS):FS:=λρ=>(src ρ).bind λds=>vb (SL tg b) ds ρ
def Aj(g:List D->Option D)(fs:FA):FE:=λρ=>(fs ρ).bind g
def CP(n:Nat)(ds:List D):Rho:=ds.map .fz++wn (n-ds.length) .un
def lu(n g:Nat)(b:FS)(ds:List D):Option D:=if ds.length=g then (match b (CP n ds) with | some (.rt d _)=>W1 d | some (.nx _)=>W1 .non | _=>E2) else E2
def I_(ρ:Rho)(ga:FT)(fe:FE):List D->Option (List D)
 |[]=>W1 []
 |d::r=>match ga (ρ++[.fz d]) with
  |some E3=>(fe (ρ++[.fz d])).bind λy=>(I_ ρ ga fe r).map (y::·)
  |some ZA=>I_ ρ ga fe r
  |none=>E2
def BZ(src:FI)(ga:FT)(fe:FE):FE:=λρ=>(src ρ).bind λds=>if ds.length<=sizeLine then (I_ ρ ga fe ds).map .lst else E2
def xq:FT:=λ_=>W1 E3
def XW(val:Nat->Int):Nat->Int
 |0=>val 0
 |k+1=>if val (k+1) > XW val k then val (k+1) else XW val k
def Ey:List D->Option (List Int)
 |[]=>W1 []
 |.int i::r=>(Ey r).map (i::·)
 |_::_=>E2
def YW(x y:D):Option D:=match x with
 |.lst ds=>(Ey ds).map λns=>if ns=[] then y else .int (XW (λi=>ns.getD i 0) (ns.length-1))
 |_=>E2
def K9:List D->Option (List Str)
 |[]=>W1 []
 |.str i::r=>(K9 r).map (i::·)
 |_::_=>E2
def tyD:D->Option String
 |.non=>W1 "NoneType"
 |.bl _=>W1 "bool"
 |.int _=>W1 "int"
 |.str _=>W1 "str"
 |.lst _=>W1 "list"
 |.tup _=>W1 "tuple"
 |_=>E2
def So(T:String)(x:D):Option D:=(tyD x).map λn=>.bl (n==T||(n=="bool"&&T=="int"))
def ltS(a b:Str):Bool:=decide (a.cps.toList<b.cps.toList)
def WZ(x:Str):List Str->List Str
 |[]=>[x]
 |y::r=>if ltS x y then x::y::r else if x=y then y::r else y::WZ x r
def Ez(xs:List Str):List Str:=xs.foldr WZ []
def setW(i:Nat)(f:FE):FS:=λρ=>(f ρ).map λd=>.nx (ρ.set i (.ow d))
def WO(ρ:Rho)(i:Nat):Option D:=match ρ[i]? with | some (.ow d)=>W1 d | _=>E2
def VI(x v:D):Option D:=match x with | .lst ds=>if ds.length<sizeLine then W1 (.lst (ds++[v])) else E2 | _=>E2
def UN(g:D->D->Option D)(i:Nat)(f:FE):FS:=λρ=>(f ρ).bind λv=>(WO ρ i).bind λx=>(g x v).map λy=>.nx (ρ.set i (.ow y))
def frz1(ρ:Rho)(i:Nat):Rho:=match ρ[i]? with | some (.ow d)=>ρ.set i (.fz d) | _=>ρ
def fzS(d:List Nat)(g:FS):FS:=λρ=>g (d.foldl frz1 ρ)
end PV
namespace EX
open PySem PySem.Spec L2
open PyProof.Rows hiding St
def tbV:Option Addr->ac
 |none=>.none
 |some T=>.ref T
def ExcP(a C:Addr)(J g:Option Addr):Heap->Prop:=λh=>∃o vs,h.get? a=W1 o/\o.cls=.ref C/\o.dict=J/\o.data=.fields vs/\vs.size=6/\vs[1]?=W1 (tbV g)
abbrev excO (a C:Addr) (od tb:Option Addr):HO:=.ext (ExcP a C od tb)
end EX
namespace PV
open PySem PySem.Spec L2
open PyProof.Rows hiding St
structure Gx where
 K:aI
 cl:Str->Option Addr
 xcl:Str->Option Addr:=λ_=>E2
 lent:Option Addr:=E2
def DN{K:aI}(e:ab H H')(h:Nn K H a xs):Nn K H' a xs:=by
 rcases h with (h | ⟨o,h⟩) | h
 .exact .inl (.inl (e _ _ h))
 .exact .inl (.inr ⟨o,e _ _ h⟩)
 .exact .inr h
def Ak(h:H p=E2)(o:HO):ab H (fk H p o):=λb u q=>by rw[Ai (C_ q h)];exact q
def FsV(fs:List (Str×V))(L:List (Str×D)):Prop:=fs.map (λp=>(p.1,W1 p.2))=L.map λp=>(p.1,SR p.2)
def XdA(H:Hp)(J:Option Addr)(fs:List (Str×V)):Prop:=match J with | some dx=>H dx=W1 (.xd fs) | none=>fs=[]
def XdA.mono{fs:List (Str×V)}(h:XdA H od fs)(s:ab H H'):XdA H' od fs:=by
 cases od with
 |none=>exact h
 |some dx=>exact s _ _ h
inductive hQ (G:Gx) (H:Hp):V->D->Prop
 |non:hQ G H .non .non
 |bl (b:Bool):hQ G H (.bl b) (.bl b)
 |int (i:Int):hQ G H (.int i) (.int i)
 |str (x:Str):hQ G H (.str x) (.str x)
 |tup {a:Addr}{xs:List V}{ds:List D}:Nn G.K H a xs->xs.length=ds.length->(∀(i:Nat) x d,xs[i]?=W1 x->ds[i]?=W1 d->hQ G H x d)->hQ G H (.ref a) (.tup ds)
 |lst {a:Addr}{xs:List V}{ds:List D}:MR G.K H a xs->xs.length=ds.length->(∀(i:Nat) x d,xs[i]?=W1 x->ds[i]?=W1 d->hQ G H x d)->hQ G H (.ref a) (.lst ds)
 |dk {a:Addr}{o:Obj}{kvs:List (Key×V)}{kds:List (Key×D)}:H a=W1 (.frz o (.dK kvs))->kvs.map (·.1)=kds.map (·.1)->(∀(i:Nat) x d,(kvs.map (·.2))[i]?=W1 x->(kds.map (·.2))[i]?=W1 d->hQ G H x d)->hQ G H (.ref a) (.dk kds)
 |dt {a:Addr}{o:Obj}{kvs:List (List Key×V)}{kds:List (List Key×D)}:H a=W1 (.frz o (.dT kvs))->kvs.map (·.1)=kds.map (·.1)->(∀(i:Nat) x d,(kvs.map (·.2))[i]?=W1 x->(kds.map (·.2))[i]?=W1 d->hQ G H x d)->hQ G H (.ref a) (.dt kds)
 |adr (a:Addr):hQ G H (.ref a) (.adr a)
 |ob {a C dx:Addr}{c:Str}{fs:List (Str×V)}{gs:List (Str×D)}:G.cl c=W1 C->H a=W1 (.ins C dx fs)->fs.map (·.1)=gs.map (·.1)->(∀(i:Nat) x d,(fs.map (·.2))[i]?=W1 x->(gs.map (·.2))[i]?=W1 d->hQ G H x d)->hQ G H (.ref a) (.ob c gs)
 |err {a C:Addr}{od tb:Option Addr}{c:Str}{fs:List (Str×V)}{gs:List (Str×D)}:G.xcl c=W1 C->H a=W1 (EX.excO a C od tb)->XdA H od fs->FsV fs gs->hQ G H (.ref a) (.err c gs)
 |mem {a:Addr}{F:List (List Key)->Int}:H a=W1 (.mem F G.K)->hQ G H (.ref a) (.mem F)
def be(G:Gx)(H:Hp)(xs:List V)(ds:List D):Prop:=xs.length=ds.length/\∀(i:Nat) x d,xs[i]?=W1 x->ds[i]?=W1 d->hQ G H x d
theorem hQ.mono{G:Gx}{H z:Hp}{v:V}{d:D}(r:hQ G H v d)(s:ab H z):hQ G z v d:=by
 induction r with
 |non=>exact .non
 |bl b=>exact .bl b
 |int i=>exact .int i
 |str x=>exact .str x
 |tup h l _ g=>exact .tup (DN s h) l g
 |lst h l _ g=>exact .lst (s.seq h) l g
 |dk h l _ g=>exact .dk (s _ _ h) l g
 |dt h l _ g=>exact .dt (s _ _ h) l g
 |adr a=>exact .adr a
 |ob c h l _ g=>exact .ob c (s _ _ h) l g
 |err c h q f=>exact .err c (s _ _ h) (q.mono s) f
 |mem h=>exact .mem (s _ _ h)
theorem be.mono{G:Gx}{H g:Hp}{xs:List V}{ds:List D}(r:be G H xs ds)(s:ab H g):be G g xs ds:=⟨r.1,λi x d a b=>(r.2 i x d a b).mono s⟩
def be.nil{G:Gx}:be G H [] []:=⟨rfl,λi x d h=>by simp at h⟩
def be.cons{G:Gx}{H:Hp}{x:V}{d:D}{xs:List V}{ds:List D}(r:hQ G H x d)(I:be G H xs ds):be G H (x::xs) (d::ds):=
 ⟨by simp[I.1],λi y e z g=>by
  cases i with
  |zero=>simp at z g;subst z;subst g;exact r
  |succ i=>simp at z g;exact I.2 i y e z g⟩
def be.uncons{G:Gx}{d:D}{ds:List D}(r:be G H xs (d::ds)):∃x ys,xs=x::ys/\hQ G H x d/\be G H ys ds:=by
 obtain⟨l,h⟩:=r;cases xs with
 |nil=>simp at l
 |cons x ys=>exact⟨x,ys,rfl,h 0 x d rfl rfl,by simpa using l,λi y e z g=>h (i+1) y e (by simpa using z) (by simpa using g)⟩
def be.nil_inv{G:Gx}(r:be G H xs []):xs=[]:=by
 have:=r.1;cases xs with
 |nil=>rfl
 |cons x d=>simp at this
def be.append{G:Gx}{ds es:List D}(a:be G H xs ds)(b:be G H ys es):be G H (xs++ys) (ds++es):=by
 refine⟨by rw[ff,ff,a.1,b.1],λi x d I g=>?_⟩
 by_cases z:i<xs.length
 .rw[kt z] at I;rw[kt (by rw[<-a.1];exact z)] at g;exact a.2 i x d I g
 .rw[ii (kP.mp z)] at I;rw[ii (by rw[<-a.1];exact kP.mp z),<-a.1] at g;exact b.2 _ x d I g
theorem be.drop{G:Gx}{ds:List D}(a:be G H xs ds)(n:Nat):be G H (xs.drop n) (ds.drop n):=
 ⟨by rw[mE,mE,a.1],λi x d z g=>by rw[AA] at z g;exact a.2 _ x d z g⟩
theorem be.take{G:Gx}{ds:List D}(a:be G H xs ds)(n:Nat):be G H (xs.take n) (ds.take n):=
 ⟨by rw[iO,iO,a.1],λi x d g I=>by
  rw[List.getElem?_take] at g I;split at g
  .rename_i z;rw[OF z] at I;exact a.2 _ x d g I
  .cases g⟩
def be.get{G:Gx}{ds:List D}(a:be G H xs ds){i:Nat}{d:D}(h:ds[i]?=W1 d):∃x,xs[i]?=W1 x/\hQ G H x d:=by
 have z:i<ds.length:=(fF.mp h).1;have Y:i<xs.length:=by rw[a.1];exact z
 exact⟨xs[i],by simp[Y],a.2 i _ d (by simp[Y]) h⟩
theorem be.atI{G:Gx}{H:Hp}{xs:List V}{ds:List D}(a:be G H xs ds){i:Int}{d:D}(h:L2.atI ds i=W1 d):∃x,L2.atI xs i=W1 x/\hQ G H x d:=by
 unfold L2.atI at h ⊢;rw[<-a.1] at h;cases e:ixN xs.length i with
 |none=>rw[e] at h;cases h
 |some j=>
  rw[e] at h;obtain⟨x,z,g⟩:=a.get (show ds[j]?=W1 d from h);exact⟨x,z,g⟩
def bm(A:List Addr)(H:Hp):Hp:=λb=>if b∈A then E2 else H b
def Ay(s:ab H H'):ab (bm A H) (bm A H'):=λb o h=>by
 unfold bm at h ⊢;split at h
 .cases h
 .rename_i d;rw[RF d];exact s b o h
def Ao:ab (bm A H) H:=λb o h=>by
 unfold bm at h;split at h
 .cases h
 .exact h
def CJ(h:∀a∈A,a∈B):ab (bm B H) (bm A H):=λb o q=>by
 unfold bm at q ⊢;split at q
 .cases q
 .rename_i d;rw[RF (λz=>d (h b z))];exact q
def Ax(h:p∉A):bm A H p=H p:=by unfold bm;rw[RF h]
theorem De{o:HO}(h:p∈A):bm A (fk H p o)=bm A H:=by
 funext b;unfold bm
 by_cases d:b∈A
 .rw[OF d,OF d]
 .rw[RF d,RF d,Ai (λe:b=p=>d (by rw[e];exact h))]
def MY(G:Gx)(A:List Addr)(H:Hp)(a:Addr):D->Prop
 |.lst ds=>∃xs,H a=W1 (.lst xs)/\be G (bm A H) xs ds
 |.dk d=>∃kvs,H a=W1 (.dK kvs)/\kvs.map (·.1)=d.map (·.1)/\be G (bm A H) (kvs.map (·.2)) (d.map (·.2))
 |.dt d=>∃kvs,H a=W1 (.dT kvs)/\kvs.map (·.1)=d.map (·.1)/\be G (bm A H) (kvs.map (·.2)) (d.map (·.2))
 |.ob c L=>∃C dx fs,H a=W1 (.ins C dx fs)/\(G.cl c=W1 C/\fs.map (·.1)=L.map (·.1))/\be G (bm A H) (fs.map (·.2)) (L.map (·.2))
 |_=>False
theorem MY.mono{G:Gx}{A:List Addr}{H I:Hp}{a:Addr}{d:D}(t:MY G A H a d)(s:ab H I):MY G A I a d:=by
 cases d with
 |lst z=>obtain⟨g,h,r⟩:=t;exact⟨g,s _ _ h,r.mono (Ay s)⟩
 |dk z=>obtain⟨g,h,k,r⟩:=t;exact⟨g,s _ _ h,k,r.mono (Ay s)⟩
 |dt z=>obtain⟨g,h,k,r⟩:=t;exact⟨g,s _ _ h,k,r.mono (Ay s)⟩
 |ob c L=>obtain⟨C,dx,g,h,k,r⟩:=t;exact⟨C,dx,g,s _ _ h,k,r.mono (Ay s)⟩
 |_=>exact t.elim
structure Nt (x:Option HO):Prop where
 ne:x≠E2
 tup:∀xs,x≠W1 (.tup xs)
def Nt.mono{x y:Option HO}(h:Nt x)(k:∀u,x=W1 u->y=W1 u):Nt y:=by
 cases x with
 |none=>exact SF rfl h.ne
 |some u=>rw[k u rfl];exact h
theorem Nt.lst{xs:List V}:Nt (W1 (.lst xs)):=⟨λz=>(nomatch z),λ_ z=>(nomatch z)⟩
theorem Nt.dK{xs:List (Key×V)}:Nt (W1 (.dK xs)):=⟨λz=>(nomatch z),λ_ z=>(nomatch z)⟩
theorem Nt.dT{xs:List (List Key×V)}:Nt (W1 (.dT xs)):=⟨λz=>(nomatch z),λ_ z=>(nomatch z)⟩
theorem Nt.ins{C dx:Addr}{xs:List (Str×V)}:Nt (W1 (.ins C dx xs)):=⟨λz=>(nomatch z),λ_ z=>(nomatch z)⟩
structure OQ (G:Gx) (A:List Addr) (σ:St) (H:Hp) (ρ:Rho):Prop where
 len:σ.length=ρ.length
 live:∀a∈A,Nt (H a)
 fz:∀(i:Nat) (d:D),ρ[i]?=W1 (.fz d)->∃v,σ[i]?=W1 (W1 v)/\hQ G (bm A H) v d
 ow:∀(i:Nat) (d:D),ρ[i]?=W1 (.ow d)->∃a,σ[i]?=W1 (W1 (.ref a))/\a∈A/\MY G A H a d
 inj:∀(i j:Nat) (d e:D) (a:Addr),ρ[i]?=W1 (.ow d)->ρ[j]?=W1 (.ow e)->σ[i]?=W1 (W1 (.ref a))->σ[j]?=W1 (W1 (.ref a))->i=j
theorem OQ.mono{G:Gx}{A:List Addr}{g:St}{H z:Hp}{ρ:Rho}(o:OQ G A g H ρ)(s:ab H z):OQ G A g z ρ:=
 ⟨o.len,λa I=>(o.live a I).mono λu e=>s _ _ e,
  λi d h=>let ⟨v,h1,h2⟩:=o.fz i d h;⟨v,h1,h2.mono (Ay s)⟩,λi d h=>let ⟨a,h1,h2,h3⟩:=o.ow i d h;⟨a,h1,h2,h3.mono s⟩,o.inj⟩
def nk(G:Gx)(A:List Addr)(H:Hp)(v:V)(d:D):Prop:=hQ G (bm A H) v d∨∃a,v=.ref a/\MY G A H a d
theorem nk.mono{G:Gx}{A:List Addr}{H g:Hp}{v:V}{d:D}(r:nk G A H v d)(s:ab H g):nk G A g v d:=by
 rcases r with r | ⟨a,e,r⟩
 .exact .inl (r.mono (Ay s))
 .exact .inr ⟨a,e,r.mono s⟩
theorem nk.lst{G:Gx}{A:List Addr}{H:Hp}{v:V}{ds:List D}(r:nk G A H v (.lst ds)):∃a xs,v=.ref a/\MR G.K H a xs/\be G (bm A H) xs ds:=by
 rcases r with r | ⟨a,e,xs,h,r⟩
 .cases r with
  |lst h l r=>exact⟨_,_,rfl,Ao.seq h,l,r⟩
 .exact⟨a,xs,e,.of h,r⟩
theorem nk.tup{G:Gx}{A:List Addr}{H:Hp}{v:V}{ds:List D}(r:nk G A H v (.tup ds)):∃a xs,v=.ref a/\Nn G.K H a xs/\be G (bm A H) xs ds:=by
 rcases r with r | ⟨a,e,r⟩
 .cases r with
  |tup h l r=>exact⟨_,_,rfl,DN Ao h,l,r⟩
 .exact r.elim
theorem nk.int{G:Gx}{i:Int}(r:nk G A H v (.int i)):v=.int i:=by
 rcases r with r | ⟨a,e,r⟩
 .cases r;rfl
 .exact r.elim
theorem nk.str{G:Gx}{i:Str}(r:nk G A H v (.str i)):v=.str i:=by
 rcases r with r | ⟨a,e,r⟩
 .cases r;rfl
 .exact r.elim
theorem nk.bl{G:Gx}{i:Bool}(r:nk G A H v (.bl i)):v=.bl i:=by
 rcases r with r | ⟨a,e,r⟩
 .cases r;rfl
 .exact r.elim
theorem nk.non{G:Gx}(r:nk G A H v .non):v=.non:=by
 rcases r with r | ⟨a,e,r⟩
 .cases r;rfl
 .exact r.elim
theorem nk.dk{G:Gx}{A:List Addr}{H:Hp}{v:V}{d:List (Key×D)}(r:nk G A H v (.dk d)):∃a kvs,v=.ref a/\Rd H a (.dK kvs)/\kvs.map (·.1)=d.map (·.1)/\be G (bm A H) (kvs.map (·.2)) (d.map (·.2)):=by
 rcases r with r | ⟨a,e,kvs,h,k,r⟩
 .cases r with
  |dk h k r=>
   refine⟨_,_,rfl,.inr ⟨_,Ao _ _ h⟩,k,?_,r⟩;have:=NG eS k;rw[aw,aw] at this ⊢;exact this
 .exact⟨a,kvs,e,.of h,k,r⟩
def SJ(live:∀a∈A,Nt (H a))(d:H p=E2)(o:HO):bm A (fk H p o) p=W1 o:=by
 rw[Ax (λz=>(live p z).ne d),Ag]
def Df{G:Gx}{ds:List D}(live:∀a∈A,Nt (H a))(d:H p=E2)(r:be G (bm A H) xs ds):hQ G (bm A (fk H p (.lst xs))) (.ref p) (.lst ds):=
 let q:=r.mono (Ay (Ak d (.lst xs)));.lst (.of (SJ live d _)) q.1 q.2
def Eo{G:Gx}{ds:List D}(live:∀a∈A,Nt (H a))(d:H p=E2)(r:be G (bm A H) xs ds):hQ G (bm A (fk H p (.tup xs))) (.ref p) (.tup ds):=
 let q:=r.mono (Ay (Ak d (.tup xs)));.tup (.of (SJ live d _)) q.1 q.2
def tF(G:Gx)(A:List Addr)(f:FE):TE:=λz H Q=>∃ρ d,OQ G A z H ρ/\f ρ=W1 d/\∀v g,ab H g->hQ G (bm A g) v d->Q v g
def tT(G:Gx)(A:List Addr)(f:FE):TE:=λz H Q=>∃ρ d,OQ G A z H ρ/\f ρ=W1 d/\∀v g,ab H g->nk G A g v d->Q v g
def PF(X:Cx)(G:Gx)(e:Expr)(f:FE):Prop:=∀⦃A⦄,PE X e (tF G A f)
def PU(X:Cx)(G:Gx)(e:Expr)(f:FE):Prop:=∀⦃A⦄,PE X e (tT G A f)
def Bp{t t':TE}(h:PE X e t)(w:∀σ H Q,t' σ H Q->t σ H Q):PE X e t':=λd s σ H Q I q=>h d s σ H Q I (w σ H Q q)
def PF.pu{G:Gx}{f:FE}(h:PF X G e f):PU X G e f:=λA=>Bp (@h A) (by rintro I H Q ⟨g,d,o,e,k⟩;exact ⟨g,d,o,e,λv z s r=>k v z s (.inl r)⟩)
def tFA(G:Gx)(A:List Addr)(f:FA):TA:=λg H Q=>∃ρ ds,OQ G A g H ρ/\f ρ=W1 ds/\∀vs d,ab H d->be G (bm A d) vs ds->Q vs d
def TR(X:Cx)(G:Gx)(es:List Expr)(f:FA):Prop:=∀⦃A⦄,PA X es (tFA G A f)
def rA{e:List Expr}{t t':TA}(h:PA X e t)(w:∀σ H Q,t' σ H Q->t σ H Q):PA X e t':=λd g s σ H Q I q=>h d g s σ H Q I (w σ H Q q)
def tFT(G:Gx)(A:List Addr)(f:FT):TT:=λg H Q=>∃ρ b,OQ G A g H ρ/\f ρ=W1 b/\∀d,ab H d->Q b d
def SU(X:Cx)(G:Gx)(e:Expr)(f:FT):Prop:=∀⦃A⦄,PT X e (tFT G A f)
def VY(X:Cx)(G:Gx)(e:Expr)(f:FT):Prop:=∀⦃A⦄,PW X e (tFT G A f)
def dJ{t t':TT}(h:PT X e t)(w:∀σ H Q,t' σ H Q->t σ H Q):PT X e t':=λd s σ H Q I q=>h d s σ H Q I (w σ H Q q)
def dM{t t':TT}(h:PW X e t)(w:∀σ H Q,t' σ H Q->t σ H Q):PW X e t':=λg d s σ H Q I q=>h g d s σ H Q I (w σ H Q q)
section
variable {G:Gx}{a b c:Expr}{fa fb:FE}
def uw(i:Nat){x:Str}(h:PE X (.Name x pos) (OH i)):PF X G (.Name x pos) (vF i):=λA=>Bp h<|by
 rintro I H Q ⟨L,d,o,e,k⟩
 unfold vF at e;split at e
 .rename_i O J;cases e;obtain⟨v,z,g⟩:=o.fz i _ J;exact⟨v,z,k v H (ab.refl H) g⟩
 .cases e
def ux(i:Nat){x:Str}(h:PE X (.Name x pos) (OH i)):PU X G (.Name x pos) (vU i):=λA=>Bp h<|by
 rintro L H Q ⟨O,d,o,e,k⟩
 unfold vU at e;split at e
 .rename_i I J;cases e;obtain⟨v,z,g⟩:=o.fz i _ J;exact⟨v,z,k v H (ab.refl H) (.inl g)⟩
 .rename_i I J;cases e;obtain⟨p,z,_,g⟩:=o.ow i _ J;exact⟨.ref p,z,k _ H (ab.refl H) (.inr ⟨p,rfl,g⟩)⟩
 .cases e
def JZ{d:D}(h:PE X a (tC v))(r:hQ G (λ_=>E2) v d):PF X G a (kF d):=λA=>Bp h<|by
 rintro g H Q ⟨I,J,o,e,k⟩
 cases e;exact k v H (ab.refl H) (r.mono λb o z=>nomatch z)
def Qs{i j}:PF X G (.Constant (.int i) j pos) (kF (.int i)):=JZ uR (.int i)
def Jz{b j}:PF X G (.Constant (.bool b) j pos) (kF (.bl b)):=JZ xg (.bl b)
def Tt{x j}:PF X G (.Constant (.str x) j pos) (kF (.str x)):=JZ uT (.str x)
def Dw(G:Gx)(r:R2)(g:D->D->Option D):Prop:=∀(A:List Addr) (H:Hp) (x y:V) (dx I d:D) (Q:VK),(∀a∈A,Nt (H a))->nk G A H x dx->nk G A H y I->g dx I=W1 d->(∀v z,ab H z->hQ G (bm A z) v d->Q v z)->r x y H Q
def Tv{g:D->D->Option D}{ρ:Rho}{d:D}(h:bF g fa fb ρ=W1 d):∃x y,fa ρ=W1 x/\fb ρ=W1 y/\g x y=W1 d:=by
 unfold bF at h;cases I:fa ρ with
 |none=>rw[I] at h;cases h
 |some x=>
  rw[I] at h;cases z:fb ρ with
  |none=>simp[z] at h
  |some y=>simp[z] at h;exact⟨x,y,rfl,rfl,h⟩
def Qt{r:R2}{g:D->D->Option D}(s:Dw G r g){A:List Addr}{I:St}{H:Hp}{Q:VK}(h:tF G A (bF g fa fb) I H Q):tOp r (tT G A fa) (tT G A fb) I H Q:=by
 obtain⟨J,d,o,e,k⟩:=h;obtain⟨x,y,Z,Y,W⟩:=Tv e;exact⟨J,x,o,Z,λv H1 z T=>⟨J,y,o.mono z,Y,λu H2 S O=>s A H2 v u x y d Q ((o.mono z).mono S).live (T.mono S) O W λw H3 U L=>k w H3 (z.trans (S.trans U)) L⟩⟩
def Li{op:Operator}{r:R2}{g:D->D->Option D}(d:NH X (kg op) r)(s:Dw G r g)(ha:PU X G a fa)(hb:PU X G b fb):PF X G (.BinOp a op b pos) (bF g fa fb):=
 λA=>Bp (x_ d (@ha A) (@hb A)) λ_ _ _ h=>Qt s h
def XJ{op:pd}{r:R2}{g:D->D->Option D}(d:NH X (dA op) r)(s:Dw G r g)(ha:PU X G a fa)(hb:PU X G b fb)(z:hZ op b=ZA):PF X G (.Compare a [op] [b] pos) (bF g fa fb):=
 λA=>Bp (Te d (@ha A) (@hb A) z) λ_ _ _ h=>Qt s h
def dN{f:FE}{ρ:Rho}{b:Bool}(h:MW f ρ=W1 b):f ρ=W1 (.bl b):=by
 unfold MW at h;split at h
 .rename_i e;cases h;exact e
 .cases h
def HB{op:pd}{r:R2}{g:D->D->Option D}(J:NH X (dA op) r)(s:Dw G r g)(ha:PU X G a fa)(hb:PU X G b fb)(O:hZ op b=ZA):SU X G (.Compare a [op] [b] pos) (MW (bF g fa fb)):=
 λA=>dJ (YH J (@ha A) (@hb A) O) λT H Q ⟨z,d,o,e,k⟩=>Qt s ⟨z,.bl d,o,dN e,λv S I L=>by cases L;exact⟨d,rfl,k S I⟩⟩
def Mq{g:Int->Int->Option D}{x y d:D}(h:ZY g x y=W1 d):∃i j,x=.int i/\y=.int j/\g i j=W1 d:=by
 unfold ZY at h;split at h
 .exact⟨_,_,rfl,rfl,h⟩
 .cases h
def Tw{g:Int->Int->V}{g':Int->Int->D}(e:∀i j H,hQ G H (g i j) (g' i j)):Dw G (rI0 g) (ZY λi j=>W1 (g' i j)):=by
 intro A H x y dx J d Q I rx z h k;obtain⟨i,j,rfl,rfl,h⟩:=Mq h;cases h;exact⟨i,j,rx.int,z.int,k _ H (ab.refl H) (e i j _)⟩
def Tz{C:Int->Int->Prop}{g:Int->Int->V}{g':Int->Int->D}[∀i j,Decidable (C i j)](e:∀i j H,hQ G H (g i j) (g' i j)):Dw G (rI C g) (ZY λi j=>if C i j then W1 (g' i j) else E2):=by
 intro A H x y dx O d Q L rx z h k;obtain⟨i,j,rfl,rfl,J⟩:=Mq h
 by_cases I:C i j
 .rw[OF I] at J;cases J;exact⟨i,j,rx.int,z.int,I,k _ H (ab.refl H) (e i j _)⟩
 .rw[RF I] at J;cases J
def m7:Dw G (rI0 λi j=>.int (i-j)) subD:=Tw λi j H=>.int _
theorem Mp.ok{i j:Int}(h:Mp i j):IntMulOk i j:=by
 rcases h with h | h
 .exact h.ok
 .exact IntMulOk.of_le h.1 h.2 (by decide)
def m_:NH X (kg .Mult) (rI Mp λi j=>.int (i*j)):=opI λ_ _ _ _ _ _ _ I q=>mul_int q I.ok
def nA:NH X (kg .LShift) (rI CShl λi j=>.int (i*2^j.toNat)):=opI λi j _ _ _ _ _ I q=>lshift_int I.1 (by have g:=I.2.1;have d:=I.2.2;omega) q
def nC:Dw G (rI Mp λi j=>.int (i*j)) Pc:=Tz λi j H=>.int _
def dO:Dw G (rI CDiv λi j=>.int (i/j)) Ex:=Tz λi j H=>.int _
theorem nD:Dw G (rI (λ_ j=>0<j) λi j=>.int (i%j)) tx:=Tz (C:=λ_ j=>0<j) λi j H=>.int _
def nF:Dw G (rI CShl λi j=>.int (i*2^j.toNat)) shlD:=Tz λi j H=>.int _
def dR:Dw G (rI0 λi j=>.bl (decide (i<j))) ltD:=Tw λi j H=>.bl _
def uy:Dw G (rI0 λi j=>.bl (decide (j<i))) gtD:=Tw λi j H=>.bl _
def uz:Dw G (rI0 λi j=>.bl (decide (j<=i))) geD:=Tw λi j H=>.bl _
def rB(K:aI):R2:=λx y H Q=>∃l b xs d,x=.ref l/\y=.ref b/\MR K H l xs/\MR K H b d/\xs.length+d.length<=sizeLine/\∀p,H p=E2->Q (.ref p) (fk H p (.lst (xs++d)))
theorem nG:NH X (kg .Add) (rB X.K):=by
 intro π s σ H x y v u Q I rx ry h;obtain⟨l,b,xs,zs,rfl,rfl,hl,hb,hz,q⟩:=h;cases rx;cases ry;obtain⟨g,r,pl,z⟩:=I.list hl;obtain⟨d,Y,T,z2⟩:=I.list hb;have e1:=r.length;have e2:=Y.length;obtain⟨⟨cls,dd,N0,sl⟩,Z,hc,n,hd⟩:=pl.isList;obtain⟨⟨O0,U,W,S⟩,J,O,n2,L⟩:=T.isList;simp only at hc hd O L;subst hc hd O L;refine A3 ⟨_,Z,rfl⟩ ⟨_,J,rfl⟩ noFill_list_add seq_list_add PySem.F.slot_list_add PySem.F.entry_list_add (PySem.F.args_list_add_2 _ _) (list_addW l b g.toArray d.toArray n n2 dd U sl S (by rw[cw,cw];omega)) ⟨Z,J,?_⟩;have ea:g.toArray++d.toArray=(g++d).toArray:=by simp
 rw[ea];exact⟨.ref _,_,I.lnew (t':=s.toks) (r.append Y) (by rw[ff];omega),rfl,q _ I.fresh⟩
def rAdd(K:aI):R2:=λx y H Q=>(rI0 λi j=>.int (i+j)) x y H Q∨((λx y H Q=>∃i j,x=.str i/\y=.str j/\i.length+j.length<=sizeLine/\Q (.str (i++j)) H) x y H Q∨rB K x y H Q)
def nH:NH X (kg .Add) (rAdd X.K):=uc.or (W2.or nG)
def nJ:Dw G (rAdd G.K) rc:=by
 intro A H x y dx Y d Q T rx z h k;unfold rc at h;split at h
 .cases h;exact .inl ⟨_,_,rx.int,z.int,k _ H (ab.refl H) (.int _)⟩
 .split at h
  .rename_i O;cases h;exact .inr (.inl ⟨_,_,rx.str,z.str,O,k _ H (ab.refl H) (.str _)⟩)
  .cases h
 .split at h
  .rename_i O;cases h;obtain⟨l,S,rfl,W,g⟩:=rx.lst;obtain⟨m,J,rfl,U,L⟩:=z.lst;exact .inr (.inr ⟨l,m,S,J,rfl,rfl,W,U,by rw[g.1,L.1];exact O,λp I=>k _ _ (Ak I _) (Df T I (g.append L))⟩)
  .cases h
 .cases h
def XM{op:BoolOp}(h:PF X G a fa):PF X G (.BoolOp op [a] pos) fa:=λA=>uW (@h A)
def dU{gq:List Expr}(ha:PF X G a fa)(hb:PF X G (.BoolOp .And (b::gq) pos) fb):PF X G (.BoolOp .And (a::b::gq) pos) (andF fa fb):=λA=>Bp (uX (@ha A) (@hb A))<|by
 rintro U H Q ⟨g,d,o,e,k⟩
 unfold andF at e;split at e
 .rename_i J;refine⟨g,_,o,J,λv L z I=>?_⟩;cases I;refine⟨E3,rfl,?_⟩;rw[OF rfl];exact⟨g,d,o.mono z,e,λv T S O=>k v T (z.trans S) O⟩
 .rename_i J;refine⟨g,_,o,J,λv L z I=>?_⟩;cases I;refine⟨ZA,rfl,?_⟩;rw[RF df];cases e;exact k _ L z (.bl ZA)
 .cases e
def yN{gq:List Expr}(ha:PF X G a fa)(hb:PF X G (.BoolOp .Or (b::gq) pos) fb):PF X G (.BoolOp .Or (a::b::gq) pos) (orF fa fb):=λA=>Bp (xm (@ha A) (@hb A))<|by
 rintro U H Q ⟨g,d,o,e,k⟩
 unfold orF at e;split at e
 .rename_i J;refine⟨g,_,o,J,λv L z I=>?_⟩;cases I;refine⟨E3,rfl,?_⟩;rw[OF rfl];cases e;exact k _ L z (.bl E3)
 .rename_i J;refine⟨g,_,o,J,λv L z I=>?_⟩;cases I;refine⟨ZA,rfl,?_⟩;rw[RF df];exact⟨g,d,o.mono z,e,λv T S O=>k v T (z.trans S) O⟩
 .cases e
variable {ga gb:FT}
theorem VY.pt(h:VY X G a ga):SU X G a ga:=λA=>(@h A).pt
def Qu(h:SU X G a ga):VY X G (.BoolOp .And [a] pos) ga:=λA=>mG (@h A)
def Ep(h:SU X G a ga):VY X G (.BoolOp .Or [a] pos) ga:=λA=>cF (@h A)
def YX{gq:List Expr}(ha:SU X G a ga)(hb:VY X G (.BoolOp .And (b::gq) pos) gb):VY X G (.BoolOp .And (a::b::gq) pos) (andT ga gb):=λA=>dM (uU (@ha A) (@hb A))<|by
 rintro O H Q ⟨g,d,o,e,k⟩
 unfold andT at e;split at e
 .rename_i I;exact⟨g,_,o,I,λJ z=>iteT ⟨g,d,o.mono z,e,λL S=>k L (z.trans S)⟩⟩
 .rename_i I;cases e;exact⟨g,_,o,I,λJ z=>YI (k J z)⟩
 .cases e
def HD{gq:List Expr}(ha:SU X G a ga)(hb:VY X G (.BoolOp .Or (b::gq) pos) gb):VY X G (.BoolOp .Or (a::b::gq) pos) (Ya ga gb):=λA=>dM (qu (@ha A) (@hb A))<|by
 rintro O H Q ⟨g,d,o,e,k⟩
 unfold Ya at e;split at e
 .rename_i I;cases e;exact⟨g,_,o,I,λJ z=>iteT (k J z)⟩
 .rename_i I;exact⟨g,_,o,I,λJ z=>YI ⟨g,d,o.mono z,e,λL S=>k L (z.trans S)⟩⟩
 .cases e
def Hs(ha:SU X G a ga):SU X G (.UnaryOp .Not a pos) (OZ ga):=λA=>dJ (uV (@ha A))<|by
 rintro L H Q ⟨z,d,o,e,k⟩
 unfold OZ at e;cases g:ga z with
 |none=>rw[g] at e;cases e
 |some b=>rw[g] at e;cases e;exact⟨z,b,o,g,λJ I=>k J I⟩
def Pg{g d:Type}{xs:List g}{ys:List d}(h:xs.length=ys.length):xs.isEmpty=ys.isEmpty:=by
 cases xs<;>cases ys<;>simp at h ⊢
def Dq(ha:PU X G a fa)(W:G.K=X.K)(U:∀whole,oS a X.env whole=(do let v <-whole;pj a.pos;li [v] (truthy v)):=by intro _;rfl):SU X G a (λρ=>(fa ρ).bind truD):=λA=>dJ (cM (@ha A) U)<|by
 rintro σ H Q ⟨ρ,b,o,e,k⟩
 cases L:fa ρ with
 |none=>simp[L] at e
 |some d=>
  have O:truD d=W1 b:=by simpa [L] using e
  refine⟨ρ,d,o,L,λv Z S g=>⟨b,?_,k Z S⟩⟩;rw[<-W];cases d with
  |non=>rw[g.non];exact (eJ O).symm
  |bl b'=>rw[g.bl];exact (eJ O).symm
  |int i=>rw[g.int];exact (eJ O).symm
  |str y=>
   rw[g.str];simp only[truD] at O;split at O
   .rename_i T;exact⟨T,(eJ O).symm⟩
   .cases O
  |lst Y=>
   obtain⟨p,z,rfl,J,I⟩:=g.lst;refine .inl ⟨z,J,?_⟩;rw[Pg I.1];exact (eJ O).symm
  |tup Y=>
   obtain⟨p,z,rfl,J,I⟩:=g.tup;refine .inr (.inl ⟨z,J,?_⟩);rw[Pg I.1];exact (eJ O).symm
  |_=>cases O
variable {es:List Expr}{fs:FA}
def Ac:TR X G [] af:=λA=>rA Cp<|by rintro g H Q ⟨d,z,o,e,k⟩;cases e;exact k [] H (ab.refl H) be.nil
def Ah(ha:PF X G a fa)(hr:TR X G es fs)(hs:ay (a::es) X.env=(ZA,eval a X.env)::ay es X.env:=by rfl):TR X G (a::es) (Aa fa fs):=λA=>rA (BW (@ha A) (@hr A) hs)<|by
 rintro W H Q ⟨g,Z,o,e,k⟩
 unfold Aa at e;cases z:fa g with
 |none=>simp[z] at e
 |some d=>
  cases I:fs g with
  |none=>simp[z,I] at e
  |some J=>
   simp[z,I] at e;subst e;exact⟨g,d,o,z,λv H1 L T=>⟨g,J,o.mono L,I,λY U S O=>k _ U (L.trans S) (.cons (T.mono (Ay S)) O)⟩⟩
def Ob{x1}(h:TR X G es fs):PF X G (.Tuple es x1 pos) (UI fs):=λA=>Bp (W8 (@h A))<|by
 rintro U H Q ⟨I,d,o,e,k⟩
 unfold UI at e;cases g:fs I with
 |none=>simp[g] at e
 |some z=>
  rw[g] at e;have O:(if z.length<=sizeLine then W1 (D.tup z) else E2)=W1 d:=e;split at O
  .rename_i T;cases O;exact⟨I,z,o,g,λW Y J L=>⟨by rw[L.1];exact T,λp S=>k _ _ (J.trans (Ak S _)) (Eo (o.mono J).live S L)⟩⟩
  .cases O
def HF(h:TR X G es fs):PF X G (.List es pos) (ML fs):=λA=>Bp (cU (@h A))<|by
 rintro U H Q ⟨I,d,o,e,k⟩
 unfold ML at e;cases g:fs I with
 |none=>simp[g] at e
 |some z=>
  rw[g] at e;have O:(if z.length<=sizeLine then W1 (D.lst z) else E2)=W1 d:=e;split at O
  .rename_i T;cases O;exact⟨I,z,o,g,λW Y J L=>⟨by rw[L.1];exact T,λp S=>k _ _ (J.trans (Ak S _)) (Df (o.mono J).live S L)⟩⟩
  .cases O
def dW:Dw G (rIx G.K) ixD:=by
 intro A H x y dx W d Q U rx I h k;unfold ixD at h;split at h
 .obtain⟨p,g,rfl,S,J⟩:=rx.lst;obtain⟨v,O,L⟩:=J.atI h;exact .inl ⟨p,g,_,v,rfl,I.int,S,O,k v H (ab.refl H) L⟩
 .obtain⟨p,g,rfl,S,J⟩:=rx.tup;obtain⟨v,O,L⟩:=J.atI h;exact .inr (.inl ⟨p,g,_,v,rfl,I.int,S,O,k v H (ab.refl H) L⟩)
 .split at h
  .rename_i z i T;cases e:atI z.cps.toList i with
   |none=>rw[e] at h;cases h
   |some c=>
    rw[e] at h;cases h;exact .inr (.inr ⟨z,i,c,rx.str,I.int,T,e,k _ H (ab.refl H) (.str _)⟩)
  .cases h
 .cases h
theorem yO(W:G.K=X.K)(ha:PU X G a fa)(hb:PU X G b fb)(hs:Mh b):PF X G (.Subscript a b pos) (bF ixD fa fb):=
 λA=>Bp (qy (r:=rIx X.K) cg (@ha A) (@hb A) hs) λ_ _ _ h=>Qt (by rw[<-W];exact dW) h
def tFO(G:Gx)(A:List Addr)(f:FO):TO:=λg H Q=>∃ρ o,OQ G A g H ρ/\f ρ=W1 o/\∀d,ab H d->Q o d
def PFO(X:Cx)(G:Gx)(e:Option Expr)(f:FO):Prop:=∀⦃A⦄,PO X e (tFO G A f)
def rC{e:Option Expr}{t t':TO}(h:PO X e t)(w:∀σ H Q,t' σ H Q->t σ H Q):PO X e t':=λd s σ H Q I q=>h d s σ H Q I (w σ H Q q)
def dX:PFO X G E2 noO:=λA=>rC mW<|by rintro g H Q ⟨d,o,ok,e,k⟩;cases e;exact k H (ab.refl H)
def Qv(h:PU X G a fa):PFO X G (W1 a) (Rl fa):=λA=>rC (mX (@h A))<|by
 rintro L H Q ⟨g,o,ok,e,k⟩
 unfold Rl at e;split at e
 .rename_i i I;cases e;exact⟨g,_,ok,I,λv J z d=>⟨i,d.int,k J z⟩⟩
 .cases e
def be.cut{ds:List D}(r:be G H xs ds)(d z:Option Int):be G H (Xt xs d z) (OM ds d z):=by
 unfold Xt OM;rw[r.1];exact (r.drop _).take _
end
end PV
def L2.Room.unitsW{k:Nat}{A:PySem.Around}(r:L2.Room k A):A.units+190<PySem.cLine:=by have:=r.un;omega
namespace PV
open PySem PySem.Spec L2
open PyProof.Rows hiding St
section
variable {G:Gx}{a b c:Expr}{fa fb:FE}
section
open Builtin.Str
def Vc(n:Nat)(v:Option Int)(d:Nat)(z:d<=n):(match v with | none=>(d:Int) | some i=>max 0 (min (if i<0 then i+(n:Int) else i) (n:Int)))=(HT.sIx n d v:Int):=by
 cases v with
 |none=>rfl
 |some i=>
  simp only[HT.sIx];split<;>omega
def nM(n d:Nat)(v:Option Int)(z:d<=n):HT.sIx n d v<=n:=by
 cases v with
 |none=>exact z
 |some i=>simp only[HT.sIx];split<;>omega
theorem XN(d z:Option Int)(n:Nat):strSliceIndices d z 1 n=(bb (HT.sIx n n z-HT.sIx n 0 d)).map (λk=>HT.sIx n 0 d+k):=by
 have L:=Vc n d 0 (eA _);have J:=Vc n z n (aE _);have g:((1:Int) > 0):=by decide
 have e:strSliceIndices d z 1 n=DM (HT.sIx n 0 d:Int) (HT.sIx n n z:Int) 1:=by
  unfold strSliceIndices;simp only[g,WG];exact congrFun (congr (NG DM L) J) 1
 rw[e];unfold DM;simp only[g,WG];generalize HT.sIx n 0 d=a;generalize HT.sIx n n z=b;have I:(if (a:Int)<(b:Int) then ((b:Int)-a+1-1)/1 else 0).toNat=b-a:=by
  split
  .rw[GN];omega
  .omega
 rw[I];apply jv;intro k _;omega
theorem ao(x:Str)(d hi:Option Int):AB x d hi=cutS x d hi:=by
 have T:=nM x.length x.length hi (aE _);have J:x.cps.toList.length=x.length:=by simp[o0]
 unfold AB cutS OM;rw[XN,J];generalize HT.sIx x.length 0 d=a at *;generalize HT.sIx x.length x.length hi=b at *;rw[aw,mN];split
 .rename_i h;simp only[fh,SG] at h;have L:b-a=x.length:=h.2
  by_cases U:x.length=0
  .have:x.cps.toList=[]:=qf.mp (by omega);cases x with
   |mk c=>
    simp at this;subst this;simp
  .have O:a=0:=by omega
   subst O;have:b=x.length:=by omega
   subst this;rw[IA,Nat.sub_zero,xo (by omega)]
 .congr 1;apply NG;apply DO;intro i;rw[GT];have g:∀m,m<=b-a->(List.filterMap ((λk=>x.cps[k]?) ∘ λk=>a+k) (bb m))=((x.cps.toList.drop a).take m):=by
   intro m
   induction m with
   |zero=>intro _;simp
   |succ m I=>
    intro S;rw[t5,List.filterMap_append,I (by omega)];have z:a+m<x.cps.size:=by have:x.length=x.cps.size:=rfl;omega
    rw[List.take_succ_eq_append_getElem (by simp;omega)];simp[z]
  rw[g _ (aE _)]
end
def rSlS:V->Option Int->Option Int->Hp->VK->Prop:=λx d g H Q=>∃z,x=.str z/\z.length<=sizeLine/\Q (.str (AB z d g)) H
theorem u0:SlR X rSlS:=by
 intro Z s W H x v vl vu T U sl Q I rx hs pl pu h;obtain⟨z,rfl,hz,q⟩:=h;obtain⟨t,rfl⟩:=rx;obtain⟨o,J,g,d⟩:=hs;have ot:∀O k,EP X Z W Q (.str (AB z T U) O) { s with toks:=k }:=λO k=>⟨.str _,H,I.tok _,⟨O,rfl⟩,q⟩;have Y:=cy (Txt.slice_le z T U) hz;refine⟨"str",_,PySem.F.slot_str_getitem.lookup,DC _ _ _,?_⟩;cases pl with
 |none=>
  cases pu with
  |none=>exact AC (l:=E2) (u:=E2) (st:=E2) ⟨o,J,g,d⟩ rfl (AD ⟨Y,ot⟩)
  |int j L=>exact AC (l:=E2) (u:=W1 (j,L)) (st:=E2) ⟨o,J,g,d⟩ rfl (AD ⟨Y,ot⟩)
 |int i S=>
  cases pu with
  |none=>exact AC (l:=W1 (i,S)) (u:=E2) (st:=E2) ⟨o,J,g,d⟩ rfl (AD ⟨Y,ot⟩)
  |int j L=>exact AC (l:=W1 (i,S)) (u:=W1 (j,L)) (st:=E2) ⟨o,J,g,d⟩ rfl (AD ⟨Y,ot⟩)
def rSl(K:aI):V->Option Int->Option Int->Hp->VK->Prop:=λx d z H Q=>rSlL K x d z H Q∨(rSlT K x d z H Q∨rSlS x d z H Q)
def u9:SlR X (rSl X.K):=mq.or (ul.or u0)
def Vd{lo hi:Option Expr}{gl gh:FO}(hG:G.K=X.K)(ha:PU X G a fa)(hl:PFO X G lo gl)(hh:PFO X G hi gh):PF X G (.Subscript a (.Slice lo hi E2 p2) pos) (slF fa gl gh):=λA=>Bp (cZ (u9 (X:=X)) (@ha A) (@hl A) (@hh A))<|by
 rintro σ H Q ⟨g,d,o,e,k⟩
 unfold slF at e;cases z:fa g with
 |none=>simp[z] at e
 |some x=>
  cases J:gl g with
  |none=>simp[z,J] at e
  |some l=>
   cases e3:gh g with
   |none=>simp[z,J,e3] at e
   |some h=>
    have O:slD x l h=W1 d:=by simpa [z,J,e3] using e
    refine⟨g,x,o,z,λv H1 I r1=>⟨g,l,o.mono I,J,λH2 S=>⟨g,h,(o.mono I).mono S,e3,λH3 U=>?_⟩⟩⟩;have Y:=(r1.mono S).mono U;have o3:=((o.mono I).mono S).mono U;have W:=I.trans (S.trans U);unfold slD at O;split at O
    .cases O;obtain⟨p,L,rfl,Z,r⟩:=Y.lst;exact .inl ⟨p,L,rfl,by rw[<-hG];exact Z,λq T=>k _ _ (W.trans (Ak T _)) (Df o3.live T (r.cut _ _))⟩
    .split at O
     .cases O
     .rename_i hw;cases O;obtain⟨p,L,rfl,Z,r⟩:=Y.tup;exact .inr (.inl ⟨p,L,rfl,by rw[<-hG];exact Z,by rw[r.1];exact hw,λq T=>k _ _ (W.trans (Ak T _)) (Eo o3.live T (r.cut _ _))⟩)
    .split at O
     .rename_i hz;cases O;refine .inr (.inr ⟨_,Y.str,hz,?_⟩);rw[ao];exact k _ _ W (.str _)
     .cases O
    .cases O
def T3{u:V}{d:D}(r:nk G A H v d)(h:SR d=W1 u):v=u/\Jm v=E3:=by
 cases d with
 |non=>cases h;rw[r.non];exact⟨rfl,rfl⟩
 |bl b=>cases h;rw[r.bl];exact⟨rfl,rfl⟩
 |int b=>cases h;rw[r.int];exact⟨rfl,rfl⟩
 |str b=>cases h;rw[r.str];exact⟨rfl,rfl⟩
 |_=>cases h
theorem Ve{H:Hp}:∀{ds:List D}{xs us:List V},be G H xs ds->On ds=W1 us->xs=us/\xs.all Jm=E3
 |[],xs,us,r,h=>by cases h;rw[r.nil_inv];exact⟨rfl,rfl⟩
 |d::ds,xs,us,r,h=>by
  obtain⟨x,T,rfl,S,O⟩:=r.uncons;unfold On at h;cases g:SR d with
  |none=>simp[g] at h
  |some v=>
   cases I:On ds with
   |none=>simp[g,I] at h
   |some U=>
    simp[g,I] at h;subst h;have q:hQ G (bm [] H) x d:=S.mono λb o z=>z;obtain⟨Z,Y⟩:=T3 (A:=[]) (.inl q) g;obtain⟨L,J⟩:=Ve O I;subst Z;subst L;exact⟨rfl,by rw[xa,Y,J];rfl⟩
def rInA(K:aI)(d:Bool):R2:=λx y H Q=>rIn K d x y H Q∨∃i j,x=.str i/\y=.str j/\Q (.bl (if d then !(!(pc j i 0 j.length 1).isEmpty) else !(pc j i 0 j.length 1).isEmpty)) H
def dY:NH X (dA .In) (rInA X.K ZA):=aX.or aP
def aq:NH X (dA .NotIn) (rInA X.K E3):=Tn.or Td
def u_(g:Bool):Dw G (rInA G.K g) (inD g):=by
 intro A H x y dx dy d Q lv rx O h k;have seq:∀{J:List D}{p:Addr}{z:List V},y=.ref p->(MR G.K H p z∨Nn G.K H p z)->be G (bm A H) z J->((SR dx).bind λv=>(On J).map λL=>D.bl (if g then !VX v L else VX v L))=W1 d->rIn G.K g x y H Q:=λ{J p z} ey hq r h=>by
  cases I:SR dx with
  |none=>simp[I] at h
  |some v=>
   cases T:On J with
   |none=>simp[I,T] at h
   |some L=>
    rw[I,T] at h;cases h;obtain⟨Z,Y⟩:=T3 rx I;obtain⟨W,U⟩:=Ve r T;subst Z;subst W;exact⟨p,z,ey,hq,Y,U,k _ H (ab.refl H) (.bl _)⟩
 unfold inD at h;split at h
 .cases h;exact .inr ⟨_,_,rx.str,O.str,k _ H (ab.refl H) (.bl _)⟩
 .obtain⟨p,z,e,S,r⟩:=O.lst;exact .inl (seq e (.inl S) r h)
 .obtain⟨p,z,e,S,r⟩:=O.tup;exact .inl (seq e (.inr S) r h)
 .cases h
def eAt(f:D->D->Option Bool)(xs ys:List D)(j:Nat):Bool:=match xs[j]?,ys[j]? with | some x,W1 y=>(f x y).getD ZA | _,_=>ZA
theorem Oc{f:D->D->Option Bool}:∀{xs ys:List D}{b:Bool},OU f xs ys=W1 b->xs.length=ys.length/\(∀(j:Nat) x y,xs[j]?=W1 x->ys[j]?=W1 y->f x y=W1 (eAt f xs ys j))/\b=(bb xs.length).all (eAt f xs ys)
 |[],[],b,h=>by cases h;exact⟨rfl,λj x y h=>by simp at h,rfl⟩
 |[],_::_,b,h=>by cases h
 |_::_,[],b,h=>by cases h
 |x::xs,y::ys,b,h=>by
  unfold OU at h;split at h
  .rename_i a c d O;cases h;obtain⟨L,J,I⟩:=Oc O;refine⟨by simp[L],λj u v S g=>?_,?_⟩
   .cases j with
    |zero=>simp at S g;subst S;subst g;rw[d];simp[eAt,d]
    |succ j=>
     have:=J j u v (by simpa using S) (by simpa using g);rw[this];simp[eAt]
   .rw[db,IB,xa,xp];have z:eAt f (x::xs) (y::ys) 0=a:=by simp[eAt,d]
    rw[z,I];rfl
  .cases h
def dZ{u:V}(h:Jm u=E3):UY u u=E3:=by
 cases u<;>simp[UY]<;>cases h
theorem QH{d:D}{u:V}(r:hQ G H v d)(h:SR d=W1 u):v=u/\Jm v=E3:=T3 (A:=[]) (.inl (r.mono λb o z=>by rw[Ax IC];exact z)) h
section
def Vf(I:Inv X π σ H s)(W:G.K=X.K):∀(n:Nat) {x y:D}{v:V}{b:Bool},RH n x y=W1 b->hQ G H v x->hQ G H v y->b=E3:=by
 have g:∀{x y:D}{v:V}{b:Bool},flD x y=W1 b->hQ G H v x->hQ G H v y->b=E3:=λ{x y v b} h rx z=>by
  unfold flD at h;cases e1:SR x with
  |none=>simp[e1] at h
  |some u=>
   cases e2:SR y with
   |none=>simp[e1,e2] at h
   |some w=>
    simp[e1,e2] at h;obtain⟨z1,z2⟩:=QH rx e1;obtain⟨z3,_⟩:=QH z e2;rw[<-h,<-z1,<-z3];exact dZ z2
 intro n
 induction n with
 |zero=>intro x y v b h rx z;exact g h rx z
 |succ n ih=>
  have items:∀{U:List V}{T es:List D}{b:Bool},OU (RH n) T es=W1 b->be G H U T->be G H U es->b=E3:=λ{U T es b} h d O=>by
   obtain⟨S,L,h3⟩:=Oc h;rw[h3,dL];intro j hj;have J:j<T.length:=da.mp hj;have hx:U[j]?=W1 (U[j]'(by rw[d.1];exact J)):=by simp[d.1,J]
   have hd:T[j]?=W1 T[j]:=by simp[J]
   have he:es[j]?=W1 (es[j]'(by omega)):=cr (by omega);exact ih (L j _ _ hd he) (d.2 j _ _ hx hd) (O.2 j _ _ hx he)
  intro x y v b h rx z;unfold RH eqS at h;split at h
  .split at h
   .cases rx with
    |lst S Z d=>
     cases z with
     |lst L Y O=>
      have e:=I.list_inj (by rw[<-W];exact S) (by rw[<-W];exact L);subst e;exact items h ⟨Z,d⟩ ⟨Y,O⟩
   .rename_i N0;cases rx with
    |lst S Z d=>
     cases z with
     |lst L Y O=>
      have e:=I.list_inj (by rw[<-W];exact S) (by rw[<-W];exact L);subst e;exact SF (Z.symm.trans Y) N0
  .split at h
   .cases rx with
    |tup S Z d=>
     cases z with
     |tup L Y O=>
      have e:=I.tuple_inj (by rw[<-W];exact S) (by rw[<-W];exact L);subst e;exact items h ⟨Z,d⟩ ⟨Y,O⟩
   .cases h
  .exact g h rx z
def JB{A:aS}{ds es:List D}{b:Bool}{d:List ac}(ih:∀{x y:D}{v w:V}{u1 u2:ac}{b:Bool},RH n x y=W1 b->hQ G H v x->hQ G H w y->cx v u1->cx w u2->mI A s u1 u2 b)(h:OU (RH n) ds es=W1 b)(I:be G H xs ds)(L:be G H ys es)(z:cc xs its)(g:cc ys d):
  its.toArray.size=d.toArray.size/\b=(bb its.toArray.size).all (eAt (RH n) ds es)/\∀j (h1:j<its.toArray.size) (Z:j<d.toArray.size),mI A s its.toArray[j] d.toArray[j] (eAt (RH n) ds es j):=by
 obtain⟨h1,Z,h3⟩:=Oc h;have l1:=z.length;have l2:=g.length;have q1:=I.1;have q2:=L.1;have z1:its.toArray.size=ds.length:=by rw[cw];omega
 refine⟨by rw[cw,cw];omega,by rw[z1];exact h3,λj S O=>?_⟩;rw[cw] at S O;have jx:j<xs.length:=by omega
 have jy:j<ys.length:=by omega
 have U:xs[j]?=W1 xs[j]:=by simp[jx]
 have T:ys[j]?=W1 ys[j]:=by simp[jy]
 have Y:ds[j]?=W1 (ds[j]'(by omega)):=cr (by omega);have W:es[j]?=W1 (es[j]'(by omega)):=cr (by omega);obtain⟨u,eu,ru⟩:=z.get U;obtain⟨w,ew,J⟩:=g.get T;have a1:its.toArray[j]=u:=by simpa [cr S] using eu
 have a2:d.toArray[j]=w:=by simpa [cr O] using ew
 rw[a1,a2];exact ih (Z j _ _ Y W) (I.2 j _ _ U Y) (L.2 j _ _ T W) ru J
def T4{ds es:List D}{d:List ac}(h:ds.length≠es.length)(I:be G H xs ds)(L:be G H ys es)(z:cc xs its)(g:cc ys d):(its.toArray.size != d.toArray.size)=E3:=by
 have Z:=z.length;have Y:=g.length;have q1:=I.1;have q2:=L.1;rw[cw,cw];exact bne_iff_ne.mpr (by omega)
def Qw(I:Inv X π σ H s)(W:G.K=X.K):∀(n:Nat) (A:aS),A.units+n<bE->∀{x y:D}{v w:V}{u1 u2:ac}{b:Bool},RH n x y=W1 b->hQ G H v x->hQ G H w y->cx v u1->cx w u2->mI A s u1 u2 b:=by
 have g:∀{A:aS}{x y:D}{v w:V}{u1 u2:ac}{b:Bool},flD x y=W1 b->hQ G H v x->hQ G H w y->cx v u1->cx w u2->mI A s u1 u2 b:=λ{A x y v w u1 u2 b} h rx z q1 q2=>by
  unfold flD at h;cases e1:SR x with
  |none=>simp[e1] at h
  |some u=>
   cases e2:SR y with
   |none=>simp[e1,e2] at h
   |some w=>
    simp[e1,e2] at h;obtain⟨Z,U⟩:=QH rx e1;obtain⟨T,z4⟩:=QH z e2;rw[<-h,<-Z,<-T];exact cj q1 q2 U z4
 intro n
 induction n with
 |zero=>intro A hu x y v w u1 u2 b h rx z q1 q2;exact g h rx z q1 q2
 |succ n ih=>
  intro A hu x y v w u1 u2 b h rx z q1 q2;have h':=h;have S0:A.in1.units+n<bE:=by show A.units+1+n<bE;omega
  have J:A.units<bE:=by omega
  unfold RH eqS at h;split at h
  .cases rx with
   | @lst a _ _ h1 S O=>
    cases z with
    | @lst c _ _ h2 Y L=>
     obtain rfl:u1=.ref a:=q1;obtain rfl:u2=.ref c:=q2;obtain⟨O0,v1,p1,_⟩:=I.list (by rw[<-W];exact h1);obtain⟨N0,v2,p2,_⟩:=I.list (by rw[<-W];exact h2)
     by_cases d:a=c
     .subst d;have:=Vf I W (n+1) h' (.lst h1 S O) (.lst h2 Y L);subst this;exact DD _
     .split at h
      .obtain⟨Z,U,T⟩:=JB (λq=>ih A.in1 S0 q) h ⟨S,O⟩ ⟨Y,L⟩ v1 v2;rw[U];exact DS d (ID p1.isList p2.isList Z J T)
      .rename_i T0;cases h;exact DS d (IE p1.isList p2.isList (T4 T0 ⟨S,O⟩ ⟨Y,L⟩ v1 v2) J)
  .cases rx with
   | @tup a _ _ h1 S O=>
    cases z with
    | @tup c _ _ h2 Y L=>
     obtain rfl:u1=.ref a:=q1;obtain rfl:u2=.ref c:=q2;obtain⟨O0,v1,p1,_⟩:=I.tuple (by rw[<-W];exact h1);obtain⟨N0,v2,p2,_⟩:=I.tuple (by rw[<-W];exact h2)
     by_cases d:a=c
     .subst d;have:=Vf I W (n+1) h' (.tup h1 S O) (.tup h2 Y L);subst this;exact DD _
     .split at h
      .obtain⟨Z,U,T⟩:=JB (λq=>ih A.in1 S0 q) h ⟨S,O⟩ ⟨Y,L⟩ v1 v2;have q:=IF (show s.heap.IsTuple a O0.toArray from p1) (show s.heap.IsTuple c N0.toArray from p2) J T;rw[Z,DT,MH,DU,<-Z,<-U] at q;exact DS d q
      .cases h
  .exact g h rx z q1 q2
end
def rEqP(G:Gx)(d:Bool):R2:=λx y H Q=>∃(A:List Addr) (ds es:List D) (b:Bool),UX (.lst ds) (.lst es)=W1 b/\((nk G A H x (.lst ds)/\nk G A H y (.lst es))∨(ds.length=es.length/\nk G A H x (.tup ds)/\nk G A H y (.tup es)))/\Q (.bl (if d then !b else b)) H
def vA(W:G.K=X.K)(hu:X.A.units+190<bE):NH X (dA .Eq) (rEqP G ZA):=by
 intro π s σ H x y v u Q I rx ry h;obtain⟨A,ds,es,b,e,hr,k⟩:=h;have ot:EP X π σ Q (.bool b) s:=⟨.bl b,H,I,rfl,k⟩;simp only[UX] at e
 rcases hr with ⟨U,T⟩ | ⟨hl,U,T⟩
 .obtain⟨a,xs,rfl,h1,q1⟩:=U.lst;obtain⟨c,ys,rfl,h2,q2⟩:=T.lst;cases rx;cases ry;obtain⟨g,J,O,_⟩:=I.list (by rw[<-W];exact h1);obtain⟨d,z,L,_⟩:=I.list (by rw[<-W];exact h2);split at e
  .obtain⟨Z,Y,S⟩:=JB (λq=>Qw I W 180 X.A.in1 (by show X.A.units+1+180<bE;omega) q) e (q1.mono Ao) (q2.mono Ao) J z;exact ID O.isList L.isList Z (by omega) S _ _ _ _ (by rw[<-Y];exact ot)
  .rename_i N0;cases e;exact IE O.isList L.isList (T4 N0 q1 q2 J z) (by omega) _ _ _ _ ot
 .obtain⟨a,xs,rfl,h1,q1⟩:=U.tup;obtain⟨c,ys,rfl,h2,q2⟩:=T.tup;cases rx;cases ry;obtain⟨g,J,O,_⟩:=I.tuple (by rw[<-W];exact h1);obtain⟨d,z,L,_⟩:=I.tuple (by rw[<-W];exact h2);rw[OF hl] at e;obtain⟨Z,Y,S⟩:=JB (λq=>Qw I W 180 X.A.in1 (by show X.A.units+1+180<bE;omega) q) e (q1.mono Ao) (q2.mono Ao) J z;have q:=IF (show s.heap.IsTuple a g.toArray from O) (show s.heap.IsTuple c d.toArray from L) (by omega) S;rw[Z,DT,MH,DU,<-Z,<-Y] at q;exact q _ _ _ _ ot
def vB(W:G.K=X.K)(hu:X.A.units+190<bE):NH X (dA .NotEq) (rEqP G E3):=by
 intro π s σ H x y v u Q I rx ry h;obtain⟨A,ds,es,b,e,hr,k⟩:=h;have ot:EP X π σ Q (.bool (!b)) s:=⟨.bl (!b),H,I,rfl,k⟩;simp only[UX] at e
 rcases hr with ⟨U,T⟩ | ⟨hl,U,T⟩
 .obtain⟨a,xs,rfl,h1,q1⟩:=U.lst;obtain⟨c,ys,rfl,h2,q2⟩:=T.lst;cases rx;cases ry;obtain⟨g,J,O,_⟩:=I.list (by rw[<-W];exact h1);obtain⟨d,z,L,_⟩:=I.list (by rw[<-W];exact h2);split at e
  .obtain⟨Z,Y,S⟩:=JB (λq=>Qw I W 180 X.A.in1 (by show X.A.units+1+180<bE;omega) q) e (q1.mono Ao) (q2.mono Ao) J z;exact SeqAt.RcNeAt.lists O.isList L.isList Z (by omega) S _ _ _ _ (by rw[<-Y];exact ot)
  .rename_i N0;cases e;exact SeqAt.RcNeAt.lists_lengths O.isList L.isList (T4 N0 q1 q2 J z) (by omega) _ _ _ _ ot
 .obtain⟨a,xs,rfl,h1,q1⟩:=U.tup;obtain⟨c,ys,rfl,h2,q2⟩:=T.tup;cases rx;cases ry;obtain⟨g,J,O,_⟩:=I.tuple (by rw[<-W];exact h1);obtain⟨d,z,L,_⟩:=I.tuple (by rw[<-W];exact h2);rw[OF hl] at e;obtain⟨Z,Y,S⟩:=JB (λq=>Qw I W 180 X.A.in1 (by show X.A.units+1+180<bE;omega) q) e (q1.mono Ao) (q2.mono Ao) J z;have q:=SeqAt.RcNeAt.tuples (show s.heap.IsTuple a g.toArray from O) (show s.heap.IsTuple c d.toArray from L) (by omega) S;rw[Z,DT,MH,DU,<-Z,<-Y] at q;exact q _ _ _ _ ot
def rEqA(G:Gx)(d:Bool):R2:=λx y H Q=>(λx y H Q=>scal x y=E3/\Q (.bl (if d then !decide (x=y) else decide (x=y))) H) x y H Q∨rEqP G d x y H Q
def XQ(W:G.K=X.K)(S:X.A.units+190<bE):NH X (dA .Eq) (rEqA G ZA):=yC.or (vA W S)
def vC(W:G.K=X.K)(S:X.A.units+190<bE):NH X (dA .NotEq) (rEqA G E3):=yD.or (vB W S)
def T5{d g:Type}[DecidableEq d][DecidableEq g]{f:d->g}(h:∀a b,f a=f b->a=b)(a b:d):decide (f a=f b)=decide (a=b):=by
 by_cases e:a=b
 .subst e;simp
 .rw[UF e,UF λz=>e (h a b z)]
theorem T6(I:Bool):Dw G (rEqA G I) (MQ I):=by
 intro A H x y dx J d Q L rx g h k;unfold MQ at h;cases e:UX dx J with
 |none=>simp[e] at h
 |some b=>
  simp only[e,i7] at h;cases h;unfold UX at e;split at e
  .cases e;rw[rx.int,g.int];refine .inl ⟨rfl,?_⟩;rw[T5 (f:=V.int) (λa b z=>by cases z;rfl)];exact k _ H (ab.refl H) (.bl _)
  .cases e;rw[rx.str,g.str];refine .inl ⟨rfl,?_⟩;rw[T5 (f:=V.str) (λa b z=>by cases z;rfl)];exact k _ H (ab.refl H) (.bl _)
  .cases e;rw[rx.bl,g.bl];refine .inl ⟨rfl,?_⟩;rw[T5 (f:=V.bl) (λa b z=>by cases z;rfl)];exact k _ H (ab.refl H) (.bl _)
  .exact .inr ⟨A,_,_,b,e,.inl ⟨rx,g⟩,k _ H (ab.refl H) (.bl _)⟩
  .split at e
   .rename_i Y;exact .inr ⟨A,_,_,b,(by simp only[UX];rw[OF Y];exact e),.inr ⟨Y,rx,g⟩,k _ H (ab.refl H) (.bl _)⟩
   .cases e
  .cases e
def Sa(G:Gx)(r:List V->Hp->VK->Prop)(g:D->Option D):Prop:=∀(A:List Addr) (H:Hp) (x:V) (dx d:D) (Q:VK),(∀a∈A,Nt (H a))->nk G A H x dx->g dx=W1 d->(∀v z,ab H z->hQ G (bm A z) v d->Q v z)->r [x] H Q
def YZ(G:Gx)(r:List V->Hp->VK->Prop)(g:D->D->Option D):Prop:=∀(A:List Addr) (H:Hp) (x y:V) (dx I d:D) (Q:VK),(∀a∈A,Nt (H a))->nk G A H x dx->nk G A H y I->g dx I=W1 d->(∀v z,ab H z->hQ G (bm A z) v d->Q v z)->r [x,y] H Q
def Ht{g:D->Option D}{ρ:Rho}{d:D}(h:uF g fa ρ=W1 d):∃x,fa ρ=W1 x/\g x=W1 d:=by
 unfold uF at h;cases e:fa ρ with
 |none=>simp[e] at h
 |some x=>exact⟨x,rfl,by simpa [e] using h⟩
def dg{g:D->Option D}(s:Sa G r g){A:List Addr}{z:St}{H:Hp}{Q:VK}(h:tF G A (uF g fa) z H Q):tCB r (VM (tT G A fa) tNil) z H Q:=by
 obtain⟨J,d,o,e,k⟩:=h;obtain⟨x,U,T⟩:=Ht e;exact⟨J,x,o,U,λv Y I O=>s A Y v x d Q (o.mono I).live O T λw W S L=>k w W (I.trans S) L⟩
def nO{g:D->D->Option D}(s:YZ G r g){A:List Addr}{I:St}{H:Hp}{Q:VK}(h:tF G A (bF g fa fb) I H Q):tCB r (VM (tT G A fa) (VM (tT G A fb) tNil)) I H Q:=by
 obtain⟨J,d,o,e,k⟩:=h;obtain⟨x,y,Z,Y,W⟩:=Tv e;exact⟨J,x,o,Z,λv H1 z T=>⟨J,y,o.mono z,Y,λu H2 S O=>s A H2 v u x y d Q ((o.mono z).mono S).live (T.mono S) O W λw H3 U L=>k w H3 (z.trans (S.trans U)) L⟩⟩
def Bl{p:Pos}{id:String}{g:D->Option D}(O:CN X (.builtin id) r)(s:Sa G r g)(U:Gl X x)(L:X.mg x=E2)(I:d6 x=W1 (.builtin id))(ha:PU X G a fa)(J:x≠"__name__":=by decide)(d:(x==("__debug__":Str))=ZA:=by decide)(z:ay [a] X.env=[(ZA,eval a X.env)]:=by rfl):PF X G (.Call (.Name x p) [a] [] pos) (uF g fa):=
 λA=>Bp (Iw O U L I (BW (@ha A) Cp z) J d z rfl) λ_ _ _ h=>dg s h
def Vg{p:Pos}{id:String}{g:D->D->Option D}(S:CN X (.builtin id) r)(s:YZ G r g)(U:Gl X x)(O:X.mg x=E2)(J:d6 x=W1 (.builtin id))(ha:PU X G a fa)(hb:PU X G b fb)(L:x≠"__name__":=by decide)(z:(x==("__debug__":Str))=ZA:=by decide)(I:ay [a,b] X.env=(ZA,eval a X.env)::ay [b] X.env:=by rfl)(d:ay [b] X.env=[(ZA,eval b X.env)]:=by rfl):PF X G (.Call (.Name x p) [a,b] [] pos) (bF g fa fb):=
 λA=>Bp (Iw S U O J (BW (@ha A) (BW (@hb A) Cp d) I) L z I (by rw[d];rfl)) λ_ _ _ h=>nO s h
def SM{p:Pos}{T:String}{g:D->Option D}(O:CN X (.type T) r)(s:Sa G r g)(U:Gl X x)(L:X.mg x=E2)(I:d6 x=W1 (.type T))(ha:PU X G a fa)(J:x≠"__name__":=by decide)(d:(x==("__debug__":Str))=ZA:=by decide)(z:ay [a] X.env=[(ZA,eval a X.env)]:=by rfl):PF X G (.Call (.Name x p) [a] [] pos) (uF g fa):=
 λA=>Bp (En O U L I (BW (@ha A) Cp z) J d z rfl) λ_ _ _ h=>dg s h
def Yb:Sa G (λxs H Q=>∃x n,xs=[x]/\LenV G.K x H n/\Q (.int n) H) UQ:=by
 intro A H x dx d Q I rx h k;unfold UQ at h;split at h
 .split at h
  .rename_i O;cases h;rw[rx.str];exact⟨_,_,rfl,⟨O,rfl⟩,k _ H (ab.refl H) (.int _)⟩
  .cases h
 .cases h;obtain⟨p,xs,rfl,g,r⟩:=rx.lst;exact⟨_,_,rfl,.inl ⟨xs,g,rfl⟩,by rw[r.1];exact k _ H (ab.refl H) (.int _)⟩
 .cases h;obtain⟨p,xs,rfl,g,r⟩:=rx.tup;exact⟨_,_,rfl,.inr ⟨xs,g,rfl⟩,by rw[r.1];exact k _ H (ab.refl H) (.int _)⟩
 .cases h
def Er(W:G.K=X.K):CN X (.builtin "len") (λxs H Q=>∃x n,xs=[x]/\LenV G.K x H n/\Q (.int n) H):=by rw[W];exact cP
def dh:YZ G (λxs H Q=>∃i j,xs=[.int i,.int j]/\Q (.int (if j > i then j else i)) H) maxD:=by
 intro A H x y dx g d Q I rx z h k;obtain⟨i,j,rfl,rfl,h⟩:=Mq h;cases h;exact⟨i,j,by rw[rx.int,z.int],k _ H (ab.refl H) (.int _)⟩
def di:YZ G (λxs H Q=>∃i j,xs=[.int i,.int j]/\Q (.int (if j<i then j else i)) H) minD:=by
 intro A H x y dx g d Q I rx z h k;obtain⟨i,j,rfl,rfl,h⟩:=Mq h;cases h;exact⟨i,j,by rw[rx.int,z.int],k _ H (ab.refl H) (.int _)⟩
def Yc:Sa G (λxs H Q=>(∃i,xs=[.int i]/\Q (.int i) H)∨∃k,xs=[.bl k]/\Q (.int (if k then 1 else 0)) H) intD:=by
 intro A H x dx d Q I rx h k;unfold intD at h;split at h
 .cases h;exact .inl ⟨_,by rw[rx.int],k _ H (ab.refl H) (.int _)⟩
 .cases h;exact .inr ⟨_,by rw[rx.bl],k _ H (ab.refl H) (.int _)⟩
 .cases h
end
def rD(G:Gx)(z H g:Hp)(x:V)(d:D):Prop:=ab H g/\∀B:List Addr,(∀a∈B,Nt (H a))->ab z (bm B H)->hQ G (bm B g) x d
def Qx{G:Gx}{x:V}{d:D}(h:H'=H/\hQ G F2 x d):rD G F2 H H' x d:=by
 obtain⟨rfl,r⟩:=h;exact⟨ab.refl _,λB _ g=>r.mono g⟩
structure Src (G:Gx) (J:It) (ds:List D) (F1 F2:Hp):Prop where
 go:∀i H,ab F1 H->i<ds.length->J.go i H
 yld:∀i H x H' d,ab F1 H->ds[i]?=W1 d->J.yld i H x H'->rD G F2 H H' x d
 stop:∀i H,ab F1 H->ds.length<=i->J.stop i H
def tI(G:Gx)(A:List Addr)(top:Bool)(f:FI):TI:=λg H R=>∃ρ ds,OQ G A g H ρ/\f ρ=W1 ds/\∀J z,ab H z->Src G J ds (if top then z else bm A z) (bm A z)->R J z
def RI(X:Cx)(G:Gx)(top:Bool)(tg e:Expr)(f:FI):Prop:=∀⦃A⦄,PI X tg e (tI G A top f)
def Qy{t t':TI}(h:PI X tg e t)(w:∀σ H Q,t' σ H Q->t σ H Q):PI X tg e t':=λd s σ H Q I q=>h d s σ H Q I (w σ H Q q)
def piOr{t t':TI}(h:PI X tg e t)(h':PI X tg e t'):PI X tg e (λσ H R=>t σ H R∨t' σ H R):=λd s σ H Q I q=>by
 rcases q with q | q
 .exact h d s σ H Q I q
 .exact h' d s σ H Q I q
section
variable {G:Gx}{a:Expr}{fa:FE}
def nP{ds:List D}(h:Nn G.K F1 p xs)(r:be G F2 xs ds):Src G (Itt G.K p) ds F1 F2 where
 go:=λi H s z=>⟨xs,xs[i]'(by rw[r.1];exact z),DN s h,by simp[r.1,z]⟩
 yld:=λi H x I d s g y=>Qx ⟨y.1,r.2 i x d (y.2 xs (DN s h)) g⟩
 stop:=λi H s z=>⟨xs,DN s h,by rw[r.1];exact z⟩
def nQ(W:G.K=X.K)(h:PF X G a fa):RI X G ZA tg a (seqI fa):=λA=>Qy (piOr (TY (@h A)) (uZ (@h A)))<|by
 rintro U H R ⟨S,Y,o,e,k⟩
 unfold seqI at e;split at e
 .rename_i L J;cases e;refine .inl ⟨S,_,o,J,λv O z g=>?_⟩;cases g with
  |lst h l r=>exact⟨_,rfl,⟨_,by rw[<-W];exact Ao.seq h⟩,by rw[<-W];exact k _ O z { go:=λi H s I=>⟨_,_,s.seq h,by simp[l,I];rfl⟩,yld:=λi H x Z d s T y=>Qx ⟨y.1,r i x d (y.2 _ (s.seq h)) T⟩,stop:=λi H s I=>⟨_,s.seq h,by rw[l];exact I⟩ }⟩
 .rename_i L J;cases e;refine .inr ⟨S,_,o,J,λv O z g=>?_⟩;cases g with
  |tup h l r=>exact⟨_,rfl,⟨_,by rw[<-W];exact DN Ao h⟩,by rw[<-W];exact k _ O z (nP h ⟨l,r⟩)⟩
 .cases e
def dj{d:D}(h:(wh n)[i]?=W1 d):d=.int i:=by
 unfold wh at h;rw[cb] at h;cases e:(bb n)[i]? with
 |none=>rw[e] at h;cases h
 |some j=>
  rw[e] at h;have:=(fF.mp e);obtain⟨z,g⟩:=this;rw[List.getElem_range] at g;subst g;exact (eJ h).symm
def nR:Src G (Itr 0 n) (wh n) F1 F2 where
 go:=λi H s z=>by unfold wh at z;show i<n;simpa using z
 yld:=λi H x J d s I y=>by
  obtain⟨g,Z⟩:=y;rw[dj I,Z,Int.zero_add];exact Qx ⟨g,.int _⟩
 stop:=λi H s z=>by unfold wh at z;show n<=i;simpa using z
def E_{top:Bool}{p:Pos}(J:Gl X "range")(I:X.mg "range"=E2)(h:PU X G a fa)(hs:ay [a] X.env=[(ZA,eval a X.env)]:=by rfl):RI X G top tg (.Call (.Name "range" p) [a] [] pos) (MU fa):=λA=>Qy (aN J I (BW (@h A) Cp hs) hs)<|by
 rintro S H R ⟨g,T,o,e,k⟩
 unfold MU at e;split at e
 .rename_i j L;split at e
  .rename_i U;cases e;exact⟨g,_,o,L,λv O z d=>⟨j,by rw[d.int],U.1,U.2,k _ O z nR⟩⟩
  .cases e
 .cases e
end
structure NW (G:Gx) (A0:List Addr) (He:Hp) (A:List Addr) (σ:St) (H:Hp) (ρ:Rho):Prop where
 same:ab He H
 sub:∀a∈A0,a∈A
 fr:∀a∈A,a∈A0∨He a=E2
 l0:∀a∈A0,He a≠E2
 ok:OQ G A σ H ρ
 ow0:∀(i:Nat) (d:D) (a:Addr),ρ[i]?=W1 (.ow d)->σ[i]?=W1 (W1 (.ref a))->a∉A0
 lt:∀(x:Addr) (d:D),G.lent=W1 x->ρ[0]?=W1 (.ow d)->σ[0]?=W1 (W1 (.ref x))
def XT(G:Gx)(A0:List Addr)(d:Hp)(g:St)(H:Hp)(ρ:Rho):Prop:=∃A,NW G A0 d A g H ρ
def Qz(G:Gx)(A0:List Addr)(z:Hp)(D:Sf):QU->Prop
 |.nx ρ=>∀g H,XT G A0 z g H ρ->D.nx g H
 |.rt d ρ=>∀v g H A,NW G A0 z A g H ρ->hQ G (bm A H) v d->D.rt v H
 |.bk ρ=>∀g H,XT G A0 z g H ρ->D.bk g H
 |.ct ρ=>∀g H,XT G A0 z g H ρ->D.ct g H
def tS(G:Gx)(A0:List Addr)(d:Hp)(g:FS):TS:=λD z H=>∃ρ o,XT G A0 d z H ρ/\g ρ=W1 o/\Qz G A0 d D o
def Tb(X:Cx)(G:Gx)(st:Stmt)(g:FS):Prop:=∀⦃A0⦄ He,PS X st (tS G A0 He g)
def QP(X:Cx)(G:Gx)(st:List Stmt)(g:FS):Prop:=∀⦃A0⦄ He,SS X st (tS G A0 He g)
theorem OQ.set{G:Gx}{A:List Addr}{L:St}{H:Hp}{ρ:Rho}{v:V}{d:D}(o:OQ G A L H ρ)(r:hQ G (bm A H) v d)(i:Nat):OQ G A (L.set i (W1 v)) H (ρ.set i (.fz d)):=by
 have I:∀(j:Nat) (z:Slot),(ρ.set i (.fz d))[j]?=W1 z->(j=i/\z=.fz d/\i<ρ.length)∨(j≠i/\ρ[j]?=W1 z):=λj z h=>by
  by_cases U:j=i
  .subst U
   by_cases Y:j<ρ.length
   .rw[mv Y] at h;exact .inl ⟨rfl,(eJ h).symm,Y⟩
   .rw[oe (by simpa using kP.mp Y)] at h;cases h
  .rw[hW (cq U)] at h;exact .inr ⟨U,h⟩
 have g:∀(j:Nat),j≠i->(L.set i (W1 v))[j]?=L[j]?:=λj U=>hW (cq U);refine⟨by rw[sg,sg];exact o.len,o.live,λj e h=>?_,λj e h=>?_,λj k e f p h1 Z T S=>?_⟩
 .rcases I j _ h with ⟨U,O,Y⟩ | ⟨U,O⟩
  .cases O;subst U;exact⟨v,by rw[mv (by rw[o.len];exact Y)],r⟩
  .obtain⟨u,q1,q2⟩:=o.fz j e O;exact⟨u,by rw[g j U];exact q1,q2⟩
 .rcases I j _ h with ⟨U,O,Y⟩ | ⟨U,O⟩
  .cases O
  .obtain⟨u,q1,q2⟩:=o.ow j e O;exact⟨u,by rw[g j U];exact q1,q2⟩
 .rcases I j _ h1 with ⟨_,O,_⟩ | ⟨U,O⟩
  .cases O
  .rcases I k _ Z with ⟨_,J,_⟩ | ⟨W,J⟩
   .cases J
   .rw[g j U] at T;rw[g k W] at S;exact o.inj j k e f p O J T S
theorem NW.mono{G:Gx}{A0:List Addr}{d:Hp}{A:List Addr}{g:St}{H z:Hp}{ρ:Rho}(o:NW G A0 d A g H ρ)(s:ab H z):NW G A0 d A g z ρ:=⟨o.same.trans s,o.sub,o.fr,o.l0,o.ok.mono s,o.ow0,o.lt⟩
theorem NW.set{G:Gx}{A0:List Addr}{S:Hp}{A:List Addr}{I:St}{H:Hp}{ρ:Rho}{v:V}{d:D}(o:NW G A0 S A I H ρ)(r:hQ G (bm A H) v d)(i:Nat):NW G A0 S A (I.set i (W1 v)) H (ρ.set i (.fz d)):=⟨o.same,o.sub,o.fr,o.l0,o.ok.set r i,λj e a g O=>by
  have U:j≠i:=by
   intro z;subst z
   by_cases Y:j<ρ.length
   .rw[mv Y] at g;cases g
   .rw[oe (by simpa using kP.mp Y)] at g;cases g
  rw[hW (cq U)] at g O;exact o.ow0 j e a g O,λx e T J=>by
  by_cases L:i=0
  .subst L;cases ρ with
   |nil=>cases J
   |cons a r=>cases J
  .rw[hW L] at J ⊢;exact o.lt x e T J⟩
def NW.base{G:Gx}{ρ:Rho}(o:NW G A0 Hf A σ H ρ)(s:ab He Hf)(d:∀a∈A0,He a≠E2):NW G A0 He A σ H ρ:=
 ⟨s.trans o.same,o.sub,λa g=>(o.fr a g).imp id λz=>s.free z,d,o.ok,o.ow0,o.lt⟩
def NW.here{G:Gx}{ρ:Rho}(o:NW G A0 He A σ H ρ):ab He (bm (A.filter λa=>decide (a∉A0)) H)/\NW G A0 (bm (A.filter λa=>decide (a∉A0)) H) A σ H ρ:=by
 have g:∀b,b∈(A.filter λa=>decide (a∉A0))↔b∈A/\b∉A0:=λb=>by simp[d4]
 have I:ab He (bm (A.filter λa=>decide (a∉A0)) H):=λb u h=>by
  rw[Ax]
  .exact o.same b u h
  .intro z;obtain⟨Z,Y⟩:=(g b).mp z
   rcases o.fr b Z with q | q
   .exact Y q
   .rw[q] at h;cases h
 refine⟨I,Ao,o.sub,λa d=>?_,λa d h=>?_,o.ok,o.ow0,o.lt⟩
 .by_cases O:a∈A0
  .exact .inl O
  .right;unfold bm;rw[OF ((g a).mpr ⟨d,O⟩)]
 .rw[Ax (λz=>((g a).mp z).2 d)] at h;exact (o.ok.live a (o.sub a d)).ne h
def NW.plain{G:Gx}{ρ:Rho}(sub:∀a∈A0,a∈B)(o:NW G A0 (bm (B.filter λa=>decide (a∉A0)) H1) A σ H ρ):ab (bm B H1) (bm A H):=λb u h=>by
 unfold bm at h;split at h
 .cases h
 .rename_i d;have e:bm (B.filter λa=>decide (a∉A0)) H1 b=W1 u:=by
   rw[Ax (λz=>d (d4.mp z).1)];exact h
  rw[Ax]
  .exact o.same b u e
  .intro z
   rcases o.fr b z with q | q
   .exact d (sub b q)
   .rw[q] at e;cases e
section
variable {G:Gx}{a b c:Expr}{fa:FE}{ga:FT}{gq:List Stmt}{g gs gb:FS}
def CK:QP X G [] Sn:=by
 rintro O L z s d H D I ⟨J,o,ok,e,k⟩
 cases e;exact JW z s d H D I (k d H ok)
theorem Ad(h1:Tb X G st g)(h2:QP X G gq gs):QP X G (st::gq) (dq g gs):=by
 rintro T S Y s W H D I ⟨O,o,ok,e,k⟩
 refine Mf (@h1 T S) (@h2 T S) Y s W H D I ?_;unfold dq at e;split at e
 .rename_i z Z;exact⟨O,_,ok,Z,λU H' J=>⟨z,o,J,e,k⟩⟩
 .rename_i L;refine⟨O,o,ok,e,?_⟩;cases o with
  |nx z=>exact SF e (L z)
  |rt d z=>exact k
  |bk z=>exact k
  |ct z=>exact k
def Ae(h1:Tb X G st g):QP X G [st] g:=λO d=>TV (@h1 O d)
def Cr{S:List Stmt}(ht:SU X G c ga)(h1:QP X G s1 g)(h2:QP X G S gs):Tb X G (.If c s1 S pos) (PY ga g gs):=by
 rintro O J T s L H D I ⟨d,o,⟨A,w⟩,e,k⟩
 refine cH (@ht A) (@h1 O J) (@h2 O J) T s L H D I ?_;unfold PY at e;split at e
 .rename_i z;exact⟨d,_,w.ok,z,λU s1=>iteT ⟨d,o,⟨A,w.mono s1⟩,e,k⟩⟩
 .rename_i z;exact⟨d,_,w.ok,z,λU s1=>YI ⟨d,o,⟨A,w.mono s1⟩,e,k⟩⟩
 .cases e
def vD{ρ:Rho}{o:QU}{D:Sf}(w:NW G A0 He A σ H ρ)(e:nq i fa ρ=W1 o)(k:Qz G A0 He D o):Wp (tF G A fa) (Em i) D σ H:=by
 unfold nq at e;cases z:fa ρ with
 |none=>simp[z] at e
 |some d=>
  simp only[z,i7] at e;cases e;exact⟨ρ,d,w.ok,z,λv L I J=>k _ _ ⟨A,(w.mono I).set J i⟩⟩
def nU{p:Pos}(h:∀te,PE X a te->PS X (.Assign [.Name x p] a pos) (Wp te (Em i)))(ha:PF X G a fa):Tb X G (.Assign [.Name x p] a pos) (nq i fa):=λO L z s d H D I ⟨J,o,⟨A,w⟩,e,k⟩=>
 h _ (@ha A) z s d H D I (vD w e k)
def Aq(ha:PF X G a fa):Tb X G (.Return (W1 a) pos) (jn fa):=by
 rintro Y W O s J H D I ⟨L,o,⟨A,w⟩,e,k⟩
 refine cG (@ha A) O s J H D I ?_;unfold jn at e;cases z:fa L with
 |none=>simp[z] at e
 |some d=>
  simp only[z,i7] at e;cases e;exact⟨L,d,w.ok,z,λv U S T=>k v J U A (w.mono S) T⟩
def D_(ha:PF X G a fa)(hs:fw a E2 pos.line X.env=pure ZA:=by rfl):Tb X G (.Expr a pos) (GJ fa):=by
 rintro Y U O s L H D I ⟨J,o,⟨A,w⟩,e,k⟩
 refine TX (@ha A) hs O s L H D I ?_;unfold GJ at e;cases z:fa J with
 |none=>simp[z] at e
 |some d=>
  simp only[z,i7] at e;cases e;exact⟨J,d,w.ok,z,λv W S T=>k _ _ ⟨A,w.mono S⟩⟩
def JC:Tb X G st badF:=by rintro O L J s d H D I ⟨z,o,ok,e,k⟩;cases e
def tGD(G:Gx)(A0:List Addr)(J:Hp)(g:FG):TG:=λv O H Q=>∃A ρ d I,NW G A0 J A O H ρ/\hQ G (bm A H) v d/\g d ρ=W1 I/\∀z L,XT G A0 J z L I->Q z L
def PGD(X:Cx)(G:Gx)(tg:Expr)(g:FG):Prop:=∀⦃A0⦄ He,PG X tg (tGD G A0 He g)
def Bq(h:PG X tg (Em i)):PGD X G tg (Bh i):=by
 rintro U T L s z H v u Q I r ⟨A,S,d,J,w,O,e,k⟩
 cases e;exact h L s z H v u Q I r (k _ _ ⟨A,w.set O i⟩)
theorem Qz.base{A0:List Addr}{L O:Hp}{D:Sf}{o:QU}(k:Qz G A0 L D o)(s:ab L O)(I:∀a∈A0,L a≠E2):Qz G A0 O D o:=by
 cases o with
 |nx J=>rintro z H ⟨A,w⟩;exact k z H ⟨A,w.base s I⟩
 |rt d J=>exact λv z H A w r=>k v z H A (w.base s I) r
 |bk J=>rintro z H ⟨A,w⟩;exact k z H ⟨A,w.base s I⟩
 |ct J=>rintro z H ⟨A,w⟩;exact k z H ⟨A,w.base s I⟩
theorem Cq{it:Expr}{src:FI}{fg:FG}(hp:w9 (ai X.prog X.w) X.A X.env X.xe)(hc:X.calm=E3)(hi:RI X G ZA tg it src)(hg:PGD X G tg fg)(hb:QP X G body gb)(hs:∀x,kH it X.env x=pure x:=by intro _;rfl):Tb X G (.For tg it body [] pos) (NL src fg gb):=by
 rintro S He π s σ H D I ⟨W,o,⟨A,w⟩,e,k⟩
 cases e1:src W with
 |none=>simp[NL,e1] at e
 |some z=>
  have e':vb (λd W=>(fg d W).bind gb) z W=W1 o:=by
   have e2:vb (SL fg gb) z W=W1 o:=by simpa [NL,e1] using e
   exact e2
  have S1:SS X body (λD σ H=>∃S He,tS G S He gb D σ H):=(by rintro π s σ H D I ⟨S,He,q⟩;exact @hb S He π s σ H D I q);have P1:PG X tg (λv σ H Q=>∃S He,tGD G S He fg v σ H Q):=(by rintro π s σ H v u Q I r ⟨S,He,q⟩;exact @hg S He π s σ H v u Q I r q);refine Tc hp hc (@hi A) P1 S1 hs π s σ H D I ⟨W,z,w.ok,e1,λJ H1 s1 sr=>?_⟩;obtain⟨T0,w2⟩:=(w.mono s1).here;have k2:=k.base T0 w.l0;generalize U1:bm (A.filter λa=>decide (a∉S)) H1=Hf at T0 w2 k2;refine⟨λi m L Z=>m=z.length-i/\i<=z.length/\∃U,XT G S Hf L Z U/\vb (λd W=>(fg d W).bind gb) (z.drop i) U=W1 o,⟨z.length,by simp,eA _,W,⟨A,w2⟩,by simpa using e'⟩,?_⟩;rintro i m X0 H3 ⟨rfl,Y1,S0,⟨B,w3⟩,O⟩;have pl:ab (bm A H1) (bm B H3):=by rw[<-U1] at w3;exact NW.plain w.sub w3
  by_cases N0:i<z.length
  .right;have hd:z[i]?=W1 z[i]:=by simp[N0]
   have ed:z.drop i=z[i]::z.drop (i+1):=sh N0;rw[ed] at O;unfold vb at O;refine⟨sr.go i H3 (pl.trans Ao) N0,λL Z=>∃U,XT G S Hf L Z U/\vb (λd W=>(fg d W).bind gb) (z.drop (i+1)) U=W1 o,λL Z q=>⟨z.length-(i+1),by omega,rfl,N0,q⟩,λx Z y=>?_⟩;obtain⟨sy,rx⟩:=sr.yld i H3 x Z _ (pl.trans Ao) hd y;refine⟨S,Hf,B,S0,z[i],?_⟩;cases e4:fg z[i] S0 with
   |none=>simp[e4] at O
   |some O0=>
    refine⟨O0,w3.mono sy,rx B w3.ok.live pl,rfl,λX1 H5 N1=>⟨S,Hf,O0,?_⟩⟩;cases e5:gb O0 with
    |none=>simp[e4,e5] at O
    |some o5=>
     refine⟨o5,N1,rfl,?_⟩;cases o5 with
     |nx T=>
      simp only[e4,e5,eI] at O;exact λL Z Y=>⟨T,Y,O⟩
     |ct T=>
      simp only[e4,e5,eI] at O;exact λL Z Y=>⟨T,Y,O⟩
     |bk T=>
      simp only[e4,e5,eI] at O;cases O;exact λL Z Y=>k2 L Z Y
     |rt d5 T=>
      simp only[e4,e5,eI] at O;cases O;exact k2
  .left;have ei:i=z.length:=by omega
   subst ei;rw[xt] at O;cases O;exact⟨sr.stop _ H3 (pl.trans Ao) (aE _),k2 X0 H3 ⟨B,w3⟩⟩
end
def Na(G:Gx)(g:List D->Option D):Sp:=λvs H Q _=>∃A ds d,(∀a∈A,Nt (H a))/\be G (bm A H) vs ds/\g ds=W1 d/\∀v z,ab H z->hQ G (bm A z) v d->Q v z
section
variable {G:Gx}{a:Expr}{es:List Expr}{fs:FA}{p:Pos}
def yP{k:Nat}{f:Addr}{g:List D->Option D}(F:im X.prog X.w X.K X.mg X.base CX0 k f fd ps (Na G g))(Y:Room k X.A)(hg:Gl X x)(Z:X.mg x=W1 (.ref f))(hk:ic X.K (.ref f)=E3)(hb:MO X.K fd ps [])(ha:TR X G (a::es) fs)(I:(x==("__debug__":Str))=ZA:=by decide)(he:ay (a::es) X.env=(ZA,eval a X.env)::ay es X.env:=by rfl)(z:(dS pos (ay es X.env)).any (·.1)=ZA:=by rfl):
  PF X G (.Call (.Name x p) (a::es) [] pos) (Aj g fs):=λA=>Bp (YJ F Y hg Z hk hb .nil R_ (@ha A) I he z)<|by
 rintro σ H Q ⟨O,d,o,e,k⟩
 unfold Aj at e;cases J:fs O with
 |none=>simp[J] at e
 |some L=>
  have e':g L=W1 d:=by simpa [J] using e
  refine⟨O,L,o,J,λvs H1 S W=>⟨A,L,d,(o.mono S).live,by rw[g9];exact W,e',λv H2 T U=>k v H2 (S.trans T) U⟩⟩
end
def Mr{G:Gx}{vs:List V}{ds:List D}(live:∀a∈A,Nt (H a))(r:be G (bm A H) vs ds)(U:vs.length<=N.length):XT G A H (start N vs) H (CP N.length ds):=by
 have g:∀(i:Nat) (z:Slot),(CP N.length ds)[i]?=W1 z->(∃d,z=.fz d/\ds[i]?=W1 d)∨z=.un:=λi z h=>by
  unfold CP at h
  by_cases L:i<ds.length
  .rw[kt (by simpa using L),cb] at h;cases e:ds[i]? with
   |none=>rw[e] at h;cases h
   |some d=>rw[e] at h;exact .inl ⟨d,(eJ h).symm,rfl⟩
  .rw[ii (by simpa using kP.mp L),zZ] at h;split at h
   .exact .inr (eJ h).symm
   .cases h
 refine⟨A,ab.refl H,λ_ h=>h,λa h=>.inl h,λa S=>(live a S).ne,⟨?_,live,λi d h=>?_,λi d h=>?_,λi j d e a h _ _ _=>?_⟩,λi d a h _=>?_,λx d _ h=>?_⟩
 .unfold L2.start CP;rw[ff,ff,aw,aw,wq,wq,r.1]
 .rcases g i _ h with ⟨J,e,I⟩ | e
  .cases e;obtain⟨v,O,T⟩:=r.get I;refine⟨v,?_,T⟩;unfold L2.start;rw[kt (by rw[aw];exact (fF.mp O).1),cb,O];rfl
  .cases e
 .rcases g i _ h with ⟨J,e,I⟩ | e
  .cases e
  .cases e
 .rcases g i _ h with ⟨J,e,I⟩ | e
  .cases e
  .cases e
 .rcases g i _ h with ⟨J,e,I⟩ | e
  .cases e
  .cases e
 .rcases g 0 _ h with ⟨J,e,I⟩ | e
  .cases e
  .cases e
theorem Xs{G:Gx}{base:Heap}{f:Addr}{k:Nat}{b:FS}(F:Fun G.K x qual st f fd)(S:bc N ps (Ab st))(hl:ps.length<=N.length)(hb:∀(cdv:ac) (A:aS) (g:List Env) (s:ah) (H:Hp) (E:XK),Room k (A.deeper (gu qual (Ab st) s.heap.objs.size f cdv))->QP (Pd CX0 P w G.K mg base N qual (Ab st) f cdv A g s H E).nox G (BX st) b):
  im P w G.K mg base CX0 (k+1) f fd ps (Na G (lu N.length ps.length b)):=by
 refine F.ok S (λY H Q E h=>?_) (λcdv A g s H Y Q E hr h=>?_)
 .obtain⟨A,I,d,T,r,e,_⟩:=h;unfold lu at e;split at e
  .rename_i O;rw[r.1];exact O
  .cases e
 .obtain⟨A0,I,d,T,r,e,k⟩:=h;unfold lu at e;split at e
  .rename_i O;have hzz:=hb cdv A g s H E hr;refine⟨_,@hzz A0 H,CP N.length I,?_⟩;cases z:b (CP N.length I) with
   |none=>simp[z] at e
   |some o=>
    refine⟨o,Mr T r (by rw[r.1,O];exact hl),rfl,?_⟩;cases o with
    |nx L=>
     simp only[z] at e;cases e;rintro U J ⟨A,w⟩;exact k _ J w.same .non
    |rt d' W=>
     simp only[z] at e;cases e;exact λv U J A w Z=>k v J w.same (Z.mono (CJ w.sub))
    |bk L=>simp[z] at e
    |ct L=>simp[z] at e
  .cases e
section
variable {G:Gx}{a b c:Expr}{px:Pos}{t:Str}{elt iter:Expr}{ifs:List Expr}{ga:FT}{fe:FE}{src:FI}
def PFTs(X:Cx)(G:Gx)(d:List Expr)(f:FT):Prop:=∀⦃A⦄,PTs X d (tFT G A f)
def FJ:PFTs X G [] xq:=by
 rintro A d s g H Q I ⟨z,b,o,e,k⟩
 cases e;exact YT d s g H Q I (k H (ab.refl H))
def HH(h:SU X G a ga):PFTs X G [a] ga:=λA=>m5 (@h A)
def OQ.fill{Hc:Hp}{ρ:Rho}(o:OQ G A σ H ρ)(s:ab H Hc)(T:H p=E2)(U:Nt (Hc p)):OQ G (p::A) σ Hc ρ:=by
 have I:ab (bm A H) (bm (p::A) Hc):=λb u h=>by
  unfold bm at h;split at h
  .cases h
  .rename_i W;rw[Ax]
   .exact s b u h
   .intro z
    rcases bP.mp z with z | z
    .rw[z,T] at h;cases h
    .exact W z
 refine⟨o.len,λa Y=>?_,λi d h=>?_,λi d h=>?_,o.inj⟩
 .rcases bP.mp Y with z | z
  .rw[z];exact U
  .exact (o.mono s).live a z
 .obtain⟨v,L,J⟩:=o.fz i d h;exact⟨v,L,J.mono I⟩
 .obtain⟨a,L,J,S⟩:=o.ow i d h;refine⟨a,L,cE _ J,?_⟩;cases d with
  |lst O=>obtain⟨g,q1,q2⟩:=S;exact⟨g,s _ _ q1,q2.mono I⟩
  |dk O=>obtain⟨g,q1,q2,q3⟩:=S;exact⟨g,s _ _ q1,q2,q3.mono I⟩
  |dt O=>obtain⟨g,q1,q2,q3⟩:=S;exact⟨g,s _ _ q1,q2,q3.mono I⟩
  |ob c Z=>obtain⟨C,dx,g,q1,q2,q3⟩:=S;exact⟨C,dx,g,s _ _ q1,q2,q3.mono I⟩
  |_=>exact S.elim
def OQ.snoc{ρ:Rho}{d:D}(o:OQ G A σ H ρ)(r:hQ G (bm A H) v d):OQ G A (σ++[W1 v]) H (ρ++[.fz d]):=by
 have I:∀(j:Nat) (z:Slot),(ρ++[.fz d])[j]?=W1 z->(j=ρ.length/\z=.fz d)∨(j<ρ.length/\ρ[j]?=W1 z):=λj z h=>by
  by_cases U:j<ρ.length
  .rw[kt U] at h;exact .inr ⟨U,h⟩
  .rw[ii (kP.mp U)] at h;cases q:j-ρ.length with
   |zero=>rw[q] at h;exact .inl ⟨by omega,(eJ h).symm⟩
   |succ n=>rw[q] at h;cases h
 have g:∀(j:Nat),j<ρ.length->(σ++[W1 v])[j]?=σ[j]?:=λj U=>kt (by rw[o.len];exact U);refine⟨by rw[ff,ff,o.len];rfl,o.live,λj e h=>?_,λj e h=>?_,λj k e f p Y W S L=>?_⟩
 .rcases I j _ h with ⟨U,O⟩ | ⟨U,O⟩
  .cases O;subst U;exact⟨v,by rw[ii (by rw[o.len];exact aE _),o.len,se];rfl,r⟩
  .obtain⟨u,q1,q2⟩:=o.fz j e O;exact⟨u,by rw[g j U];exact q1,q2⟩
 .rcases I j _ h with ⟨U,O⟩ | ⟨U,O⟩
  .cases O
  .obtain⟨u,q1,q2⟩:=o.ow j e O;exact⟨u,by rw[g j U];exact q1,q2⟩
 .rcases I j _ Y with ⟨_,O⟩ | ⟨U,O⟩
  .cases O
  .rcases I k _ W with ⟨_,J⟩ | ⟨T,J⟩
   .cases J
   .rw[g j U] at S;rw[g k T] at L;exact o.inj j k e f p O J S L
theorem OQ.snocs{A:List Addr}{H:Hp}:∀{vs:List V}{es:List D}{σ:St}{ρ:Rho},OQ G A σ H ρ->be G (bm A H) vs es->OQ G A (σ++vs.map W1) H (ρ++es.map .fz)
 |[],[],σ,ρ,o,_=>by simpa using o
 |[],_::_,_,_,_,r=>by have:=r.1;simp at this
 |_::_,[],_,_,_,r=>by have:=r.1;simp at this
 |v::vs,e::es,σ,ρ,o,r=>by
  obtain⟨x,g,h,d,L⟩:=r.uncons;cases h;simpa using (o.snoc d).snocs L
def Dy(g:D->Option (List D))(ρ:Rho)(ga:FT)(fe:FE):List D->Option (List D)
 |[]=>W1 []
 |d::r=>(g d).bind λes=>match ga (ρ++es.map .fz) with
  |some E3=>(fe (ρ++es.map .fz)).bind λy=>(Dy g ρ ga fe r).map (y::·)
  |some ZA=>Dy g ρ ga fe r
  |none=>E2
def Ig(g:D->Option (List D))(src:FI)(ga:FT)(fe:FE):FE:=λρ=>(src ρ).bind λds=>if ds.length<=sizeLine then (Dy g ρ ga fe ds).map .lst else E2
def bd1(d:D):Option (List D):=W1 [d]
theorem Vh(ρ:Rho)(ga:FT)(fe:FE):∀ds,I_ ρ ga fe ds=Dy bd1 ρ ga fe ds
 |[]=>rfl
 |d::r=>by
  unfold I_ Dy;rw[Vh ρ ga fe r];rfl
def Vi(src:FI)(ga:FT)(fe:FE):BZ src ga fe=Ig bd1 src ga fe:=by
 funext ρ;unfold BZ Ig;congr 1;funext ds;rw[Vh]
def Bnd(G:Gx)(N n:Nat)(J:D->Option (List D))(g:TG):Prop:=∀(A:List Addr) (z I:St) (H:Hp) (x:V) (d:D) (es:List D) (Q:St->Hp->Prop),z.length=N->I.length=n->J d=W1 es->hQ G (bm A H) x d->(∀vs,vs.length=n->be G (bm A H) vs es->Q (z++vs.map W1) H)->g x (z++I) H Q
def bnd1{N:Nat}:Bnd G N 1 bd1 (Em N):=λA g J H x d L Q Y I e r k=>by
 cases e;obtain⟨o,rfl⟩:=IG.mp I;have z:(g++[o]).set N (W1 x)=g++[W1 x]:=by rw[<-Y,AE _ _ (aE _),se];rfl
 show Q ((g++[o]).set N (W1 x)) H;rw[z];exact k [x] rfl (.cons r .nil)
def tN(G:Gx)(A:List Addr)(f:FE):TE:=λz H Q=>∃ρ d,OQ G A z H ρ/\f ρ=W1 d/\∀p g,ab H g->H p=E2->MY G (p::A) g p d->Q (.ref p) g
def dm{N:Nat}{bd:D->Option (List D)}{g:TG}(hX:X.N.length=N)(hB:Bnd G N n bd g){A:List Addr}{W:St}{H:Hp}{Q:VK}(h:tN G A (Ig bd src ga fe) W H Q):XF n (q_ X (tI G A E3 src)) g (λW H Q=>∃A,tFT G A ga W H Q) (λW H Q=>∃A,tF G A fe W H Q) W H Q:=by
 obtain⟨ρ,d,o,e,k⟩:=h;unfold Ig at e;cases e1:src ρ with
 |none=>simp[e1] at e
 |some I=>
  rw[e1] at e;have e':(if I.length<=sizeLine then (Dy bd ρ ga fe I).map D.lst else E2)=W1 d:=e;split at e'
  .rename_i hz;cases e2:Dy bd ρ ga fe I with
   |none=>simp[e2] at e'
   |some O0=>
    simp only[e2,i7] at e';cases e';refine⟨λJ H1=>ab H H1/\Src G J I H1 (bm A H1),⟨ρ,I,o,e1,λJ H1 s1 sr=>⟨s1,sr⟩⟩,λJ H1 X0 q0 p hp=>?_⟩;obtain⟨s1,sr⟩:=q0;have o1:=o.mono s1;refine⟨λi m ys U=>m=I.length-i/\i<=I.length/\U p=W1 (.lst ys)/\ab H1 U/\ys.length<=i/\∃es gq,be G (bm (p::A) U) ys es/\Dy bd ρ ga fe (I.drop i)=W1 gq/\es++gq=O0,
     ⟨I.length,by simp,eA _,Ag,Ak hp _,aE _,[],O0,be.nil,by simpa using e2,rfl⟩,?_⟩
    rintro i m ys U ⟨rfl,U1,O,T,hy,es,gq,rr,L,eo⟩
    by_cases S:i<I.length
    .right;have hd:I[i]?=W1 I[i]:=by simp[S]
     have ed:I.drop i=I[i]::I.drop (i+1):=sh S;rw[ed] at L;unfold Dy at L;refine⟨sr.go i U T S,λx H' y os ho=>?_⟩;obtain⟨sy,rx⟩:=sr.yld i U x H' _ T hd y;have S0:OQ G (p::A) W U ρ:=o1.fill T hp (by rw[O];exact Nt.lst);have sm:ab (bm A H1) (bm (p::A) U):=λb u h=>by
      unfold bm at h;split at h
      .cases h
      .rename_i hb;rw[Ax]
       .exact T b u h
       .intro z
        rcases bP.mp z with z | z
        .rw[z,hp] at h;cases h
        .exact hb z
     cases N0:bd I[i] with
     |none=>simp[N0] at L
     |some bs=>
     simp only[N0,eI] at L;refine hB (p::A) W os H' x I[i] bs _ (X0.trans hX) ho N0 (rx _ S0.live sm) λvs P1 N1=>⟨⟨_,rfl,by rw[aw];exact P1⟩,?_⟩;have T0:=(S0.mono sy).snocs N1;have O:=sy _ _ O;have rr:=rr.mono (Ay sy);have T:=T.trans sy;cases eg:ga (ρ++bs.map .fz) with
     |none=>simp[eg] at L
     |some b=>
      refine⟨p::A,_,b,T0,eg,λH2 Y=>?_⟩;cases b with
      |false=>
       refine YI ⟨I.length-(i+1),by omega,rfl,S,Y _ _ O,T.trans Y,AF hy,es,gq,rr.mono (Ay Y),by simpa [eg] using L,eo⟩
      |true=>
       simp only[eg] at L;cases ee:fe (ρ++bs.map .fz) with
       |none=>simp[ee] at L
       |some yd=>
        cases ec:Dy bd ρ ga fe (I.drop (i+1)) with
        |none=>simp[ee,ec] at L
        |some Z=>
         simp only[ee,ec,eI,i7] at L;cases L;refine iteT ⟨p::A,_,yd,T0.mono Y,ee,λyv H3 s3 r3=>?_⟩;have S1:=s3 _ _ (Y _ _ O);refine⟨S1,by omega,I.length-(i+1),by omega,rfl,S,Ag,λb u q=>?_,by rw[ff];simp;omega,es++[yd],Z,?_,ec,by rw[AG];exact eo⟩
         .have hb:b≠p:=C_ q hp;rw[Ai hb];exact s3 _ _ (Y _ _ (T _ _ q))
         .rw[De dn];exact (rr.mono (Ay (Y.trans s3))).append (.cons r3 .nil)
    .left;have ei:i=I.length:=by omega
     subst ei;rw[xt] at L;simp only[Dy] at L;cases L;rw[g9] at eo;subst eo;exact⟨sr.stop _ U T (aE _),k p U (s1.trans T) (s1.free hp) ⟨ys,O,rr⟩⟩
  .cases e'
def yQ{J:D->Option (List D)}{Q:VK}(h:tF G A (Ig J src ga fe) σ H Q):tN G A (Ig J src ga fe) σ H Q:=by
 obtain⟨I,d,o,e,k⟩:=h;have O:=e;unfold Ig at O;cases T:src I with
 |none=>simp[T] at O
 |some L=>
  rw[T] at O;have g:(if L.length<=sizeLine then (Dy J I ga fe L).map D.lst else E2)=W1 d:=O;split at g
  .cases S:Dy J I ga fe L with
   |none=>rw[S] at g;cases g
   |some W=>
    rw[S] at g;cases g;refine⟨I,_,o,e,λp H' U Y ⟨xs,h1,h2⟩=>k _ H' U ?_⟩;have q:=h2.mono (CJ (A:=A) λa Z=>cE _ Z);exact .lst (.of (by rw[Ax (λz=>(o.live p z).ne Y)];exact h1)) q.1 q.2
  .cases g
section
variable {bd:D->Option (List D)}{g:TG}{ts:List Str}
def Q0(J:List Str)(Z:Bg ts X.N++ts=J)(c:nj X scope ts)(O:X.calm=E3)(hi:RI X G E3 tg iter src)(W:∀S d fp,PG (Bj X scope J S d fp) tg g)(Y:Bnd G X.N.length ts.length bd g)(T:∀S d fp,PFTs (Bj X scope J S d fp) G ifs ga)(U:∀S d fp,PF (Bj X scope J S d fp) G elt fe)(hs:∀x,kH iter X.env x=pure x:=by intro _;rfl)(A:List Addr):PE X (.ListComp elt [⟨tg,iter,ifs,0⟩] scope pos) (tN G A (Ig bd src ga fe)):=by
 subst Z;refine Bp (dH (tc:=λz H Q=>∃A,tFT G A ga z H Q) (te:=λz H Q=>∃A,tF G A fe z H Q) c O (m6 (@hi A)) W (λS d fp=>?_) (λS d fp=>?_) hs) λ_ _ _ h=>dm rfl Y h
 .rintro L s z H Q I ⟨A,q⟩;exact T S d fp L s z H Q I q
 .rintro L s z H Q I ⟨A,q⟩;exact U S d fp L s z H Q I q
end
def du{J:List Str}(Z:Dd t X.N++[t]=J)(c:Lh X scope t)(S:ah)(d:Hp)(fp:List Addr):PG (Bj X scope J S d fp) (.Name t px) (Em X.N.length):=by
 subst Z;exact gOne c S d fp
def DY(J:List Str)(Z:Dd t X.N++[t]=J)(c:Lh X scope t)(I:X.calm=E3)(z:RI X G E3 (.Name t px) iter src)(T:∀S d fp,PFTs { Qp X scope t S d fp with N:=J } G ifs ga)(U:∀S d fp,PF { Qp X scope t S d fp with N:=J } G elt fe)(hs:∀x,kH iter X.env x=pure x:=by intro _;rfl):PF X G (.ListComp elt [⟨.Name t px,iter,ifs,0⟩] scope pos) (BZ src ga fe):=λA=>by
 rw[Vi];exact Bp (Q0 J Z c I z (du Z c) bnd1 T U hs A) λ_ _ _ h=>yQ h
end
section
variable {A:aS}{R:nL->ah->Prop}{I:Addr}{wr:List Addr}{P:Nat->ac->Prop}{Sx:Nat->Heap->Prop}
def mmL:String->pd->de:=by
 apply (λ(f:String->pd->de) (_:f "max" .Gt=de.«max.loop»)=>f);delta de.«max.loop»;exact rfl
def mmB:String->de:=by
 apply (λ(f:String->de) (_:f "max"=IH)=>f);delta IH;exact rfl
structure Mm where
 nm:String
 lp:String
 op:pd
 gt:Int->Int->Bool
 N:(Nat->Int)->Nat->Int
 nl:(toString nm++toString ".loop":String)=lp
 pl:plainId lp=E3
 el:xv table lp=W1 (mmL nm op)
 ki:builtinKind nm=E2
 pb:plainId nm=E3
 eb:xv table nm=W1 (mmB nm)
 ar:∀a v:ac,og nm ⟨[a],[(eB "default",v)]⟩
 cm:∀{prog:d3}{w:ca}{A:aS}{P:Nat->ac->Prop}(val:Nat->Int),(∀i v,P i v->∃t,v=kU (val i) t)->CmpOf prog w A op P λi j=>gt (val i) (val j)
 best:∀(val:Nat->Int) (k:Nat),val (ip (λi j=>gt (val i) (val j)) k)=N val k
 cong:∀{f g:Nat->Int}{k:Nat},(∀i,i<=k->f i=g i)->N f k=N g k
def mmD(m:Mm)(x y:D):Option D:=match x with
 |.lst ds=>(Ey ds).map λns=>if ns=[] then y else .int (m.N (λi=>ns.getD i 0) (ns.length-1))
 |_=>E2
def nY(m:Mm)(W:mP prog w A.in1 I fp wr n P Sx)(bt:Nat->Nat->Bool)(O0:CmpOf prog w A.in1 m.op P bt)(S:Addr)(nS:S∉fp):
  ∀(k j:Nat) (s:ah) (G:ac) (c:Nat),k=n-(j+1)->j+1<=n->Sx (j+1) s.heap->P (ip bt j) G->s.heap.get? S=W1 { cls:=.type "list",dict:=E2,data:=.seq #[G,G] c,slots:=#[] } ->
  (∀v h' tk,P (ip bt (n-1)) v->(∀b o,b∉wr->b≠S->s.heap.get? b=W1 o->h'.get? b=W1 o)->R (.ok (.ret v)) { s with heap:=h',toks:=tk })->fA (ai prog w) A (.builtin m.lp ⟨[.ref I,.none,.ref S],kw⟩) R s:=by
 have nW:S∉wr:=λh=>nS (W.sub _ h);intro k
 induction k with
 |zero=>
  intro j s G c hk hj T hb hS hR;have en:j+1=n:=by omega
  refine ia m.el (by
   rw[ly m.pl _];show ag _ A.in1 (xw (.ref S) >>= _) _ _ s;refine ae (nv hS rfl ?_);show ag _ A.in1 (tryCatch (gg (.ref I)) _ >>= _) _ _ s;refine ae (xy (W.done s _ _ (by rw[<-en];exact T) λh1 tk Z=>?_));have g:=Z S _ nW hS;show ag _ A.in1 (AH S (λ_=>#[]) >>= _) _ _ _;refine ae (xB g rfl (ae (xC (av ?_))));exact hR G _ tk (by rw[<-en];exact hb) λb o L d e=>(kN _ _ (cq d)).trans (Z b o L e))
 |succ k ih=>
  intro j s G c hk hj T hb hS hR;have U:j+1<n:=by omega
  refine ia m.el (by
   rw[ly m.pl _];show ag _ A.in1 (xw (.ref S) >>= _) _ _ s;refine ae (nv hS rfl ?_);show ag _ A.in1 (tryCatch (gg (.ref I)) _ >>= _) _ _ s;refine ae (xy (W.item (j+1) s _ _ U T λv h1 tk hP N0 Z=>?_));have g:=Z S _ nW hS;show ag _ A.in1 (tryCatch (li [v,v] (richCompare m.op v G >>= _)) _ >>= _) _ _ _;refine ae (xy (wpAny_holding (ae (O0 (j+1) (ip bt j) v G _ _ _ hP hb ?_))));refine ae (wpAny_holding (jS (ae (xC (av ?_)))));cases q:bt (j+1) (ip bt j) with
   |true=>
    simp only[WG];refine ae (xB g rfl (ae (xC ?_)));rw[m.nl];refine av ⟨kQ m.pl _,ih (j+1) _ v _ (by omega) U (W.frame _ _ _ N0 λb S0 o e=>(kN _ _ (λz:S=b=>nS (by rw[z];exact S0))).trans e) (by simp only[ip,q,WG];exact hP) (mS _ g rfl)
     λv2 h2 J Y O=>hR v2 h2 J Y λb o L d e=>O b o L d ((kN _ _ (cq d)).trans (Z b o L e))⟩
   |false=>
    simp only[dP,XG];refine ae (xC ?_);rw[m.nl];exact av ⟨kQ m.pl _,ih (j+1) _ G c (by omega) U N0 (by simp only[ip,q,dP,XG];exact hb) g λv2 h2 J Y O=>hR v2 h2 J Y λb o L d e=>O b o L d (Z b o L e)⟩)
def dw(m:Mm)(W:mP prog w A.in1 I fp wr n P Sx)(bt:Nat->Nat->Bool)(G:CmpOf prog w A.in1 m.op P bt)(S:Addr)(U:S∉fp){s:ah}{c:Nat}{nm:Str}{dv:ac}(g:Sx 0 s.heap)(hS:s.heap.get? S=W1 { cls:=.type "list",dict:=E2,data:=.seq #[] c,slots:=#[] })(hR:0<n->∀v h' tk,P (ip bt (n-1)) v->(∀b o,b∉wr->b≠S->s.heap.get? b=W1 o->h'.get? b=W1 o)->R (.ok (.ret v)) { s with heap:=h',toks:=tk })(h0:n=0->∀h' tk,(∀b o,b∉wr->s.heap.get? b=W1 o->h'.get? b=W1 o)->R (.ok (.ret dv)) { s with heap:=h',toks:=tk }):
  fA (ai prog w) A (.builtin m.lp ⟨[.ref I,.none,.ref S],[(nm,dv)]⟩) R s:=by
 have nW:S∉wr:=λh=>U (W.sub _ h);refine ia m.el (by
  rw[ly m.pl _];show ag _ A.in1 (xw (.ref S) >>= _) _ _ s;refine ae (nv hS rfl ?_);show ag _ A.in1 (tryCatch (gg (.ref I)) _ >>= _) _ _ s
  by_cases Z:0<n
  .refine ae (xy (W.item 0 s _ _ Z g λv h1 tk hP T L=>?_));have J:=L S _ nW hS;show ag _ A.in1 (AH S (λ_=>#[v,v]) >>= _) _ _ _;refine ae (xB J rfl ?_);rw[m.nl];exact av ⟨kQ m.pl _,nY m W bt G S U _ 0 _ v _ rfl Z (W.frame _ _ _ T λb N0 o e=>(kN _ _ (λz:S=b=>U (by rw[z];exact N0))).trans e) hP (mS _ J rfl)
    λv2 h2 O O0 Y=>hR Z v2 h2 O O0 λb o nb d e=>Y b o nb d ((kN _ _ (cq d)).trans (L b o nb e))⟩
  .have en:n=0:=by omega
   refine ae (xy (W.done s _ _ (by rw[en];exact g) λh1 tk L=>?_));exact ae (rb (av (h0 en h1 tk L))))
end
section
variable {A:aS}{l:Addr}{xs:Array (Int×Tok)}
def d7(m:Mm){Q:ac->ah->Prop}{G:ac}(S:A.handled=E2)(Z:s.heap.IsList l (gv xs))(h1:0<xs.size->∀v h' tk,(gv xs)[ip (λi j=>m.gt (jI xs i) (jI xs j)) (xs.size-1)]?=W1 v->(∀b o,s.heap.get? b=W1 o->h'.get? b=W1 o)->Q v { s with heap:=h',toks:=tk })(h0:xs.size=0->∀h' tk,(∀b o,s.heap.get? b=W1 o->h'.get? b=W1 o)->Q G { s with heap:=h',toks:=tk }):
  ag (ai prog w) A (call (.builtin m.nm) [.ref l] [(eB "default",G)]) Q E s:=by
 refine PyProof.Rows.kmk_tree m.ki m.pb m.eb (m.ar _ _) ?_;show ag _ A.in1 (II m.nm ["key","default"] 0 ⟨[],[(eB "default",G)]⟩ >>= _) _ _ s;refine ae (AI (show II m.nm ["key","default"] 0 ⟨[],[(eB "default",G)]⟩=pure [E2,W1 G] from rfl) (ae (av ?_)));refine ae (iter_intList Z λs2 e U L d=>?_);subst e;refine ae (kL ?_);have Y:(s.heap.push { cls:=.type "list_iterator",data:=.fields #[.ref l,.int 0 0] }).objs.size∉[s.heap.objs.size,l]:=λg=>iE _ (L _ g);have W:mP prog w A.in1.in1 s.heap.objs.size [s.heap.objs.size,l] [s.heap.objs.size] (gv xs).size (λi v=>(gv xs)[i]?=W1 v) (λi h=>h.IsListIter s.heap.objs.size l i/\h.IsList l (gv xs)):=AJ (A:=A.in1.in1) S _ l d (gv xs);have T:mP prog w A.in1 s.heap.objs.size [s.heap.objs.size,l] [s.heap.objs.size] (gv xs).size (λi v=>(gv xs)[i]?=W1 v) (λi h=>h.IsListIter s.heap.objs.size l i/\h.IsList l (gv xs)):=AJ (A:=A.in1) S _ l d (gv xs);have sz:(gv xs).size=xs.size:=by simp[gv]
 have O:∀b o,s.heap.get? b=W1 o->((s.heap.push { cls:=.type "list_iterator",data:=.fields #[.ref l,.int 0 0] }).push { cls:=.type "list",data:=.seq ([]:List ac).toArray }).get? b=W1 o:=λb o e=>bg _ (bg _ e);rw[m.nl];refine av ⟨kQ m.pl _,dw m T (λi j=>m.gt (jI xs i) (jI xs j)) (m.cm (jI xs) (λ_ _=>DV)) _ Y (T.frame 0 _ _ U λb hb o e=>bg _ e) (cp _ rfl) (λJ v h' tk hP I=>?_) (λJ h' tk I=>?_)⟩
 .refine h1 (by rw[<-sz];exact J) v h' tk (by rw[sz] at hP;exact hP) λb o e=>I b o ?_ ?_ (O b o e)
  .intro g;exact SF (bv e) (by rw[fR.mp g];exact iE _)
  .intro z;have q:b<s.heap.objs.size:=bv e;rw[gi] at z;exact SF (z▸q) (kP.mpr (kr _))
 .refine h0 (by rw[<-sz];exact J) h' tk λb o e=>I b o ?_ (O b o e);intro g;exact SF (bv e) (by rw[fR.mp g];exact iE _)
end
theorem Lj(d:Nat->Nat->Bool):∀k,ip d k<=k
 |0=>aE _
 |k+1=>by
  unfold ip;split
  .exact aE _
  .exact AF (Lj d k)
theorem Pm{G:Gx}{H:Hp}:∀{ds:List D}{xs:List V}{ns:List Int},be G H xs ds->Ey ds=W1 ns->xs=ns.map V.int
 |[],xs,ns,r,h=>by cases h;rw[r.nil_inv];rfl
 |d::ds,xs,ns,r,h=>by
  obtain⟨x,z,rfl,g,L⟩:=r.uncons;cases d with
  |int i=>
   simp only[Ey] at h;cases e:Ey ds with
   |none=>simp[e] at h
   |some I=>
    simp only[e,i7] at h;cases h;cases g;rw[Pm L e];rfl
  |_=>simp[Ey] at h
def Vj:∀{us:List ac},cc (ns.map V.int) us->∃xs:Array (Int×Tok),us.toArray=gv xs/\xs.size=ns.length/\∀i,i<ns.length->jI xs i=ns.getD i 0:=by
 induction ns with
 |nil=>intro us r;cases r;exact⟨#[],by simp[gv],rfl,λi h=>by simp at h⟩
 |cons n ns g=>
  intro us r;rw[bn] at r;cases r with
  |cons G L=>
   obtain⟨tk,rfl⟩:=G;obtain⟨xs,O,J,I⟩:=g L;refine⟨⟨(n,tk)::xs.toList⟩,?_,by simp[J],λi z=>?_⟩
   .have d:=NG Cc O;simp only[gv,Array.toList_map] at d;simp only[gv];apply AK.mp;simp[d]
   .cases i with
    |zero=>simp[jI]
    |succ i=>
     have:=I i (by simpa using z);simp only[jI] at this ⊢;simpa using this
def rMm(m:Mm)(K:aI):V->V->Hp->VK->Prop:=λx y H Q=>∃p ns,x=.ref p/\MR K H p (ns.map V.int)/\Q (if ns=[] then y else .int (m.N (λi=>ns.getD i 0) (ns.length-1))) H
section
variable {G:Gx}{a b:Expr}{fa fb:FE}{p kpos:Pos}
def vG(m:Mm)(hc:X.calm=E3){U:NI}{s:ah}{T:St}{H:Hp}{x y:V}{v u:ac}{Q:VK}(I:Inv X U T H s)(rx:cx x v)(Y:cx y u)(h:rMm m X.K x y H Q):
  ag (ai X.prog X.w) X.A (call (.builtin m.nm) [v] [(eB "default",u)]) (EP X U T Q) X.xe s:=by
 obtain⟨q,L,rfl,hs,k⟩:=h;cases rx;obtain⟨N0,Z,pl,hz⟩:=I.list hs;obtain⟨g,e1,d,e3⟩:=Vj Z;have hl:s.heap.IsList q (gv g):=by rw[<-e1];exact pl.isList
 refine d7 m (I.ok.hd hc) hl (λS w h' tk hP O=>?_) (λS h' tk O=>?_)
 .have J:L≠[]:=λz=>by rw[z] at d;exact SF S (by rw[d];exact iE _)
  rw[RF J] at k;obtain⟨t,rfl⟩:=DV hP;refine⟨.int _,H,I.kept O,⟨t,?_⟩,k⟩;have O0:=Lj (λi j=>m.gt (jI g i) (jI g j)) (g.size-1);have q:=m.best (jI g) (g.size-1);rw[q,d];congr 1;have W:0<L.length:=DZ.mpr J;exact m.cong λi hi=>e3 i (by omega)
 .have J:L=[]:=by
   rw[S] at d;exact qf.mp d.symm
  rw[OF J] at k;exact⟨y,H,I.kept O,Y,k⟩
def rF(m:Mm){x:Str}(hc:X.calm=E3)(hG:G.K=X.K)(hg:Gl X x)(hm:X.mg x=E2)(hv:d6 x=W1 (.builtin m.nm))(ha:PU X G a fa)(hb:PF X G b fb)(hn:x≠"__name__":=by decide)(N0:(x==("__debug__":Str))=ZA:=by decide)(he:ay [a] X.env=[(ZA,eval a X.env)]:=by rfl)(hk:iL [⟨W1 (eB "default"),b,kpos⟩] X.env=[(W1 (eB "default"),eval b X.env)]:=by rfl):
  PF X G (.Call (.Name x p) [a] [⟨W1 (eB "default"),b,kpos⟩] pos) (bF (mmD m) fa fb):=λA π s σ H Q I h=>by
 obtain⟨ρ,d,o,e,k⟩:=h;obtain⟨dx,dy,e1,e2,g⟩:=Tv e;refine wm (N6 I hg hm hv ?_ hn N0);have hA:=BW (X:=X) (@ha A) Cp he pos π s σ H (λS J=>∃v,S=[v]/\ab H J/\nk G A J v dx) I ⟨ρ,dx,o,e1,λv J T Z=>⟨v,rfl,T,Z⟩⟩;refine callWith_kw (mr hA λus T q0=>?_) (by rw[he];rfl) (by rw[he];rfl) (by rw[hk];rfl) (by rw[hk];rfl);obtain⟨S,J,I1,rv,v,ev,O,Z⟩:=q0;subst ev;have hK:=mQ (X:=X) (nm:=W1 (eB "default")) (kpos:=kpos) (@hb A) ug pos π T σ J (λS z=>∃v,S=[v]/\ab J z/\hQ G (bm A z) v dy) I1 ⟨ρ,dy,o.mono O,e2,λv z s2 Y=>⟨v,rfl,s2,Y⟩⟩;refine mr hK λks s2 q9=>?_;obtain⟨ws,z,I2,U,y,ey,L,Y⟩:=q9;subst ey;obtain⟨u,rfl,ru⟩:=NJ rv;obtain⟨u2,rfl,W⟩:=NJ U;rw[hk];have s0:=O.trans L;unfold mmD at g;cases dx with
 |lst ds=>
  simp only at g;cases ei:Ey ds with
  |none=>simp[ei] at g
  |some ns=>
   simp only[ei,i7] at g;obtain⟨q,xs,rfl,h1,rr⟩:=(Z.mono L).lst;have ex:=Pm rr ei;subst ex;refine vG m hc I2 ru W ⟨q,ns,rfl,by rw[<-hG];exact h1,?_⟩
   by_cases nn:ns=[]
   .rw[OF nn] at g ⊢;cases g;exact k _ z s0 Y
   .rw[RF nn] at g ⊢;cases g;exact k _ z s0 (.int _)
 |_=>cases g
def au(a v:ac):og "max" ⟨[a],[(eB "default",v)]⟩:=by unfold og;kernel_rfl
theorem Vk(val:Nat->Int):∀k,val (ip (λi j=>decide (val i > val j)) k)=XW val k
 |0=>rfl
 |k+1=>by
  have d:=Vk val k;unfold ip XW
  by_cases h:val (k+1) > XW val k
  .rw[OF (by rw[d];exact MG h),OF h]
  .rw[RF (by rw[d];simpa using h),RF h];exact d
theorem SN{f g:Nat->Int}:∀{k:Nat},(∀i,i<=k->f i=g i)->XW f k=XW g k
 |0,h=>h 0 (aE _)
 |k+1,h=>by
  unfold XW;rw[h (k+1) (aE _),SN λi z=>h i (AF z)]
def mMax:Mm:=⟨"max","max.loop",.Gt,λi j=>decide (i > j),XW,by decide,PySem.F.plain_max_loop,PySem.F.entry_max_loop,PySem.F.kind_max,PySem.F.plain_max,PySem.F.entry_max,au,CmpOf.ints_gt,Vk,SN⟩
def nZ(O:X.calm=E3)(W:G.K=X.K)(U:Gl X x)(I:X.mg x=E2)(d:d6 x=W1 (.builtin "max"))(T:PU X G a fa)(S:PF X G b fb)(z:x≠"__name__":=by decide)(g:(x==("__debug__":Str))=ZA:=by decide)(L:ay [a] X.env=[(ZA,eval a X.env)]:=by rfl)(J:iL [⟨W1 (eB "default"),b,kpos⟩] X.env=[(W1 (eB "default"),eval b X.env)]:=by rfl):
  PF X G (.Call (.Name x p) [a] [⟨W1 (eB "default"),b,kpos⟩] pos) (bF YW fa fb):=rF mMax O W U I d T S z g L J
theorem Vl{H:Hp}:∀{ds:List D}{xs:List V}{ns:List Str},be G H xs ds->K9 ds=W1 ns->xs=ns.map V.str
 |[],xs,ns,r,h=>by cases h;rw[r.nil_inv];rfl
 |d::ds,xs,ns,r,h=>by
  obtain⟨x,z,rfl,g,L⟩:=r.uncons;cases d with
  |str i=>
   simp only[K9] at h;cases e:K9 ds with
   |none=>simp[e] at h
   |some I=>
    simp only[e,i7] at h;cases h;cases g;rw[Vl L e];rfl
  |_=>simp[K9] at h
def ni(K:aI)(n T:String):sM K (.type n) (.type T)=sM [] (.type n) (.type T):=rfl
def TyX(K:aI)(H:Hp)(x:V)(n:String):Prop:=
 QN K H x (.type n)∨(n="list"/\∃a xs,x=.ref a/\MR K H a xs)∨(n="tuple"/\∃a xs,x=.ref a/\Nn K H a xs)
def vH{d:D}{n:String}(r:nk G A H v d)(h:tyD d=W1 n):TyX G.K H v n:=by
 cases d with
 |non=>cases h;rw[r.non];exact .inl .non
 |bl b=>cases h;rw[r.bl];exact .inl (.bl b)
 |int b=>cases h;rw[r.int];exact .inl (.int b)
 |str b=>cases h;rw[r.str];exact .inl (.str b)
 |lst z=>cases h;obtain⟨a,g,e,q,_⟩:=r.lst;exact .inr (.inl ⟨rfl,a,g,e,q⟩)
 |tup z=>cases h;obtain⟨a,g,e,q,_⟩:=r.tup;exact .inr (.inr ⟨rfl,a,g,e,q⟩)
 |_=>cases h
def d9(T:String):CN X (.builtin "isinstance") (λxs H Q=>∃x n b,xs=[x,.ty T]/\TyX X.K H x n/\sM X.K (.type n) (.type T)=W1 b/\Q (.bl b) H):=by
 intro W s U H xs Y Q I r h;obtain⟨x,n,b,rfl,ty,e,k⟩:=h;obtain⟨u,c,rfl,g,S⟩:=vals2 r;cases S
 rcases ty with ty | ⟨rfl,a,O,rfl,q⟩ | ⟨rfl,a,O,rfl,q⟩
 .exact aV I g ty e λtk=>⟨.bl b,H,I.tok _,rfl,k⟩
 .cases g;obtain⟨d,_,p,_⟩:=I.list q;obtain⟨o,J,L,_⟩:=p.isList;exact kq CL I.kIn ⟨o,J,L⟩ e (λz=>nomatch z) λtk=>⟨.bl b,H,I.tok _,rfl,k⟩
 .cases g;obtain⟨d,_,p,_⟩:=I.tuple q;obtain⟨o,J,L,_⟩:=(show s.heap.IsTuple a d.toArray from p);exact kq GE I.kIn ⟨o,J,L⟩ e (λz=>nomatch z) λtk=>⟨.bl b,H,I.tok _,rfl,k⟩
def Oe(T:String):Bool:=(["NoneType","bool","int","str","list","tuple"]:List String).all λn=>sM [] (.type n) (.type T)==W1 (n==T||(n=="bool"&&T=="int"))
def az{T:String}(h:Oe T=E3){d:D}{n:String}(e:tyD d=W1 n):sM [] (.type n) (.type T)=W1 (n==T||(n=="bool"&&T=="int")):=by
 unfold Oe at h;rw[dL] at h;have m:n∈(["NoneType","bool","int","str","list","tuple"]:List String):=by
  cases d<;>simp[tyD] at e<;>subst e<;>simp
 simpa using h n m
def T7{t:Str}{T:String}(hT:Oe T=E3)(hG:G.K=X.K)(hg:Gl X x)(hm:X.mg x=E2)(hv:d6 x=W1 (.builtin "isinstance"))(ht:Gl X t)(O:X.mg t=E2)(J:d6 t=W1 (.type T))(ha:PU X G a fa)(hn:x≠"__name__":=by decide)(U:(x==("__debug__":Str))=ZA:=by decide)(L:t≠"__name__":=by decide)(S:(t==("__debug__":Str))=ZA:=by decide)(W:ay [a,.Name t tp] X.env=(ZA,eval a X.env)::ay [.Name t tp] X.env:=by rfl)(g:ay [.Name t tp] X.env=[(ZA,eval (.Name t tp) X.env)]:=by rfl):
  PF X G (.Call (.Name x p) [a,.Name t tp] [] pos) (uF (So T) fa):=λA=>Bp (Iw (d9 T) hg hm hv (BW (@ha A) (BW (mF (v:=.ty T) ht O J rfl L S) Cp g) W) hn U W (by rw[g];rfl))<|by
 rintro σ H Q ⟨Y,d,o,e,k⟩
 obtain⟨dx,e1,I⟩:=Ht e;unfold So at I;cases z:tyD dx with
 |none=>simp[z] at I
 |some n=>
  simp only[z,i7] at I;cases I;exact⟨Y,dx,o,e1,λv H1 Z r1=>⟨v,n,_,rfl,by rw[<-hG];exact vH r1 z,by rw[ni];exact az hT z,k _ H1 Z (.bl _)⟩⟩
def nu:Oe "int"=E3:=by decide +kernel
def d_:Oe "bool"=E3:=by decide +kernel
def Vm:Oe "list"=E3:=by decide +kernel
end
def J0:d6 "len"=W1 (.builtin "len"):=by decide +kernel
def eE:d6 "max"=W1 (.builtin "max"):=by decide +kernel
def XR:d6 "min"=W1 (.builtin "min"):=by decide +kernel
def GR:d6 "isinstance"=W1 (.builtin "isinstance"):=by decide +kernel
def Es:d6 "sorted"=W1 (.builtin "sorted"):=by decide +kernel
def XS:d6 "int"=W1 (.type "int"):=by decide +kernel
def n6:d6 "bool"=W1 (.type "bool"):=by decide +kernel
def QJ:d6 "list"=W1 (.type "list"):=by decide +kernel
def eF:d6 "set"=W1 (.type "set"):=by decide +kernel
def Ms(N:List Str)(sc d:la)(ts:List Str):Bool:=
 d.names.all (λy=>y.2 != .cell)&&d.kind==.function&&d.names.all (λy=>y.2 != .local ||d.names.lookup y.1==W1 .local)&&ts.all (λt=>d.names.lookup t==W1 .local)
  && d.names.all (λy=>y.2 != .local ||ts.contains y.1||!N.contains y.1)&&d.names.all (λy=>y.2 != .free ||sc.names.lookup y.1==W1 .cell ||sc.names.lookup y.1==W1 .free)&&d.names.all (λy=>y.1 != nV)&&decide ts.Nodup&&ts.all (λt=>t != nV)
def n8{ts:List Str}(g:ts.Nodup){t:Str}(O:t∈ts)(G:t≠nV):Uq (Bg ts N++ts) t:=by
 have d:∀i:Nat,(Bg ts N)[i]?≠W1 t:=λi e=>by
  unfold Bg at e;rw[cb] at e;cases q:N[i]? with
  |none=>rw[q] at e;cases e
  |some y=>
   rw[q] at e;have e:(if y∈ts then nV else y)=t:=eJ e;split at e
   .exact G e.symm
   .rename_i z;exact z (e▸O)
 have big:∀i:Nat,(Bg ts N++ts)[i]?=W1 t->(Bg ts N).length<=i/\ts[i-(Bg ts N).length]?=W1 t:=λi e=>by
  rcases qh i (Bg ts N).length with z | z
  .rw[kt z] at e;exact SF e (d i)
  .rw[ii z] at e;exact⟨z,e⟩
 intro i j a b;obtain⟨J,I⟩:=big i a;obtain⟨b1,b2⟩:=big j b;have:=Ma g I b2;omega
def Q3{ts:List Str}(d:X.N=N)(hs:X.env.scope=sc)(h:Ms N sc scope ts=E3):nj X scope ts:=by
 unfold Ms at h;simp only[fh,dL,hH,SG,bne_iff_ne,IJ,ne_eq] at h;obtain⟨⟨⟨⟨⟨⟨⟨⟨Z,Y⟩,W⟩,U⟩,T⟩,S⟩,L⟩,J⟩,G⟩:=h;refine⟨Z,Y,λy g e=>?_,U,λy g e=>?_,λy g e=>?_,L,λt O=>n8 J O (G t O)⟩
 .rcases W y g with z | z
  .exact SF e z
  .exact z
 .rcases T y g with (z | z) | z
  .exact SF e z
  .exact .inl (by simpa using z)
  .right;rw[d];simpa using z
 .have I:∀x,X.env.kindOf x=sc.names.lookup x:=λx=>by rw[<-hs];rfl
  rw[I]
  rcases S y g with (z | z) | z
  .exact SF e z
  .exact .inl z
  .exact .inr z
abbrev Yd (N:List Str) (sc scope:la) (t:Str):Bool:=Ms N sc scope [t]
def a_{t:Str}(I:X.N=N)(hs:X.env.scope=sc)(h:Yd N sc scope t=E3):Lh X scope t:=Q3 I hs h
def n_{K:aI}{base:Heap}{G:Gx}{k:Nat}{f:Addr}:im P w K mg base CX0 k f fd ps (Na G λ_=>E2):=by
 have z:∀d H Q E,¬ Na G (λ_=>E2) d H Q E:=(by rintro d H Q E ⟨_,_,_,_,_,e,_⟩;exact nomatch e);exact⟨λd H Q E h=>SF h (z d H Q E),λA g s H I J d Q E _ _ _ _ h=>SF h (z d H Q E)⟩
def bA{G:Gx}{g:Array ac}{xs:List Str}(h:G.K.lookup a=W1 ⟨.type "tuple",od,.seq g n,sl⟩)(hz:g.size<=sizeLine)(r:cc (xs.map V.str) g.toList):hQ G (λ_=>E2) (.ref a) (.tup (xs.map .str)):=by
 refine .tup (xs:=xs.map V.str) (.inr ⟨_,g,n,h,rfl,rfl,hz,r⟩) (by simp) λi x d I J=>?_;rw[cb] at I J;cases e:xs[i]? with
 |none=>rw[e] at I;cases I
 |some z=>rw[e] at I J;cases I;cases J;exact .str z
end PV
namespace PySem
end PySem
namespace PV
open PySem PySem.Spec L2
open PyProof.Rows hiding St
section
variable {G:Gx}{a b c:Expr}{fa:FE}{es:List Expr}{fs:FA}
def PN(X:Cx)(G:Gx)(e:Expr)(f:FE):Prop:=∀⦃A⦄,PE X e (tN G A f)
def Kl(s:ab H H')(d:H p=E2):ab (bm A H) (bm (p::A) H'):=λb u h=>by
 unfold bm at h;split at h
 .cases h
 .rename_i g;rw[Ax]
  .exact s b u h
  .intro z
   rcases bP.mp z with z | z
   .rw[z,d] at h;cases h
   .exact g z
def T8(h:TR X G es fs):PN X G (.List es pos) (ML fs):=λA=>Bp (cU (@h A))<|by
 rintro W H Q ⟨J,d,o,e,k⟩
 unfold ML at e;cases z:fs J with
 |none=>simp[z] at e
 |some I=>
  rw[z] at e;have O:(if I.length<=sizeLine then W1 (D.lst I) else E2)=W1 d:=e;split at O
  .rename_i U;cases O;exact⟨J,I,o,z,λT Y L S=>⟨by rw[S.1];exact U,λp g=>k p _ (L.trans (Ak g _)) (L.free g) ⟨T,Ag,S.mono (Kl (Ak g _) g)⟩⟩⟩
  .cases O
def MY.fill{d:D}(t:MY G A H q d)(s:ab H H')(J:H p=E2):MY G (p::A) H' q d:=by
 have z:=Kl (A:=A) s J;cases d with
 |lst I=>obtain⟨g,q1,q2⟩:=t;exact⟨g,s _ _ q1,q2.mono z⟩
 |dk I=>obtain⟨g,q1,q2,q3⟩:=t;exact⟨g,s _ _ q1,q2,q3.mono z⟩
 |dt I=>obtain⟨g,q1,q2,q3⟩:=t;exact⟨g,s _ _ q1,q2,q3.mono z⟩
 |ob c L=>obtain⟨C,dx,g,q1,q2,q3⟩:=t;exact⟨C,dx,g,s _ _ q1,q2,q3.mono z⟩
 |_=>exact t.elim
def MY.live{d:D}(t:MY G A H q d):Nt (H q):=by
 cases d with
 |lst z=>obtain⟨g,q1,q2⟩:=t;rw[q1];exact Nt.lst
 |dk z=>obtain⟨g,q1,q2,q3⟩:=t;rw[q1];exact Nt.dK
 |dt z=>obtain⟨g,q1,q2,q3⟩:=t;rw[q1];exact Nt.dT
 |ob c L=>obtain⟨C,dx,g,q1,q2,q3⟩:=t;rw[q1];exact Nt.ins
 |_=>exact t.elim
def Be{d:Type}{l:List d}{x z:d}(h:(l.set i x)[j]?=W1 z):(j=i/\z=x/\i<l.length)∨(j≠i/\l[j]?=W1 z):=by
 by_cases U:j=i
 .subst U
  by_cases Y:j<l.length
  .rw[mv Y] at h;exact .inl ⟨rfl,(eJ h).symm,Y⟩
  .rw[oe (by simpa using kP.mp Y)] at h;cases h
 .rw[hW (cq U)] at h;exact .inr ⟨U,h⟩
def NW.setW{ρ:Rho}{d:D}(w:NW G A0 He A σ H ρ)(s:ab H H')(hp:H p=E2)(t:MY G (p::A) H' p d)(i:Nat)(O0:i≠0):NW G A0 He (p::A) (σ.set i (W1 (.ref p))) H' (ρ.set i (.ow d)):=by
 have Z:=w.ok.fill (Hc:=H') s hp t.live;have W:He p=E2:=w.same.free hp;have N0:p∉A:=λz=>(w.ok.live p z).ne hp;refine⟨w.same.trans s,λa ha=>cE _ (w.sub a ha),λa ha=>?_,w.l0,⟨by rw[sg,sg];exact Z.len,Z.live,λj e h=>?_,λj e h=>?_,λj k e f q h1 L T S=>?_⟩,λj e q h1 L=>?_,λx e hx h0=>by rw[hW O0] at h0 ⊢;exact w.lt x e hx h0⟩
 .rcases bP.mp ha with z | z
  .rw[z];exact .inr W
  .exact w.fr a z
 .rcases Be h with ⟨_,O,_⟩ | ⟨U,O⟩
  .cases O
  .obtain⟨v,q1,q2⟩:=Z.fz j e O;exact⟨v,by rw[hW (cq U)];exact q1,q2⟩
 .rcases Be h with ⟨U,O,Y⟩ | ⟨U,O⟩
  .cases O;subst U;exact⟨p,by rw[mv (by rw[w.ok.len];exact Y)],dn,t⟩
  .obtain⟨v,q1,q2,q3⟩:=Z.ow j e O;exact⟨v,by rw[hW (cq U)];exact q1,q2,q3⟩
 .have no:∀(m:Nat) (g:D),ρ[m]?=W1 (.ow g)->σ[m]?=W1 (W1 (.ref q))->q≠p:=λm g a1 a2 z=>by
   obtain⟨v,b1,b2,_⟩:=w.ok.ow m g a1;rw[a2] at b1;cases b1;exact N0 (z▸b2)
  rcases Be h1 with ⟨U,_,Y⟩ | ⟨U,O⟩
  .rcases Be L with ⟨I,_,_⟩ | ⟨I,J⟩
   .rw[U,I]
   .exfalso;subst U;rw[mv (by rw[w.ok.len];exact Y)] at T;cases T;rw[hW (cq I)] at S;exact no k f J S rfl
  .rcases Be L with ⟨I,_,Y⟩ | ⟨I,J⟩
   .exfalso;subst I;rw[mv (by rw[w.ok.len];exact Y)] at S;cases S;rw[hW (cq U)] at T;exact no j e O T rfl
   .rw[hW (cq U)] at T;rw[hW (cq I)] at S;exact w.ok.inj j k e f q O J T S
 .rcases Be h1 with ⟨U,_,Y⟩ | ⟨U,O⟩
  .subst U;rw[mv (by rw[w.ok.len];exact Y)] at L;cases L;exact λz=>w.l0 p z W
  .rw[hW (cq U)] at L;exact w.ow0 j e q O L
def oA{ρ:Rho}{o:QU}{D:Sf}(g:i≠0)(w:NW G A0 He A σ H ρ)(e:setW i fa ρ=W1 o)(k:Qz G A0 He D o):Wp (tN G A fa) (Em i) D σ H:=by
 unfold setW at e;cases z:fa ρ with
 |none=>simp[z] at e
 |some d=>
  simp only[z,i7] at e;cases e;exact⟨ρ,d,w.ok,z,λp L I J t=>k _ _ ⟨p::A,w.setW I J t i g⟩⟩
def eG{p:Pos}(h:∀te,PE X a te->PS X (.Assign [.Name x p] a pos) (Wp te (Em i)))(ha:PN X G a fa)(g:i≠0:=by decide):Tb X G (.Assign [.Name x p] a pos) (setW i fa):=λO L z s d H D I ⟨J,o,⟨A,w⟩,e,k⟩=>
 h _ (@ha A) z s d H D I (oA g w e k)
def NW.wr{ρ:Rho}{J d:D}{o:HO}(w:NW G A0 He A σ H ρ)(T:ρ[i]?=W1 (.ow J))(hs:σ[i]?=W1 (W1 (.ref p)))(t:MY G A (fk H p o) p d):NW G A0 He A σ (fk H p o) (ρ.set i (.ow d)):=by
 obtain⟨q,h1,hA,_⟩:=w.ok.ow i J T;rw[hs] at h1;cases h1;have N0:He p=E2:=by
  rcases w.fr p hA with z | z
  .exact SF z (w.ow0 i J p T hs)
  .exact z
 have W:bm A (fk H p o)=bm A H:=De hA;refine⟨λb u h=>by rw[Ai (C_ h N0)];exact w.same b u h,w.sub,w.fr,w.l0,⟨by rw[sg];exact w.ok.len,λb hb=>?_,λj e h=>?_,λj e h=>?_,λj k e f q g1 g2 g3 g4=>?_⟩,λj e q g1 g2=>?_,λx e hx h0=>?_⟩
 .by_cases z:b=p
  .rw[z];exact t.live
  .rw[Ai z];exact w.ok.live b hb
 .rcases Be h with ⟨_,O,_⟩ | ⟨U,O⟩
  .cases O
  .rw[W];exact w.ok.fz j e O
 .rcases Be h with ⟨U,O,hl⟩ | ⟨U,O⟩
  .cases O;subst U;exact⟨p,hs,hA,t⟩
  .obtain⟨q,q1,q2,q3⟩:=w.ok.ow j e O;have Z:q≠p:=λz=>U (w.ok.inj j i e J p O T (z▸q1) hs);refine⟨q,q1,q2,?_⟩;cases e with
   |lst ds=>obtain⟨I,S,L⟩:=q3;exact⟨I,by rw[Ai Z];exact S,by rw[W];exact L⟩
   |dk ds=>obtain⟨I,S,L,Y⟩:=q3;exact⟨I,by rw[Ai Z];exact S,L,by rw[W];exact Y⟩
   |dt ds=>obtain⟨I,S,L,Y⟩:=q3;exact⟨I,by rw[Ai Z];exact S,L,by rw[W];exact Y⟩
   |ob c gs=>obtain⟨C,dx,I,S,L,Y⟩:=q3;exact⟨C,dx,I,by rw[Ai Z];exact S,L,by rw[W];exact Y⟩
   |_=>exact q3.elim
 .have up:∀(m:Nat) (g:D),(ρ.set i (.ow d))[m]?=W1 (.ow g)->∃g',ρ[m]?=W1 (.ow g'):=λm g z=>by
   rcases Be z with ⟨hm,_,_⟩ | ⟨_,O⟩
   .exact⟨J,by rw[hm];exact T⟩
   .exact⟨g,O⟩
  obtain⟨e',z1⟩:=up j e g1;obtain⟨f',z2⟩:=up k f g2;exact w.ok.inj j k e' f' q z1 z2 g3 g4
 .rcases Be g1 with ⟨U,_,_⟩ | ⟨U,O⟩
  .subst U;exact w.ow0 j J q T g2
  .exact w.ow0 j e q O g2
 .rcases Be h0 with ⟨U,_,_⟩ | ⟨_,O⟩
  .exact w.lt x J hx (by rw[U];exact T)
  .exact w.lt x e hx O
def Og{ρ:Rho}{d:D}(h:WO ρ i=W1 d):ρ[i]?=W1 (.ow d):=by
 unfold WO at h;split at h
 .rename_i e;cases h;exact e
 .cases h
def bB{g:D->D->Option D}{ρ:Rho}{o:QU}(h:UN g i fa ρ=W1 o):∃v x y,fa ρ=W1 v/\ρ[i]?=W1 (.ow x)/\g x v=W1 y/\o=.nx (ρ.set i (.ow y)):=by
 unfold UN at h;cases z:fa ρ with
 |none=>simp[z] at h
 |some v=>
  cases d:WO ρ i with
  |none=>simp[z,d] at h
  |some x=>
   cases I:g x v with
   |none=>simp[z,d,I] at h
   |some y=>
    simp[z,d,I] at h;exact⟨v,x,y,rfl,Og d,I,h.symm⟩
def Mt(hv:PE X (.Name x xpos) (OH i))(ha:PF X G a fa)(g:fN (.Name x xpos) "append" X.env (eval (.Name x xpos) X.env)=eval (.Name x xpos) X.env:=by rfl)(J:((dS pos (ay [a] X.env)).all (λx=>!x.1)&&(ll pos (iL [] X.env)).all (λx=>x.1.isSome)&&decide ([a].length+([]:List mB).length+(if ([]:List mB).isEmpty then 0 else 1)<30))=E3:=by rfl)(d:(apos.endLine==pos.line)=E3:=by rfl)(hs:ay [a] X.env=[(ZA,eval a X.env)]:=by rfl)(W:fw (.Call (.Attribute (.Name x xpos) "append" apos) [a] [] pos) E2 p2.line X.env=pure ZA:=by rfl):
  Tb X G (.Expr (.Call (.Attribute (.Name x xpos) "append" apos) [a] [] pos) p2) (UN VI i fa):=by
 rintro A0 He π s Y H D I ⟨Z,o,⟨A,w⟩,e,k⟩
 obtain⟨v,x0,y,e1,S,z,rfl⟩:=bB e;refine TX (qz E1 IL IM OD hv (BW (@ha A) Cp hs) g J d hs rfl) W π s Y H D I ?_;unfold VI at z;split at z
 .rename_i ds;split at z
  .rename_i hz;cases z;obtain⟨p,U,hA,L,T,r⟩:=w.ok.ow i _ S;refine⟨_,U,.inl ⟨rfl,L,.of T⟩,Z,v,w.ok,e1,λu H1 O r1=>⟨p,L,u,rfl,rfl,O _ _ T,by rw[r.1];exact hz,?_⟩⟩;have w1:=w.mono O;refine k _ _ ⟨A,w1.wr S U ⟨L++[u],Ag,?_⟩⟩;rw[De hA];exact (r.mono (Ay O)).append (.cons r1 .nil)
  .cases z
 .cases z
theorem Inv.frzK(I:Inv X π σ H s)(e:H p=W1 (.dK kvs)):∃o,Inv X π σ (fk H p (.frz o (.dK kvs))) s:=by
 obtain⟨z,L,J,d,Z⟩:=q9 I.hok e;obtain⟨o,S,T,g,O⟩:=id Z;exact⟨o,QG (h':=s.heap) (t':=s.toks) I (by rw[e];exact ko) ⟨rfl,λ_ _=>rfl⟩ ⟨o,g⟩ ⟨g,z,L,J,d,Z⟩⟩
theorem Inv.frzT{kvs:List (List Key×V)}(I:Inv X π σ H s)(e:H p=W1 (.dT kvs)):∃o,Inv X π σ (fk H p (.frz o (.dT kvs))) s:=by
 obtain⟨z,O,L,d,o,Y,Z,g,W,U,T,S⟩:=I.hok p _ e;refine⟨o,QG (h':=s.heap) (t':=s.toks) I (by rw[e];exact ko) ⟨rfl,λ_ _=>rfl⟩ ⟨o,g⟩ ⟨g,z,O,L,KT.keeps d λc ys J=>?_,o,Y,Z,g,W,U,T,S⟩⟩;rw[Ai (qt J e (λz=>nomatch z))];exact J
def NW.frzC{ρ:Rho}{d:D}(w:NW G A0 He A σ H ρ)(hi:ρ[i]?=W1 (.ow d))(h1:σ[i]?=W1 (W1 (.ref p)))(hA:p∈A)(L:∀b,b≠p->H' b=H b)(rp:ab (bm A H) (bm (A.filter λb=>decide (b≠p)) H')->bm (A.filter λb=>decide (b≠p)) H' p=H' p->hQ G (bm (A.filter λb=>decide (b≠p)) H') (.ref p) d):XT G A0 He σ H' (ρ.set i (.fz d)):=by
 have hn:=w.ow0 i d p hi h1;have g:∀b,b∈A.filter (λb=>decide (b≠p))↔b∈A/\b≠p:=λb=>by simp[d4]
 have W:ab (bm A H) (bm (A.filter λb=>decide (b≠p)) H'):=λb o h=>by
  unfold bm at h ⊢;split at h
  .cases h
  .rename_i I;have S:b≠p:=λz=>I (z▸hA);rw[RF (λz=>I ((g b).mp z).1),L b S];exact h
 have rp:=rp W (Ax λz=>((g p).mp z).2 rfl);have N0:He p=E2:=(w.fr p hA).resolve_left hn;refine⟨A.filter λb=>decide (b≠p),λb o h=>?_,λb I=>(g b).mpr ⟨w.sub b I,λz=>hn (z▸I)⟩,λb I=>w.fr b ((g b).mp I).1,w.l0,⟨by rw[sg];exact w.ok.len,λb I=>?_,λj e h=>?_,λj e h=>?_,λj k e f q g1 g2 g3 g4=>?_⟩,λj e q g1 g2=>?_,λx e hx h0=>?_⟩
 .have S:b≠p:=λz=>by rw[z,N0] at h;cases h
  rw[L b S];exact w.same b o h
 .obtain⟨Z,z2⟩:=(g b).mp I;rw[L b z2];exact w.ok.live b Z
 .rcases Be h with ⟨hj,O,_⟩ | ⟨hj,O⟩
  .cases O;subst hj;exact⟨_,h1,rp⟩
  .obtain⟨v,q1,q2⟩:=w.ok.fz j e O;exact⟨v,q1,q2.mono W⟩
 .rcases Be h with ⟨_,O,_⟩ | ⟨hj,O⟩
  .cases O
  .obtain⟨q,q1,q2,q3⟩:=w.ok.ow j e O;have Y:q≠p:=λz=>hj (w.ok.inj j i e d p O hi (z▸q1) h1);refine⟨q,q1,(g q).mpr ⟨q2,Y⟩,?_⟩;cases e with
   |lst ds=>obtain⟨J,U,T⟩:=q3;exact⟨J,by rw[L q Y];exact U,T.mono W⟩
   |dk ds=>obtain⟨J,U,T,a3⟩:=q3;exact⟨J,by rw[L q Y];exact U,T,a3.mono W⟩
   |dt ds=>obtain⟨J,U,T,a3⟩:=q3;exact⟨J,by rw[L q Y];exact U,T,a3.mono W⟩
   |ob c gs=>obtain⟨C,dx,J,U,T,a3⟩:=q3;exact⟨C,dx,J,by rw[L q Y];exact U,T,a3.mono W⟩
   |_=>exact q3.elim
 .rcases Be g1 with ⟨_,O,_⟩ | ⟨_,Z⟩
  .cases O
  .rcases Be g2 with ⟨_,O,_⟩ | ⟨_,z2⟩
   .cases O
   .exact w.ok.inj j k e f q Z z2 g3 g4
 .rcases Be g1 with ⟨_,O,_⟩ | ⟨_,Z⟩
  .cases O
  .exact w.ow0 j e q Z g2
 .rcases Be h0 with ⟨_,O,_⟩ | ⟨_,Z⟩
  .cases O
  .exact w.lt x e hx Z
def XT.frz{π:NI}{s:ah}{A0:List Addr}{He:Hp}{S:St}{H:Hp}{ρ:Rho}(I:Inv X π S H s)(w:XT G A0 He S H ρ)(i:Nat):∃H',Inv X π S H' s/\XT G A0 He S H' (frz1 ρ i):=by
 unfold frz1;split
 .rename_i d O;obtain⟨A,w⟩:=w;obtain⟨p,T,W,t⟩:=w.ok.ow i d O;cases d with
  |lst ds=>
   obtain⟨U,L,g⟩:=t;exact⟨H,I,w.frzC O T W (λ_ _=>rfl) λz J=>.lst (.of (by rw[J];exact L)) (g.mono z).1 (g.mono z).2⟩
  |dk ds=>
   obtain⟨U,L,g,Y⟩:=t;obtain⟨o,I'⟩:=Inv.frzK I L;exact⟨_,I',w.frzC O T W (λb Z=>Ai Z) λz J=>.dk (by rw[J];exact Ag) g (Y.mono z).2⟩
  |dt ds=>
   obtain⟨U,L,g,Y⟩:=t;obtain⟨o,I'⟩:=Inv.frzT I L;exact⟨_,I',w.frzC O T W (λb Z=>Ai Z) λz J=>.dt (by rw[J];exact Ag) g (Y.mono z).2⟩
  |ob c gs=>
   obtain⟨C,dx,U,L,g,Y⟩:=t;exact⟨H,I,w.frzC O T W (λ_ _=>rfl) λz J=>.ob g.1 (by rw[J];exact L) g.2 (Y.mono z).2⟩
  |_=>exact t.elim
 .exact⟨H,I,w⟩
theorem Ye{d:NI}{s:ah}{A0:List Addr}{z:Hp}{g:St}:∀(J:List Nat) {H:Hp}{ρ:Rho},Inv X d g H s->XT G A0 z g H ρ->∃H',Inv X d g H' s/\XT G A0 z g H' (J.foldl frz1 ρ)
 |[],H,_,I,w=>⟨H,I,w⟩
 |i::r,_,_,I,w=>let ⟨_,I1,w1⟩:=w.frz I i;Ye r I1 w1
theorem J1{g:FS}(d:List Nat)(h:Tb X G st g):Tb X G st (fzS d g):=λS O L s z H D I ⟨J,o,ok,e,k⟩=>
 let ⟨H',I',ok'⟩:=Ye d I ok
 @h S O L s z H' D I' ⟨d.foldl frz1 J,o,ok',e,k⟩
end
section
variable {A:aS}
def Pv(w:ca):Bool:=w.params.followText "set-order"
def ObX(h:Heap)(a:Addr)(es:Array (Int×ac))(t:SetTable):Prop:=∃o ep,h.get? a=W1 o/\o.ExactSet/\o.data=.set es ep t
def eO{G:Array (Int×ac)}{t t':SetTable}{Q:Unit->ah->Prop}(x:ObX s.heap a es t)(z:G.size<scanBound)(k:∀h',f6 a s.heap h'->ObX h' a G t'->Q () { s with heap:=h' }):ag (ai prog w) A (storeSet a G t') Q E s:=by
 obtain⟨o,I,g,q,d⟩:=x;refine IN g d (k _ (tf _ _ _) ⟨{ o with data:=.set G (I+1) t' },I+1,?_,q,rfl⟩) (fits_of_scanBound z);have u:=mS (Obj.putSet G t') g (by rw[AL G t' d];rfl)
 rwa [AL G t' d] at u
end
section
variable {A:aS}
theorem rG{T d g:String}{as:List ac}{Q1:ac->ah->Prop}(ft:TypeCalled T d g)(U:checkTypeCall T ⟨as,[]⟩=pure ())(G:fA (ai prog w) A.in1 (.call (.builtin d) ⟨.type T::as,[]⟩) (wants Q1 E) s)(I:∀ob s1,Q1 ob s1->s1.TypeIs ob T/\fA (ai prog w) A.in1 (.call (.builtin g) ⟨ob::as,[]⟩) (wants (λr S=>r=.none/\Q ob S) E) s1):ag (ai prog w) A (call (.type T) as) Q E s:=by
 obtain⟨O,J,g1⟩:=ft.mro;have g2:=ft.made;have g3:=ft.sub;have g4:=ft.notType;have Z:=ft.canCreate;refine CS (codeAny_of_tree (show ag _ _ (callAny (.type T) _) _ _ _ from av ⟨E4 _ (by decide +kernel),ia F.entry_type_call ?_⟩));rw[Around.under_plain (weight_type_call_type T as []) (units_type_call_type T as [])]
 repeat (any_goals (first | assumption | wp_step))
 refine rl G λr s1 q1=>?_
 match r,q1 with
 |.error _,q1=>exact q1
 |.ok .next,q1=>exact q1.elim
 |.ok .brk,q1=>exact q1.elim
 |.ok .cont,q1=>exact q1.elim
 |.ok (.ret ob),q1=>
  obtain⟨ty,z⟩:=I ob s1 q1;have Y:=ft.init.lookup;have W:=ft.init.bind ob
  repeat (any_goals (first | assumption | wp_step))
  refine rl z λL S q2=>?_
  match L,q2 with
  |.error _,q2=>exact q2
  |.ok .next,q2=>exact q2.elim
  |.ok .brk,q2=>exact q2.elim
  |.ok .cont,q2=>exact q2.elim
  |.ok (.ret v),⟨e,q2⟩=>
   subst e
   repeat (any_goals (first | assumption | wp_step))
theorem Yg(v:ac){Q:ac->ah->Prop}(k:Q (.ref s.heap.objs.size) { s with heap:=s.heap.push { cls:=.type "set",dict:=E2,data:=.set #[] 0 (.fresh 0 0 (!Pv w)) } }):fA (ai prog w) A (.call (.builtin "set.__new__") ⟨[.type "set",v],[]⟩) (wants Q E) s:=by
 have L:isSubtype (.type "set") (.type "set")=pure E3:=by rw[qk];kernel_rfl
 refine codeAny_of_tree (show ag _ A.in1 (do checkBuiltinCall "set.__new__" ⟨[.type "set",v],[]⟩;again (.builtin "set.__new__" ⟨[.type "set",v],[]⟩)) _ _ s from ?_);refine ae (AI (F.newCall_set_1 v) (av ⟨kQ IP _,ia F.entry_set_new ?_⟩));rw[ly IP _];unfold de.«set.__new__» Builtin.Frozenset.newClass;obtain⟨h,g,d,tk,z⟩:=s
 wp_walk
 refine ti (av ?_);dsimp only [newObj];exact ae (wpAny_alloc (av (av k)))
end
theorem Km:E5 "set_iterator" "__next__" "set_iterator.__next__":=
 .of (owner:="set_iterator") (n:="__next__") (by rw[typeLookup_type,IQ];kernel_rfl) (by decide +kernel) (by decide +kernel) (by decide +kernel) (by first | exact .inl (by decide +kernel) | exact .inr (by decide +kernel)) (by rw[qk];kernel_rfl)
def Vn:xv table "set_iterator.__next__"=W1 de.«set_iterator.__next__»:=entryFor_of_tree (by kernel_rfl)
def eQ:Manifest.owners.lookup (String.ofList ['r','o','t','a','r','e','t','i','_','t','e','s'].reverse)=W1 Manifest.sig_set_iterator:=by kernel_rfl
theorem Yh(a:ac):og "set_iterator.__next__" ⟨[a],[]⟩:=by
 unfold og;rw[signature?_of (id:="set_iterator.__next__") (n:=['_','_','t','x','e','n','_','_']) (o:=['r','o','t','a','r','e','t','i','_','t','e','s']) (by kernel_rfl) eQ]
 kernel_rfl
section
variable {A:aS}{I T:Addr}{first:ac}{t:SetTable}
def TZ(h:Heap)(I q:Addr)(first:ac)(j n ep:Nat):Prop:=∃o,h.get? I=W1 o/\o.cls=.type "set_iterator"/\o.data=.fields #[first,.int j 0,.ref q,.int n 0,.int ep 0]
def J2(h:Heap)(q:Addr)(es:Array (Int×ac))(ep:Nat)(t:SetTable):Prop:=∃o,h.get? q=W1 o/\o.ExactSet/\o.data=.set es ep t
theorem TZ.ty(x:TZ s.heap I q first j n ep):s.TypeIs (.ref I) "set_iterator":=let ⟨o,g,c,_⟩:=x;⟨o,g,c⟩
def TZ.put0(x:TZ h I q first j n ep)(L:ac):TZ (h.update I (E6 (·.setIfInBounds 0 L))) I q L j n ep:=by
 obtain⟨o,g,c,d⟩:=x;exact⟨_,mS _ g (E7 (tj d _)),(E8 ..).trans c,by rw[tj d];simp⟩
def TZ.put1(x:TZ h I q first j n ep):TZ (h.update I (E6 (·.setIfInBounds 1 (eP ((j:Int)+1))))) I q first (j+1) n ep:=by
 obtain⟨o,g,c,d⟩:=x;exact⟨_,mS _ g (E7 (tj d _)),(E8 ..).trans c,by rw[tj d];simp[eP]⟩
def T9{a:Addr}(z:s.heap=h)(x:TZ h I q first j n ep){i:Nat}(G:i<5){v:ac}{Q:Unit->ah->Prop}(k:Q () { s with heap:=h.update I (E6 (·.setIfInBounds i v)) }):ag (ai prog w) A (setField (.ref I) i v) Q E s:=by
 subst z;obtain⟨o,g,_,d⟩:=x;exact E9 g d (by simpa using G) k
theorem oE{sl:Int}{v:ac}{z:Nat}{Q:Option ac->ah->Prop}(x:TZ s.heap I q (.int sl 0) j n ep)(y:J2 s.heap q es ep t)(L:t.fits es.size=E3)(J:es.size=n)(G:∀(B:aS) (U:ac->ah->Prop) (R:Option (ac×Nat)->ah->Prop),R (W1 (v,z)) s->ag (ai prog w) B (qo q sl.toNat j ep) R U s)(k:∀h',f6 I s.heap h'->TZ h' I q (.int z 0) (j+1) n ep->Q (W1 v) { s with heap:=h' }):ag (ai prog w) A (gg (.ref I)) Q E s:=by
 obtain⟨o,g,c,d⟩:=id x;obtain⟨W,O,_,S⟩:=y;unfold gg;refine ae (AM (ro (name:=eB "__next__") x.ty Km (hU Km x.ty Vn ?_ (Yh _))));unfold de.«set_iterator.__next__»;refine ae (av (ae (wpAny_fieldsOf g d ?_)));dsimp only;refine ae (Ee O S L ?_);rw[RF (by rw[J];simp),eD,eD];refine ae (G _ _ _ ?_);refine ae (T9 (a:=I) rfl x (by decide) (ae (T9 (a:=I) rfl (x.put0 (eP z)) (by decide) (av ⟨v,rfl,av ?_⟩))));exact k _ ((tf ..).trans (tf ..)) (x.put0 (eP z)).put1
theorem oF{Q:Option ac->ah->Prop}{z:ah}(g:A.handled=E2)(k:∀h',(∀b o,z.heap.get? b=W1 o->h'.get? b=W1 o)->Q E2 { z with heap:=h' }):
  ag (ai prog w) A.in1 (newExc (.type "StopIteration") [] >>= λe=>(raiseNew e:Sem Fin)) (λot d=>∃v,ot=Fin.done (Flow.ret v)/\ag (ai prog w) A (pure (W1 v)) Q E d)
   (λe d=>ag (ai prog w) A (zq e (.type "StopIteration") >>= λb=>if b=E3 then pure E2 else throw e) Q E d) z:=by
 refine ae ?_;simp only[newExc,newTuple];refine ae (kL ?_ (by size_fits));refine ae (m:=AN _ _) (AI (a:=fq) (by first | rfl | (simp only[AN];rfl)) (kL ?_ (by size_fits)));unfold raiseNew;refine ae (wpAny_handled ?_);rw[show A.in1.handled=E2 from g];refine ae (av (wpAny_throw ?_));have ty:∀(J:Heap) (ob:Obj),ob.cls=.type "StopIteration"->ob.isFreed=ZA->Shared.TypeIs { z with heap:=J.push ob } (.ref J.objs.size) "StopIteration":=λJ ob c f=>⟨ob,cp _ f,c⟩;refine ae (sv (T:="StopIteration") (b:=E3) (ty _ _ rfl rfl) isSubtype_stop ?_);refine av (k _ λb o e=>?_);exact bg _ (bg _ e)
theorem oG{sl:Int}{Q:Option ac->ah->Prop}(O:A.handled=E2)(x:TZ s.heap I q (.int sl 0) j n ep)(y:J2 s.heap q es ep t)(S:t.fits es.size=E3)(J:es.size=n)(G:∀(B:aS) (Y:ac->ah->Prop) (R:Option (ac×Nat)->ah->Prop),R E2 s->ag (ai prog w) B (qo q sl.toNat j ep) R Y s)(k:∀h',(∀b o,b≠I->s.heap.get? b=W1 o->h'.get? b=W1 o)->Q E2 { s with heap:=h' }):ag (ai prog w) A (gg (.ref I)) Q E s:=by
 obtain⟨o,g,c,d⟩:=id x;obtain⟨Z,U,_,W⟩:=y;unfold gg;refine ae (AM (ro (name:=eB "__next__") x.ty Km (hU Km x.ty Vn ?_ (Yh _))));unfold de.«set_iterator.__next__»;refine ae (av (ae (wpAny_fieldsOf g d ?_)));dsimp only;refine ae (Ee U W S ?_);rw[RF (by rw[J];simp),eD,eD];refine ae (G _ _ _ (ae (T9 (a:=I) rfl x (by decide) (oF O λh' z=>k h' λb o L e=>z b o ?_))));exact (kN _ _ (cq L)).trans e
end
def vI{d:Type}(l:List d)(k:Nat):OM l E2 (W1 (k:Int))=l.take k:=by
 unfold OM HT.sIx;simp;rw[RF (by omega)]
 first | omega | (rw[List.take_eq_take_iff];omega)
def eU{d:Type}{xs:List d}{i:Int}(J:0<=i)(h1:i<xs.length):atI xs i=xs[i.toNat]?:=by
 unfold atI ixN;rw[OF J,OF h1];rfl
def Gp(i j:Int)(h:0<j):tx (.int i) (.int j)=W1 (.int (i%j)):=by
 show (if 0<j then W1 (D.int (i%j)) else E2)=_;rw[OF h]
def GX(i j:Int)(h:0<j)(d:j<1073741824):Ex (.int i) (.int j)=W1 (.int (i/j)):=by
 show (if CDiv i j then W1 (D.int (i/j)) else E2)=_;rw[OF ⟨h,d⟩]
def QK(i j:Int)(h : -(2^64)<j/\j<2^64):Pc (.int i) (.int j)=W1 (.int (i*j)):=by
 show (if Mp i j then W1 (D.int (i*j)) else E2)=_;rw[OF (.inl (.inr h))]
def oH(i j:Int)(h : -(2^64)<i/\i<2^64):Pc (.int i) (.int j)=W1 (.int (i*j)):=by
 show (if Mp i j then W1 (D.int (i*j)) else E2)=_;rw[OF (.inl (.inl h))]
def Oh(i j:Int):rc (.int i) (.int j)=W1 (.int (i+j)):=fx _
def XX(i j:Int):subD (.int i) (.int j)=W1 (.int (i-j)):=fx _
def SQ(i j:Int):ltD (.int i) (.int j)=W1 (.bl (decide (i<j))):=fx _
def Yi(i j:Int):gtD (.int i) (.int j)=W1 (.bl (decide (j<i))):=fx _
def Yj(i j:Int):geD (.int i) (.int j)=W1 (.bl (decide (j<=i))):=fx _
def Q4(i j:Int):MQ ZA (.int i) (.int j)=W1 (.bl (decide (i=j))):=fx _
def Yk(i j:Int):MQ E3 (.int i) (.int j)=W1 (.bl (!decide (i=j))):=fx _
def Ja(h:n<=10000000):n<=sizeLine:=cy h (by decide)
def vJ{i j:List D}(h:i.length+j.length<=10000000):rc (.lst i) (.lst j)=W1 (.lst (i++j)):=by
 show (if _ then _ else _)=_;rw[OF (Ja h)]
def eV{i j:Str}(h:i.length+j.length<=10000000):rc (.str i) (.str j)=W1 (.str (i++j)):=by
 show (if _ then _ else _)=_;rw[OF (Ja h)]
theorem J3{b:D->FS}{P:Nat->Rho->Prop}:∀{ds:List D}{ρ:Rho}(k:Nat),P k ρ->(∀(i:Nat) d ρ,ds[i]?=W1 d->P (k+i) ρ->∃g,b d ρ=W1 (.nx g)/\P (k+i+1) g)->∃g,vb b ds ρ=W1 (.nx g)/\P (k+ds.length) g
 |[],ρ,k,J,_=>⟨ρ,rfl,by simpa using J⟩
 |d::r,ρ,k,J,hs=>by
  obtain⟨G,U,O⟩:=hs 0 d ρ rfl (by simpa using J);obtain⟨z,T,L⟩:=J3 (ds:=r) (ρ:=G) (k+1) (by simpa using O) λi W g S I=>by
   have:=hs (i+1) W g (by simpa using S) (by rw[show k+(i+1)=k+1+i by omega];exact I);rw[show k+(i+1)+1=k+1+i+1 by omega] at this;exact this
  refine⟨z,?_,by rw[db,show k+(r.length+1)=k+1+r.length by omega];exact L⟩;unfold vb;rw[U];exact T
def QL{src:FI}{ga:FT}{fe:FE}{ρ:Rho}{ds out:List D}(h:src ρ=W1 ds)(hz:ds.length<=10000000)(I:I_ ρ ga fe ds=W1 out):BZ src ga fe ρ=W1 (.lst out):=by
 unfold BZ;rw[h];show (if ds.length<=sizeLine then (I_ ρ ga fe ds).map D.lst else E2)=_;rw[OF (Ja hz),I];rfl
def eX(o:Option QU)(L:FS):Option QU:=match o with | some (.nx d)=>L d | o=>o
def Ph(g gs:FS)(ρ:Rho):dq g gs ρ=eX (g ρ) gs:=fx _
def Ta(L:FS)(ρ:Rho):eX (W1 (.nx ρ)) L=L ρ:=fx _
def e_rt(L:FS)(d:D)(ρ:Rho):eX (W1 (.rt d ρ)) L=W1 (.rt d ρ):=fx _
def rH(ρ:Rho):Sn ρ=W1 (.nx ρ):=fx _
def iteO(o:Option Bool)(g L:FS)(ρ:Rho):Option QU:=match o with | some E3=>g ρ | some ZA=>L ρ | none=>E2
def e_if(t:FT)(g L:FS)(ρ:Rho):PY t g L ρ=iteO (t ρ) g L ρ:=fx _
def rJ(g L:FS)(ρ:Rho):iteO (W1 E3) g L ρ=g ρ:=fx _
def rK(g L:FS)(ρ:Rho):iteO (W1 ZA) g L ρ=L ρ:=fx _
def setO(i:Nat)(ρ:Rho)(o:Option D):Option QU:=o.map λd=>.nx (ρ.set i (.fz d))
def rM(i:Nat)(f:FE)(ρ:Rho):nq i f ρ=setO i ρ (f ρ):=fx _
def eY(i:Nat)(ρ:Rho)(d:D):setO i ρ (W1 d)=W1 (.nx (ρ.set i (.fz d))):=fx _
def retO(ρ:Rho)(o:Option D):Option QU:=o.map λd=>.rt d ρ
def rN(f:FE)(ρ:Rho):jn f ρ=retO ρ (f ρ):=fx _
def eZ(d:D)(ρ:Rho):retO ρ (W1 d)=W1 (.rt d ρ):=fx _
def rP(ρ:Rho)(o:Option D):Option QU:=o.map λ_=>.nx ρ
def e_(f:FE)(ρ:Rho):GJ f ρ=rP ρ (f ρ):=fx _
def Yl(ρ:Rho)(d:D):rP ρ (W1 d)=W1 (.nx ρ):=fx _
def b2(g:D->D->Option D)(x y:Option D):Option D:=x.bind λx=>y.bind λy=>g x y
def e_b(g:D->D->Option D)(fa d:FE)(ρ:Rho):bF g fa d ρ=b2 g (fa ρ) (d ρ):=fx _
def e_bs(g:D->D->Option D)(x y:D):b2 g (W1 x) (W1 y)=g x y:=fx _
def b1(g:D->Option D)(x:Option D):Option D:=x.bind g
def e_u(g:D->Option D)(fa:FE)(ρ:Rho):uF g fa ρ=b1 g (fa ρ):=fx _
def e_us(g:D->Option D)(x:D):b1 g (W1 x)=g x:=fx _
def cl1(g:List D->Option D)(x:Option (List D)):Option D:=x.bind g
def fB(g:List D->Option D)(fs:FA)(ρ:Rho):Aj g fs ρ=cl1 g (fs ρ):=fx _
def Ym(g:List D->Option D)(ds:List D):cl1 g (W1 ds)=g ds:=fx _
def rQ(x:Option D)(y:Option (List D)):Option (List D):=x.bind λd=>y.map (d::·)
def fC(fa:FE)(fs:FA)(ρ:Rho):Aa fa fs ρ=rQ (fa ρ) (fs ρ):=fx _
def Yn(d:D)(ds:List D):rQ (W1 d) (W1 ds)=W1 (d::ds):=fx _
def rT(ρ:Rho):af ρ=W1 []:=fx _
def tupO(o:Option (List D)):Option D:=o.bind λds=>if ds.length<=sizeLine then W1 (.tup ds) else E2
def WS(o:Option (List D)):Option D:=o.bind λds=>if ds.length<=sizeLine then W1 (.lst ds) else E2
def rU(fs:FA)(ρ:Rho):UI fs ρ=tupO (fs ρ):=fx _
def rW(fs:FA)(ρ:Rho):ML fs ρ=WS (fs ρ):=fx _
def fD(a:D):tupO (W1 [a])=W1 (.tup [a]):=fx _
def fG(a b:D):tupO (W1 [a,b])=W1 (.tup [a,b]):=fx _
def fH:WS (W1 [])=W1 (.lst []):=fx _
def fJ(a:D):WS (W1 [a])=W1 (.lst [a]):=fx _
def fK(a b:D):WS (W1 [a,b])=W1 (.lst [a,b]):=fx _
def fL(a b c:D):WS (W1 [a,b,c])=W1 (.lst [a,b,c]):=fx _
def fO(a b c d:D):WS (W1 [a,b,c,d])=W1 (.lst [a,b,c,d]):=fx _
def fP(a b c d e:D):WS (W1 [a,b,c,d,e])=W1 (.lst [a,b,c,d,e]):=fx _
def blO(o:Option D):Option Bool:=match o with | some (.bl b)=>W1 b | _=>E2
def e_bl(f:FE)(ρ:Rho):MW f ρ=blO (f ρ):=fx _
def rY(b:Bool):blO (W1 (.bl b))=W1 b:=fx _
def andO(o:Option Bool)(d:FT)(ρ:Rho):Option Bool:=match o with | some E3=>d ρ | some ZA=>W1 ZA | none=>E2
def orO(o:Option Bool)(d:FT)(ρ:Rho):Option Bool:=match o with | some E3=>W1 E3 | some ZA=>d ρ | none=>E2
def fQ(a b:FT)(ρ:Rho):andT a b ρ=andO (a ρ) b ρ:=fx _
def Yo(b:FT)(ρ:Rho):andO (W1 E3) b ρ=b ρ:=fx _
def Yp(b:FT)(ρ:Rho):andO (W1 ZA) b ρ=W1 ZA:=fx _
def rZ(a b:FT)(ρ:Rho):Ya a b ρ=orO (a ρ) b ρ:=fx _
def fU(b:FT)(ρ:Rho):orO (W1 E3) b ρ=W1 E3:=fx _
def fV(b:FT)(ρ:Rho):orO (W1 ZA) b ρ=b ρ:=fx _
def fW(a:FT)(ρ:Rho):OZ a ρ=(a ρ).map (!·):=fx _
def andP(o:Option D)(d:FE)(ρ:Rho):Option D:=match o with | some (.bl E3)=>d ρ | some (.bl ZA)=>W1 (.bl ZA) | _=>E2
def orP(o:Option D)(d:FE)(ρ:Rho):Option D:=match o with | some (.bl E3)=>W1 (.bl E3) | some (.bl ZA)=>d ρ | _=>E2
def fY(a b:FE)(ρ:Rho):andF a b ρ=andP (a ρ) b ρ:=fx _
def Yq(b:FE)(ρ:Rho):andP (W1 (.bl E3)) b ρ=b ρ:=fx _
def sE(a b:FE)(ρ:Rho):orF a b ρ=orP (a ρ) b ρ:=fx _
def fZ(b:FE)(ρ:Rho):orP (W1 (.bl E3)) b ρ=W1 (.bl E3):=fx _
def fj(b:FE)(ρ:Rho):orP (W1 (.bl ZA)) b ρ=b ρ:=fx _
def sl3(f:Option D)(l h:Option (Option Int)):Option D:=f.bind λx=>l.bind λd=>h.bind λz=>slD x d z
def e_sl(f:FE)(l h:FO)(ρ:Rho):slF f l h ρ=sl3 (f ρ) (l ρ) (h ρ):=fx _
def sG(x:D)(l h:Option Int):sl3 (W1 x) (W1 l) (W1 h)=slD x l h:=fx _
def sH(ρ:Rho):noO ρ=W1 E2:=fx _
def somO(o:Option D):Option (Option Int):=match o with | some (.int i)=>W1 (W1 i) | _=>E2
def Yr(f:FE)(ρ:Rho):Rl f ρ=somO (f ρ):=fx _
def Vo(i:Int):somO (W1 (.int i))=W1 (W1 i):=fx _
def Sz(o:Option Slot):Option D:=match o with | some (.fz d)=>W1 d | _=>E2
def getU(o:Option Slot):Option D:=match o with | some (.fz d)=>W1 d | some (.ow d)=>W1 d | _=>E2
def e_v(i:Nat)(ρ:Rho):vF i ρ=Sz (ρ[i]?):=fx _
def SZ(d:D):Sz (W1 (.fz d))=W1 d:=fx _
def e_vU(i:Nat)(ρ:Rho):vU i ρ=getU (ρ[i]?):=fx _
def sI(d:D):getU (W1 (.ow d))=W1 d:=fx _
def e_k(d:D)(ρ:Rho):kF d ρ=W1 d:=fx _
def rngO(o:Option D):Option (List D):=match o with | some (.int j)=>if -(2^62)<=j/\j<2^62 then W1 (wh j.toNat) else E2 | _=>E2
def Oi(f:FE)(ρ:Rho):MU f ρ=rngO (f ρ):=fx _
def Ih(j:Int)(h : -(2^62)<=j/\j<2^62):rngO (W1 (.int j))=W1 (wh j.toNat):=by
 show (if _ then _ else _)=_;rw[OF h]
def forO(o:Option (List D))(tg:FG)(b:FS)(ρ:Rho):Option QU:=o.bind λds=>vb (SL tg b) ds ρ
def Ys(src:FI)(tg:FG)(b:FS)(ρ:Rho):NL src tg b ρ=forO (src ρ) tg b ρ:=fx _
def T_(ds:List D)(tg:FG)(b:FS)(ρ:Rho):forO (W1 ds) tg b ρ=vb (SL tg b) ds ρ:=fx _
def ccO(o:Option Bool)(e:Option D)(r:Option (List D)):Option (List D):=match o with | some E3=>e.bind λy=>r.map (y::·) | some ZA=>r | none=>E2
def Jb(ρ:Rho)(ga:FT)(fe:FE)(d:D)(r:List D):I_ ρ ga fe (d::r)=ccO (ga (ρ++[.fz d])) (fe (ρ++[.fz d])) (I_ ρ ga fe r):=fx _
def yR(y:D)(r:List D):ccO (W1 E3) (W1 y) (W1 r)=W1 (y::r):=fx _
def yS(y:Option D)(r:Option (List D)):ccO (W1 ZA) y r=r:=fx _
def fu(ρ:Rho):xq ρ=W1 E3:=fx _
def runO(o:Option QU):Option D:=match o with | some (.rt d _)=>W1 d | some (.nx _)=>W1 .non | _=>E2
def Yt{g:Nat}{b:FS}{ds:List D}(h:ds.length=g):lu n g b ds=runO (b (CP n ds)):=by
 unfold lu;rw[OF h];rfl
def gA(d:D)(ρ:Rho):runO (W1 (.rt d ρ))=W1 d:=fx _
def gB(ρ:Rho):runO (W1 (.nx ρ))=W1 .non:=fx _
def Yu{d g:Type}(f:d->g)(x:d):Option.map f (W1 x)=W1 (f x):=fx _
def gC{d g:Type}(f:d->Option g)(x:d):Option.bind (W1 x) f=f x:=fx _
def Mv(n:Nat)(ds:List D):CP n ds=ds.map .fz++wn (n-ds.length) .un:=fx _
def truB(b:Bool):truD (.bl b)=W1 b:=fx _
def UG{d:Type}(l:List d)(k:Nat):atI l (k:Int)=l[k]?:=by
 unfold atI ixN;rw[OF (by omega)]
 by_cases h:k<l.length
 .rw[OF (by omega)];simp
 .rw[RF (by omega),oe (by omega)];rfl
def e_tr(f:FE)(ρ:Rho):Ts f ρ=(f ρ).bind truD:=fx _
def Lk(x y:Str):(x++y).length=x.length+y.length:=by
 show (x.cps++y.cps).size=_;simp[o0]
def yU(z:Str)(h:z.length<=10000000):UQ (.str z)=W1 (.int z.length):=by
 show (if z.length<=sizeLine then W1 (D.int z.length) else E2)=_;rw[OF (Ja h)]
def sJ(l:List D):UQ (.lst l)=W1 (.int l.length):=fx _
def Yv(x:Str)(ys:List Str):inD ZA (.str x) (.lst (ys.map .str))=W1 (.bl (ys.any (λy=>y==x))):=by
 have h:∀ys:List Str,On (ys.map .str)=W1 (ys.map V.str):=λys=>by
  induction ys with
  |nil=>rfl
  |cons y r g=>simp[On,SR,g]
 show ((SR (.str x)).bind λv=>(On (ys.map .str)).map λd=>D.bl (VX v d))=_;rw[h];show W1 (D.bl (VX (.str x) (ys.map V.str)))=_;simp[VX,IR,kz,UY]
def FN(n:Nat):(wh n).length=n:=by simp[wh]
def bC(ys:List Str):K9 (ys.map .str)=W1 ys:=by
 induction ys with
 |nil=>rfl
 |cons y r d=>simp[K9,d]
def sO(i:Nat)(ρ:Rho)(o:Option D):Option QU:=o.map λd=>.nx (ρ.set i (.ow d))
def gD(i:Nat)(f:FE)(ρ:Rho):setW i f ρ=sO i ρ (f ρ):=fx _
def Yw(i:Nat)(ρ:Rho)(d:D):sO i ρ (W1 d)=W1 (.nx (ρ.set i (.ow d))):=fx _
def mutO(g:D->D->Option D)(i:Nat)(ρ:Rho)(x v:Option D):Option QU:=v.bind λv=>x.bind λx=>(g x v).map λy=>.nx (ρ.set i (.ow y))
def getW(o:Option Slot):Option D:=match o with | some (.ow d)=>W1 d | _=>E2
def sS(g:D->D->Option D)(i:Nat)(f:FE)(ρ:Rho):UN g i f ρ=mutO g i ρ (getW ρ[i]?) (f ρ):=fx _
def gF(g:D->D->Option D)(i:Nat)(ρ:Rho)(x v:D):mutO g i ρ (W1 x) (W1 v)=(g x v).map λy=>.nx (ρ.set i (.ow y)):=fx _
def Oj(d:D):getW (W1 (.ow d))=W1 d:=fx _
def forB(o:Option QU)(b:D->FS)(r:List D):Option QU:=match o with
  |some (.nx d)=>vb b r d
  |some (.ct d)=>vb b r d
  |some (.bk d)=>W1 (.nx d)
  |some (.rt e d)=>W1 (.rt e d)
  |none=>E2
def Dr(b:D->FS)(d:D)(r:List D)(ρ:Rho):vb b (d::r) ρ=forB (b d ρ) b r:=fx _
def Ds(b:D->FS)(r:List D)(ρ:Rho):forB (W1 (.nx ρ)) b r=vb b r ρ:=fx _
def bndO(o:Option Rho)(b:FS):Option QU:=o.bind b
def Qb(tg:FG)(b:FS)(d:D)(ρ:Rho):SL tg b d ρ=bndO (tg d ρ) b:=fx _
def JD(ρ:Rho)(b:FS):bndO (W1 ρ) b=b ρ:=fx _
def Ii(i:Nat)(d:D)(ρ:Rho):Bh i d ρ=W1 (ρ.set i (.fz d)):=fx _
def Jc(a:Str):ltS a a=ZA:=by
 unfold ltS;exact UF (List.lt_irrefl _)
def Ol{a b c:Str}(h1:ltS a b=E3)(d:ltS b c=E3):ltS a c=E3:=by
 unfold ltS at *;exact MG (List.lt_trans (OG h1) (OG d))
def Yx{a b:Str}(h1:ltS a b=ZA)(z:a≠b):ltS b a=E3:=by
 unfold ltS at *;have d:=of_decide_eq_false h1;have S:b.cps.toList<=a.cps.toList:=IS.mp d
 rcases Decidable.em (b.cps.toList<a.cps.toList) with h | h
 .exact MG h
 .exfalso;have g:a.cps.toList<=b.cps.toList:=IS.mp h;have e:a.cps.toList=b.cps.toList:=List.le_antisymm g S;apply z;cases a;cases b;simp at e;rw[e]
def Up(l:List Str):Prop:=l.Pairwise λa b=>ltS a b=E3
theorem Q5(x y:Str):∀l:List Str,y∈WZ x l↔y=x∨y∈l
 |[]=>by simp[WZ]
 |z::r=>by
  unfold WZ;split
  .simp
  .split
   .rename_i _ e;subst e;simp
   .simp[Q5 x y r];constructor
    .rintro (h | h | h)
     .exact .inr (.inl h)
     .exact .inl h
     .exact .inr (.inr h)
    .rintro (h | h | h)
     .exact .inr (.inl h)
     .exact .inl h
     .exact .inr (.inr h)
theorem Yy(x:Str):∀{l:List Str},Up l->Up (WZ x l)
 |[],_=>by simp[WZ,Up]
 |z::r,h=>by
  obtain⟨I,L⟩:=kA.mp h;unfold WZ;split
  .rename_i d;exact kA.mpr ⟨λy g=>by
    rcases bP.mp g with rfl | g
    .exact d
    .exact Ol d (I y g),h⟩
  .rename_i J;split
   .exact h
   .rename_i G;refine kA.mpr ⟨λy g=>?_,Yy x L⟩
    rcases (Q5 x y r).mp g with rfl | g
    .exact Yx (by simpa using J) G
    .exact I y g
def Mw(l:List Str):Up (Ez l):=by
 unfold Ez
 induction l with
 |nil=>exact xi
 |cons x r d=>exact Yy x d
def Ko(y:Str)(l:List Str):y∈Ez l↔y∈l:=by
 unfold Ez
 induction l with
 |nil=>simp
 |cons x r d=>rw[AO,Q5,d];simp
def gG{l:List Str}(h:Up l):l.Nodup:=h.imp λ{a b} L e=>by
 subst e;rw[Jc] at L;cases L
theorem ZT:∀{l m:List Str},l.Nodup->(∀x∈l,x∈m)->l.length<=m.length
 |[],_,_,_=>eA _
 |x::r,m,h,hs=>by
  obtain⟨G,z⟩:=kK.mp h;have d:x∈m:=hs x dn;have:=ZT (l:=r) (m:=m.erase x) z λy g=>(AQ (λe=>by subst e;exact G g)).mpr (hs y (cE _ g));rw[AR d] at this;have I:0<m.length:=tm d;simp;omega
theorem Xa:∀{l m:List Str},Up l->Up m->(∀x,x∈l↔x∈m)->l=m
 |[],[],_,_,_=>rfl
 |[],y::s,_,_,h=>by have:=(h y).mpr dn;simp at this
 |x::r,[],_,_,h=>by have:=(h x).mp dn;simp at this
 |x::r,y::s,I,G,h=>by
  obtain⟨J,L⟩:=kA.mp I;obtain⟨b1,b2⟩:=kA.mp G;have e:x=y:=by
   rcases bP.mp ((h x).mp dn) with e | d
   .exact e
   .rcases bP.mp ((h y).mpr dn) with e | g
    .exact e.symm
    .have:=Ol (J y g) (b1 x d);rw[Jc] at this;cases this
  subst e;have:r=s:=Xa L b2 λz=>by
   constructor
   .intro O
    rcases bP.mp ((h z).mp (cE _ O)) with e | q
    .subst e;have:=J z O;rw[Jc] at this;cases this
    .exact q
   .intro O
    rcases bP.mp ((h z).mpr (cE _ O)) with e | q
    .subst e;have:=b1 z O;rw[Jc] at this;cases this
    .exact q
  rw[this]
theorem Yz:E5 "set_iterator" "__iter__" "set_iterator.__iter__":=
 .of (owner:="set_iterator") (n:="__iter__") (by rw[typeLookup_type,IQ];kernel_rfl) (by decide +kernel) (by decide +kernel) (by decide +kernel) (by first | exact .inl (by decide +kernel) | exact .inr (by decide +kernel)) (by rw[qk];kernel_rfl)
def gH:xv table "set_iterator.__iter__"=W1 de.«dict_keyiterator.__iter__»:=entryFor_alias (id':="dict_keyiterator.__iter__") (by kernel_rfl) rfl (by decide +kernel) (by kernel_rfl)
theorem oJ(a:ac):og "set_iterator.__iter__" ⟨[a],[]⟩:=by
 unfold og;rw[signature?_of (id:="set_iterator.__iter__") (n:=['_','_','r','e','t','i','_','_']) (o:=['r','o','t','a','r','e','t','i','_','t','e','s']) (by kernel_rfl) eQ]
 kernel_rfl
def UJ:xv table "set.__iter__"=W1 de.«frozenset.__iter__»:=entryFor_alias (id':="frozenset.__iter__") (by kernel_rfl) rfl (by decide +kernel) (by kernel_rfl)
section
variable {A:aS}{I T:Addr}{first:ac}{t:SetTable}
theorem Ln{d:Type}:∀{l:List d}{i:Nat}(h:i<l.length),(l[i]::l.eraseIdx i).Perm l
 |x::r,0,_=>lI _
 |x::r,i+1,h=>(IT x (r[i]'(by simpa using h)) _).trans (IU x (Ln (by simpa using h)))
def SX{d:Type}(f:Nat->Nat)(xs:Array d):(qq f xs).toList.Perm xs.toList:=by
 have G:∀(m k:Nat) (l:List d) (W:Array d),l.length=m->(EA f m k l W).toList.Perm (W.toList++l):=by
  intro m
  induction m with
  |zero=>intro k l W Y;have:l=[]:=qf.mp Y;subst this;simp[EA]
  |succ m g=>
   intro k l W Y;have z:f k%l.length<l.length:=AS _ (by omega);have U:l[f k%l.length]?=W1 l[f k%l.length]:=by simp[z]
   unfold EA;simp only[U];refine (g _ _ _ (by rw[List.length_eraseIdx,OF z];omega)).trans ?_;rw[Array.toList_push,AG];exact List.Perm.append_left _ (Ln z)
 have:=G xs.size 0 xs.toList #[] (by simp);simpa [qq] using this
theorem J2.keep(y:J2 h q es ep t)(e:∀o,h.get? q=W1 o->h'.get? q=W1 o):J2 h' q es ep t:=let ⟨o,g,r⟩:=y;⟨o,e o g,r⟩
theorem TZ.keep(x:TZ h I q first j n ep)(e:∀o,h.get? I=W1 o->h'.get? I=W1 o):TZ h' I q first j n ep:=let ⟨o,g,r⟩:=x;⟨o,e o g,r⟩
def oK(x:TZ s.heap I q first j n ep)(k:Q (.ref I) s):ag (ai prog w) A (nI (.ref I)) Q E s:=by
 refine IY x.ty Yz (hU Yz x.ty gH ?_ (oJ _));show ag _ _ (ret (.ref I)) _ _ s;exact av ⟨_,rfl,"set_iterator",_,x.ty,Km.lookup,k⟩
end
section
variable {A:aS}{I T:Addr}
theorem gJ{Q:Bool->ah->Prop}(ty:s.TypeIs (.ref q) "set")(k:Q ZA s):ag (ai prog w) A (IZ (.ref q)) Q E s:=by
 unfold IZ;refine ae (nh ty F.slot_set_len.lookup ?_);generalize J:("set.__len__":String)=sid
 wp_delta
 rw[show splitId sid=W1 ("set","__len__") by subst J;decide +kernel];subst J;refine ae (sv (T:="set") (b:=E3) ty (by rw[qk];kernel_rfl) ?_);refine wpAny_ite_split (λz=>SF z (by decide)) λ_=>wpAny_ite_split (λ_=>ae (wv ty (av k))) λz=>SF (by decide +kernel) z
end
theorem My:∀{r:List Str}{p:Str},Jn p r=E3->(p::r).Nodup->Up (p::r)
 |[],p,_,_=>by simp[Up]
 |x::r,p,h,z=>by
  unfold Jn at h;rw[fh] at h;obtain⟨g,d⟩:=h;obtain⟨n1,n2⟩:=kK.mp z;have u:=My d n2;have lt:ltS p x=E3:=Yx (by unfold ltS;simpa [PyProof.Rows.ltCps_eq] using g) (λe=>n1 (by rw[<-e];exact dn));refine kA.mpr ⟨λy m=>?_,u⟩
  rcases bP.mp m with e | m
  .rw[e];exact lt
  .exact Ol lt ((kA.mp u).1 y m)
def UL{l:List Str}(h:PyProof.Rows.sortedS l=E3)(z:l.Nodup):Up l:=by
 cases l with
 |nil=>exact xi
 |cons p r=>exact My h z
open L2
section
variable {G:Gx}{a:Expr}{fa:FE}
theorem Sd:∀{xs:List Str}{us:List ac},AT us xs->cc (xs.map V.str) us
 |_,_,.nil=>.nil
 |_,_,.cons _ u r=>.cons ⟨u,rfl⟩ (Sd r)
def gK{ds:List D}{d:List Str}(r:be G H xs ds)(h:K9 ds=W1 d):xs=d.map V.str:=Vl r h
end
def ui{d:Type}[DecidableEq d](k:d):List (d×D)->Option D
 |[]=>E2
 |p::r=>if p.1=k then W1 p.2 else ui k r
def WJ{d:Type}[DecidableEq d](k:d)(v:D):List (d×D)->List (d×D)
 |[]=>[]
 |p::r=>(p.1,if p.1=k then v else p.2)::WJ k v r
def PH{g:Type}[DecidableEq g](k:g)(v:D)(d:List (g×D)):List (g×D):=if (ui k d).isSome then WJ k v d else d++[(k,v)]
def Pl:D->Option Key
 |.int i=>W1 (.inl i)
 |.str x=>W1 (.inr x)
 |_=>E2
def J4:List D->Option (List Key)
 |[]=>W1 []
 |d::r=>(Pl d).bind λk=>(J4 r).map (k::·)
section
variable {κ:Type} [DecidableEq κ] {G:Gx}
theorem Kp{k:κ}:∀{g:List (κ×D)}{kvs:List (κ×V)},kvs.map (·.1)=g.map (·.1)->be G H (kvs.map (·.2)) (g.map (·.2))->(∀d,ui k g=W1 d->∃v,OR kvs k=W1 v/\hQ G H v d)/\(OR kvs k).isSome=(ui k g).isSome
 |[],kvs,e,r=>by
  cases kvs with
  |nil=>exact⟨λd h=>by simp[ui] at h,rfl⟩
  |cons p q=>simp at e
 |p::g,kvs,e,r=>by
  cases kvs with
  |nil=>simp at e
  |cons q kvs=>
   rw[bn,bn] at e;injection e with L e2
   rw[bn,bn] at r;obtain⟨x,Y,W,S,O⟩:=r.uncons;injection W with U e5
   subst U e5;have T:=Kp (k:=k) e2 O
   by_cases h:p.1=k
   .have J:q.1=k:=L.trans h;rw[Mj J];refine⟨λd I=>?_,?_⟩
    .simp only[ui,OF h] at I;cases I;exact⟨_,rfl,S⟩
    .simp[ui,OF h]
   .have J:¬ q.1=k:=λz=>h (L.symm.trans z);rw[Ml J];simp only[ui,RF h];exact T
theorem Y0{k:κ}{v:V}{d:D}(S:hQ G H v d):∀{g:List (κ×D)}{kvs:List (κ×V)},kvs.map (·.1)=g.map (·.1)->be G H (kvs.map (·.2)) (g.map (·.2)) ->
  (kvs.map λI=>if I.1=k then (I.1,v) else I).map (·.1)=(WJ k d g).map (·.1)/\be G H ((kvs.map λI=>if I.1=k then (I.1,v) else I).map (·.2)) ((WJ k d g).map (·.2))
 |[],kvs,e,r=>by
  cases kvs with
  |nil=>exact⟨rfl,be.nil⟩
  |cons p q=>simp at e
 |p::g,kvs,e,r=>by
  cases kvs with
  |nil=>simp at e
  |cons q kvs=>
   rw[bn,bn] at e;injection e with O e2
   rw[bn,bn] at r;obtain⟨x,Z,Y,U,T⟩:=r.uncons;injection Y with W e5
   subst W e5;have L:=Y0 S (k:=k) e2 T
   by_cases h:p.1=k
   .have J:q.1=k:=O.trans h;refine⟨?_,?_⟩
    .simp only[bn,OF J,WJ];rw[L.1,O]
    .simp only[bn,OF J,WJ,OF h];exact .cons S L.2
   .have J:¬ q.1=k:=λz=>h (O.symm.trans z);refine⟨?_,?_⟩
    .simp only[bn,RF J,WJ];rw[L.1,O]
    .simp only[bn,RF J,WJ,RF h];exact .cons U L.2
def UT{k:κ}{d:D}(z:hQ G H v d){g:List (κ×D)}{kvs:List (κ×V)}(e:kvs.map (·.1)=g.map (·.1))(r:be G H (kvs.map (·.2)) (g.map (·.2))):
  (OS kvs k v).map (·.1)=(PH k d g).map (·.1)/\be G H ((OS kvs k v).map (·.2)) ((PH k d g).map (·.2)):=by
 unfold OS PH;rw[Qk,(Kp (k:=k) e r).2];split
 .exact Y0 z e r
 .rw[dc,dc,dc,dc,e];exact⟨rfl,r.append (.cons z .nil)⟩
end
def Vp{G:Gx}{d:D}{k:Key}(r:nk G A H v d)(h:Pl d=W1 k):v=kV k:=by
 cases d with
 |int i=>cases h;exact r.int
 |str x=>cases h;exact r.str
 |_=>cases h
def Kq{G:Gx}{d:D}{k:Key}(r:hQ G H v d)(h:Pl d=W1 k):v=kV k:=by
 cases d with
 |int i=>cases h;cases r;rfl
 |str x=>cases h;cases r;rfl
 |_=>cases h
theorem Om{G:Gx}{H:Hp}:∀{ds:List D}{vs:List V}{ks:List Key},be G H vs ds->J4 ds=W1 ks->vs=ks.map kV
 |[],vs,ks,r,h=>by cases h;exact r.nil_inv
 |d::ds,vs,ks,r,h=>by
  obtain⟨x,O,rfl,I,L⟩:=r.uncons;cases g:Pl d with
  |none=>simp[J4,g] at h
  |some k=>
   cases z:J4 ds with
   |none=>simp[J4,g,z] at h
   |some J=>
    simp[J4,g,z] at h;subst h;rw[Kq I g,Om L z];rfl
section
variable {G:Gx}{a b c:Expr}{fa fb:FE}
def Mz:PN X G (.Dict [] [] pos) (kF (.dk [])):=λA=>Bp dD<|by
 rintro z H Q ⟨I,d,o,e,k⟩
 cases e;exact λp g=>k p _ (Ak g _) g ⟨[],Ag,rfl,be.nil⟩
def yV:PN X G (.Dict [] [] pos) (kF (.dt [])):=λA=>Bp dF<|by
 rintro z H Q ⟨I,d,o,e,k⟩
 cases e;exact λp g=>k p _ (Ak g _) g ⟨[],Ag,rfl,be.nil⟩
theorem PN.pf(h:PN X G a fa):PF X G a fa:=λA π s σ H Q I ⟨ρ,d,o,e,k⟩=>
 mr (@h A π s σ H (λv H'=>∃p,v=.ref p/\ab H H'/\H p=E2/\MY G (p::A) H' p d) I ⟨ρ,d,o,e,λp H' U Z t=>⟨p,rfl,U,Z,t⟩⟩)<|by
  rintro u s1 ⟨v,g,I1,W,p,ev,U,Z,t⟩
  subst ev;have J:p∉A:=λz=>(o.live p z).ne Z;have up:∀ob,ab (bm (p::A) g) (bm A (fk g p ob)):=λob=>by
   rw[<-De (A:=p::A) (H:=g) (o:=ob) (dn ..)];exact CJ λb L=>cE _ L
  have T:∀ob,ab H (fk g p ob):=λob b u L=>by
   rw[Ai (λz:b=p=>by rw[z,Z] at L;cases L)];exact U b u L
  cases d with
  |lst ds=>
   obtain⟨xs,S,O⟩:=t;have q:=O.mono (CJ (A:=A) (B:=p::A) (H:=g) λb L=>cE _ L);exact⟨_,g,I1,W,k _ g U (.lst (.of (by rw[Ax J];exact S)) q.1 q.2)⟩
  |dk ds=>
   obtain⟨xs,S,O,Y⟩:=t;obtain⟨ob,I2⟩:=Inv.frzK I1 S;exact⟨_,_,I2,W,k _ _ (T _) (.dk (by rw[Ax J];exact Ag) O (Y.mono (up _)).2)⟩
  |dt ds=>
   obtain⟨xs,S,O,Y⟩:=t;obtain⟨ob,I2⟩:=Inv.frzT I1 S;exact⟨_,_,I2,W,k _ _ (T _) (.dt (by rw[Ax J];exact Ag) O (Y.mono (up _)).2)⟩
  |ob c gs=>
   obtain⟨C,dx,xs,S,O,Y⟩:=t;have q:=Y.mono (CJ (A:=A) (B:=p::A) (H:=g) λb L=>cE _ L);exact⟨_,g,I1,W,k _ g U (.ob O.1 (by rw[Ax J];exact S) O.2 q.2)⟩
  |_=>exact t.elim
def gM:PF X G (.Dict [] [] pos) (kF (.dk [])):=PN.pf Mz
def rDIn(d:Bool):R2:=λx y H Q=>∃a kvs k,y=.ref a/\Rd H a (.dK kvs)/\x=kV k/\Q (.bl (if d then !(OR kvs k).isSome else (OR kvs k).isSome)) H
def Xb(S:X.A.units+1<bE):NH X (dA .In) (rDIn ZA):=by
 intro L s g H x y v u Q I rx z h;obtain⟨a,d,k,rfl,e,rfl,q⟩:=h;cases z;exact d_in S I (.inl ⟨d,k,e,rfl,rfl⟩) rx λO J=>⟨.bl _,H,J,rfl,q⟩
def bD(S:X.A.units+1<bE):NH X (dA .NotIn) (rDIn E3):=by
 intro L s g H x y v u Q I rx z h;obtain⟨a,d,k,rfl,e,rfl,q⟩:=h;cases z;exact my S I (.inl ⟨d,k,e,rfl,rfl⟩) rx λO J=>⟨.bl _,H,J,rfl,q⟩
def inE(d:Bool)(x y:D):Option D:=match y with
 |.dk g=>(Pl x).map λk=>.bl (if d then !(ui k g).isSome else (ui k g).isSome)
 |_=>inD d x y
def oN(g:Bool):Dw G (λx y H Q=>rInA G.K g x y H Q∨rDIn g x y H Q) (inE g):=by
 intro A H x y dx U d Q J rx I h k;unfold inE at h;split at h
 .rename_i L;cases e:Pl dx with
  |none=>simp[e] at h
  |some q=>
   obtain⟨p,z,rfl,T,O,r⟩:=I.dk;have S:=(Kp (k:=q) O r).2;rw[e] at h;cases h;refine .inr ⟨p,z,q,rfl,T,Vp rx e,?_⟩;rw[S];exact k _ H (ab.refl H) (.bl _)
 .exact .inl (u_ g A H x y dx U d Q J rx I h k)
def rDIx:R2:=λx y H Q=>∃a kvs k v,x=.ref a/\Rd H a (.dK kvs)/\y=kV k/\OR kvs k=W1 v/\Q v H
theorem yW(Z:X.A.units+1<bE):IxR X rDIx:=by
 intro d J W s U H x y v u Q I rx Y h hs;obtain⟨a,S,k,z,rfl,e,rfl,l,q⟩:=h;cases rx;have g:DGet H a (kV k) (W1 z):=.inl ⟨S,k,e,rfl,l.symm⟩;have T:=VV I g;unfold A7;refine ae ?_;rw[HP T.not_modules];refine ae (nh T EB.lookup ?_);have ot:ag (ai X.prog X.w) X.A (wx J ZA (.ref a) u) (λr L=>ag (ai X.prog X.w) X.A (letTemporaryGo d (.ref a) r >>= λ_=>pure r) (EP X W U Q) X.xe L) X.xe s:=by
  rw[hs];exact wpAny_operating (aZ Z I g Y λw' s3 I3 O=>ae (HU (av ⟨z,H,I3,O,q⟩)))
 first
  |exact av (ae ot)
  |exact ae (av (ae ot))
  |exact ae ot
def oo(x y:D):Option D:=match x with
 |.dk d=>(Pl y).bind λk=>ui k d
 |_=>ixD x y
def oO:Dw G (λx y H Q=>rIx G.K x y H Q∨rDIx x y H Q) oo:=by
 intro A H x y dx I d Q L rx z h k;unfold oo at h;split at h
 .rename_i O;cases e:Pl I with
  |none=>simp[e] at h
  |some q=>
   obtain⟨p,g,rfl,U,T,r⟩:=rx.dk;simp[e] at h;obtain⟨v,S,J⟩:=(Kp (k:=q) T r).1 d h;exact .inr ⟨p,g,q,v,rfl,U,Vp z e,S,k v H (ab.refl H) J⟩
 .exact .inl (dW A H x y dx I d Q L rx z h k)
theorem vK(S:X.A.units+1<bE)(W:G.K=X.K)(ha:PU X G a fa)(hb:PU X G b fb)(hs:Mh b):PF X G (.Subscript a b pos) (bF oo fa fb):=
 λA=>Bp (qy (r:=λx y H Q=>rIx X.K x y H Q∨rDIx x y H Q) (cg.or (yW S)) (@ha A) (@hb A) hs) λ_ _ _ h=>Qt (by rw[<-W];exact oO) h
def DP(x y v:D):Option D:=match x with
 |.dk d=>(Pl y).bind λk=>if d.length<sizeLine then W1 (.dk (PH k v d)) else E2
 |_=>E2
def putF(i:Nat)(g d:FE):FS:=λρ=>(d ρ).bind λv=>(g ρ).bind λy=>(WO ρ i).bind λx=>(DP x y v).map λz=>.nx (ρ.set i (.ow z))
def bG{ρ:Rho}{o:QU}(h:putF i fa fb ρ=W1 o):∃v y x z,fb ρ=W1 v/\fa ρ=W1 y/\ρ[i]?=W1 (.ow x)/\DP x y v=W1 z/\o=.nx (ρ.set i (.ow z)):=by
 unfold putF at h;cases d:fb ρ with
 |none=>simp[d] at h
 |some v=>
  cases I:fa ρ with
  |none=>simp[d,I] at h
  |some y=>
   cases g:WO ρ i with
   |none=>simp[d,I,g] at h
   |some x=>
    cases U:DP x y v with
    |none=>simp[d,I,g,U] at h
    |some z=>
     simp[d,I,g,U] at h;exact⟨v,y,x,z,rfl,rfl,Og g,U,h.symm⟩
def Kr(hu:X.A.units+1<bE)(hv:PE X (.Name x xpos) (OH i))(ha:PF X G a fa)(hb:PF X G b fb)(hs:fw b (W1 (.Subscript (.Name x xpos) a spos)) pos.line X.env=pure ZA:=by rfl):Tb X G (.Assign [.Subscript (.Name x xpos) a spos] b pos) (putF i fa fb):=by
 rintro A0 He π s Z H D I ⟨L,o,⟨A,w⟩,e,k⟩
 obtain⟨v,y,x0,z,e1,e2,W,d,rfl⟩:=bG e;refine Tq hu hv (@ha A) (@hb A) hs π s Z H D I ?_;unfold DP at d;split at d
 .rename_i N0;cases U:Pl y with
  |none=>simp[U] at d
  |some q=>
   simp only[U,eI] at d;split at d
   .rename_i hz;cases d;obtain⟨p,Y,hA,J,h2,T,r⟩:=w.ok.ow i _ W;refine⟨L,v,w.ok,e1,λu H1 g r1=>⟨_,Y,L,y,(w.mono g).ok,e2,λyv H2 S r2=>?_⟩⟩;have ek:=Kq r2 U;subst ek;have hl:J.length<sizeLine:=by
     have:=NG eS T;rw[aw,aw] at this;omega
    refine⟨p,_,rfl,VT.k (S _ _ (g _ _ h2)) hl,?_⟩;have w2:=(w.mono g).mono S;have O:=UT (k:=q) (r1.mono (Ay S)) T (r.mono (Ay (g.trans S)));refine k _ _ ⟨A,w2.wr W Y ⟨_,Ag,O.1,?_⟩⟩;rw[De hA];exact O.2
   .cases d
 .cases d
end
theorem M3{G z:Type}{R:G->z->Prop}:∀{xs:List G}{ys:List z}{i:Nat}{x:G}{y:z},mo R xs ys->xs[i]?=W1 x->ys[i]?=W1 y->R x y
 |_,_,i,x,y,.nil,h,_=>by simp at h
 |_,_,0,x,y,.cons r _,g,d=>by
  simp at g d;rw[<-g,<-d];exact r
 |_,_,i+1,x,y,.cons _ t,g,d=>M3 t (by simpa using g) (by simpa using d)
def Itd(a:Addr)(o:Obj)(kvs:List (Key×V)):It:=
 ⟨λi H=>H a=W1 (.frz o (.dK kvs))/\i<kvs.length,λi H x d=>d=H/\∃p,kvs[i]?=W1 p/\x=kV p.1,λi H=>H a=W1 (.frz o (.dK kvs))/\kvs.length<=i⟩
def relK{k:Key}(h:(Av P w).is k u=E3):cx (kV k) u:=by
 rcases Bd h with ⟨i,t,rfl,rfl⟩ | ⟨x,t,rfl,rfl⟩
 .exact⟨t,rfl⟩
 .exact⟨t,rfl⟩
def Oo{es:Array xk}(I:Inv X π σ H s)(e:H a=W1 (.frz o (.dK kvs)))(J:o.data=.dict es ep):
  (a==hV)=ZA/\∃vs,KV kvs vs/\s.heap.DictAt (Av X.prog X.w) a vs ep:=by
 obtain⟨G,z,O,vs,g,Y,U,W,d,T,L,S⟩:=(show BJ X.prog X.w H s.heap a (.frz o (.dK kvs)) from I.hok a _ e);rw[G] at d;cases d;rw[J] at L;cases L;exact⟨O,vs,g,o,es,G,T,J,S⟩
theorem bH{K:aI}(a it:Addr){o:Obj}{es:Array xk}{ep:Nat}(hd:o.data=.dict es ep)(kvs:List (Key×V)):VQ P w K tg (Itd a o kvs) [it] it (λi h=>h.IsKeyIter it a i kvs.length ep) where
 mem:=by simp
 obj:=λi h U b L=>by
  have e:b=it:=by simpa using L
  subst e;obtain⟨o,e,c,d⟩:=U;exact⟨o,e,λv z=>by rw[d] at z;cases z⟩
 keep:=λi h W U k=>let ⟨o,e,c,d⟩:=U;⟨o,k it (by simp) o e,c,d⟩
 item:=by
  intro X hP hw hK hc i π s σ H E I T U hg;subst hP hw hK;obtain⟨he,S⟩:=hg;obtain⟨hm,g,G,dd⟩:=Oo I he hd;have Y:kvs.length=g.length:=G.length;obtain⟨f0,f1,f2,f3,f4,f5⟩:=T it (by simp);have hv:g[i]?=W1 (g[i]'(by omega)):=by simp[show i<g.length by omega]
  have hk:kvs[i]?=W1 (kvs[i]'S):=by simp[S]
  have N0:(kvs[i]'S).1=(g[i]'(by omega)).1:=(M3 G hk hv).1;refine wpAny_pyNext_dict_item (knd:=Av X.prog X.w) (kvs:=g) (k:=(g[i]'(by omega)).1) (v:=(g[i]'(by omega)).2) (by rw[<-Y];exact U) dd hv λZ W O J sb=>?_;rw[<-Y] at J;have I1:Inv X π σ H { s with heap:=W }:=I.turned (t':=s.toks) (λb o L e=>(sb.2 b L).trans e) f0 f1 f3 f4 f5;obtain⟨o1,e1,c1,d1⟩:=id J;exact⟨Z,rfl,VL (s:={ s with heap:=W }) e1 c1 d1 (by decide) ⟨kV (kvs[i]'S).1,H,I1,by rw[N0];exact relK O,⟨rfl,_,hk,rfl⟩,J,λb L=>(T b L).1⟩⟩
 done:=by
  intro X hP hw hK hc i π s σ H E I T U hg;subst hP hw hK;obtain⟨he,S⟩:=hg;obtain⟨hm,g,G,dd⟩:=Oo I he hd;have Y:kvs.length=g.length:=G.length;obtain⟨f0,f1,f2,f3,f4,f5⟩:=T it (by simp);exact wpAny_pyNext_dict_end (I.ok.hd hc) (by rw[<-Y];exact U) dd (by rw[oe];omega) λW eb=>⟨rfl,I.turned (t':=s.toks) (λb o L e=>eb b o L e) f0 f1 f3 f4 f5⟩
 self:=λ_ _ _ _ _ U h=>wpAny_pyIter_keyiter U h
section
variable {G:Gx}{a b:Expr}{fa:FE}{tl:TE}
def yX(d:TE):TI:=λg H R=>d g H λx z=>∃a o kvs,x=.ref a/\z a=W1 (.frz o (.dK kvs))/\R (Itd a o kvs) z
theorem oR{l:Expr}(hl:PE X l tl):PI X tg l (yX tl):=by
 intro Y s W H R I h;refine mr (hl Y s W H _ I h) λv z q0=>?_;obtain⟨x,S,g,r1,q1⟩:=q0;obtain⟨a,o,d,e,T,q⟩:=q1;subst e;cases r1;obtain⟨_,_,_,_,_,o',es,ep,J,h1,U,_⟩:=(show BJ X.prog X.w S z.heap a (.frz o (.dK d)) from g.hok a _ T);obtain⟨ho,_⟩:=(show BJ X.prog X.w S z.heap a (.frz o (.dK d)) from g.hok a _ T);rw[ho] at J;cases J;obtain⟨hm,Z,L,dd⟩:=Oo g T U;have O:d.length=Z.length:=L.length;refine wpAny_pyIter_dict hm dd ?_;refine⟨z.heap.objs.size,[z.heap.objs.size],_,_,S,rfl,g.kept (t':=z.toks) λb o e=>bg _ e,bH a _ U d,⟨_,cp _ rfl,rfl,by rw[O];rfl⟩,λb hb=>?_,q⟩;have e:b=z.heap.objs.size:=by simpa using hb
 subst e;exact g.fpOk (aE _) (g.hok.fresh (aE _))
def Sj:Key->D
 |.inl i=>.int i
 |.inr x=>.str x
def UV(k:Key):hQ G H (kV k) (Sj k):=by
 cases k with
 |inl i=>exact .int i
 |inr x=>exact .str x
def seqE(f:FE):FI:=λρ=>match f ρ with | some (.lst ds)=>W1 ds | some (.tup ds)=>W1 ds | some (.dk d)=>W1 (d.map λp=>Sj p.1) | _=>E2
def gO{g:List (Key×D)}(h:F1 p=W1 (.frz o (.dK kvs)))(e:kvs.map (·.1)=g.map (·.1)):Src G (Itd p o kvs) (g.map λp=>Sj p.1) F1 F2:=by
 have Y:kvs.length=g.length:=by have:=NG eS e;rwa [aw,aw] at this
 refine⟨λi H s L=>⟨s _ _ h,by rw[Y];rwa [aw] at L⟩,λi H x U d s I y=>?_,λi H s L=>⟨s _ _ h,by rw[Y];rwa [aw] at L⟩⟩;obtain⟨T,q,Z,S⟩:=y;refine Qx ⟨T,?_⟩;have J:(kvs.map (·.1))[i]?=W1 q.1:=by rw[cb,Z];rfl
 rw[e,cb] at J;rw[cb] at I;cases O:g[i]? with
 |none=>rw[O] at I;cases I
 |some z=>
  rw[O] at J I;cases I;injection J with J
  rw[S,<-J];exact UV _
def gP(W:G.K=X.K)(h:PF X G a fa):RI X G ZA tg a (seqE fa):=λA=>Qy (piOr (nQ W h (A:=A)) (oR (@h A)))<|by
 rintro S H R ⟨g,T,o,e,k⟩
 unfold seqE at e;split at e
 .rename_i J d;cases e;exact .inl ⟨g,_,o,by unfold seqI;rw[d],k⟩
 .rename_i J d;cases e;exact .inl ⟨g,_,o,by unfold seqI;rw[d],k⟩
 .rename_i L d;cases e;refine .inr ⟨g,_,o,d,λv O z I=>?_⟩;cases I with
  |dk h l r=>exact⟨_,_,_,rfl,Ao _ _ h,k _ O z (gO h l)⟩
 .cases e
end
section
variable {A:aS}
theorem yZ{l:Addr}{its:Array ac}(ne:l≠it):∀(m i:Nat) (s:ah) (Q:List ac->ah->Prop),s.heap.IsListIter it l i->s.heap.IsList l its->i+m=its.size ->
  (∀h',h'.IsListIter it l its.size->f6 it s.heap h'->Q (its.toList.drop i) { s with heap:=h' })->ag (ai prog w) A (draw (.ref it) m) Q E s:=by
 intro m
 induction m with
 |zero=>
  intro i s Q J Y S k;refine av ?_;have O:i=its.size:=by omega
  have e:its.toList.drop i=[]:=by rw[List.drop_eq_nil_iff];simp[O]
  rw[<-e];exact k s.heap (O▸J) (EC ..)
 |succ m L=>
  intro i s Q J Y S k;have lt:i<its.size:=by omega
  refine ae (m:=gg (.ref it)) (FY J Y (x:=its[i]) (by simp[lt]) λU I d=>?_);have z:U.IsList l its:=let ⟨o,e,r⟩:=Y;⟨o,(d.2 l ne).trans e,r⟩;refine ae (wpAny_holding (L (i+1) _ _ I z (by omega) λT G g=>av ?_));have e:its.toList.drop i=its[i]::its.toList.drop (i+1):=by simp[sh,lt]
  rw[<-e];exact k T G (d.trans g)
theorem oU{l:Addr}{its:Array ac}{Q:List ac->ah->Prop}(L:A.handled=E2)(Y:s.heap.IsList l its)(k:∀h',AU s.heap.objs.size s.heap h'->Q its.toList { s with heap:=h' }):ag (ai prog w) A (unpackItems (.ref l) its.size E2) Q E s:=by
 have ne:l≠s.heap.objs.size:=by obtain⟨o,J,_⟩:=Y;exact bX (bv J)
 have ty:s.TypeIs (.ref l) "list":=let ⟨o,e,c,_⟩:=Y;⟨o,e,c⟩;unfold unpackItems notIterableAtAll;refine ae (ae (nh ty PySem.F.slot_list_iter.lookup (av ?_)));simp only[dP,XG];refine ae (wpAny_holding (zI Y ?_));have g:(s.heap.push { cls:=.type "list_iterator",data:=.fields #[.ref l,.int 0 0] }).IsList l its:=let ⟨o,e,r⟩:=Y;⟨o,bg _ e,r⟩;refine ae (wpAny_holding (yZ ne its.size 0 _ _ ⟨_,cp _ rfl,rfl,rfl⟩ g (by omega) λS I d=>?_));rw[IA,RF (by simp)];have z:S.IsList l its:=let ⟨o,e,r⟩:=g;⟨o,(d.2 l ne).trans e,r⟩;refine ae (wpAny_holding (G0 L I z (by simp) λO T=>?_));simp only[Option.isSome_none,dP,XG];exact av (k O λb o G e=>T b o G ((d.2 b G).trans (bg _ e)))
end
section
variable {G:Gx}{a b:Expr}{fa:FE}{es:List Expr}
def gLst(K:aI)(n:Nat)(t:TGs):TG:=λv g H Q=>∃a xs,v=.ref a/\MR K H a xs/\xs.length=n/\t xs g H Q
theorem vL{k:Nat}{t:TGs}(hc:X.calm=E3)(h:PGs X es t)(Y:(iF es X.env).length=n:=by rfl)(z:(iF es X.env).findIdx? (·.1)=E2:=by rfl):PG X (.Tuple es k pos) (gLst X.K n t):=by
 intro L s J H v u Q I r g;obtain⟨a,S,rfl,W,Z,g⟩:=g;cases r;obtain⟨d,O,U,hz⟩:=I.list W;rw[assign_Tuple];refine ae (zY ?_);unfold unpack;have e:(iF es X.env).length=d.toArray.size:=by simp[Y,<-Z,O.length]
 rw[e,z];refine ae (wpAny_holding (oU (I.ok.hd hc) U.isList λh' T=>?_));have I1:Inv X L J H { s with heap:=h' }:=I.kept (t':=s.toks) λb o e=>T b o (bX (bv e)) e;exact h L _ J H S _ Q I1 (by simpa using O) g
def PG.or{t t':TG}(h:PG X tg t)(h':PG X tg t'):PG X tg (λv σ H Q=>t v σ H Q∨t' v σ H Q):=λd s σ H v u Q I r q=>by
 rcases q with q | q
 .exact h d s σ H v u Q I r q
 .exact h' d s σ H v u Q I r q
abbrev FGs:=List D->Rho->Option Rho
def MV:FGs:=λds ρ=>match ds with | []=>W1 ρ | _=>E2
def Aw(i:Nat)(g:FGs):FGs:=λds ρ=>match ds with | d::r=>g r (ρ.set i (.fz d)) | []=>E2
def MS(n:Nat)(g:FGs):FG:=λd ρ=>match d with
 |.tup ds=>if ds.length=n then g ds ρ else E2
 |.lst ds=>if ds.length=n then g ds ρ else E2
 |_=>E2
def tGDs(G:Gx)(A0:List Addr)(I:Hp)(g:FGs):TGs:=λvs L H Q=>∃A ρ ds z,NW G A0 I A L H ρ/\be G (bm A H) vs ds/\g ds ρ=W1 z/\∀d J,XT G A0 I d J z->Q d J
def PGDs(X:Cx)(G:Gx)(es:List Expr)(g:FGs):Prop:=∀⦃A0⦄ He,PGs X es (tGDs G A0 He g)
def JF:PGDs X G [] MV:=by
 rintro W U z s g H J L Q I r ⟨A,S,T,d,w,O,e,k⟩
 unfold MV at e;split at e
 .cases e;exact YC z s g H J L Q I r ⟨O.nil_inv,k _ _ ⟨A,w⟩⟩
 .cases e
def Bm{g:FGs}(h1:PG X e (Em i))(h2:PGDs X G es g)(hs:(iF (e::es) X.env).map (·.2)=ny e X.env::(iF es X.env).map (·.2):=by rfl):PGDs X G (e::es) (Aw i g):=by
 rintro A0 Z O s L H vs T Q I r ⟨A,ρ,ds,z,w,U,e,k⟩
 unfold Aw at e;split at e
 .rename_i d J;obtain⟨x,S,rfl,Y,W⟩:=U.uncons;exact Qe h1 (@h2 A0 Z) hs O s L H _ T Q I r ⟨x,S,rfl,A,_,J,z,w.set Y i,W,e,k⟩
 .cases e
def Ks{k:Nat}{g:FGs}(hG:G.K=X.K)(hc:X.calm=E3)(h:PGDs X G es g)(W:(iF es X.env).length=n:=by rfl)(J:(iF es X.env).findIdx? (·.1)=E2:=by rfl):PGD X G (.Tuple es k pos) (MS n g):=by
 rintro A0 He π s σ H v u Q I r ⟨A,T,d,z,w,U,e,k⟩
 refine PG.or (cI hc (@h A0 He) W J) (vL hc (@h A0 He) W J) π s σ H v u Q I r ?_;unfold MS at e;split at e
 .rename_i S;split at e
  .rename_i Y;cases U with
   |tup O Z L=>exact .inl ⟨_,_,rfl,by rw[<-hG];exact DN Ao O,by rw[Z];exact Y,A,T,S,z,w,⟨Z,L⟩,e,k⟩
  .cases e
 .rename_i S;split at e
  .rename_i Y;cases U with
   |lst O Z L=>exact .inr ⟨_,_,rfl,by rw[<-hG];exact Ao.seq O,by rw[Z];exact Y,A,T,S,z,w,⟨Z,L⟩,e,k⟩
  .cases e
 .cases e
def UZ(f:FE)(g:FG):FS:=λρ=>(f ρ).bind λd=>(g d ρ).map .nx
def Y4{g:FG}(hg:PGD X G tg g)(ha:PF X G a fa)(hs:swapsWithSole [tg] a pos.line X.env=pure ZA:=by rfl)(Z:swappedStores [tg] a X.env=pure E2:=by rfl)(h1:(iF [tg] X.env).map (·.2)=[ny tg X.env]:=by rfl):Tb X G (.Assign [tg] a pos) (UZ fa g):=by
 rintro A0 He U s T H D I ⟨z,o,⟨A,w⟩,e,k⟩
 unfold UZ at e;cases J:fa z with
 |none=>simp[J] at e
 |some d=>
  cases S:g d z with
  |none=>simp[J,S] at e
  |some O=>
   simp[J,S] at e;subst e;exact uY (@ha A) (@hg A0 He) hs Z h1 U s T H D I ⟨z,d,w.ok,J,λv H1 W Y=>⟨A,z,d,O,w.mono W,Y,S,λL H' ok=>k L H' ok⟩⟩
def Ej:CN X (.builtin "len") (λxs H Q=>∃a kvs,xs=[V.ref a]/\Rd H a (.dK kvs)/\Q (.int kvs.length) H):=by
 intro L s d H xs O Q I z h;obtain⟨a,kvs,rfl,e,q⟩:=h;obtain⟨u,rfl,g⟩:=z.one;cases g;exact yL I e λt S J=>⟨.int kvs.length,H,J,⟨t,rfl⟩,q⟩
def NN:D->Option D
 |.dk g=>W1 (.int g.length)
 |d=>UQ d
def HJ:Sa G (λxs H Q=>(∃x n,xs=[x]/\LenV G.K x H n/\Q (.int n) H)∨∃a kvs,xs=[V.ref a]/\Rd H a (.dK kvs)/\Q (.int kvs.length) H) NN:=by
 intro A H x dx d Q I rx h k;unfold NN at h;split at h
 .cases h;obtain⟨p,kvs,rfl,z,g,r⟩:=rx.dk;have Y:=NG eS g;rw[aw,aw] at Y;refine .inr ⟨p,kvs,rfl,z,?_⟩;rw[Y];exact k _ H (ab.refl H) (.int _)
 .exact .inl (Yb A H x dx d Q I rx h k)
end
def Iti(a:Addr)(o:Obj)(kvs:List (Key×V)):It:=
 ⟨λi H=>H a=W1 (.frz o (.dK kvs))/\i<kvs.length,λi H x d=>∃T p,H T=E2/\kvs[i]?=W1 p/\x=.ref T/\d=fk H T (.tup [kV p.1,p.2]),λi H=>H a=W1 (.frz o (.dK kvs))/\kvs.length<=i⟩
theorem Xc{K:aI}(a it:Addr){o:Obj}{es:Array xk}{ep:Nat}(hd:o.data=.dict es ep)(kvs:List (Key×V)):
  VQ P w K (.Tuple elts x1 tp) (Iti a o kvs) [it] it (λi h=>∃ok J,IsItemIter h it a i kvs.length ep ok J) where
 mem:=by simp
 obj:=λi h U b G=>by
  have e:b=it:=by simpa using G
  subst e;obtain⟨ok,J,e⟩:=U;exact⟨_,e,λv z=>by
   have z':Co _=Ct v:=z;cases z'⟩
 keep:=λi h h' U k=>let ⟨ok,J,e⟩:=U;⟨ok,J,k it (by simp) _ e⟩
 item:=by
  intro X hP hw hK hc i π s σ H E I hf U hg;subst hP hw hK;obtain⟨he,L⟩:=hg;obtain⟨ok,J,U⟩:=U;obtain⟨hm,d,g,dd⟩:=Oo I he hd;have Y:kvs.length=d.length:=g.length;obtain⟨T,f1,f2,f3,f4,f5⟩:=hf it (by simp);have hv:d[i]?=W1 (d[i]'(by omega)):=by simp[show i<d.length by omega]
  have hk:kvs[i]?=W1 (kvs[i]'L):=by simp[L]
  obtain⟨S0,O0⟩:=M3 g hk hv;have O:it<s.heap.objs.size:=bv U;refine wpAny_pyNext_items_item (knd:=Av X.prog X.w) (kvs:=d) (k:=(d[i]'(by omega)).1) (v:=(d[i]'(by omega)).2) (by rw[<-Y];exact U) dd hv λkey h1 S N0 ht hz kk=>?_;refine⟨_,rfl,wpAny_letOwnedTupleGo_items (s:={ s with heap:=h1 }) N0 λh2 Z sb=>?_⟩;have hT:H s.heap.objs.size=E2:=I.hok.fresh (aE _);have rk:cx (kV (kvs[i]'L).1) key:=by rw[S0];exact relK S
  have I1:Inv X π σ (fk H s.heap.objs.size (.tup [kV (kvs[i]'L).1,(kvs[i]'L).2])) { s with heap:=s.heap.push { cls:=.type "tuple",data:=.seq #[key,(d[i]'(by omega)).2] } }:=
   I.laid (a:=s.heap.objs.size) (t':=s.toks) (λb u e=>bg _ e) (aE _) ⟨by show 2<=sizeLine;decide,[key,(d[i]'(by omega)).2],.cons rk (.cons O0 .nil),_,cp _ rfl,rfl,_,rfl⟩
  have kp:∀b u,b≠it->(s.heap.push { cls:=.type "tuple",data:=.seq #[key,(d[i]'(by omega)).2] }).get? b=W1 u->h2.get? b=W1 u:=λb u G e=>by
   refine (sb.2 b G).trans ?_
   rcases ED e with ⟨rfl,rfl⟩ | e'
   .exact ht
   .exact kk b u G e'
  have I2:=L2.Inv.turned (t':=s.toks) (it:=it) (h':=h2) I1 kp (by rw[Ai (bX O)];exact T) f1 f3 f4 f5;refine⟨.ref s.heap.objs.size,_,I2,rfl,⟨_,_,hT,hk,rfl,rfl⟩,⟨key,(d[i]'(by omega)).2,by rw[Y];exact Z⟩,λb G=>?_⟩;have e:b=it:=by simpa using G
  subst e;rw[Ai (bX O)];exact T
 done:=by
  intro X hP hw hK hc i π s σ H E I hf U hg;subst hP hw hK;obtain⟨he,L⟩:=hg;obtain⟨ok,J,U⟩:=U;obtain⟨hm,d,g,dd⟩:=Oo I he hd;have Y:kvs.length=d.length:=g.length;obtain⟨T,f1,f2,f3,f4,f5⟩:=hf it (by simp);exact wpAny_pyNext_items_end (I.ok.hd hc) (by rw[<-Y];exact U) dd (by rw[oe];omega) λh' eb=>⟨rfl,I.turned (t':=s.toks) (λb o G e=>eb b o G e) T f1 f3 f4 f5⟩
 self:=by rintro _ _ _ _ _ ⟨ok,J,U⟩ h;exact PySem.W.kcp_self U h
section
variable {G:Gx}{a b:Expr}{fa:FE}{tl:TE}
def vM(d:TE):TI:=λg H R=>d g H λx z=>∃a o kvs,x=.ref a/\z a=W1 (.frz o (.dK kvs))/\R (Iti a o kvs) z
theorem gQ{l:Expr}{g:Pos}(hl:PE X l tl)(O:fN l "items" X.env (eval l X.env)=eval l X.env:=by rfl)(L:(apos.endLine==g.line)=E3:=by rfl):
  PI X (.Tuple elts x1 tp) (.Call (.Attribute l "items" apos) [] [] g) (vM tl):=by
 intro π s σ H R I h;refine wpAny_Call_method (T:="dict") (id:="dict.items") O rfl L F.plainAttrs_dict JA F.type_dict_items (mr (hl π s σ H _ I h) λv z q0=>?_);obtain⟨x,W,U,r1,q1⟩:=q0;obtain⟨a,o,d,e,hq,q⟩:=q1;subst e;cases r1;obtain⟨_,_,_,_,_,o',es,ep,S,h1,h2,_⟩:=(show BJ X.prog X.w W z.heap a (.frz o (.dK d)) from U.hok a _ hq);obtain⟨ho,_⟩:=(show BJ X.prog X.w W z.heap a (.frz o (.dK d)) from U.hok a _ hq);rw[ho] at S;cases S;obtain⟨hm,Y,Z,dd⟩:=Oo U hq h2;have N0:d.length=Y.length:=Z.length;have J:=dd.dictOf;refine⟨J.typeIs,J.mapOf.noDict,?_⟩;show ag _ _ (sN g (.builtin "dict.items") [.ref a] [] []) _ _ z;refine method_meetsIn JA F.entry_dict_items rfl (HC ⟨rfl,J.typeIs,F.args_dict_items_1 _,_,meets_dict_items (Av X.prog X.w) a hm,⟨Y,J⟩,?_⟩);have I2:Inv X π σ W { z with heap:=z.heap.push { cls:=.type "dict_items",data:=.fields #[.ref a] } }:=U.kept (t':=z.toks) λb o e=>bg _ e;refine wpAny_pyIter_items (knd:=Av X.prog X.w) (kvs:=Y) (s:={ z with heap:=z.heap.push { cls:=.type "dict_items",data:=.fields #[.ref a] } }) ⟨_,cp _ rfl,rfl,rfl⟩ (dd.push _) ?_;refine⟨(z.heap.push { cls:=.type "dict_items",data:=.fields #[.ref a] }).objs.size,[(z.heap.push { cls:=.type "dict_items",data:=.fields #[.ref a] }).objs.size],_,_,W,rfl,I2.kept (t':=z.toks) λb o e=>bg _ e,Xc a _ h2 d,⟨.none,.none,?_⟩,λb hb=>?_,q⟩
 .rw[N0];exact cp _ rfl
 .have e:b=(z.heap.push { cls:=.type "dict_items",data:=.fields #[.ref a] }).objs.size:=by simpa using hb
  subst e;exact I2.fpOk (aE _) (I2.hok.fresh (aE _))
def Oq(f:FE):FI:=λρ=>match f ρ with | some (.dk d)=>W1 (d.map λp=>.tup [Sj p.1,p.2]) | _=>E2
def gR{g d:Type}{f:g->d}{l:List g}{y:d}(h:(l.map f)[i]?=W1 y):∃x,l[i]?=W1 x/\f x=y:=by
 rw[cb] at h;exact iA.mp h
def bI{g:List (Key×D)}(h:F1 p=W1 (.frz o (.dK kvs)))(e:kvs.map (·.1)=g.map (·.1))(r:be G F2 (kvs.map (·.2)) (g.map (·.2))):
  Src G (Iti p o kvs) (g.map λp=>.tup [Sj p.1,p.2]) F1 F2:=by
 have Y:kvs.length=g.length:=by have:=NG eS e;rwa [aw,aw] at this
 refine⟨λi H s J=>⟨s _ _ h,by rw[Y];rwa [aw] at J⟩,λi H x H' d s hd y=>?_,λi H s J=>⟨s _ _ h,by rw[Y];rwa [aw] at J⟩⟩;obtain⟨T,q,L,Z,rfl,rfl⟩:=y;obtain⟨z,O,rfl⟩:=gR hd;have I:(kvs.map (·.1))[i]?=W1 q.1:=by rw[cb,Z];rfl
 rw[e,cb,O] at I;injection I with I
 have U:hQ G F2 q.2 z.2:=r.2 i q.2 z.2 (by rw[cb,Z];rfl) (by rw[cb,O];rfl);refine⟨Ak L _,λB W S=>?_⟩;have rr:be G (bm B H) [kV q.1,q.2] [Sj z.1,z.2]:=.cons (by rw[<-I];exact UV _) (.cons (U.mono S) .nil);exact Eo W L rr
def Sg{top:Bool}{g:Pos}(h:PF X G a fa)(z:fN a "items" X.env (eval a X.env)=eval a X.env:=by rfl)(d:(apos.endLine==g.line)=E3:=by rfl):
  RI X G ZA (.Tuple elts x1 tp) (.Call (.Attribute a "items" apos) [] [] g) (Oq fa):=λA=>Qy (gQ (@h A) z d)<|by
 rintro U H R ⟨I,W,o,e,k⟩
 unfold Oq at e;split at e
 .rename_i O S;cases e;refine⟨I,_,o,S,λv T J L=>?_⟩;cases L with
  |dk h l r=>exact⟨_,_,_,rfl,Ao _ _ h,k _ T J (bI h l ⟨by have:=NG eS l;rwa [aw,aw] at this ⊢,r⟩)⟩
 .cases e
end
section
variable {G:Gx}{b:Expr}{fb:FE}{es:List Expr}{fs:FA}
theorem UW{P:d3}{w:ca}:∀{kvs:List (Key×V)}{us:List ac},us.length=kvs.length->(∀(j:Nat) u,us[j]?=W1 u->∃p,kvs[j]?=W1 p/\(Av P w).is p.1 u=E3)->cc (kvs.map λp=>kV p.1) us
 |[],us,Y,_=>by
  have:us=[]:=AV Y;subst this;exact .nil
 |p::kvs,[],Y,_=>by simp at Y
 |p::kvs,u::us,Y,h=>by
  obtain⟨q,g,z⟩:=h 0 u rfl;simp at g;subst g;exact .cons (relK z) (UW (P:=P) (w:=w) (by simpa using Y) λj v d=>by simpa using h (j+1) v (by simpa using d))
theorem gU{H:Hp}:∀{kvs:List (Key×V)}{d:List (Key×D)},kvs.map (·.1)=d.map (·.1)->be G H (kvs.map λq=>kV q.1) (d.map λp=>Sj p.1)
 |[],[],_=>be.nil
 |[],_::_,h=>by simp at h
 |_::_,[],h=>by simp at h
 |p::kvs,q::d,h=>by
  rw[bn,bn] at h;injection h with g h2
  exact .cons (by show hQ G H (kV p.1) (Sj q.1);rw[g];exact UV _) (gU h2)
def M4(x:D)(ds:List D)(v:D):Option D:=match x with
 |.dt d=>(J4 ds).bind λk=>if d.length<sizeLine/\ds.length<=sizeLine then W1 (.dt (PH k v d)) else E2
 |_=>E2
def Vq(i:Nat)(g:FA)(d:FE):FS:=λρ=>(d ρ).bind λv=>(g ρ).bind λy=>(WO ρ i).bind λx=>(M4 x y v).map λz=>.nx (ρ.set i (.ow z))
def Xd{ρ:Rho}{o:QU}(h:Vq i fs fb ρ=W1 o):∃v y x z,fb ρ=W1 v/\fs ρ=W1 y/\ρ[i]?=W1 (.ow x)/\M4 x y v=W1 z/\o=.nx (ρ.set i (.ow z)):=by
 unfold Vq at h;cases d:fb ρ with
 |none=>simp[d] at h
 |some v=>
  cases I:fs ρ with
  |none=>simp[d,I] at h
  |some y=>
   cases g:WO ρ i with
   |none=>simp[d,I,g] at h
   |some x=>
    cases U:M4 x y v with
    |none=>simp[d,I,g,U] at h
    |some z=>
     simp[d,I,g,U] at h;exact⟨v,y,x,z,rfl,rfl,Og g,U,h.symm⟩
def gW(hu:X.A.units+1<bE)(hv:PE X (.Name x xpos) (OH i))(ha:TR X G es fs)(hb:PF X G b fb)(hs:fw b (W1 (.Subscript (.Name x xpos) (.Tuple es x1 tp) spos)) pos.line X.env=pure ZA:=by rfl):Tb X G (.Assign [.Subscript (.Name x xpos) (.Tuple es x1 tp) spos] b pos) (Vq i fs fb):=by
 rintro A0 He π s σ H D I ⟨O,o,⟨A,w⟩,e,k⟩
 obtain⟨v,y,x0,z,e1,e2,hi,d,rfl⟩:=Xd e;refine Tq hu hv (W8 (@ha A)) (@hb A) hs π s σ H D I ?_;unfold M4 at d;split at d
 .rename_i N0;cases L:J4 y with
  |none=>simp[L] at d
  |some q=>
   simp only[L,eI] at d;split at d
   .rename_i hz;cases d;obtain⟨p,h1,hA,J,h2,Z,r⟩:=w.ok.ow i _ hi;refine⟨O,v,w.ok,e1,λu H1 g r1=>⟨_,h1,O,y,(w.mono g).ok,e2,λvs H2 S W=>⟨by rw[W.1];exact hz.2,λT hT=>?_⟩⟩⟩;have ek:=Om W L;subst ek;have hl:J.length<sizeLine:=by
     have:=NG eS Z;rw[aw,aw] at this;omega
    have U:ab H2 (fk H2 T (.tup (q.map kV))):=Ak hT _;refine⟨p,_,rfl,VT.t (U _ _ (S _ _ (g _ _ h2))) Ag hl,?_⟩;have w2:=((w.mono g).mono S).mono U;have Y:=UT (k:=q) (r1.mono (Ay (S.trans U))) Z (r.mono (Ay (g.trans (S.trans U))));refine k _ _ ⟨A,w2.wr hi h1 ⟨_,Ag,Y.1,?_⟩⟩;rw[De hA];exact Y.2
   .cases d
 .cases d
end
section
variable {G:Gx}{a c:Expr}{fa:FE}{fs:FA}{src:FI}
def RI.top(h:RI X G ZA tg a src):RI X G E3 tg a src:=λA=>Qy (@h A) λW H R ⟨I,S,o,e,k⟩=>
 ⟨I,S,o,e,λJ T L g=>k J T L ⟨λi H s z=>g.go i H (Ao.trans s) z,λi H x U d s O y=>g.yld i H x U d (Ao.trans s) O y,λi H s z=>g.stop i H (Ao.trans s) z⟩⟩
theorem nk.ob{A:List Addr}{H:Hp}{v:V}{c:Str}{L:List (Str×D)}(r:nk G A H v (.ob c L)):∃a C dx fs,v=.ref a/\G.cl c=W1 C/\H a=W1 (.ins C dx fs)/\fs.map (·.1)=L.map (·.1)/\be G (bm A H) (fs.map (·.2)) (L.map (·.2)):=by
 rcases r with r | ⟨a,e,C,dx,fs,h,k,r⟩
 .cases r with
  |ob I h l r=>
   have Y:=NG eS l;rw[aw,aw] at Y;exact⟨_,_,_,_,rfl,I,Ao _ _ h,l,by rw[aw,aw];exact Y,r⟩
 .exact⟨a,C,dx,fs,e,k.1,h,k.2,r⟩
def gn(f:Str):D->Option D
 |.ob _ L=>L.lookup f
 |_=>E2
theorem Ot{H:Hp}{f:Str}{d:D}:∀{L:List (Str×D)}{fs:List (Str×V)},fs.map (·.1)=L.map (·.1)->be G H (fs.map (·.2)) (L.map (·.2))->L.lookup f=W1 d->∃v,fs.lookup f=W1 v/\hQ G H v d
 |[],fs,e,r,h=>by simp at h
 |p::L,[],e,r,h=>by simp at e
 |p::L,q::fs,e,r,h=>by
  rw[bn,bn] at e r;injection e with I e2
  obtain⟨x,T,S,g,J⟩:=r.uncons;injection S with U e5
  subst U e5;obtain⟨Y,W⟩:=p;obtain⟨q1,q2⟩:=q;simp only at I g;subst I
  by_cases z:f=q1
  .subst z;simp only[ck,MH,EE] at h ⊢;subst h;exact⟨q2,rfl,g⟩
  .have O:(f==q1)=ZA:=beq_eq_false_iff_ne.mpr z;simp only[ck,O] at h ⊢;exact Ot e2 J h
def Bo(g:∀c C,G.cl c=W1 C->NX X.K C/\BP X.K C f)(he:PU X G a fa)(S:fN a f X.env (eval a X.env)=eval a X.env:=by rfl):PF X G (.Attribute a f pos) (uF (gn f) fa):=
 λA=>Bp (W5 (@he A) S)<|by
  rintro Z H Q ⟨J,d,o,e,k⟩
  obtain⟨x0,W,z⟩:=Ht e;unfold gn at z;split at z
  .rename_i cn gs;refine⟨J,_,o,W,λv Y L O=>?_⟩;obtain⟨p,C,dx,fs,rfl,I,h,l,r⟩:=O.ob;obtain⟨v,U,T⟩:=Ot (f:=f) (d:=d) l r z;exact⟨_,_,_,_,v,rfl,h,(g _ _ I).1,(g _ _ I).2,U,k v Y L T⟩
  .cases z
end
def Its(x:Str):It:=⟨λi _=>i<x.cps.size,λi H y d=>d=H/\∃c,x.cps[i]?=W1 c/\y=.str ⟨#[c]⟩,λi _=>x.cps.size<=i⟩
theorem Vr{K:aI}(it:Addr)(x:Str)(t:Tok)(ty:String)(W:∀A:aS,A.handled=E2->mP P w A it [it] [it] x.cps.size (SignAt x) (λi h=>h.IsStrIter it ty x t i))(hn:["enumerate","zip","dict_itemiterator","dict_reverseitemiterator","odict_iterator","itertools.zip_longest","itertools.pairwise"].contains ty=ZA)(ot:∀(A:aS),A.handled=E2->∀(i:Nat) (s:ah) (Q:Option ac->ah->Prop) (E:ac->ah->Prop),s.heap.IsStrIter it ty x t i->x.cps[i]?=E2->(∀h',AU it s.heap h'->Q E2 { s with heap:=h' })->ag (ai P w) A (gg (.ref it)) Q E s)(self:∀(A:aS) (i:Nat) (s:ah) (Q:ac->ah->Prop) (E:ac->ah->Prop),s.heap.IsStrIter it ty x t i->Q (.ref it) s->ag (ai P w) A (nI (.ref it)) Q E s):
  VQ P w K tg (Its x) [it] it (λi h=>h.IsStrIter it ty x t i) where
 mem:=by simp
 obj:=λi h U b g=>by
  have e:b=it:=by simpa using g
  subst e;obtain⟨o,e,c,d⟩:=U;exact⟨o,e,λv z=>by rw[d] at z;cases z⟩
 keep:=λi h h' U k=>let ⟨o,e,c,d⟩:=U;⟨o,k it (by simp) o e,c,d⟩
 item:=by
  intro X hP L Y S i π s σ H E I J U O;subst hP L Y;obtain⟨f0,f1,f2,f3,T,Z⟩:=J it (by simp);refine (W X.A (I.ok.hd S)).item i s _ _ O U λv h' tk hv G kk=>?_;obtain⟨c,u,e1,rfl⟩:=hv;have I1:Inv X π σ H { s with heap:=h',toks:=tk }:=I.turned (λb o g e=>kk b o (by simpa using g) e) f0 f1 f3 T Z;obtain⟨o1,e2,c1,d1⟩:=id G;exact⟨_,rfl,VL (s:={ s with heap:=h',toks:=tk }) e2 c1 d1 hn ⟨.str ⟨#[c]⟩,H,I1,⟨u,rfl⟩,⟨rfl,c,e1,rfl⟩,G,λb g=>(J b g).1⟩⟩
 done:=by
  intro X hP L Y S i π s σ H E I J U O;subst hP L Y;obtain⟨f0,f1,f2,f3,T,Z⟩:=J it (by simp);exact ot X.A (I.ok.hd S) i s _ _ U (by rw[Array.getElem?_eq_none_iff];exact O) λh' eb=>⟨rfl,I.turned (t':=s.toks) (λb o g e=>eb b o g e) f0 f1 f3 T Z⟩
 self:=λA i s Q E U h=>self A i s Q E U h
section
variable {G:Gx}{a b c:Expr}{fa:FE}{tl:TE}
def iStr(d:TE):TI:=λg H R=>d g H λx z=>∃y,x=.str y/\R (Its y) z
theorem vN{l:Expr}(hl:PE X l tl):PI X tg l (iStr tl):=by
 intro O s Y H R I h;refine mr (hl O s Y H _ I h) λv z q0=>?_;obtain⟨x,L,d,Z,q1⟩:=q0;obtain⟨y,e,q⟩:=q1;subst e;obtain⟨t,e⟩:=(show ∃t,v=sC y t from Z);subst e;have T:∀b∈[z.heap.objs.size],To X O L b:=λb hb=>by
  have e:b=z.heap.objs.size:=by simpa using hb
  subst e;exact d.fpOk (aE _) (d.hok.fresh (aE _))
 cases S:y.cps.all (·<128)
 .exact wpAny_pyIter_wide S ⟨z.heap.objs.size,[z.heap.objs.size],_,_,L,rfl,d.kept (t':=z.toks) λb o e=>bg _ e,
   Vr _ y t "str_iterator" (λA W=>Walks.strWide W _ y t) (by decide) (λ_ J _ _ _ _ U g k=>wpAny_pyNext_wide_end J U g k) (λ_ _ _ _ _ U h=>wpAny_pyIter_striter_wide U h),⟨_,cp _ rfl,rfl,rfl⟩,T,q⟩
 .exact wpAny_pyIter_ascii S ⟨z.heap.objs.size,[z.heap.objs.size],_,_,L,rfl,d.kept (t':=z.toks) λb o e=>bg _ e,
   Vr _ y t "str_ascii_iterator" (λA W=>Walks.strAscii W _ y t) (by decide) (λ_ J _ _ _ _ U g k=>wpAny_pyNext_ascii_end J U g k) (λ_ _ _ _ _ U h=>wpAny_pyIter_striter_ascii U h),⟨_,cp _ rfl,rfl,rfl⟩,T,q⟩
def Vs(x:Str):List D:=x.cps.toList.map λc=>.str ⟨#[c]⟩
def oV:Src G (Its x) (Vs x) F1 F2:=by
 have Y:(Vs x).length=x.cps.size:=by unfold Vs;simp
 refine⟨λi H s g=>by rw[Y] at g;exact g,λi H y J d s I q=>?_,λi H s g=>by rw[Y] at g;exact g⟩;obtain⟨q1,c,q2,q3⟩:=q;refine Qx ⟨q1,?_⟩;obtain⟨z,O,rfl⟩:=gR I;have e:x.cps[i]?=W1 z:=by simpa using O
 rw[e] at q2;cases q2;rw[q3];exact .str _
def pq(f:FE):FI:=λρ=>match f ρ with | some (.str x)=>W1 (Vs x) | _=>seqE f ρ
def BL(W:G.K=X.K)(h:PF X G a fa):RI X G ZA tg a (pq fa):=λA=>Qy (piOr (gP W h (A:=A)) (vN (@h A)))<|by
 rintro L H R ⟨g,O,o,e,k⟩
 unfold pq at e;split at e
 .rename_i x I;cases e;refine .inr ⟨g,_,o,I,λv J z d=>?_⟩;cases d;exact⟨_,rfl,k _ J z oV⟩
 .exact .inl ⟨g,_,o,e,k⟩
def Po:List D->Option (List Bool)
 |[]=>W1 []
 |.bl i::r=>(Po r).map (i::·)
 |_::_=>E2
theorem Y5{H:Hp}:∀{ds:List D}{xs:List V}{bs:List Bool},be G H xs ds->Po ds=W1 bs->xs=bs.map V.bl
 |[],xs,bs,r,h=>by cases h;exact r.nil_inv
 |d::ds,xs,bs,r,h=>by
  obtain⟨x,I,rfl,g,L⟩:=r.uncons;cases d with
  |bl i=>
   cases e:Po ds with
   |none=>simp[Po,e] at h
   |some z=>
    simp[Po,e] at h;subst h;cases g;rw[Y5 L e];rfl
  |_=>simp[Po] at h
theorem Ou(hc:X.calm=E3):CN X (.builtin "all") (λxs H Q=>∃(p:Addr) (bs:List Bool),xs=[.ref p]/\MR X.K H p (bs.map V.bl)/\Q (.bl (bs.all id)) H):=by
 intro π s σ H xs us Q I r h;obtain⟨p,bs,rfl,hs,k⟩:=h;obtain⟨u,rfl,L⟩:=r.one;cases L;obtain⟨d,U,Z,hz⟩:=I.list hs;have S:=Z.isList;have O:p≠s.heap.objs.size:=by obtain⟨o,ho,_⟩:=S;exact bX (bv ho)
 have g:bs.length=d.length:=by have:=U.length;rwa [aw] at this
 refine call_all_walk (zI S ?_);refine⟨_,_,_,_,_,_,λi=>bs.getD i E3,rfl,AJ (A:=X.A.in1) (I.ok.hd hc) s.heap.objs.size p O d.toArray,⟨⟨_,cp _ rfl,rfl,rfl⟩,S.push _⟩,?_,λh' tk kk=>?_⟩
 .intro i v s' Q' E' hv hq;have z:d[i]?=W1 v:=by simpa using hv
  have hlt':i<bs.length:=by rw[g];exact (fF.mp z).1
  obtain⟨u',W,L⟩:=U.get (i:=i) (x:=.bl (bs[i]'hlt')) (by rw[cb];simp[hlt']);rw[z] at W;cases W;cases (show v=rh (bs[i]'hlt') from L);have e:bs.getD i E3=bs[i]'hlt':=by simp[EF,hlt']
  have J:Q' (bs.getD i E3) s':=hq;rw[e] at J;exact jS J
 .refine⟨.bl (bs.all id),H,I.kept (λb o e=>kk b o ?_ (bg _ e)),?_,k⟩
  .intro T;have:b=s.heap.objs.size:=by simpa using T
   exact SF (bv e) (by rw[this];exact iE _)
  .show rh _=rh _;congr 1;rw[cw,<-g];rw[ib,dL,dL];constructor
   .intro q b T;obtain⟨i,z,rfl⟩:=xD T;have:=q i (da.mpr z);simpa [EF,z] using this
   .intro q i z;have Y:=da.mp z;have:=q (bs[i]'Y) (eW Y);simpa [EF,Y] using this
def Zs:D->Option D
 |.lst ds=>(Po ds).map λbs=>.bl (bs.all id)
 |_=>E2
def Ua:Sa G (λxs H Q=>∃(p:Addr) (bs:List Bool),xs=[.ref p]/\MR G.K H p (bs.map V.bl)/\Q (.bl (bs.all id)) H) Zs:=by
 intro A H x dx d Q J rx h k;unfold Zs at h;split at h
 .rename_i I;cases e:Po I with
  |none=>simp[e] at h
  |some bs=>
   rw[e] at h;cases h;obtain⟨p,xs,rfl,g,r⟩:=rx.lst;have z:=Y5 r e;subst z;exact⟨p,bs,rfl,g,k _ H (ab.refl H) (.bl _)⟩
 .cases h
def Xe:d6 "all"=W1 (.builtin "all"):=by decide +kernel
end
section
variable {G:Gx}{b c:Expr}
def OT(x d:D):Bool:=match RH 62 d x with | some b=>b | none=>ZA
def WU(x d:D):Bool:=(RH 62 d x).isSome
def rInP(G:Gx)(d:Bool):R2:=λx y H Q=>∃(A:List Addr) (as ds:List D),nk G A H x (.tup as)/\nk G A H y (.lst ds)/\ds.all (WU (.tup as))=E3/\Q (.bl (if d then !ds.any (OT (.tup as)) else ds.any (OT (.tup as)))) H
open Classical in
def Y6(hG:G.K=X.K)(hu:X.A.units+64<bE){π:NI}{s:ah}{σ:St}{H:Hp}{A:List Addr}{x:V}{u:ac}{as ds:List D}{xs:List V}{g:List ac}(I:Inv X π σ H s)(rx:nk G A H x (.tup as))(ru:cx x u)(r:be G (bm A H) xs ds)(v:cc xs g)(hk:ds.all (WU (.tup as))=E3):
  ∃e:ac->Bool,(∀y,y∈g.toArray->mI X.A.in1 s y u (e y))/\g.toArray.any e=ds.any (OT (.tup as)):=by
 have Z:hQ G H x (.tup as):=by
  rcases rx with q | ⟨p,_,q⟩
  .exact q.mono Ao
  .exact q.elim
 have one:∀(i:Nat) y,g[i]?=W1 y->∃d,ds[i]?=W1 d/\mI X.A.in1 s y u (OT (.tup as) d):=λi y L=>by
  have J:i<g.length:=(fF.mp L).1;have z:i<xs.length:=by rw[v.length];exact J
  have S:i<ds.length:=by rw[<-r.1];exact z
  obtain⟨y',W,U⟩:=v.get (i:=i) (x:=xs[i]) (by simp[z]);rw[L] at W;cases W;refine⟨ds[i],by simp[S],?_⟩;have kn:WU (.tup as) ds[i]=E3:=dL.mp hk _ (eW S);unfold WU at kn;obtain⟨b,hb⟩:=D0.mp kn;have eb:OT (.tup as) ds[i]=b:=by unfold OT;rw[hb]
  rw[eb];exact Qw I hG 62 X.A.in1 (by show X.A.units+1+62<bE;omega) hb ((r.2 i _ _ (by simp[z]) (by simp[S])).mono Ao) Z U ru
 refine⟨λy=>decide (∃(i:Nat) (d:D),g[i]?=W1 y/\ds[i]?=W1 d/\OT (.tup as) d=E3),λy L=>?_,?_⟩
 .by_cases h:∃(i:Nat) (d:D),g[i]?=W1 y/\ds[i]?=W1 d/\OT (.tup as) d=E3
  .obtain⟨i,d,W,U,h3⟩:=id h;obtain⟨d',Y,T⟩:=one i y W;rw[U] at Y;cases Y;rw[h3] at T;show mI X.A.in1 s y u (decide (∃(i:Nat) (d:D),g[i]?=W1 y/\ds[i]?=W1 d/\OT (.tup as) d=E3));rw[MG h];exact T
  .obtain⟨i,J,rfl⟩:=xD (show y∈g by simpa using L);have O:g[i]?=W1 g[i]:=cr J;obtain⟨d,Y,T⟩:=one i _ O;have h6:OT (.tup as) d=ZA:=by
    cases q:OT (.tup as) d with
    |false=>rfl
    |true=>exact SF ⟨i,d,O,Y,q⟩ h
   rw[h6] at T;show mI X.A.in1 s g[i] u (decide (∃(j:Nat) (d:D),g[j]?=W1 g[i]/\ds[j]?=W1 d/\OT (.tup as) d=E3));rw[UF h];exact T
 .rw[ib,qr];rw[show g.toArray.any (λy=>decide (∃(i:Nat) (d:D),g[i]?=W1 y/\ds[i]?=W1 d/\OT (.tup as) d=E3))=g.any (λy=>decide (∃(i:Nat) (d:D),g[i]?=W1 y/\ds[i]?=W1 d/\OT (.tup as) d=E3)) by simp,qr];constructor
  .rintro⟨y,L,h⟩;obtain⟨i,d,W,U,h3⟩:=OG h;exact⟨d,pT U,h3⟩
  .rintro⟨d,S,h⟩;obtain⟨i,J,rfl⟩:=xD S;have z:i<g.length:=by rw[<-v.length,r.1];exact J
   exact⟨g[i],eW z,MG ⟨i,_,cr z,cr J,h⟩⟩
def gY(W:G.K=X.K)(S:X.A.units+64<bE):NH X (dA .In) (rInP G ZA):=by
 intro π s σ H x y v u Q I rx z h;obtain⟨A,as,ds,d,L,T,k⟩:=h;obtain⟨c,ys,rfl,Y,q2⟩:=L.lst;cases z;obtain⟨O,g,J,_⟩:=I.list (by rw[<-W];exact Y);obtain⟨e,U,Z⟩:=Y6 W S I d rx q2 g T;exact GY e J.isList U ⟨.bl _,H,I,rfl,by rw[Z];exact k⟩
def bJ(W:G.K=X.K)(S:X.A.units+64<bE):NH X (dA .NotIn) (rInP G E3):=by
 intro π s σ H x y v u Q I rx z h;obtain⟨A,as,ds,d,L,T,k⟩:=h;obtain⟨c,ys,rfl,Y,q2⟩:=L.lst;cases z;obtain⟨O,g,J,_⟩:=I.list (by rw[<-W];exact Y);obtain⟨e,U,Z⟩:=Y6 W S I d rx q2 g T;exact H0 e J.isList U ⟨.bl _,H,I,rfl,by rw[Z];exact k⟩
def RU(d:Bool)(x y:D):Option D:=match x,y with
 |.tup as,.lst ds=>if ds.all (WU (.tup as))=E3 then W1 (.bl (if d then !ds.any (OT (.tup as)) else ds.any (OT (.tup as)))) else E2
 |x,y=>inE d x y
def Ub(g:Bool):Dw G (λx y H Q=>(rInA G.K g x y H Q∨rDIn g x y H Q)∨rInP G g x y H Q) (RU g):=by
 intro A H x y dx L d Q I rx z h k;unfold RU at h;split at h
 .split at h
  .rename_i J;cases h;exact .inr ⟨A,_,_,rx,z,J,k _ H (ab.refl H) (.bl _)⟩
  .cases h
 .exact .inl (oN g A H x y _ _ d Q I rx z h k)
end
end PV
namespace PySem
open PySem.Spec
end PySem
namespace PV
open PySem L2
abbrev FZ:=Rho->Option (D×Rho)
abbrev FZA:=Rho->Option (List D×Rho)
open PySem.Spec
open PyProof.Rows hiding St
def Vt:d6 "tuple"=W1 (.type "tuple"):=by decide +kernel
def Gx.lend(G:Gx)(x:Addr):Gx:={ G with lent:=W1 x }
section
variable {G:Gx}{x:Addr}
def MY.sub{d:D}(t:MY G B H a d)(h:∀a∈A,a∈B):MY G A H a d:=by
 cases d with
 |lst z=>obtain⟨g,q1,q2⟩:=t;exact⟨g,q1,q2.mono (CJ h)⟩
 |dk z=>obtain⟨g,q1,q2,q3⟩:=t;exact⟨g,q1,q2,q3.mono (CJ h)⟩
 |dt z=>obtain⟨g,q1,q2,q3⟩:=t;exact⟨g,q1,q2,q3.mono (CJ h)⟩
 |ob c L=>obtain⟨C,dx,g,q1,q2,q3⟩:=t;exact⟨C,dx,g,q1,q2,q3.mono (CJ h)⟩
 |_=>exact t.elim
def K_(x:Addr)(H d:Hp):Prop:=∀b o,b≠x->H b=W1 o->d b=W1 o
def G5(g:x∈A)(s:K_ x H H'):ab (bm A H) (bm A H'):=λb o h=>by
 unfold bm at h ⊢;split at h
 .cases h
 .rename_i d;rw[RF d];exact s b o (λz=>d (z▸g)) h
def MY.other{d:D}(t:MY G A H q d)(Z:q≠x)(J:x∈A)(s:K_ x H H'):MY G A H' q d:=by
 have z:=G5 J s;cases d with
 |lst I=>obtain⟨g,q1,q2⟩:=t;exact⟨g,s _ _ Z q1,q2.mono z⟩
 |dk I=>obtain⟨g,q1,q2,q3⟩:=t;exact⟨g,s _ _ Z q1,q2,q3.mono z⟩
 |dt I=>obtain⟨g,q1,q2,q3⟩:=t;exact⟨g,s _ _ Z q1,q2,q3.mono z⟩
 |ob c L=>obtain⟨C,dx,g,q1,q2,q3⟩:=t;exact⟨C,dx,g,s _ _ Z q1,q2,q3.mono z⟩
 |_=>exact t.elim
end
abbrev Ef:=List (Str×Bool×D)
abbrev Pi:=Rho->Ef->Option (Rho×Ef)
abbrev FTE:=Rho->Ef->Option Bool
def OL(ρ:Rho):Bool:=ρ.all λz=>match z with | .ow _=>ZA | _=>E3
def OX(g:FS):Pi:=λρ z=>match g ρ with | some (.nx d)=>if OL d=E3 then W1 (d,z) else E2 | _=>E2
def HN(f:Str)(fe:FE):Pi:=λρ z=>(fe ρ).bind λd=>if (z.lookup f).isNone=E3/\z.length<1000 then W1 (ρ,z++[(f,ZA,d)]) else E2
def Pj(f:Str)(fe:FE):Pi:=λρ z=>(fe ρ).bind λd=>if (z.lookup f).isNone=E3/\z.length<1000 then W1 (ρ,z++[(f,E3,d)]) else E2
def OI(f:Str)(d:D):Ef->Ef
 |[]=>[]
 | (g,b,x)::r=>if g=f then (g,b,d)::r else (g,b,x)::OI f d r
def Pk(f:Str)(G g:FE):Pi:=λρ z=>(g ρ).bind λv=>(G ρ).bind λk=>match z.lookup f with | some (E3,d)=>(DP d k v).map λd'=>(ρ,OI f d' z) | _=>E2
def Q6(t:FT):FTE:=λρ _=>t ρ
def YO(f:Str)(g:FE):FTE:=λρ z=>(g ρ).bind λk=>match z.lookup f with | some (E3,.dk d)=>(Pl k).map λq=>(ui q d).isSome | _=>E2
def orTE(a b:FTE):FTE:=λρ z=>match a ρ z with | some E3=>W1 E3 | some ZA=>b ρ z | none=>E2
def ifE(t:FTE):Pi:=λρ z=>match t ρ z with | some ZA=>W1 (ρ,z) | _=>E2
def nilE:Pi:=λρ z=>W1 (ρ,z)
def Fb(g L:Pi):Pi:=λρ z=>(g ρ z).bind λr=>L r.1 r.2
def Hu(tg:FG)(b:Pi):List D->Pi
 |[],ρ,z=>W1 (ρ,z)
 |d::r,ρ,z=>(tg d ρ).bind λG=>if OL G=E3 then (b G z).bind λq=>Hu tg b r q.1 q.2 else E2
def YU(src:FI)(tg:FG)(b:Pi):Pi:=λρ z=>(src ρ).bind λds=>Hu tg b ds ρ z
def Q7(n:Nat)(x:Addr)(ds:List D):Rho:=CP n (.adr x::ds)
def XZ(n g:Nat)(b:Pi)(x:Addr)(ds:List D):Option Ef:=if ds.length+1=g then (b (Q7 n x ds) []).map (·.2) else E2
def finE(c:Str)(z:Ef):D:=.ob c (z.map λp=>(p.1,p.2.2))
open Classical in
noncomputable def mkI(c:Str)(g:Addr->List D->Option Ef)(fs:FA):FE:=λρ=>(fs ρ).bind λds=>(g 0 ds).bind λz=>if ∀x,g x ds=W1 z then W1 (finE c z) else E2
end PV
variable {g:List PV.D->Option PV.D}{G:PV.Gx}{d:PV.D}{ds:List PV.D}{ρ:PV.Rho}{kds:List (L2.Key×PV.D)}{src:PV.FI}{fg:PV.FG}{ga ft:PV.FT}{fe:PV.FE}{ε:PV.Ef}
namespace PV
open PySem PySem.Spec L2
open PyProof.Rows hiding St
def CV(h:OL ρ=E3)(i:Nat)(d:D):ρ[i]?≠W1 (.ow d):=λe=>by
 unfold OL at h;rw[dL] at h;have:=h _ (pT e);cases this
inductive rz (G:Gx) (A0 A:List Addr) (H:Hp) (x:Addr):List (Str×V)->Ef->List Addr->Prop
 |nil:rz G A0 A H x [] [] []
 |pl {f:Str}{v:V}{d:D}{fs:List (Str×V)}{ε:Ef}{as:List Addr}:hQ G (bm A H) v d->rz G A0 A H x fs ε as->rz G A0 A H x ((f,v)::fs) ((f,ZA,d)::ε) as
 |ow {f:Str}{a:Addr}{d:D}{fs:List (Str×V)}{ε:Ef}{as:List Addr}:a∈A->a∉A0->a≠x->a∉as->MY G A H a d->rz G A0 A H x fs ε as->rz G A0 A H x ((f,.ref a)::fs) ((f,E3,d)::ε) (a::as)
section
variable {A':List Addr}{x:Addr}{fs:List (Str×V)}{as:List Addr}
def rz.mp(h:rz G A0 A H x fs ε as)(r:∀v d,hQ G (bm A H) v d->hQ G (bm A' H') v d)(t:∀a∈as,∀d,MY G A H a d->MY G A' H' a d)(s:∀a∈as,a∈A->a∈A'):rz G A0 A' H' x fs ε as:=by
 induction h with
 |nil=>exact .nil
 |pl J _ z=>exact .pl (r _ _ J) (z t s)
 |ow U T S L O _ z=>exact .ow (s _ dn U) T S L (t _ dn _ O) (z (λa I=>t a (cE _ I)) (λa I=>s a (cE _ I)))
def rz.names(h:rz G A0 A H x fs ε as):fs.map (·.1)=ε.map (·.1):=by
 induction h with
 |nil=>rfl
 |pl _ _ z=>simp[z]
 |ow _ _ _ _ _ _ z=>simp[z]
def rz.len(h:rz G A0 A H x fs ε as):fs.length=ε.length:=by
 have:=NG eS h.names;simpa using this
def rz.ne(h:rz G A0 A H x fs ε as):∀a∈as,a∈A/\a∉A0/\a≠x:=by
 induction h with
 |nil=>intro a J;cases J
 |pl _ _ I=>exact I
 |ow O L S _ _ _ I=>
  intro a J
  rcases bP.mp J with z | z
  .subst z;exact⟨O,L,S⟩
  .exact I a z
theorem Ov{f:Str}{v:V}:∀{fs:List (Str×V)},fs.lookup f=E2->L2.putF f v fs=fs++[(f,v)]
 |[],_=>rfl
 | (g,y)::r,h=>by
  by_cases I:f=g
  .subst I;simp[ck] at h
  .have J:(f==g)=ZA:=beq_eq_false_iff_ne.mpr I;simp only[ck,J] at h;show (if g=f then (g,v)::r else (g,y)::L2.putF f v r)=_;rw[RF (λz=>I z.symm),Ov h];rfl
def rz.none(h:rz G A0 A H x fs ε as)(e:ε.lookup f=E2):fs.lookup f=E2:=by
 induction h with
 |nil=>rfl
 | @pl g v d fs ε as _ _ I=>
  by_cases z:f=g
  .subst z;simp[ck] at e
  .have J:(f==g)=ZA:=beq_eq_false_iff_ne.mpr z;simp only[ck,J] at e ⊢;exact I e
 | @ow g a d fs ε as _ _ _ _ _ _ I=>
  by_cases z:f=g
  .subst z;simp[ck] at e
  .have J:(f==g)=ZA:=beq_eq_false_iff_ne.mpr z;simp only[ck,J] at e ⊢;exact I e
def rz.snocP(h:rz G A0 A H x fs ε as)(r:hQ G (bm A H) v d):rz G A0 A H x (fs++[(f,v)]) (ε++[(f,ZA,d)]) as:=by
 induction h with
 |nil=>exact .pl r .nil
 |pl I _ z=>exact .pl I z
 |ow T L S J O _ z=>exact .ow T L S J O z
def rz.snocO(h:rz G A0 A H x fs ε as)(h1:a∈A)(U:a∉A0)(T:a≠x)(J:a∉as)(t:MY G A H a d):rz G A0 A H x (fs++[(f,.ref a)]) (ε++[(f,E3,d)]) (as++[a]):=by
 induction h with
 |nil=>exact .ow h1 U T (λz=>nomatch z) t .nil
 |pl L _ I=>exact .pl L (I J)
 | @ow g b e fs ε as q1 q2 q3 O Y _ I=>
  have S:a≠b:=λz=>J (by simp[z]);refine .ow q1 q2 q3 (λz=>?_) Y (I λz=>J (cE _ z))
  rcases dQ.mp z with z | z
  .exact O z
  .simp at z;exact S z.symm
def rz.get(h:rz G A0 A H x fs ε as)(e:ε.lookup f=W1 (E3,d)):∃a,fs.lookup f=W1 (.ref a)/\a∈as/\a∈A/\a∉A0/\a≠x/\MY G A H a d:=by
 induction h with
 |nil=>cases e
 | @pl g v U fs ε as _ _ I=>
  by_cases z:f=g
  .subst z;simp[ck] at e
  .have J:(f==g)=ZA:=beq_eq_false_iff_ne.mpr z;simp only[ck,J] at e ⊢;exact I e
 | @ow g a U fs ε as T L S _ O _ I=>
  by_cases z:f=g
  .subst z;simp only[ck,MH,EE,sA,true_and] at e ⊢;subst e;exact⟨a,rfl,dn,T,L,S,O⟩
  .have J:(f==g)=ZA:=beq_eq_false_iff_ne.mpr z;simp only[ck,J] at e ⊢;obtain⟨W,q1,q2,q3⟩:=I e;exact⟨W,q1,cE _ q2,q3⟩
def rz.wr{d':D}(h:rz G A0 A H x fs ε as)(e:ε.lookup f=W1 (E3,d))(J:fs.lookup f=W1 (.ref a))(sx:K_ a H H')(W:a∈A)(t:MY G A H' a d'):rz G A0 A H' x fs (OI f d' ε) as:=by
 have U:=G5 W sx
 induction h with
 |nil=>cases e
 | @pl g v d2 fs ε as rv S O=>
  by_cases I:f=g
  .subst I;simp[ck] at e
  .have T:(f==g)=ZA:=beq_eq_false_iff_ne.mpr I;simp only[ck,T] at e J;unfold OI;rw[RF (λz=>I z.symm)];exact .pl (rv.mono U) (O e J)
 | @ow g b d2 fs ε as h1 Z Y L h5 S O=>
  by_cases I:f=g
  .subst I;simp only[ck,MH,EE,V.ref.injEq] at J;subst J;unfold OI;rw[OF rfl];refine .ow h1 Z Y L t (S.mp (λv d r=>r.mono U) (λc hc d t'=>t'.other (λz=>L (by rw[<-z];exact hc)) W sx) λ_ _ z=>z)
  .have T:(f==g)=ZA:=beq_eq_false_iff_ne.mpr I;simp only[ck,T] at e J;obtain⟨a',q1,q2,_⟩:=S.get e;rw[J] at q1;cases q1;unfold OI;rw[RF (λz=>I z.symm)];exact .ow h1 Z Y L (h5.other (λz=>L (z▸q2)) W sx) (O e J)
end
structure VS (G:Gx) (c:Str) (A0:List Addr) (He:Hp) (x:Addr) (A:List Addr) (σ:St) (H:Hp) (ρ:Rho) (ε:Ef):Prop where
 w:NW G A0 He A σ H ρ
 no:OL ρ=E3
 xA:x∈A
 x0:x∉A0
 s0:ρ[0]?=W1 (.fz (.adr x))
 ob:∃C dx fs as,H x=W1 (.ins C dx fs)/\G.cl c=W1 C/\rz G A0 A H x fs ε as
def ZO(G:Gx)(c:Str)(A0:List Addr)(J:Hp)(x:Addr)(z:St)(H:Hp)(ρ:Rho)(I:Ef):Prop:=∃A,VS G c A0 J x A z H ρ I
section
variable {c:Str}{x:Addr}
theorem VS.at0(o:VS G c A0 He x A σ H ρ ε):σ[0]?=W1 (W1 (.ref x)):=by
 obtain⟨v,I,z⟩:=o.w.ok.fz 0 _ o.s0;cases z;exact I
theorem VS.mono(o:VS G c A0 He x A σ H ρ ε)(s:ab H H'):VS G c A0 He x A σ H' ρ ε:=by
 obtain⟨C,dx,fs,as,J,I,S⟩:=o.ob;exact⟨o.w.mono s,o.no,o.xA,o.x0,o.s0,C,dx,fs,as,s _ _ J,I,S.mp (λv d r=>r.mono (Ay s)) (λa L d t=>t.mono s) λ_ _ z=>z⟩
def gZ(s:ab H H')(fr:∀a∈B,a∈A∨H a=E2):ab (bm A H) (bm B H'):=λb u h=>by
 unfold bm at h;split at h
 .cases h
 .rename_i I;rw[Ax]
  .exact s b u h
  .intro z
   rcases fr b z with q | q
   .exact I q
   .rw[q] at h;cases h
def MY.plain(t:MY G A H a d)(s:ab H H')(p:ab (bm A H) (bm B H')):MY G B H' a d:=by
 cases d with
 |lst I=>obtain⟨z,q1,q2⟩:=t;exact⟨z,s _ _ q1,q2.mono p⟩
 |dk I=>obtain⟨z,q1,q2,q3⟩:=t;exact⟨z,s _ _ q1,q2,q3.mono p⟩
 |dt I=>obtain⟨z,q1,q2,q3⟩:=t;exact⟨z,s _ _ q1,q2,q3.mono p⟩
 |ob c L=>obtain⟨C,dx,z,q1,q2,q3⟩:=t;exact⟨C,dx,z,s _ _ q1,q2,q3.mono p⟩
 |_=>exact t.elim
theorem VS.frame(o:VS G c A0 He x A σ H ρ ε):XT G A H σ H ρ:=⟨A,ab.refl H,λ_ h=>h,λa h=>.inl h,λa z=>(o.w.ok.live a z).ne,o.w.ok,λi d a h _=>SF h (CV o.no i d),λy d _ h=>SF h (CV o.no 0 d)⟩
def VS.unframe{J:St}{z:Rho}(o:VS G c A0 He x A σ H ρ ε)(w:XT G A H J H' z)(L:OL z=E3)(W:z[0]?=W1 (.fz (.adr x))):ZO G c A0 He x J H' z ε:=by
 obtain⟨B,w⟩:=w;have O:ab (bm A H) (bm B H'):=gZ w.same w.fr;obtain⟨C,dx,fs,as,U,T,S⟩:=o.ob;refine⟨B,⟨o.w.same.trans w.same,λa I=>w.sub a (o.w.sub a I),λa I=>?_,o.w.l0,w.ok,λi d a h _=>SF h (CV L i d),λy d _ h=>SF h (CV L 0 d)⟩,L,w.sub x o.xA,o.x0,W,C,dx,fs,as,w.same _ _ U,T,S.mp (λv d r=>r.mono O) (λa I d t=>t.plain w.same O) λa _ I=>w.sub a I⟩
 rcases w.fr a I with q | q
 .exact o.w.fr a q
 .exact .inr (o.w.same.free q)
theorem VS.wr{ε':Ef}(o:VS G c A0 He x A σ H ρ ε)(I:p∈A)(S:p∉A0)(sx:K_ p H H')(L:Nt (H' p))(ob:∃C dx fs as,H' x=W1 (.ins C dx fs)/\G.cl c=W1 C/\rz G A0 A H' x fs ε' as):VS G c A0 He x A σ H' ρ ε':=by
 have W:He p=E2:=(o.w.fr p I).resolve_left S;have J:=G5 I sx;refine⟨⟨λb u h=>sx b u (C_ h W) (o.w.same b u h),o.w.sub,o.w.fr,o.w.l0,⟨o.w.ok.len,λb O=>?_,λj e h=>?_,λj e h=>SF h (CV o.no j e),λi j d e a h _ _ _=>SF h (CV o.no i d)⟩,λi d a h _=>SF h (CV o.no i d),λy d _ h=>SF h (CV o.no 0 d)⟩,o.no,o.xA,o.x0,o.s0,ob⟩
 .by_cases z:b=p
  .rw[z];exact L
  .exact (o.w.ok.live b O).mono λu e=>sx b u z e
 .obtain⟨v,q1,q2⟩:=o.w.ok.fz j e h;exact⟨v,q1,q2.mono J⟩
end
def tE(G:Gx)(c:Str)(A0:List Addr)(J:Hp)(x:Addr)(g:Pi):TS:=λD O H=>∃ρ I r,ZO G c A0 J x O H ρ I/\g ρ I=W1 r/\∀z L,ZO G c A0 J x z L r.1 r.2->D.nx z L
def PSE(X:Cx)(G:Gx)(c:Str)(st:Stmt)(g:Pi):Prop:=∀⦃A0⦄ He x,PS X st (tE G c A0 He x g)
def PSEs(X:Cx)(G:Gx)(c:Str)(st:List Stmt)(g:Pi):Prop:=∀⦃A0⦄ He x,SS X st (tE G c A0 He x g)
def tTE(G:Gx)(c:Str)(A0:List Addr)(L:Hp)(x:Addr)(t:FTE):TT:=λJ H Q=>∃A ρ z b,VS G c A0 L x A J H ρ z/\t ρ z=W1 b/\∀I,ab H I->Q b I
def PTE(X:Cx)(G:Gx)(c:Str)(e:Expr)(t:FTE):Prop:=∀⦃A0⦄ He x,PT X e (tTE G c A0 He x t)
def PWE(X:Cx)(G:Gx)(c:Str)(e:Expr)(t:FTE):Prop:=∀⦃A0⦄ He x,PW X e (tTE G c A0 He x t)
section
variable {c:Str}{a b k it:Expr}{fa fb:FE}{p px:Pos}{gq:List Stmt}{g gs:Pi}{gp:FS}{ta tb:FTE}{tp:FT}
def Vu(h1:PSE X G c st g)(h2:PSEs X G c gq gs):PSEs X G c (st::gq) (Fb g gs):=by
 rintro S O x W s U H D I ⟨J,L,r,o,e,k⟩
 refine Mf (@h1 S O x) (@h2 S O x) W s U H D I ?_;unfold Fb at e;cases z:g J L with
 |none=>simp[z] at e
 |some q=>
  simp only[z,eI] at e;exact⟨J,L,q,o,z,λT Z Y=>⟨q.1,q.2,r,Y,e,k⟩⟩
def Y7(h1:PSE X G c st g):PSEs X G c [st] g:=λO z x=>TV (@h1 O z x)
def Q8(h:Tb X G st gp)(U:∀ρ z,gp ρ=W1 (.nx z)->z[0]?=ρ[0]?):PSE X G c st (OX gp):=by
 rintro A0 Z x S s O H D I ⟨ρ,Y,r,⟨A,o⟩,e,k⟩
 unfold OX at e;split at e
 .rename_i z L;split at e
  .rename_i T;cases e;refine @h A H S s O H D I ⟨ρ,_,o.frame,L,λJ W w=>k J W (o.unframe w T (by rw[U ρ z L];exact o.s0))⟩
  .cases e
 .cases e
theorem Vv(h:SU X G e tp):PTE X G c e (Q6 tp):=λT S x=>λL s z H Q I ⟨A,J,O,b,o,e,k⟩=>@h A L s z H Q I ⟨J,b,o.w.ok,e,k⟩
def oW(h:PTE X G c a ta):PWE X G c (.BoolOp .Or [a] pos) ta:=λO z x=>cF (@h O z x)
def vO{gq:List Expr}(ha:PTE X G c a ta)(hb:PWE X G c (.BoolOp .Or (b::gq) pos) tb):PWE X G c (.BoolOp .Or (a::b::gq) pos) (orTE ta tb):=λT O x=>dM (qu (@ha T O x) (@hb T O x))<|by
 rintro Y H Q ⟨A,I,J,d,o,e,k⟩
 unfold orTE at e;split at e
 .rename_i L;cases e;exact⟨A,I,J,_,o,L,λS z=>iteT (k S z)⟩
 .rename_i L;exact⟨A,I,J,_,o,L,λS z=>YI ⟨A,I,J,d,o.mono z,e,λW U=>k W (z.trans U)⟩⟩
 .cases e
theorem PWE.pt(h:PWE X G c a ta):PTE X G c a ta:=λO z x=>(@h O z x).pt
theorem vP{Y:Pos}(hu:X.A.units+1<bE)(z:∀c C,G.cl c=W1 C->NX X.K C/\BP X.K C f)(hv:PE X (.Name x px) (OH 0))(ha:PF X G a fa)(hb:fN (.Name x px) f X.env (eval (.Name x px) X.env)=eval (.Name x px) X.env:=by rfl)(hm:hZ .In (.Attribute (.Name x px) f Y)=ZA:=by rfl):PTE X G c (.Compare a [.In] [.Attribute (.Name x px) f Y] pos) (YO f fa):=by
 rintro A0 He y π s Z H Q I ⟨A,S,ε,d,o,e,k⟩
 refine YH (Xb hu) (@ha A) (W5 hv hb) hm π s Z H Q I ?_;unfold YO at e;cases O:fa S with
 |none=>simp[O] at e
 |some U=>
  simp only[O,eI] at e;split at e
  .rename_i N0 e2;cases L:Pl U with
   |none=>simp[L] at e
   |some q=>
    simp only[L,i7] at e;cases e;refine⟨S,U,o.w.ok,O,λv H1 T r1=>?_⟩;obtain⟨C,dx,fs,as,h1,W,h3⟩:=(o.mono T).ob;obtain⟨p,q1,q2,q3,q4,q5,J,t1,t2,t3⟩:=h3.get e2;refine⟨_,o.at0,y,C,dx,fs,_,rfl,h1,(z _ _ W).1,(z _ _ W).2,q1,p,J,q,rfl,.of t1,Kq r1 L,?_⟩;rw[(Kp (k:=q) t2 t3).2];exact⟨_,rfl,k H1 T⟩
  .cases e
def gf(ht:PTE X G c e ta)(h1:QP X G s1 badF):PSE X G c (.If e s1 [] pos) (ifE ta):=by
 rintro O J x S s z H D I ⟨L,T,r,⟨A,o⟩,e,k⟩
 refine cH (@ht O J x) (@h1 O J) JW S s z H D I ?_;unfold ifE at e;split at e
 .rename_i U;cases e;exact⟨A,L,T,_,o,U,λW s1=>YI (k z W ⟨A,o.mono s1⟩)⟩
 .cases e
def J5(L:∀c C,G.cl c=W1 C->NX X.K C/\BP X.K C f)(hv:PE X (.Name x px) (OH 0))(ha:PF X G a fa)(W:fw a (W1 (.Attribute (.Name x px) f pos')) pos.line X.env=pure ZA:=by rfl):
  PSE X G c (.Assign [.Attribute (.Name x px) f pos'] a pos) (HN f fa):=by
 rintro A0 He y π s σ H D I ⟨U,ε,r,⟨A,o⟩,e,k⟩
 refine cT hv (@ha A) W π s σ H D I ?_;unfold HN at e;cases T:fa U with
 |none=>simp[T] at e
 |some d=>
  simp only[T,eI] at e;split at e
  .rename_i Z;cases e;refine⟨U,d,o.w.ok,T,λu H1 s1 r1=>?_⟩;have J:=o.mono s1;obtain⟨C,dx,fs,as,h1,O,S⟩:=J.ob;have hn:=S.none (tq.mp Z.1);refine⟨_,o.at0,y,C,dx,fs,rfl,h1,(L _ _ O).1,(L _ _ O).2,by rw[S.len];exact Z.2,?_⟩;rw[Ov hn];have sx:K_ y H1 (fk H1 y (.ins C dx (fs++[(f,u)]))):=λb w hb hw=>by rw[Ai hb];exact hw
   have Y:=G5 J.xA sx;refine k _ _ ⟨A,J.wr J.xA J.x0 sx (by rw[Ag];exact Nt.ins) ⟨C,dx,_,as,Ag,O,?_⟩⟩;exact (S.mp (λv d r=>r.mono Y) (λp hp d t=>t.other (S.ne p hp).2.2 J.xA sx) λ_ _ z=>z).snocP (r1.mono Y)
  .cases e
def Vw(U:∀c C,G.cl c=W1 C->NX X.K C/\BP X.K C f)(hv:PE X (.Name x px) (OH 0))(ha:PN X G a fa)(S0:fw a (W1 (.Attribute (.Name x px) f pos')) pos.line X.env=pure ZA:=by rfl):
    PSE X G c (.Assign [.Attribute (.Name x px) f pos'] a pos) (Pj f fa):=by
  rintro A0 He y π s σ H D I ⟨ρ,ε,r,⟨A,o⟩,e,k⟩
  refine cT hv (@ha A) S0 π s σ H D I ?_;unfold Pj at e;cases e1:fa ρ with
  |none=>simp[e1] at e
  |some d=>
    simp only[e1,eI] at e;split at e
    . rename_i hz
      cases e;refine⟨ρ,d,o.w.ok,e1,λq W J Z t=>?_⟩;obtain⟨C,dx,fs,as,h1,h2,h3⟩:=o.ob;have L:q∉A:=λz=>(o.w.ok.live q z).ne Z;have Y:ab (bm A H) (bm (q::A) W):=Kl J Z;have hn:=h3.none (tq.mp hz.1);have O0:q∉A0:=λz=>L (o.w.sub q z);have T:q≠y:=λz=>L (z▸o.xA);have N0:q∉as:=λz=>L (h3.ne q z).1;have S:VS G c A0 He y (q::A) σ W ρ ε:=⟨⟨o.w.same.trans J,λa ha=>cE _ (o.w.sub a ha),λa ha=>by
          rcases bP.mp ha with z | z
          . rw[z];exact .inr (o.w.same.free Z)
          . exact o.w.fr a z,o.w.l0,o.w.ok.fill J Z t.live,λi d a h _=>SF h (CV o.no i d),λy d _ h=>SF h (CV o.no 0 d)⟩,o.no,cE _ o.xA,o.x0,o.s0,C,dx,fs,as,J _ _ h1,h2,
          h3.mp (λv d r=>r.mono Y) (λp O d t=>t.plain J Y) λp _ O=>cE _ O⟩
      have g1:=J _ _ h1;have g2:=h2;have g3:rz G A0 (q::A) W y fs ε as:=h3.mp (λv d r=>r.mono Y) (λp O d t=>t.plain J Y) λp _ O=>cE _ O;have T0:=g3.none (tq.mp hz.1);refine⟨_,o.at0,y,C,dx,fs,rfl,g1,(U _ _ g2).1,(U _ _ g2).2,by rw[g3.len];exact hz.2,?_⟩;rw[Ov T0];have sx:K_ y W (fk W y (.ins C dx (fs++[(f,.ref q)]))):=λb w hb hw=>by rw[Ai hb];exact hw
      have sm:=G5 S.xA sx;refine k _ _ ⟨q::A,S.wr S.xA S.x0 sx (by rw[Ag];exact Nt.ins) ⟨C,dx,_,as++[q],Ag,g2,?_⟩⟩;exact (g3.mp (λv d r=>r.mono sm) (λp O d t=>t.other (g3.ne p O).2.2 S.xA sx) λ_ _ z=>z).snocO dn O0 T N0 (t.other T S.xA sx)
    . cases e
def Vx{ap:Pos}(hu:X.A.units+1<bE)(L:∀c C,G.cl c=W1 C->NX X.K C/\BP X.K C f)(hv:PE X (.Name x px) (OH 0))(ha:PF X G a fa)(hb:PF X G b fb)(z:fN (.Name x px) f X.env (eval (.Name x px) X.env)=eval (.Name x px) X.env:=by rfl)(hs:fw b (W1 (.Subscript (.Attribute (.Name x px) f ap) a spos)) pos.line X.env=pure ZA:=by rfl):PSE X G c (.Assign [.Subscript (.Attribute (.Name x px) f ap) a spos] b pos) (Pk f fa fb):=by
 rintro A0 He y π s σ H D I ⟨O,ε,r,⟨A,o⟩,e,k⟩
 refine Tq hu (W5 hv z) (@ha A) (@hb A) hs π s σ H D I ?_;unfold Pk at e;cases T:fb O with
 |none=>simp[T] at e
 |some v=>
  cases e2:fa O with
  |none=>simp[T,e2] at e
  |some Y=>
   simp only[T,e2,eI] at e;split at e
   .rename_i d e3;cases U:DP d Y v with
    |none=>simp[U] at e
    |some d'=>
     simp only[U,i7] at e;cases e;unfold DP at U;split at U
     .rename_i O0;cases e5:Pl Y with
      |none=>simp[e5] at U
      |some q=>
       simp only[e5,eI] at U;split at U
       .rename_i hz;cases U;refine⟨O,v,o.w.ok,T,λu H1 s1 r1=>?_⟩;have W:=o.mono s1;obtain⟨C,dx,fs,as,Z,h2,h3⟩:=W.ob;obtain⟨p,q1,q2,q3,q4,q5,J,t1,t2,t3⟩:=h3.get e3;refine⟨_,o.at0,y,C,dx,fs,_,rfl,Z,(L _ _ h2).1,(L _ _ h2).2,q1,O,Y,W.w.ok,e2,λyv H2 S r2=>?_⟩;have ek:=Kq r2 e5;subst ek;have o2:=W.mono S;obtain⟨C',T0,S0,N0,g1,g2,g3⟩:=o2.ob;rw[S _ _ Z] at g1;cases g1;have hl:J.length<sizeLine:=by
         have:=NG eS t2;rw[aw,aw] at this;omega
        refine⟨p,_,rfl,VT.k (S _ _ t1) hl,?_⟩;have pk:=UT (k:=q) (r1.mono (Ay S)) t2 (t3.mono (Ay S));have sx:K_ p H2 (fk H2 p (.dK (OS J q u))):=λb w hb hw=>by rw[Ai hb];exact hw
        refine k _ _ ⟨A,o2.wr q3 q4 sx (by rw[Ag];exact Nt.dK) ⟨C,dx,fs,N0,by rw[Ai (cq q5)];exact S _ _ Z,g2,?_⟩⟩;refine g3.wr e3 q1 sx q3 ⟨_,Ag,pk.1,?_⟩;rw[De q3];exact pk.2
       .cases U
     .cases U
   .cases e
theorem VS.frameW{x:Addr}(o:VS G c A0 He x A σ H ρ ε):NW G A H A σ H ρ:=⟨ab.refl H,λ_ h=>h,λa h=>.inl h,λa z=>(o.w.ok.live a z).ne,o.w.ok,λi d a h _=>SF h (CV o.no i d),λy d _ h=>SF h (CV o.no 0 d)⟩
theorem Y8{gb:Pi}(hp:w9 (ai X.prog X.w) X.A X.env X.xe)(hc:X.calm=E3)(hi:RI X G ZA tg it src)(hg:PGD X G tg fg)(hk:∀d ρ L,fg d ρ=W1 L->L[0]?=ρ[0]?)(hb:PSEs X G c body gb)(hs:∀x,kH it X.env x=pure x:=by intro _;rfl):PSE X G c (.For tg it body [] pos) (YU src fg gb):=by
 rintro S Z x π s W H D I ⟨ρ,ε,r,⟨A,o⟩,e,k⟩
 cases e1:src ρ with
 |none=>simp[YU,e1] at e
 |some O=>
  have e':Hu fg gb O ρ ε=W1 r:=by simpa [YU,e1] using e
  have S1:SS X body (λD W H=>∃S Z x,tE G c S Z x gb D W H):=(by rintro π s W H D I ⟨S,Z,x,q⟩;exact @hb S Z x π s W H D I q);have P1:PG X tg (λv W H Q=>∃S Z,tGD G S Z fg v W H Q):=(by rintro π s W H v u Q I r ⟨S,Z,q⟩;exact @hg S Z π s W H v u Q I r q);refine Tc hp hc (@hi A) P1 S1 hs π s W H D I ⟨ρ,O,o.w.ok,e1,λJ H1 s1 sr=>?_⟩;have o1:=o.mono s1;obtain⟨T0,w2⟩:=o1.w.here;generalize U1:bm (A.filter λa=>decide (a∉S)) H1=Hf at T0 w2;have k2:∀z H',ZO G c S Hf x z H' r.1 r.2->D.nx z H':=(by rintro z H' ⟨B,q⟩;exact k z H' ⟨B,q.w.base T0 o.w.l0,q.no,q.xA,q.x0,q.s0,q.ob⟩);refine⟨λi m z H'=>m=O.length-i/\i<=O.length/\∃L T,ZO G c S Hf x z H' L T/\Hu fg gb (O.drop i) L T=W1 r,⟨O.length,by simp,eA _,ρ,ε,⟨A,w2,o1.no,o1.xA,o1.x0,o1.s0,o1.ob⟩,by simpa using e'⟩,?_⟩;rintro i m X0 H3 ⟨rfl,Y1,O0,S0,⟨B,o3⟩,U⟩;have pl:ab (bm A H1) (bm B H3):=by rw[<-U1] at o3;exact NW.plain o.w.sub o3.w
  by_cases Y:i<O.length
  .right;have hd:O[i]?=W1 O[i]:=by simp[Y]
   have ed:O.drop i=O[i]::O.drop (i+1):=sh Y;rw[ed] at U;unfold Hu at U;refine⟨sr.go i H3 (pl.trans Ao) Y,λz H'=>∃L T,ZO G c S Hf x z H' L T/\Hu fg gb (O.drop (i+1)) L T=W1 r,λz H' q=>⟨O.length-(i+1),by omega,rfl,Y,q⟩,λy H' yy=>?_⟩;obtain⟨sy,rx⟩:=sr.yld i H3 y H' _ (pl.trans Ao) hd yy;have o4:=o3.mono sy;cases e4:fg O[i] O0 with
   |none=>simp[e4] at U
   |some N0=>
    simp only[e4,eI] at U;split at U
    .rename_i no;refine⟨B,H',B,O0,O[i],N0,o4.frameW,rx B o3.w.ok.live pl,e4,λX1 H5 N1=>?_⟩;cases e5:gb N0 S0 with
     |none=>simp[e5] at U
     |some q=>
      simp only[e5,eI] at U;exact⟨S,Hf,x,N0,S0,q,o4.unframe N1 no (by rw[hk _ _ _ e4];exact o4.s0),e5,λz H' o'=>⟨q.1,q.2,o',U⟩⟩
    .cases U
  .left;have ei:i=O.length:=by omega
   subst ei;rw[xt] at U;cases U;exact⟨sr.stop _ H3 (pl.trans Ao) (aE _),k2 X0 H3 ⟨B,o3⟩⟩
end
def Q9:b∈A.filter (λb=>decide (b≠p))↔b∈A/\b≠p:=by simp[d4]
def oX(I:Inv X π σ H s)(hA:a∈A)(t:MY G A H a d):
  ∃H',Inv X π σ H' s/\(∀b,b≠a->H' b=H b)/\ab (bm A H) (bm (A.filter λb=>decide (b≠a)) H')/\hQ G (bm (A.filter λb=>decide (b≠a)) H') (.ref a) d:=by
 have O:∀H':Hp,(∀b,b≠a->H' b=H b)->ab (bm A H) (bm (A.filter λb=>decide (b≠a)) H'):=λH' hh b u h=>by
  unfold bm at h;split at h
  .cases h
  .rename_i L;rw[Ax (λz=>L (Q9.mp z).1),hh b (λz=>L (z▸hA))];exact h
 have at0:∀H':Hp,bm (A.filter λb=>decide (b≠a)) H' a=H' a:=λH'=>Ax (λz=>(Q9.mp z).2 rfl);cases d with
 |lst Z=>
  obtain⟨U,T,S⟩:=t;have J:=O H λ_ _=>rfl;exact⟨H,I,λ_ _=>rfl,J,.lst (.of (by rw[at0];exact T)) (S.mono J).1 (S.mono J).2⟩
 |dk Z=>
  obtain⟨U,T,S,Y⟩:=t;obtain⟨o,W⟩:=Inv.frzK I T;have J:=O _ λb L=>Ai (o:=.frz o (.dK U)) L;exact⟨_,W,λb L=>Ai L,J,.dk (by rw[at0];exact Ag) S (Y.mono J).2⟩
 |dt Z=>
  obtain⟨U,T,S,Y⟩:=t;obtain⟨o,W⟩:=Inv.frzT I T;have J:=O _ λb L=>Ai (o:=.frz o (.dT U)) L;exact⟨_,W,λb L=>Ai L,J,.dt (by rw[at0];exact Ag) S (Y.mono J).2⟩
 |ob c gs=>
  obtain⟨C,dx,U,T,S,Y⟩:=t;have J:=O H λ_ _=>rfl;exact⟨H,I,λ_ _=>rfl,J,.ob S.1 (by rw[at0];exact T) S.2 (Y.mono J).2⟩
 |_=>exact t.elim
def rz.frz{X:Cx}{G:Gx}{A0 A:List Addr}{π:NI}{s:ah}{σ:St}{H:Hp}{x:Addr}{fs:List (Str×V)}{W:Ef}{as:List Addr}(h:rz G A0 A H x fs W as)(I:Inv X π σ H s):
  ∃H' O,Inv X π σ H' s/\(∀b,b∉as->H' b=H b)/\(∀b,b∈O↔b∈A/\b∉as)/\ab (bm A H) (bm O H')/\be G (bm O H') (fs.map (·.2)) (W.map λp=>p.2.2):=by
 induction h with
 |nil=>exact⟨H,A,I,λ_ _=>rfl,λb=>by simp,ab.refl _,.nil⟩
 |pl rv _ ih=>
  obtain⟨H',O,i1,T,S,J,i5⟩:=ih;exact⟨H',O,i1,T,S,J,.cons (rv.mono J) i5⟩
 | @ow f a d fs W as h1 h2 h3 h4 t _ ih=>
  obtain⟨H1,A1,i1,T,S,J,i5⟩:=ih;have ha:a∈A1:=(S a).mpr ⟨h1,h4⟩;have U:H1 a=H a:=T a h4;have t1:MY G A1 H1 a d:=by
   cases d with
   |lst ds=>obtain⟨L,q1,q2⟩:=t;exact⟨L,by rw[U];exact q1,q2.mono J⟩
   |dk ds=>obtain⟨L,q1,q2,q3⟩:=t;exact⟨L,by rw[U];exact q1,q2,q3.mono J⟩
   |dt ds=>obtain⟨L,q1,q2,q3⟩:=t;exact⟨L,by rw[U];exact q1,q2,q3.mono J⟩
   |ob c gs=>obtain⟨C,dx,L,q1,q2,q3⟩:=t;exact⟨C,dx,L,by rw[U];exact q1,q2,q3.mono J⟩
   |_=>exact t.elim
  obtain⟨H2,j1,j2,j3,j4⟩:=oX i1 ha t1;refine⟨H2,A1.filter λb=>decide (b≠a),j1,λb hb=>?_,λb=>?_,J.trans j3,.cons j4 (i5.mono j3)⟩
  .rw[j2 b (λz=>hb (by simp[z])),T b (λz=>hb (cE _ z))]
  .rw[Q9,S b];simp only[bP,not_or];exact⟨(by rintro ⟨⟨p1,Z⟩,Y⟩;exact ⟨p1,Y,Z⟩),(by rintro ⟨p1,Y,Z⟩;exact ⟨⟨p1,Z⟩,Y⟩)⟩
theorem VS.whole{c:Str}{x:Addr}(o:VS G c A0 He x A σ H ρ ε)(I:Inv X π σ H s):
  ∃H',Inv X π σ H' s/\ab He H'/\hQ G (bm A0 H') (.ref x) (finE c ε):=by
 obtain⟨C,dx,fs,as,h1,h2,S⟩:=o.ob;obtain⟨H',A',Z,L,Y,i4,W⟩:=S.frz I;have U:x∉as:=λz=>(S.ne x z).2.2 rfl;refine⟨H',Z,λb u J=>?_,?_⟩
 .rw[L b (λz=>?_)]
  .exact o.w.same b u J
  .obtain⟨q1,q2,_⟩:=S.ne b z;rw[(o.w.fr b q1).resolve_left q2] at J;cases J
 .have T:∀a∈A0,a∈A':=λa O=>(Y a).mpr ⟨o.w.sub a O,λz=>(S.ne a z).2.1 O⟩;have en:fs.map (·.1)=(ε.map λp=>(p.1,p.2.2)).map (·.1):=by
   rw[S.names,bS];rfl
  have es:(ε.map λp=>(p.1,p.2.2)).map (·.2)=ε.map λp=>p.2.2:=by rw[bS];rfl
  refine .ob h2 (by rw[Ax o.x0,L x U];exact h1) en ?_;rw[es];exact (W.mono (CJ T)).2
def tEI(G:Gx)(c:Str)(A0:List Addr)(L:Hp)(x:Addr)(g:Pi):TS:=λD O H=>∃ρ J r,ZO G c A0 L x O H ρ J/\g ρ J=W1 r/\∀z I,ab L I->hQ G (bm A0 I) (.ref x) (finE c r.2)->D.nx z I
def PSI(X:Cx)(G:Gx)(c:Str)(st:List Stmt)(g:Pi):Prop:=∀⦃A0⦄ He x,SS X st (tEI G c A0 He x g)
def Y9{c:Str}:PSI X G c [] nilE:=by
 rintro W U x L s z H D I ⟨S,T,r,⟨A,o⟩,e,k⟩
 cases e;obtain⟨J,O,q1,q2⟩:=o.whole I;exact JW L s z J D O (k z J q1 q2)
def DQ{c:Str}{gq:List Stmt}{g O:Pi}(h1:PSE X G c st g)(h2:PSI X G c gq O):PSI X G c (st::gq) (Fb g O):=by
 rintro T S x Y s W H D I ⟨J,L,r,o,e,k⟩
 refine Mf (@h1 T S x) (@h2 T S x) Y s W H D I ?_;unfold Fb at e;cases z:g J L with
 |none=>simp[z] at e
 |some q=>
  simp only[z,eI] at e;exact⟨J,L,q,o,z,λU H' Z=>⟨q.1,q.2,r,Z,e,k⟩⟩
def spI(G:Gx)(c:Str)(g:Addr->List D->Option Ef):Sp:=λvs H Q _=>∃A x z ds J C dx,vs=.ref x::z/\(∀a∈A,Nt (H a))/\x∉A/\H x=W1 (.ins C dx [])/\G.cl c=W1 C/\be G (bm (x::A) H) z ds/\g x ds=W1 J ∧
 ∀I,K_ x H I->hQ G (bm A I) (.ref x) (finE c J)->Q .non I
def Lp(n:Nat)(ds:List D):OL (CP n ds)=E3:=by
 unfold OL CP;rw[dL];intro z O
 rcases dQ.mp O with q | q
 .obtain⟨d,_,rfl⟩:=aT.mp q;rfl
 .rw[(List.mem_replicate.mp q).2]
def fn_I{base:Heap}{c:Str}{f:Addr}{k:Nat}{b:Pi}(F:Fun G.K x qual st f fd)(S:bc N ps (Ab st))(hl:ps.length<=N.length)(Y:∀(cdv:ac) (A:aS) (I:List Env) (s:ah) (H:Hp) (E:XK),Room k (A.deeper (gu qual (Ab st) s.heap.objs.size f cdv))->PSI (Pd CX0 P w G.K mg base N qual (Ab st) f cdv A I s H E).nox G c (BX st) b):
  im P w G.K mg base CX0 (k+1) f fd ps (spI G c (XZ N.length ps.length b)):=by
 refine F.ok S (λvs H Q E h=>?_) (λcdv A I s H vs Q E hr h=>?_)
 .obtain⟨A,x,L,O,ε,C,dx,rfl,U,W,Z,hc,r,e,_⟩:=h;unfold XZ at e;split at e
  .rename_i hz;rw[db,r.1];exact hz
  .cases e
 .obtain⟨A1,x,L,O,ε,C,dx,rfl,U,W,Z,hc,r,e,k⟩:=h;unfold XZ at e;split at e
  .rename_i hz;have T:∀a∈x::A1,Nt (H a):=λa J=>by
    rcases bP.mp J with z | z
    .rw[z,Z];exact Nt.ins
    .exact U a z
   have r':be G (bm (x::A1) H) (.ref x::L) (.adr x::O):=.cons (.adr x) r;obtain⟨B,w⟩:=Mr (N:=N) T r' (by rw[db,r.1];omega);cases e1:b (Q7 N.length x O) [] with
   |none=>simp[e1] at e
   |some q=>
    simp only[e1,i7] at e;cases e;have hzz:=Y cdv A I s H E hr;refine⟨_,@hzz A1 (bm [x] H) x,Q7 N.length x O,[],q,?_,e1,λN0 H' s' rv=>k H' (λb o Y ho=>s' b o (by rw[Ax (by simpa using Y)];exact ho)) rv⟩;refine⟨B,⟨Ao,λa J=>w.sub a (cE _ J),λa J=>?_,λa J=>?_,w.ok,λi d a h _=>SF h (CV (Lp _ _) i d),λy d _ h=>SF h (CV (Lp _ _) 0 d)⟩,Lp _ _,w.sub x dn,W,rfl,C,dx,[],[],Z,hc,.nil⟩
    .rcases w.fr a J with z | z
     .rcases bP.mp z with z | z
      .right;unfold bm;rw[OF (by simp[z])]
      .exact .inl z
     .right;unfold bm;split
      .rfl
      .exact z
    .rw[Ax (λz=>W (by simp at z;rw[<-z];exact J))];exact (U a J).ne
  .cases e
section
variable {a b:Expr}{p:Pos}{es:List Expr}{fs:FA}
def Xf{k:Nat}{f:Addr}{g:Addr->List D->Option Ef}{cn:Str}(S0:G.cl cn=W1 C)(M:Mk X.K C f)(F:im X.prog X.w X.K X.mg X.base CX0 k f fd ps (spI G cn g))(hr:Room (k+1) X.A)(hg:Gl X x)(hm:X.mg x=W1 (.ref C))(I:MO X.K fd ps [])(ha:TR X G (a::es) fs)(O0:(x==("__debug__":Str))=ZA:=by decide)(he:ay (a::es) X.env=(ZA,eval a X.env)::ay es X.env:=by rfl)(Y:(dS pos (ay es X.env)).any (·.1)=ZA:=by rfl):
  PF X G (.Call (.Name x p) (a::es) [] pos) (mkI cn g fs):=λA=>Bp (mL M F hr hg hm I .nil R_ (@ha A) O0 he Y)<|by
 rintro σ H Q ⟨ρ,d,o,e,k⟩
 unfold mkI at e;cases S:fs ρ with
 |none=>simp[S] at e
 |some ds=>
  cases e3:g 0 ds with
  |none=>simp[S,e3] at e
  |some ε=>
   simp only[S,e3,eI] at e;split at e
   .rename_i L;cases e;refine⟨ρ,ds,o,S,λvs H1 U rv=>λy dx O N0 Z=>?_⟩;have T:ab H1 (fk (fk H1 dx (.own y)) y (.ins C dx [])):=(Ak N0 _).trans (Ak (by rw[Ai (cq Z)];exact O) _);have J:=(o.mono U).live;refine⟨A,y,vs,ds,ε,C,dx,by rw[g9],λb I=>?_,λz=>(J y z).ne O,Ag,S0,rv.mono (Kl T O),L y,λH' sx W=>?_⟩
    .exact (J b I).mono λu e=>T _ _ e
    .refine⟨rfl,k _ H' (λb u I=>sx b u (λz=>?_) (T _ _ (U _ _ I))) W⟩;have:=U _ _ I;rw[z,O] at this;cases this
   .cases e
end
def Uc{f:FE}(ρ z:Rho)(h:GJ f ρ=W1 (.nx z)):z[0]?=ρ[0]?:=by
 unfold GJ at h;cases e:f ρ with
 |none=>simp[e] at h
 |some d=>simp[e] at h;rw[h]
def K0s(g:FGs):Prop:=∀ds ρ z,g ds ρ=W1 z->z[0]?=ρ[0]?
def gj:K0s MV:=λJ I z h=>by
 unfold MV at h;split at h
 .cases h;rfl
 .cases h
def QM{g:FGs}(I:i≠0)(U:K0s g):K0s (Aw i g):=λL J z h=>by
 unfold Aw at h;split at h
 .rw[U _ _ _ h,hW I]
 .cases h
def gk{g:FGs}(U:K0s g)(d:D)(ρ z:Rho)(h:MS n g d ρ=W1 z):z[0]?=ρ[0]?:=by
 unfold MS at h;split at h
 .split at h
  .exact U _ _ _ h
  .cases h
 .split at h
  .exact U _ _ _ h
  .cases h
 .cases h
end PV
namespace PV
open PySem PySem.W PySem.Calls PyProof.Rows L2
end PV
namespace PySem
open PySem.Spec
end PySem
namespace PV
open PySem PySem.Spec L2
open PyProof.Rows hiding St
section
theorem nk.dt{A:List Addr}{H:Hp}{v:V}{z:List (List Key×D)}(r:nk G A H v (.dt z)):∃a kvs,v=.ref a/\Rd H a (.dT kvs)/\kvs.map (·.1)=z.map (·.1)/\be G (bm A H) (kvs.map (·.2)) (z.map (·.2)):=by
 rcases r with r | ⟨a,e,kvs,h,k,r⟩
 .cases r with
  |dt h k r=>
   refine⟨_,_,rfl,.inr ⟨_,Ao _ _ h⟩,k,?_,r⟩;have:=NG eS k;rw[aw,aw] at this ⊢;exact this
 .exact⟨a,kvs,e,.of h,k,r⟩
end
structure FunD (K:aI) (x qual:Str) (st:Stmt) (f:Addr) (fd:lj):Prop where
 ex:∃(oc:ac) (od:Option Addr) (dV kV doc pm:ac) (an:Option Addr) (cdv ct:ac) (osl:Array (Option ac)),
  fd=io x qual (Dp st) (BX st) (Ab st) dV kV doc pm an cdv ct/\K.lookup f=W1 ⟨oc,od,.func fd,osl⟩/\pV K cdv qual=E3
 kp:ic K (.ref f)=E3
def oY{K:aI}{f:Addr}{z kV:ac}(l:K.lookup f=W1 ⟨oc,od,.func (io x qual (Dp st) (BX st) (Ab st) z kV doc pm an cdv ct),osl⟩)(c:pV K cdv qual=E3)(k:ic K (.ref f)=E3):FunD K x qual st f (io x qual (Dp st) (BX st) (Ab st) z kV doc pm an cdv ct):=⟨⟨oc,od,z,kV,doc,pm,an,cdv,ct,osl,rfl,l,c⟩,k⟩
def yc{base:Heap}{f:Addr}{k:Nat}{b:FS}(F:FunD G.K x qual st f fd)(S:bc N ps (Ab st))(hl:ps.length<=N.length)(hb:∀(cdv:ac) (A:aS) (z:List Env) (s:ah) (H:Hp) (E:XK),Room k (A.deeper (gu qual (Ab st) s.heap.objs.size f cdv))->QP (Pd CX0 P w G.K mg base N qual (Ab st) f cdv A z s H E).nox G (BX st) b):
  im P w G.K mg base CX0 (k+1) f fd ps (Na G (lu N.length ps.length b)):=by
 obtain⟨oc,od,dV,kV,O0,pm,an,cdv,ct,N0,rfl,lk,J⟩:=F.ex;refine cX lk J S (λvs H Q E h=>?_) (λA z s H vs Q E hr h=>?_)
 .obtain⟨A,L,d,W,r,e,_⟩:=h;unfold lu at e;split at e
  .rename_i O;rw[r.1];exact O
  .cases e
 .obtain⟨A0,L,d,W,r,e,k⟩:=h;unfold lu at e;split at e
  .rename_i O;have hzz:=hb cdv A z s H E hr;refine⟨_,(@hzz A0 H).nox,CP N.length L,?_⟩;cases I:b (CP N.length L) with
   |none=>simp[I] at e
   |some o=>
    refine⟨o,Mr W r (by rw[r.1,O];exact hl),rfl,?_⟩;cases o with
    |nx U=>
     simp only[I] at e;cases e;rintro Y T ⟨A,w⟩;exact k _ T w.same .non
    |rt d' Z=>
     simp only[I] at e;cases e;exact λv Y T A w r'=>k v T w.same (r'.mono (CJ w.sub))
    |bk U=>simp[I] at e
    |ct U=>simp[I] at e
  .cases e
def vQ(l:Str)(y:D):oo (.str l) y=ixD (.str l) y:=fx _
def M5(k:List (Key×D))(x:Str):oo (.dk k) (.str x)=ui (.inr x) k:=fx _
def Y_(k:List (Key×D))(x:Int):oo (.dk k) (.int x)=ui (.inl x) k:=fx _
def ZC(l:List (Key×D)):NN (.dk l)=W1 (.int l.length):=fx _
def Ud(z:Bool)(x:Int)(k:List (Key×D)):RU z (.int x) (.dk k)=W1 (.bl (if z then !(ui (.inl x) k).isSome else (ui (.inl x) k).isSome)):=fx _
def J6(o:Option D):Option (List D):=match o with | some (.str x)=>W1 (Vs x) | some (.lst ds)=>W1 ds | some (.tup ds)=>W1 ds | some (.dk z)=>W1 (z.map λp=>Sj p.1) | _=>E2
def DX(f:FE)(ρ:Rho):pq f ρ=J6 (f ρ):=by
 unfold pq seqE J6;cases f ρ with
 |none=>rfl
 |some d=>cases d<;>rfl
def Fd(l:List D):J6 (W1 (.lst l))=W1 l:=fx _
def QQ(l:List D):J6 (W1 (.tup l))=W1 l:=fx _
def M6(l:List (Key×D)):J6 (W1 (.dk l))=W1 (l.map λp=>Sj p.1):=fx _
def putO(i:Nat)(ρ:Rho)(x y v:Option D):Option QU:=v.bind λv=>y.bind λy=>x.bind λx=>(DP x y v).map λz=>.nx (ρ.set i (.ow z))
def Vy(i:Nat)(I z:FE)(ρ:Rho):putF i I z ρ=putO i ρ (getW ρ[i]?) (I ρ) (z ρ):=fx _
def Q_(i:Nat)(ρ:Rho)(x y v:D):putO i ρ (W1 x) (W1 y) (W1 v)=(DP x y v).map λz=>.nx (ρ.set i (.ow z)):=fx _
def sU(i:Nat)(ρ:Rho)(x:Option D)(y:Option (List D))(v:Option D):Option QU:=v.bind λv=>y.bind λy=>x.bind λx=>(M4 x y v).map λz=>.nx (ρ.set i (.ow z))
def vR(i:Nat)(I:FA)(z:FE)(ρ:Rho):Vq i I z ρ=sU i ρ (getW ρ[i]?) (I ρ) (z ρ):=fx _
def oZ(i:Nat)(ρ:Rho)(x:D)(y:List D)(v:D):sU i ρ (W1 x) (W1 y) (W1 v)=(M4 x y v).map λz=>.nx (ρ.set i (.ow z)):=fx _
def frzO(ρ:Rho)(i:Nat)(o:Option Slot):Rho:=match o with | some (.ow d)=>ρ.set i (.fz d) | _=>ρ
def ye(g:FS)(ρ:Rho):fzS [] g ρ=g ρ:=fx _
def yf(i:Nat)(z:List Nat)(g:FS)(ρ:Rho):fzS (i::z) g ρ=fzS z g (frzO ρ i ρ[i]?):=fx _
def vV(ρ:Rho)(i:Nat)(d:D):frzO ρ i (W1 (.ow d))=ρ.set i (.fz d):=fx _
def M7(i j:Nat)(a b:D)(ρ:Rho):MS 2 (Aw i (Aw j MV)) (.tup [a,b]) ρ=W1 ((ρ.set i (.fz a)).set j (.fz b)):=fx _
def RB(x:Str):Sj (.inr x)=.str x:=fx _
theorem Ku{I:Type}[DecidableEq I]{k:I}:∀{l:List (I×D)},k∉l.map (·.1)->ui k l=E2
 |[],_=>rfl
 |p::r,h=>by
  unfold ui;rw[bn,bP,not_or] at h;rw[RF (λz=>h.1 z.symm)];exact Ku h.2
theorem QR{I:Type}[DecidableEq I]{k:I}{d:D}:∀{l:List (I×D)},(l.map (·.1)).Nodup->(k,d)∈l->ui k l=W1 d
 |[],_,h=>by cases h
 |p::r,J,h=>by
  unfold ui;rw[bn,kK] at J
  rcases bP.mp h with q | q
  .subst q;rw[OF rfl]
  .rw[RF (λz=>J.1 (by rw[z];exact aT.mpr ⟨(k,d),q,rfl⟩))];exact QR J.2 q
def uj{z:Type}[DecidableEq z]{k:z}{v:D}{l:List (z×D)}(h:k∉l.map (·.1)):PH k v l=l++[(k,v)]:=by
 unfold PH;rw[Ku h];rfl
def Ow(k:List (Key×D))(x:Str)(v:D)(Y:k.length<=1000000):DP (.dk k) (.str x) v=W1 (.dk (PH (.inr x) v k)):=by
 show (if k.length<sizeLine then W1 (D.dk (PH (.inr x) v k)) else E2)=_;rw[OF (kx Y (by decide))]
def gw(k:List (Key×D))(x:Int)(v:D)(Y:k.length<=1000000):DP (.dk k) (.int x) v=W1 (.dk (PH (.inl x) v k)):=by
 show (if k.length<sizeLine then W1 (D.dk (PH (.inl x) v k)) else E2)=_;rw[OF (kx Y (by decide))]
def vW(k:List (List Key×D))(x y:Int)(v:D)(Y:k.length<=1000000):M4 (.dt k) [.int x,.int y] v=W1 (.dt (PH [.inl x,.inl y] v k)):=by
 show (if k.length<sizeLine/\2<=sizeLine then W1 (D.dt (PH [.inl x,.inl y] v k)) else E2)=_;rw[OF ⟨kx Y (by decide),by decide⟩]
def Ue{g:FS}{z:Rho}(h:g ρ=W1 (.nx z))(I:OL z=E3):OX g ρ ε=W1 (z,ε):=by
 unfold OX;rw[h];show (if OL z=E3 then W1 (z,ε) else E2)=_;rw[OF I]
def sV(r:Option (Rho×Ef))(L:Pi):Option (Rho×Ef):=r.bind λr=>L r.1 r.2
def Fe(g gs:Pi)(ρ:Rho)(z:Ef):Fb g gs ρ z=sV (g ρ z) gs:=fx _
def Dc(L:Pi)(ρ:Rho)(ε:Ef):sV (W1 (ρ,ε)) L=L ρ ε:=fx _
def g8(ρ:Rho)(z:Ef):nilE ρ z=W1 (ρ,z):=fx _
def g_{tg:FG}{b:Pi}(h:src ρ=W1 ds):YU src tg b ρ ε=Hu tg b ds ρ ε:=by
 unfold YU;rw[h];rfl
section
variable {a b:Expr}{fa fb:FE}{es:List Expr}{fs:FA}
def vr(i:Nat){x:Str}(L:X.N[i]?=W1 x:=by rfl)(I:VO X.env.scope x:=by first | exact dE rfl | exact cS (dE rfl) | exact cS (cS rfl))(J:(x==("__debug__":Str))=ZA:=by decide)(z:(x==("__classdict__":Str))=ZA:=by decide):PF X G (.Name x pos) (vF i):=uw i (pv i L I J z)
def vp(i:Nat){x:Str}(L:X.N[i]?=W1 x:=by rfl)(I:VO X.env.scope x:=by first | exact dE rfl | exact cS (dE rfl) | exact cS (cS rfl))(J:(x==("__debug__":Str))=ZA:=by decide)(z:(x==("__classdict__":Str))=ZA:=by decide):PU X G (.Name x pos) (vF i):=PF.pu (vr i L I J z)
def vq(i:Nat){x:Str}(L:X.N[i]?=W1 x:=by rfl)(I:VO X.env.scope x:=by first | exact dE rfl | exact cS (dE rfl) | exact cS (cS rfl))(J:(x==("__debug__":Str))=ZA:=by decide)(z:(x==("__classdict__":Str))=ZA:=by decide):PU X G (.Name x pos) (vU i):=ux i (pv i L I J z)
def pU{f:FE}(h:PF X G e f):PU X G e f:=PF.pu h
def iP{i j}:PU X G (.Constant (.int i) j pos) (kF (.int i)):=PF.pu Qs
def sP{x j}:PU X G (.Constant (.str x) j pos) (kF (.str x)):=PF.pu Tt
def iX{k:Nat}(z:Room k X.A)(J:PU X G a fa)(I:PU X G b fb)(W:G.K=X.K:=by rfl)(hs:Mh b:=by exact λ_ _=>rfl):PF X G (.Subscript a b pos) (bF oo fa fb):=vK (G_ z) W J I hs
def iD(I:PU X G a fa)(z:PU X G b fb)(W:G.K=X.K:=by rfl)(hs:Mh b:=by exact λ_ _=>rfl):PF X G (.Subscript a b pos) (bF ixD fa fb):=yO W I z hs
def NR(I:PU X G a fa)(z:PU X G b fb)(W:G.K=X.K:=by rfl):PF X G (.BinOp a .Add b pos) (bF rc fa fb):=Li nH (by rw[<-W];exact nJ) I z
def bSub(I:PU X G a fa)(z:PU X G b fb):PF X G (.BinOp a .Sub b pos) (bF subD fa fb):=Li ud m7 I z
def Zl(I:PU X G a fa)(z:PU X G b fb):PF X G (.BinOp a .Mult b pos) (bF Pc fa fb):=Li m_ nC I z
def RY(I:PU X G a fa)(z:PU X G b fb):PF X G (.BinOp a .FloorDiv b pos) (bF Ex fa fb):=Li mJ dO I z
def Nl(I:PU X G a fa)(z:PU X G b fb):PF X G (.BinOp a .Mod b pos) (bF tx fa fb):=Li ue nD I z
def cEq{k:Nat}(z:Room k X.A)(J:PU X G a fa)(I:PU X G b fb)(W:G.K=X.K:=by rfl):PF X G (.Compare a [.Eq] [b] pos) (bF (MQ ZA) fa fb):=XJ (XQ W z.unitsW) (T6 ZA) J I (Jw _)
def tEq{k:Nat}(z:Room k X.A)(J:PU X G a fa)(I:PU X G b fb)(W:G.K=X.K:=by rfl):SU X G (.Compare a [.Eq] [b] pos) (MW (bF (MQ ZA) fa fb)):=HB (XQ W z.unitsW) (T6 ZA) J I (Jw _)
def tNe{k:Nat}(z:Room k X.A)(J:PU X G a fa)(I:PU X G b fb)(W:G.K=X.K:=by rfl):SU X G (.Compare a [.NotEq] [b] pos) (MW (bF (MQ E3) fa fb)):=HB (vC W z.unitsW) (T6 E3) J I (Jw _)
def cIn{k:Nat}(z:Room k X.A)(L:PU X G a fa)(J:PU X G b fb)(W:G.K=X.K:=by rfl)(I:hZ .In b=ZA:=by with_unfolding_all rfl):PF X G (.Compare a [.In] [b] pos) (bF (RU ZA) fa fb):=XJ ((dY.or (Xb (G_ z))).or (gY W z.units)) (by rw[<-W];exact Ub ZA) L J I
def tIn{k:Nat}(z:Room k X.A)(L:PU X G a fa)(J:PU X G b fb)(W:G.K=X.K:=by rfl)(I:hZ .In b=ZA:=by with_unfolding_all rfl):SU X G (.Compare a [.In] [b] pos) (MW (bF (RU ZA) fa fb)):=HB ((dY.or (Xb (G_ z))).or (gY W z.units)) (by rw[<-W];exact Ub ZA) L J I
def tNi{k:Nat}(z:Room k X.A)(L:PU X G a fa)(J:PU X G b fb)(W:G.K=X.K:=by rfl)(I:hZ .NotIn b=ZA:=by with_unfolding_all rfl):SU X G (.Compare a [.NotIn] [b] pos) (MW (bF (RU E3) fa fb)):=HB ((aq.or (bD (G_ z))).or (bJ W z.units)) (by rw[<-W];exact Ub E3) L J I
def tLt(I:PU X G a fa)(z:PU X G b fb):SU X G (.Compare a [.Lt] [b] pos) (MW (bF ltD fa fb)):=HB qw dR I z (Jw _)
def tGt(I:PU X G a fa)(z:PU X G b fb):SU X G (.Compare a [.Gt] [b] pos) (MW (bF gtD fa fb)):=HB yE uy I z (Jw _)
def tGe(I:PU X G a fa)(z:PU X G b fb):SU X G (.Compare a [.GtE] [b] pos) (MW (bF geD fa fb)):=HB yF uz I z (Jw _)
def sF(O:X.N.Nodup)(i:Nat){x:Str}{p:Pos}(L:PF X G a fa)(I:X.N[i]?=W1 x:=by rfl)(z:Loc X.env.scope x:=by first | exact dE rfl | exact cS rfl)(hs:fw a (W1 (.Name x p)) pos.line X.env=pure ZA:=by rfl)(J:X.fn x=E3∨X.env.scope.names.lookup x=W1 .local :=by first | exact .inl rfl | exact .inr rfl | assumption):Tb X G (.Assign [.Name x p] a pos) (nq i fa):=nU (λ_ h=>Wx O I z h hs J) L
def sW(S:X.N.Nodup)(i:Nat){x:Str}{p:Pos}(O:PN X G a fa)(J:X.N[i]?=W1 x:=by rfl)(I:Loc X.env.scope x:=by first | exact dE rfl | exact cS rfl)(hs:fw a (W1 (.Name x p)) pos.line X.env=pure ZA:=by rfl)(L:X.fn x=E3∨X.env.scope.names.lookup x=W1 .local :=by first | exact .inl rfl | exact .inr rfl | assumption)(z:i≠0:=by decide):Tb X G (.Assign [.Name x p] a pos) (setW i fa):=eG (λ_ h=>Wx S J I h hs L) O z
def gN(L:X.N.Nodup)(i:Nat){x:Str}(I:X.N[i]?=W1 x:=by rfl)(z:Loc X.env.scope x:=by first | exact dE rfl | exact cS rfl)(J:X.fn x=E3∨X.env.scope.names.lookup x=W1 .local :=by first | exact .inl rfl | exact .inr rfl | assumption):PG X (.Name x pos) (Em i):=mH L I z J
def cO{t:Str}(I:X.N=N)(hs:X.env.scope=sc)(h:Yd N sc scope t=E3:=by decide +kernel):Lh X scope t:=a_ I hs h
abbrev nT (N:List Str) (t:Str):List Str:=N++[t]
structure Dx (K:aI) (mg:Str->Option ac) (x:Str) (st:Stmt) (ps:List Str) where
 f:Addr
 fd:lj
 F:FunD K x x st f fd
 B:MO K fd ps []
 m:mg x=W1 (.ref f)
abbrev Sk (P:d3) (w:ca) (base:Heap) {K:aI}{mg:Str->Option ac}{x:Str}{st:Stmt}{ps:List Str}(d:Dx K mg x st ps) (k:Nat) (sp:Sp):Prop:=im P w K mg base CX0 k d.f d.fd ps sp
theorem fX{k:Nat}{p:Pos}{d:Dx X.K X.mg x st ps}(F:im X.prog X.w X.K X.mg X.base CX0 k d.f d.fd ps (Na G g))(L:Room k' X.A)(S:TR X G (a::es) fs)(I:k<=k':=by omega)(U:Gl X x:=by rfl)(J:(x==("__debug__":Str))=ZA:=by decide)(O:ay (a::es) X.env=(ZA,eval a X.env)::ay es X.env:=by rfl)(z:(dS pos (ay es X.env)).any (·.1)=ZA:=by rfl):PF X G (.Call (.Name x p) (a::es) [] pos) (Aj g fs):=yP F (L.mono I) U d.m d.F.kp d.B S J O z
end
section
variable {K:aI}{f:Addr}{dV kV:ac}
theorem SO{base:Heap}{k:Nat}{b:FS}(d:Dx G.K mg x st ps)(S:bc N ps (Ab st))(I:∀(cdv:ac) (A:aS) (z:List Env) (s:ah) (H:Hp) (E:XK),Room k (A.deeper (gu x (Ab st) s.heap.objs.size d.f cdv))->QP (Pd CX0 P w G.K mg base N x (Ab st) d.f cdv A z s H E).nox G (BX st) b)(Y:ps.length<=N.length:=by decide):
  im P w G.K mg base CX0 (k+1) d.f d.fd ps (Na G (lu N.length ps.length b)):=yc d.F S Y I
def dx(X:K.In h)(N:h.Ns gI mg)(a:AW K gI x=W1 (W1 (.ref f)))(l:K.lookup f=W1 ⟨oc,od,.func (io x x (Dp st) (BX st) (Ab st) .none kV doc pm an cdv ct),osl⟩)(c:pV K cdv x=E3)(k:ic K (.ref f)=E3)(b:∀(kV doc pm:ac) (an:Option Addr) (cdv ct:ac) (us:List ac),us.length=ps.length->wl (io x x (Dp st) (BX st) (Ab st) .none kV doc pm an cdv ct) ⟨us,[]⟩=pure (ps.zip us)):Dx K mg x st ps:=⟨f,_,oY l c k,(Qm l c k).binds b,tz X N a⟩
structure Ix (K:aI) (C:Addr) (qual:Str) (st:Stmt) (ps:List Str) where
 f:Addr
 fd:lj
 F:Fun K "__init__" qual st f fd
 B:MO K fd ps []
 mM:Mk K C f
def ix(X:K.In h)(m:CH K C=E3)(z:ic K (.ref C)=E3)(a:fI K (.ref C) "__init__"=W1 (W1 (.ref f)))(i:ri K (.ref f)=E3)(l:K.lookup f=W1 ⟨oc,od,.func (io "__init__" qual (Dp st) (BX st) (Ab st) .none kV doc pm an cdv ct),osl⟩)(c:pV K cdv qual=E3)(k:ic K (.ref f)=E3)(b:∀(kV doc pm:ac) (an:Option Addr) (cdv ct:ac) (us:List ac),us.length=ps.length->wl (io "__init__" qual (Dp st) (BX st) (Ab st) .none kV doc pm an cdv ct) ⟨us,[]⟩=pure (ps.zip us)):Ix K C qual st ps:=⟨f,_,Qm l c k,(Qm l c k).binds b,m,a,i,z⟩
structure Sx (mg:Str->Option ac) (x:Str) (f:Tok->ac) where
 t:Tok
 m:mg x=W1 (f t)
structure Kx (G:Gx) (mg:Str->Option ac) (x:Str) (c:D) where
 a:Addr
 m:mg x=W1 (.ref a)
 r:hQ G (λ_=>E2) (.ref a) c
def sx{t:Tok}{f:Tok->ac}(X:K.In h)(N:h.Ns gI mg)(a:AW K gI x=W1 (W1 (f t))):Sx mg x f:=⟨t,tz X N a⟩
def cls(X:K.In h)(J:wc K C nV=E3)(L:zW K C=E3)(I:CD K C=E3)(z:fI K (.ref C) "__setattr__"=W1 (W1 (.builtin "object.__setattr__"))):NX K C:=⟨J,L,I,z⟩
end
def Vz:D->Option D
 |.int i=>if 0<=i/\i<=1000000 then W1 (.lst (wh i.toNat)) else E2
 |_=>E2
theorem ZD{z:Type}(f:z->Bool):∀l:List z,Po (l.map λx=>.bl (f x))=W1 (l.map f)
 |[]=>rfl
 |x::r=>by rw[bn,Po,ZD f r];rfl
section
variable {a:Expr}{fa:FE}{es:List Expr}{fs:FA}
theorem bK:CN X (.type "range") (λxs H Q=>∃i:Int,xs=[.int i]/\∀l,H l=E2->Q (.ref l) (fk H l (.rng 0 i))):=by
 intro L s J H xs O Q I r h;obtain⟨i,rfl,q⟩:=h;obtain⟨u,rfl,z⟩:=r.one;obtain⟨t,rfl⟩:=z;refine call_range_1 ?_;exact⟨.ref s.heap.objs.size,_,I.laid (λb o e=>bg _ e) (aE _) (show BJ X.prog X.w _ _ _ (.rng 0 i) from⟨_,_,_,cp _ rfl⟩),rfl,q _ (I.hok.fresh (aE _))⟩
theorem ZF:∀{xs:List V}{us:List ac},us.length=xs.length->(∀(j:Nat) x u,xs[j]?=W1 x->us[j]?=W1 u->cx x u)->cc xs us
 |[],us,Y,_=>by
  rw[AV Y];exact .nil
 |x::r,[],Y,_=>by simp at Y
 |x::r,u::us,Y,h=>.cons (h 0 x u rfl rfl) (ZF (by simpa using Y) λj y v a b=>h (j+1) y v (by simpa using a) (by simpa using b))
theorem Ru(hc:X.calm=E3):CN X (.type "list") (λxs H Q=>∃(p:Addr) (n:Nat),xs=[.ref p]/\H p=W1 (.rng 0 n)/\n<=1000000/\∀l,H l=E2->Q (.ref l) (fk H l (.lst ((bb n).map λ(k:Nat)=>V.int k)))):=by
 intro π s σ H xs us Q I r h;obtain⟨p,n,rfl,e,hn,q⟩:=h;obtain⟨u,rfl,U⟩:=r.one;cases U;obtain⟨t,u,v,Z⟩:=(show BJ X.prog X.w H s.heap p (.rng 0 n) from I.hok p _ e);have W:G1 0 n 1=(n:Int):=by rw[rangeSize_one];split<;>omega
 refine call_list_range (I.ok.hd hc) Z (small_one (by decide) (by decide) (by omega) (by omega)) W (by omega) λh' tk J c' Y z L=>?_;have T:cc ((bb n).map λ(k:Nat)=>V.int k) J.toList:=by
  refine ZF (by simp[L.1]) λj x u O S=>?_;obtain⟨tk,rfl⟩:=L.2 j u (by simpa using S);have hj:j<n:=by
   have:=(fF.mp S).1;rw[ke,L.1] at this;exact this
  rw[cb,List.getElem?_range hj] at O;cases O;exact⟨tk,by simp⟩
 exact⟨.ref s.heap.objs.size,_,I.laid (t':=tk) Y (aE _) (show BJ X.prog X.w _ h' _ (.lst _) from⟨by rw[aw,mN];exact cy hn (by decide),J.toList,c',T,by simpa using z⟩),rfl,q _ (I.hok.fresh (aE _))⟩
def h_:d6 "range"=W1 (.type "range"):=by decide +kernel
def oh{p q:Pos}(hg:Gl X "list")(hm:X.mg "list"=E2)(W:Gl X "range")(I:X.mg "range"=E2)(ha:PU X G a fa)(hc:X.calm=E3:=by rfl)(Y:ay [a] X.env=[(ZA,eval a X.env)]:=by rfl)(L:ay [.Call (.Name "range" q) [a] [] pos2] X.env=[(ZA,eval (.Call (.Name "range" q) [a] [] pos2) X.env)]:=by rfl):
  PN X G (.Call (.Name "list" p) [.Call (.Name "range" q) [a] [] pos2] [] pos) (uF Vz fa):=λA=>Bp (En (Ru hc) hg hm QJ (BW (En bK W I h_ (BW (@ha A) Cp Y) (by decide) (by decide) Y rfl) Cp L) (by decide) (by decide) L rfl)<|by
 rintro σ H Q ⟨Z,d,o,e,k⟩
 obtain⟨dx,e1,J⟩:=Ht e;refine⟨Z,dx,o,e1,λv H1 T r1=>?_⟩;unfold Vz at J;split at J
 .rename_i i;split at J
  .rename_i hi;cases J;rw[r1.int];refine⟨i,rfl,λl hl=>⟨l,i.toNat,rfl,by rw[Ag,AX hi.1],by omega,λm I=>?_⟩⟩;have o1:=(o.mono T);have n1:l≠m:=λz=>by rw[<-z,Ag] at I;cases I
   have U:H1 m=E2:=by rw[Ai (cq n1)] at I;exact I
   refine k m _ (T.trans ((Ak hl _).trans (Ak I _))) (T.free U) ⟨(bb i.toNat).map λ(k:Nat)=>V.int k,Ag,by simp[wh],λj x d O S=>?_⟩;unfold wh at S;rw[cb] at O S;cases q:(bb i.toNat)[j]? with
   |none=>rw[q] at O;cases O
   |some z=>rw[q] at O S;cases O;cases S;exact .int z
  .cases J
 .cases J
def ou{p q:Pos}(U:Gl X "list")(J:X.mg "list"=E2)(W:Gl X "range")(I:X.mg "range"=E2)(S:PU X G a fa)(O:X.calm=E3:=by rfl)(L:ay [a] X.env=[(ZA,eval a X.env)]:=by rfl)(z:ay [.Call (.Name "range" q) [a] [] pos2] X.env=[(ZA,eval (.Call (.Name "range" q) [a] [] pos2) X.env)]:=by rfl):
  PF X G (.Call (.Name "list" p) [.Call (.Name "range" q) [a] [] pos2] [] pos) (uF Vz fa):=PN.pf (oh U J W I S O L z)
end
section
variable {A:aS}{T:String}{r d:Addr}{P:Nat->ac->Prop}{OK:Heap->Prop}
theorem Pn{R:List ac->ah->Prop}(K:PySem.W.KdlSrc prog w T r d n P OK)(hh:A.handled=E2)(L:OK s.heap)(hn:n<=sizeLine)(h:∀(h':Heap) (tk:Nat) (U:Array ac),(∀b o,s.heap.get? b=W1 o->h'.get? b=W1 o)->s.heap.objs.size<=h'.objs.size->ItemsOf P U n->R U.toList { s with heap:=h',toks:=tk }):
  ag (ai prog w) A (qv (.ref r)) R E s:=by
 obtain⟨hr,hd⟩:=K.there _ L;have gS:(s.heap.push { cls:=.type "list",data:=.seq ([]:List ac).toArray }).get? s.heap.objs.size=W1 { cls:=.type "list",data:=.seq #[] }:=cp _ rfl;unfold qv;refine ae (xE (ia EG ?_));rw[ly PySem.F.plain_proto_collect _];show ag _ A.in1 (xl [] >>= λl=>again (.builtin "list.__iadd__" ⟨[l,.ref r],[]⟩)) _ _ s;refine ae (kL (av ⟨kQ JE _,ia EH ?_⟩));rw[ly JE _];show ag _ A.in1 (xI (.ref s.heap.objs.size) (.ref r) (.ref s.heap.objs.size)) _ _ _;have Z:=PySem.W.kdl_extend (A:=A) (s:={ s with heap:=s.heap.push { cls:=.type "list",data:=.seq ([]:List ac).toArray } }) K
  (R:=λq Y=>∃(h':Heap) (tk:Nat) (z:Array ac) (J:Nat),q=.ok (.ret (.ref s.heap.objs.size))/\Y={ s with heap:=h',toks:=tk }/\(∀b o,s.heap.get? b=W1 o->h'.get? b=W1 o)/\h'.get? s.heap.objs.size=W1 { cls:=.type "list",dict:=E2,data:=.seq z J,slots:=#[] }/\ItemsOf P z n)
  hh (K.keep _ _ L λb _ o e=>bg _ e) s.heap.objs.size (nE hr) (nE hd) (.ref s.heap.objs.size) 0 gS
  (λh' tk z J O I S=>⟨h',tk,z,J,rfl,rfl,λb o e=>O b o (bX (bv e)) (bg _ e),I,S⟩) hn
 refine gT Z (λot Y x=>?_) λe Y x=>?_
 .cases ot with
  |done f=>
   obtain⟨h',tk,z,J,e,rfl,O,I,S⟩:=x;cases e;show ag _ A (load s.heap.objs.size >>= _) _ _ _;exact ae (vS I (av (h h' tk z O (sD (bv I)) S)))
  |again c=>
   refine⟨x.1,rl x.2 λr2 s2 y=>?_⟩;obtain⟨h',tk,z,J,e,rfl,O,I,S⟩:=y;cases e;show ag _ A (load s.heap.objs.size >>= _) _ _ _;exact ae (vS I (av (h h' tk z O (sD (bv I)) S)))
 .obtain⟨h',tk,z,J,e,_⟩:=x;cases e
end
section
variable {A:aS}
theorem bL{ks:List Str}{v:ac}(nd:ks.Nodup)(L:ks.length<=60)(I:∀(R:List ac->ah->Prop) (E':ac->ah->Prop),(∀(vs:List ac) (h':Heap) (tk:Nat),AT vs ks->s.heap.objs.size<=h'.objs.size->(∀b o,s.heap.get? b=W1 o->h'.get? b=W1 o)->R vs { s with heap:=h',toks:=tk })->ag (ai prog w) A.in1 (qv v) R E' s)(k:∀(its:List ac) (e:Nat) (l:Addr) (h':Heap) (tk:Nat),AT its (Ez ks)->h'.get? l=W1 (lP "list" its.toArray e)->s.heap.objs.size<=l->(∀b o,s.heap.get? b=W1 o->h'.get? b=W1 o)->Q (.ref l) { s with heap:=h',toks:=tk }):
  ag (ai prog w) A (call (.builtin "sorted") [v]) Q E s:=by
 refine xL xS y0 ya (yi _) ?_;unfold de.«sorted»;refine ae (m:=yk "sorted" 1 1 _) (av (ae (I _ _ λvs J tk T le W=>?_)));have z:vs.length<=60:=by rw[T.length];exact L
 refine ae (oj ?_ (cy z (by decide)));have gl:(J.push { cls:=.type "list",data:=.seq vs.toArray }).get? J.objs.size=W1 (lP "list" vs.toArray 0):=cp _ rfl;refine ae (wpAny_holding (hU yn ⟨_,gl,rfl⟩ yA (PyProof.Rows.list_sort_treeK PyProof.Rows.strKind_oneLt gl T.keysOf (λa b r e=>PyProof.Rows.keyKind_strs (by rw[<-e];exact T)) (by omega) λU a1 a2=>⟨_,rfl,?_⟩) (yB _)));obtain⟨Y,o1,O,Z⟩:=PyProof.Rows.sorted_out_str T a1 a2;have e:Y=Ez ks:=Xa (UL Z (O.nodup_iff.mpr nd)) (Mw ks) λy=>by rw[Ko,O.mem_iff]
 subst e;obtain⟨c,I⟩:∃c,(PyProof.Rows.sortedHeap (J.push { cls:=.type "list",data:=.seq vs.toArray }) J.objs.size vs ((EI U).map (·.2))).get? J.objs.size=W1 (lP "list" ((EI U).map (·.2)).toList.toArray c):=by
  obtain⟨c,I⟩:=yT (out:=(EI U).map (·.2)) gl;exact⟨c,by rw[I,Array.toArray_toList]⟩
 refine av ⟨_,rfl,k _ c _ _ tk o1 I le λb o g=>?_⟩;have S:=bv (W b o g);rw[yY (bX S) (by rw[gi];exact jp S)];exact bg _ (W b o g)
end
open L2
section
variable {a:Expr}{p:Pos}
theorem M8:∀{z:List Str}{us:List ac},cc (z.map V.str) us->AT us z
 |[],_,.nil=>.nil
 |_::_,_,.cons r t=>by obtain⟨u,rfl⟩:=r;exact .cons _ _ (M8 t)
theorem LC(hc:X.calm=E3):CN X (.builtin "sorted") (λxs H Q=>∃p kvs J,xs=[.ref p]/\Rd H p (.dK kvs)/\kvs.map (λq=>kV q.1)=J.map V.str/\J.Nodup/\J.length<=60/\∀l,H l=E2->Q (.ref l) (fk H l (.lst ((Ez J).map V.str)))):=by
 intro π s σ H xs us Q I r h;obtain⟨p,kvs,J,rfl,e,ez,nd,hz,k⟩:=h;obtain⟨u,rfl,ru⟩:=r.one;cases ru;obtain⟨z,hd,W,L,Z⟩:=Pb I.hok e;obtain⟨ep,Z⟩:=Z.dictAt;have hl:kvs.length=W.length:=L.length;refine bL (ks:=J) nd hz (λR E' hR=>Pn (JI (knd:=Av X.prog X.w) (kvs:=W) (ep:=ep) hd) (I.ok.hd hc) Z (by omega) λh' tk U S O hi=>hR _ h' tk ?_ O S) λT e2 l h' tk hS g O S=>?_
 .have Y:cc (kvs.map λq=>kV q.1) U.toList:=by
   refine UW (P:=X.prog) (w:=X.w) (by simp[hi.1,hl]) λj u hu=>?_;obtain⟨k,x,h1,h2⟩:=hi.2 j u (by simpa using hu);have hj:j<kvs.length:=by rw[hl];exact (fF.mp h1).1
   refine⟨kvs[j],by simp[hj],?_⟩;rw[(M3 L (by simp[hj]) h1).1];exact h2
  rw[ez] at Y;exact M8 Y
 .have hv:=Sd hS;refine⟨.ref l,_,I.laid (a:=l) (o:=.lst ((Ez J).map V.str)) (t':=tk) S O ⟨?_,T,e2,hv,g⟩,rfl,k l (I.hok.fresh O)⟩;rw[aw];have:=ZT (gG (Mw J)) (m:=J) λy m=>(Ko y J).mp m;exact cy this (cy hz (by decide))
def sdkL(I:List (Key×D)):Option D:=(K9 (I.map λp=>Sj p.1)).bind λz=>if z.Nodup/\z.length<=60 then W1 (.lst ((Ez z).map .str)) else E2
def sdkD:D->Option D
 |.dk z=>sdkL z
 |_=>E2
def ZG:Sa G (λxs H Q=>∃p kvs I,xs=[.ref p]/\Rd H p (.dK kvs)/\kvs.map (λq=>kV q.1)=I.map V.str/\I.Nodup/\I.length<=60/\∀l,H l=E2->Q (.ref l) (fk H l (.lst ((Ez I).map V.str)))) sdkD:=by
 intro A H x dx d Q W r e k;cases dx with
 |dk L=>
  have e:sdkL L=W1 d:=e;obtain⟨p,kvs,rfl,J,O,Z⟩:=r.dk;unfold sdkL at e;cases S:K9 (L.map λp=>Sj p.1) with
  |none=>rw[S] at e;cases e
  |some I=>
   rw[S] at e;have T:(if I.Nodup/\I.length<=60 then W1 (D.lst ((Ez I).map .str)) else E2)=W1 d:=e;split at T
   .rename_i U;cases T;refine⟨p,kvs,I,rfl,J,gK (G:=G) (H:=bm A H) (gU O) S,U.1,U.2,λl Y=>k _ _ (Ak Y _) (Df W Y ⟨by simp,λi v d J O=>?_⟩)⟩;rw[cb] at J O;cases q:(Ez I)[i]? with
    |none=>rw[q] at J;cases J
    |some z=>rw[q] at J O;cases J;cases O;exact .str z
   .cases T
 |_=>cases e
end
open EX
section
variable {a ob:Expr}{es:List Expr}{fs:FA}{fo:FE}{p:Pos}
def Dg(c m:Str):D->Bool
 |.ob z L=>z==c&&(L.lookup m).isNone
 |_=>ZA
def Et(c m:Str)(g:List D->Option D)(z:FE)(fs:FA):FE:=λρ=>(z ρ).bind λo=>if Dg c m o=E3 then (fs ρ).bind λds=>g (o::ds) else E2
def Ox{fs:List (Str×V)}{L:List (Str×D)}(h:fs.map (·.1)=L.map (·.1))(n:L.lookup m=E2):fs.lookup m=E2:=by
 induction fs generalizing L with
 |nil=>rfl
 |cons p r z=>
  cases L with
  |nil=>cases h
  |cons q t=>
   obtain⟨a,b⟩:=p;obtain⟨O,J⟩:=q;simp only[bn,zr] at h;obtain⟨rfl,I⟩:=h;simp only[cf] at n ⊢;split at n
   .cases n
   .exact z I n
end
end PV
namespace EX
open PySem PySem.W PyProof.Rows PySem.Calls
open PySem.Spec
section
variable {A:aS}{K:Frag}{x:Addr}{ox:Obj}{od:Option Obj}{name:Str}{v:ac}
open Builtin Builtin.ObjectAttr in
end
end EX
namespace EX
open PySem PySem.Spec L2
open PyProof.Rows hiding St
abbrev bmV:List ac:=[.type "ValueError",.type "Exception",.type "BaseException",.type "object"]
def excX(K:aI)(C:Addr):Bool:=match K.lookup C with
 |some ⟨.type "type",_,.cls cd,sl⟩=>(match cd.mro,sl.toList with
  |.ref I::z,[_,_,_,_,W1 (.builtin n),_]=>I==C&&n=="ValueError.__new__"&&!cd.hasDel&&PySem.W.tailIn K bmV z
  |_,_=>ZA)
 |_=>ZA
structure XC (K:aI) (C R:Addr):Prop where
 obj:excX K C=E3
 sa:fI K (.ref C) "__setattr__"=W1 (W1 (.builtin "object.__setattr__"))
 ga:fI K (.ref C) "__getattribute__"=W1 (W1 (.builtin "BaseException.__getattribute__"))
 gt:fI K (.ref C) "__getattr__"=W1 E2
 cd:(PySem.W.clsIn K C).any (λcd=>cd.mro==[.ref C,.ref R,.type "ValueError",.type "Exception",.type "BaseException",.type "object"]&&cd.hasDict)=E3
end EX
namespace PV
open PySem PySem.Spec L2 EX
open PyProof.Rows hiding St
end PV
namespace EX
open PySem PySem.Spec L2
open PyProof.Rows hiding St
section
variable {e R:Addr}{K:aI}
abbrev Cx.tr (X:Cx) (E:ac->ah->Prop) (pn:NI):Cx:={ X with xe:=E,pn:=pn }
end
end EX
namespace PV
open PySem PySem.Spec L2 EX
open PyProof.Rows hiding St
end PV
namespace EX
open PySem PySem.W PySem.Spec PyProof.Rows PySem.Calls
end EX
namespace PV
open PySem PySem.Spec L2 EX
open PyProof.Rows hiding St
structure Mx (K:aI) (C:Addr) (m qual:Str) (st:Stmt) (ps:List Str) where
 f:Addr
 fd:lj
 F:Fun K m qual st f fd
 B:MO K fd ps []
 me:Meth K C m f
structure Rx (K:aI) (mg:Str->Option ac) (rn:Str) where
 R:Addr
 m:mg rn=W1 (.ref R)
 x:excX K R=E3
 h1:CI K (.ref R) "__getattribute__"=W1 (W1 (.builtin "type.__getattribute__"))
 h2:JJ K R (.type "type")=E3
 h3:JO K (.ref R) (.type "type") "__init__"=W1 (.val (.builtin "ValueError.__init__"))
structure Xx (G:Gx) (mg:Str->Option ac) (R:Addr) (cn f qual:Str) (st:Stmt) (ps:List Str) where
 C:Addr
 fi:Addr
 fd:lj
 g:G.xcl cn=W1 C
 xc:XC G.K C R
 hi:fI G.K (.ref C) "__init__"=W1 (W1 (.ref fi))
 hf:ri G.K (.ref fi)=E3
 kp:ic G.K (.ref C)=E3
 na:BP G.K C f
 m:mg cn=W1 (.ref C)
 F:Fun G.K "__init__" qual st fi fd
 B:MO G.K fd ps []
section
variable {a ob:Expr}{es:List Expr}{fs:FA}{fa fo:FE}{p np cpos:Pos}
theorem mO{k:Nat}{c:Str}{d:Mx X.K C m qual st ps}{pl:Sem Bool}(U:G.cl c=W1 C)(cl:NX X.K C)(F:im X.prog X.w X.K X.mg X.base CX0 k d.f d.fd ps (Na G g))(hr:Room k' X.A)(ho:PF X G ob fo)(L:k<=k':=by omega)(ht:eval (.Call (.Attribute ob m apos) [] [] pos) X.env=(do
   let ov <-eval ob X.env
   pj apos.atName
   let (f,first) <-li [ov] (rj ov m pl)
   sN pos f first (dS pos (ay [] X.env)) (ll pos (iL [] X.env))):=by rfl):
  PF X G (.Call (.Attribute ob m apos) [] [] pos) (Et c m g fo af):=λA=>Bp (cV (@ho A) cl d.me F (hr.mono L) d.B .nil R_ ht)<|by
 rintro σ H Q ⟨J,dd,o,e,k⟩
 unfold Et at e;cases O:fo J with
 |none=>simp[O] at e
 |some I=>
  rw[O] at e;have S:(if Dg c m I=E3 then (af J).bind λds=>g (I::ds) else E2)=W1 dd:=e;split at S
  .rename_i z;have e2:g [I]=W1 dd:=S;refine⟨J,I,o,O,λv H1 T r1=>?_⟩;cases I with
   |ob c' gs=>
    simp only[Dg,fh,SG,tq] at z;obtain⟨rfl,hn⟩:=z;cases r1 with
    |ob W Y Z r2=>
     rw[U] at W;cases W;exact⟨_,_,_,rfl,Ao _ _ Y,Ox Z hn,A,[.ob c' gs],dd,(o.mono T).live,.cons (.ob U Y Z r2) .nil,e2,λv H3 s3 r4=>k v H3 (T.trans s3) r4⟩
   |_=>simp[Dg] at z
  .cases S
end
section
variable {K:aI}{cn:Str}{f R:Addr}{kV:ac}{l:List (Str×Addr)}
def mx(X:K.In h)(a:fI K (.ref C) m=W1 (W1 (.ref f)))(i:ri K (.ref f)=E3)(z:K.lookup f=W1 ⟨oc,od,.func (io m qual (Dp st) (BX st) (Ab st) .none kV doc pm an cdv ct),osl⟩)(c:pV K cdv qual=E3)(k:ic K (.ref f)=E3)(b:∀(kV doc pm:ac) (an:Option Addr) (cdv ct:ac) (us:List ac),us.length=ps.length->wl (io m qual (Dp st) (BX st) (Ab st) .none kV doc pm an cdv ct) ⟨us,[]⟩=pure (ps.zip us)):Mx K C m qual st ps:=⟨f,_,Qm z c k,(Qm z c k).binds b,a,i,k⟩
def rx(X:K.In h)(N:h.Ns gI mg)(a:AW K gI x=W1 (W1 (.ref R)))(e:excX K R=E3)(h1:CI K (.ref R) "__getattribute__"=W1 (W1 (.builtin "type.__getattribute__")))(z:JJ K R (.type "type")=E3)(S:JO K (.ref R) (.type "type") "__init__"=W1 (.val (.builtin "ValueError.__init__"))):Rx K mg x:=⟨R,tz X N a,e,h1,z,S⟩
end
def yg:R2:=λx y H Q=>∃a kvs k b,y=.ref a/\Rd H a (.dT kvs)/\x=.ref b/\H b=W1 (.tup (k.map kV))/\Q (.bl (OR kvs k).isSome) H
def YN(ds:Option (List D))(y:Option D):Option D:=ds.bind λds=>y.bind λy=>match y with
 |.dt z=>if ds.length<=sizeLine then (J4 ds).map λk=>.bl (ui k z).isSome else E2
 |_=>E2
def inTF(fs:FA)(z:FE):FE:=λρ=>YN (fs ρ) (z ρ)
section
variable {b:Expr}{fb:FE}{es:List Expr}{fs:FA}
def o6(S:X.A.units+1<bE):NH X (dA .In) yg:=by
 intro U s T H x y v u Q I rx J h;obtain⟨a,z,k,b,rfl,e,rfl,L,q⟩:=h;cases J;exact d_in S I (.inr ⟨z,k,b,e,rfl,L,rfl⟩) rx λW O=>⟨.bl _,H,O,rfl,q⟩
def iB{x1}{k:Nat}(hr:Room k X.A)(ha:TR X G es fs)(hb:PU X G b fb)(hm:hZ .In b=ZA:=by with_unfolding_all rfl):PF X G (.Compare (.Tuple es x1 p1) [.In] [b] pos) (inTF fs fb):=λA=>Bp (Te (o6 (G_ hr)) (W8 (@ha A)) (@hb A) hm)<|by
 rintro σ H Q ⟨I,d,o,e,k⟩
 unfold inTF YN at e;cases J:fs I with
 |none=>simp[J] at e
 |some L=>
  cases U:fb I with
  |none=>simp[J,U] at e
  |some y=>
   rw[J,U] at e;cases y with
   |dt z=>
    have O:(if L.length<=sizeLine then (J4 L).map λk=>D.bl (ui k z).isSome else E2)=W1 d:=e;split at O
    .rename_i hz;cases T:J4 L with
     |none=>simp[T] at O
     |some ks=>
      rw[T] at O;cases O;refine⟨I,L,o,J,λxs H1 Z r1=>⟨by rw[r1.1];exact hz,λp hp=>?_⟩⟩;have ex:=Om r1 T;have Y:ab H1 (fk H1 p (.tup xs)):=Ak hp _;refine⟨I,.dt z,o.mono (Z.trans Y),U,λv H3 W r3=>?_⟩;obtain⟨a,S,rfl,h1,h2,r⟩:=r3.dt;have h3:=(Kp (k:=ks) h2 r).2;refine⟨a,S,ks,p,rfl,h1,rfl,by rw[W _ _ Ag,ex],?_⟩;rw[h3];exact k _ H3 ((Z.trans Y).trans W) (.bl _)
    .cases O
   |_=>cases e
end
def Xx.lend{G:Gx}{I:Str->Option ac}{R y:Addr}{J f z:Str}{st:Stmt}{ps:List Str}(x:Xx G I R J f z st ps):Xx (G.lend y) I R J f z st ps:=⟨x.C,x.fi,x.fd,x.g,x.xc,x.hi,x.hf,x.kp,x.na,x.m,x.F,x.B⟩
end PV
namespace L2
end L2
namespace PV
open PySem PySem.Spec L2
section
variable {es l1:List Expr}{a b c:Expr}
def Pq{k j}:ay (.Constant k j pos::es) env=(ZA,eval (.Constant k j pos) env)::ay es env:=rfl
def QS{x}:ay (.Name x pos::es) env=(ZA,eval (.Name x pos) env)::ay es env:=rfl
def Ff{o}:ay (.BinOp a o b pos::es) env=(ZA,eval (.BinOp a o b pos) env)::ay es env:=rfl
def Dt:ay (.Subscript a b pos::es) env=(ZA,eval (.Subscript a b pos) env)::ay es env:=rfl
def CW{x}:ay (.Attribute a x pos::es) env=(ZA,eval (.Attribute a x pos) env)::ay es env:=rfl
def V0{x}:ay (.Tuple l1 x pos::es) env=(ZA,eval (.Tuple l1 x pos) env)::ay es env:=rfl
def Ug:ay (.List l1 pos::es) env=(ZA,eval (.List l1 pos) env)::ay es env:=rfl
def Kv{k}:ay (.Call a l1 k pos::es) env=(ZA,eval (.Call a l1 k pos) env)::ay es env:=rfl
def Hv{g sc}:ay (.ListComp a g sc pos::es) env=(ZA,eval (.ListComp a g sc pos) env)::ay es env:=rfl
end
section
variable {es:List Expr}{fs:FA}
def iS{i j}(h:TR X G es fs):TR X G (.Constant (.str i) j pos::es) (Aa (kF (.str i)) fs):=Ah Tt h Pq
def iI{i j}(h:TR X G es fs):TR X G (.Constant (.int i) j pos::es) (Aa (kF (.int i)) fs):=Ah Qs h Pq
end
open PyProof.Rows hiding St
open EX
end PV
namespace EX
open PySem PySem.W PySem.Spec PyProof.Rows PySem.Calls
section
variable {A:aS}{K:Frag}{x:Addr}{ox:Obj}{name:Str}{v:ac}
open Builtin Builtin.ObjectAttr in
end
end EX
namespace EX
open PySem PySem.Spec L2
open PyProof.Rows hiding St
end EX
namespace PV
open PySem PySem.Spec L2 EX
open PyProof.Rows hiding St
structure Xx2 (G:Gx) (mg:Str->Option ac) (R:Addr) (cn f g qual:Str) (st:Stmt) (ps:List Str) where
 C:Addr
 fi:Addr
 fd:lj
 gc:G.xcl cn=W1 C
 xc:XC G.K C R
 hi:fI G.K (.ref C) "__init__"=W1 (W1 (.ref fi))
 hf:ri G.K (.ref fi)=E3
 kp:ic G.K (.ref C)=E3
 na:BP G.K C f
 nb:BP G.K C g
 m:mg cn=W1 (.ref C)
 F:Fun G.K "__init__" qual st fi fd
 B:MO G.K fd ps []
end PV
namespace EX
open PySem PySem.Spec L2
open PyProof.Rows hiding St
end EX
namespace PV
open PySem PySem.Spec L2 EX
open PyProof.Rows hiding St
def OO{P:List Str}(a:sc.kind=.function:=by rfl)(b:sc.isCoroutine=ZA:=by rfl)(c:sc.isGenerator=ZA:=by rfl)(d:N.Nodup:=by decide +kernel)(e:N.take P.length=P:=by rfl)(f:∀x∈P,sc.names.lookup x=W1 .local ∨sc.names.lookup x=W1 .cell :=by decide +kernel)(g:∀y∈sc.names,y.2≠.free :=by decide +kernel):bc N P sc:=⟨a,b,c,d,e,f,g⟩
def fy{es:List Expr}{fs:FA}{I:Pos}(i:Nat)(h:TR X G es fs)(O:X.N[i]?=W1 x:=by rfl)(J:VO X.env.scope x:=by first | exact dE rfl | exact cS (dE rfl) | exact cS (cS rfl))(L:(x==("__debug__":Str))=ZA:=by decide)(z:(x==("__classdict__":Str))=ZA:=by decide):TR X G (.Name x I::es) (Aa (vF i) fs):=Ah (vr i O J L z) h QS
def sX{z:Type}{us:List z}(h:us.length=1):∃a,us=[a]:=by
 cases us with
 |nil=>cases h
 |cons a r=>exact⟨a,by rw[AV (AY h)]⟩
def sY{I:Type}{us:List I}(h:us.length=2):∃a b,us=[a,b]:=by
 cases us with
 |nil=>cases h
 |cons z r=>
  obtain⟨a,rfl⟩:=sX (AY h);exact⟨z,a,rfl⟩
def sZ{I:Type}{us:List I}(h:us.length=3):∃a b c,us=[a,b,c]:=by
 cases us with
 |nil=>cases h
 |cons z r=>
  obtain⟨a,b,rfl⟩:=sY (AY h);exact⟨z,a,b,rfl⟩
def yh{I:Type}{us:List I}(h:us.length=4):∃a b c d,us=[a,b,c,d]:=by
 cases us with
 |nil=>cases h
 |cons z r=>
  obtain⟨a,b,c,rfl⟩:=sZ (AY h);exact⟨z,a,b,c,rfl⟩
abbrev EO:=Sum (Rho×Ef) (D×Rho)
abbrev FEz:=Rho->Ef->Option EO
open Classical in
section
open PySem PySem.Spec L2
end
open PySem PySem.Spec L2 EX
open PyProof.Rows hiding St
section
variable {a ob:Expr}{es:List Expr}{fs:FA}{fo:FE}
theorem mA{k:Nat}{c:Str}{d:Mx X.K C m qual st ps}{pl:Sem Bool}(hc:G.cl c=W1 C)(cl:NX X.K C)(F:im X.prog X.w X.K X.mg X.base CX0 k d.f d.fd ps (Na G g))(hr:Room k' X.A)(ho:PF X G ob fo)(ha:TR X G (a::es) fs)(Y:k<=k':=by omega)(U:ay (a::es) X.env=(ZA,eval a X.env)::ay es X.env:=by rfl)(W:(dS pos (ay es X.env)).any (·.1)=ZA:=by rfl)(ht:eval (.Call (.Attribute ob m apos) (a::es) [] pos) X.env=(do
   let ov <-eval ob X.env
   pj apos.atName
   let (f,first) <-li [ov] (rj ov m pl)
   sN pos f first (dS pos (ay (a::es) X.env)) (ll pos (iL [] X.env))):=by rfl):
  PF X G (.Call (.Attribute ob m apos) (a::es) [] pos) (Et c m g fo fs):=λA=>Bp (YK (@ho A) cl d.me F (hr.mono Y) d.B .nil R_ (@ha A) U W ht)<|by
 rintro σ H Q ⟨I,dd,o,e,k⟩
 unfold Et at e;cases e0:fo I with
 |none=>simp[e0] at e
 |some J=>
  rw[e0] at e;have O:(if Dg c m J=E3 then (fs I).bind λL=>g (J::L) else E2)=W1 dd:=e;split at O
  .rename_i z;cases Z:fs I with
   |none=>simp[Z] at O
   |some L=>
    have e2:g (J::L)=W1 dd:=by simpa [Z] using O
    refine⟨I,J,o,e0,λv H1 T r1=>?_⟩;cases J with
    |ob c' gs=>
     simp only[Dg,fh,SG,tq] at z;obtain⟨rfl,hn⟩:=z;cases r1 with
     |ob hC h1 l1 r2=>
      rw[hc] at hC;cases hC;refine⟨_,_,_,rfl,Ao _ _ h1,Ox l1 hn,I,L,o.mono T,Z,λvs H2 S r3=>?_⟩;refine⟨A,.ob c' gs::L,dd,((o.mono T).mono S).live,?_,e2,λv H3 s3 r4=>k v H3 ((T.trans S).trans s3) r4⟩;rw[g9];exact .cons (hQ.mono (.ob hc h1 l1 r2) (Ay S)) r3
    |_=>simp[Dg] at z
  .cases O
end
abbrev Mu:=List (Addr×D)
def mu(z:Mu):List Addr:=z.map (·.1)
abbrev KM:=QU->Mu->Prop
abbrev FM:=Rho->Mu->KM->Prop
structure Cs (G:Gx) (A0:List Addr) (He Hb:Hp) (A:List Addr) (σ:St) (H:Hp) (ρ:Rho) (μ:Mu):Prop where
 w:NW G (mu μ++A0) Hb A σ H ρ
 sb:ab He Hb
 l0:∀a∈A0,He a≠E2
 nf:∀a∈mu μ,He a=E2
 nd:(mu μ).Nodup
 top:∀p∈μ,MY G A H p.1 p.2
def Tl(G:Gx)(A0:List Addr)(J:Hp)(z:St)(H:Hp)(ρ:Rho)(I:Mu):Prop:=∃A L,Cs G A0 J L A z H ρ I
def MY.keep{O:List Addr}(t:MY G A H a d)(e:H' a=H a)(s:ab (bm A H) (bm O H')):MY G O H' a d:=by
 cases d with
 |lst L=>obtain⟨z,J,I⟩:=t;exact⟨z,by rw[e];exact J,I.mono s⟩
 |dk L=>obtain⟨z,J,I,Y⟩:=t;exact⟨z,by rw[e];exact J,I,Y.mono s⟩
 |dt L=>obtain⟨z,J,I,Y⟩:=t;exact⟨z,by rw[e];exact J,I,Y.mono s⟩
 |ob c S=>obtain⟨C,dx,z,J,I,Y⟩:=t;exact⟨C,dx,z,by rw[e];exact J,I,Y.mono s⟩
 |_=>exact t.elim
def HQ{μ:Mu}{p:Addr×D}(h:p∈μ):p.1∈mu μ:=aT.mpr ⟨p,h,rfl⟩
def iC{μ:Mu}(h:a∈mu μ):∃d,(a,d)∈μ:=by
 obtain⟨p,I,z⟩:=aT.mp h;exact⟨p.2,by rw[<-z];exact I⟩
def kc{μ:Mu}(h:μ.lookup a=W1 d):(a,d)∈μ:=by
 induction μ with
 |nil=>cases h
 |cons p r z=>
  rw[ck] at h;cases q:(a==p.1) with
  |true=>
   rw[q] at h;cases h;rw[eq_of_beq q];exact dn
  |false=>
   rw[q] at h;exact cE _ (z h)
def UM(a:Addr)(c:D)(z:Mu):Mu:=z.map λp=>if p.1=a then (a,c) else p
def Xg(a:Addr)(c:D)(μ:Mu):mu (UM a c μ)=mu μ:=by
 unfold mu UM;rw[bS];refine jv λp _=>?_;show (if p.1=a then (a,c) else p).1=p.1;split
 .rename_i h;exact h.symm
 .rfl
section
theorem Cs.mono(o:Cs G A0 He Hb A σ H ρ μ)(s:ab H H'):Cs G A0 He Hb A σ H' ρ μ:=
 ⟨o.w.mono s,o.sb,o.l0,o.nf,o.nd,λp h=>(o.top p h).mono s⟩
theorem Cs.set{v:V}{d:D}(o:Cs G A0 He Hb A σ H ρ μ)(r:hQ G (bm A H) v d)(i:Nat):Cs G A0 He Hb A (σ.set i (W1 v)) H (ρ.set i (.fz d)) μ:=
 ⟨o.w.set r i,o.sb,o.l0,o.nf,o.nd,o.top⟩
theorem Cs.inA(o:Cs G A0 He Hb A σ H ρ μ){a:Addr}(h:a∈mu μ):a∈A:=o.w.sub a (kG _ h)
def Cs.n0(o:Cs G A0 He Hb A σ H ρ μ){a:Addr}(h:a∈mu μ):a∉A0:=λz=>o.l0 a z (o.nf a h)
theorem Cs.same(o:Cs G A0 He Hb A σ H ρ μ):ab He H:=o.sb.trans o.w.same
theorem Cs.fr(o:Cs G A0 He Hb A σ H ρ μ){a:Addr}(h:a∈A):a∈A0∨He a=E2:=by
 rcases o.w.fr a h with z | z
 .rcases dQ.mp z with z | z
  .exact .inr (o.nf a z)
  .exact .inl z
 .exact .inr (o.sb.free z)
theorem Cs.lift(o:Cs G A0 He Hb A σ H ρ μ):∃Hf,NW G (mu μ++A0) Hf A σ H ρ/\∀O I H' J,NW G (mu μ++A0) Hf O I H' J->Cs G A0 He Hf O I H' J μ:=by
 obtain⟨T,U⟩:=o.w.here;refine⟨_,U,λO I H' J L=>⟨L,o.sb.trans T,o.l0,o.nf,o.nd,λp S=>?_⟩⟩;have t:=o.top p S;refine t.keep ?_ (NW.plain o.w.sub L);cases e:H p.1 with
 |none=>exact SF e t.live.ne
 |some u=>
  refine L.same p.1 u ?_;rw[Ax (λz=>by
   have:=(d4.mp z).2;exact (OG this) (kG _ (HQ S)))]
  exact e
theorem Cs.new{c:D}(o:Cs G A0 He Hb A σ H ρ μ)(s:ab H H')(L:H p=E2)(t:MY G (p::A) H' p c):Tl G A0 He σ H' ρ ((p,c)::μ)/\p∉mu μ/\Cs G A0 He (λb=>if b=p then H' b else Hb b) (p::A) σ H' ρ ((p,c)::μ):=by
 have I:p∉A:=λz=>(o.w.ok.live p z).ne L;have O:p∉mu μ:=λz=>I (o.inA z);have m:Cs G A0 He (λb=>if b=p then H' b else Hb b) (p::A) σ H' ρ ((p,c)::μ):=by
  refine⟨⟨λb u h=>?_,λa J=>?_,λa J=>?_,λa J=>?_,o.w.ok.fill s L t.live,λi d a U T=>?_,o.w.lt⟩,λb u h=>?_,o.l0,λa J=>?_,?_,λq Y=>?_⟩
  .by_cases q:b=p
   .simp only[q,WG] at h ⊢;exact h
   .simp only[q,XG] at h;exact s b u (o.w.same b u h)
  .rcases bP.mp J with z | z
   .rw[z];exact dn
   .exact cE _ (o.w.sub a z)
  .rcases bP.mp J with z | z
   .rw[z];exact .inl dn
   .rcases o.w.fr a z with q | q
    .exact .inl (cE _ q)
    .right;have:a≠p:=λe=>I (e▸z);simp only[this,XG];exact q
  .rcases bP.mp J with z | z
   .have W:a=p:=z;simp only[W,WG];exact t.live.ne
   .have:a≠p:=λe=>I (e▸o.w.sub a z);simp only[this,XG];exact o.w.l0 a z
  .intro z
   rcases bP.mp z with z | z
   .obtain⟨q,q1,q2,_⟩:=o.w.ok.ow i d U;rw[T] at q1;cases q1;exact I ((show a=p from z)▸q2)
   .exact o.w.ow0 i d a U T z
  .have S:=o.sb b u h;have:b≠p:=λe=>by
    rw[e] at S;rw[o.w.same p u S] at L;cases L
   simp only[this,XG];exact S
  .rcases bP.mp J with z | z
   .rw[z];exact o.same.free L
   .exact o.nf a z
  .exact kK.mpr ⟨O,o.nd⟩
  .rcases bP.mp Y with z | z
   .rw[z];exact t
   .exact (o.top q z).fill s L
 exact⟨⟨_,_,m⟩,O,m⟩
theorem Cs.wr{c:D}(o:Cs G A0 He Hb A σ H ρ μ)(T:q∈mu μ)(sx:K_ q H H')(t:MY G A H' q c):Cs G A0 He (λb=>if b=q then H' b else Hb b) A σ H' ρ (UM q c μ):=by
 have W:=o.inA T;have S:=G5 W sx;have I:∀(i:Nat) (d:D) (a:Addr),ρ[i]?=W1 (.ow d)->σ[i]?=W1 (W1 (.ref a))->a≠q:=λi d a h1 h2 z=>o.w.ow0 i d a h1 h2 (z▸kG _ T);have J:NW G (mu μ++A0) (λb=>if b=q then H' b else Hb b) A σ H' ρ:=by
  refine⟨λb u h=>?_,o.w.sub,λa L=>?_,λa L=>?_,⟨o.w.ok.len,λb Z=>?_,λj e h=>?_,λj e h=>?_,o.w.ok.inj⟩,o.w.ow0,o.w.lt⟩
  .by_cases z:b=q
   .simp only[z,WG] at h ⊢;exact h
   .simp only[z,XG] at h;exact sx b u z (o.w.same b u h)
  .by_cases z:a=q
   .exact .inl (z▸kG _ T)
   .rcases o.w.fr a L with y | y
    .exact .inl y
    .right;simp only[z,XG];exact y
  .by_cases z:a=q
   .simp only[z,WG];exact t.live.ne
   .simp only[z,XG];exact o.w.l0 a L
  .by_cases z:b=q
   .rw[z];exact t.live
   .exact (o.w.ok.live b Z).mono λu e=>sx b u z e
  .obtain⟨v,q1,q2⟩:=o.w.ok.fz j e h;exact⟨v,q1,q2.mono S⟩
  .obtain⟨a,q1,q2,q3⟩:=o.w.ok.ow j e h;exact⟨a,q1,q2,q3.other (I j e a h q1) W sx⟩
 refine⟨by rw[Xg];exact J,λb u h=>?_,o.l0,by rw[Xg];exact o.nf,by rw[Xg];exact o.nd,λp Y=>?_⟩
 .have:b≠q:=λe=>by
   rw[e,o.nf q T] at h;cases h
  simp only[this,XG];exact o.sb b u h
 .obtain⟨U,h0,O⟩:=aT.mp Y;split at O
  .rw[<-O];exact t
  .rename_i z;rw[<-O];exact (o.top U h0).other z W sx
theorem Cs.at(o:Cs G A0 He Hb A σ H ρ μ){i:Nat}{a:Addr}(h:ρ[i]?=W1 (.fz (.adr a))):σ[i]?=W1 (W1 (.ref a)):=by
 obtain⟨v,q1,q2⟩:=o.w.ok.fz i _ h;cases q2;exact q1
end
def Lq(I:Mu):List Nat->List Addr->Rho->Option Rho
 |[],_,ρ=>W1 ρ
 |j::J,z,ρ=>match ρ[j]? with
  |some (.fz (.adr a))=>if a∈z then E2 else (I.lookup a).bind λc=>Lq I J (a::z) (ρ.set j (.ow c))
  |_=>E2
theorem Sh{G:Gx}{A:List Addr}{U:St}{H:Hp}{S:Mu}(inA:∀p∈S,p.1∈A)(top:∀p∈S,MY G A H p.1 p.2):∀(js:List Nat) (seen:List Addr) (ρ I:Rho),OQ G A U H ρ->(∀(i:Nat) (d:D) (a:Addr),ρ[i]?=W1 (.ow d)->U[i]?=W1 (W1 (.ref a))->a∉mu S∨a∈seen)->Lq S js seen ρ=W1 I->OQ G A U H I
 |[],_,ρ,I,o,_,e=>by cases e;exact o
 |j::js,seen,ρ,I,o,hs,e=>by
  unfold Lq at e;split at e
  .rename_i a ej;split at e
   .cases e
   .rename_i na;cases el:S.lookup a with
    |none=>rw[el] at e;cases e
    |some c=>
     rw[el] at e;have hm:=kc el;obtain⟨v,q1,q2⟩:=o.fz j _ ej;cases q2;have ne:∀(i:Nat) (d:D) (b:Addr),ρ[i]?=W1 (.ow d)->U[i]?=W1 (W1 (.ref b))->b≠a:=λi d b T J z=>by
      rcases hs i d b T J with y | y
      .exact y (z▸HQ hm)
      .exact na (z▸y)
     refine Sh inA top js (a::seen) _ I ⟨by rw[sg];exact o.len,o.live,λi d h=>?_,λi d h=>?_,λi k d f b T J Y W=>?_⟩ (λi d b T J=>?_) e
     .rcases Be h with ⟨_,O,_⟩ | ⟨_,O⟩
      .cases O
      .exact o.fz i d O
     .rcases Be h with ⟨hj,O,_⟩ | ⟨_,O⟩
      .cases O;subst hj;exact⟨a,q1,inA _ hm,top _ hm⟩
      .exact o.ow i d O
     .rcases Be T with ⟨L,_,_⟩ | ⟨L,Z⟩<;>rcases Be J with ⟨hk,_,_⟩ | ⟨hk,z2⟩
      .rw[L,hk]
      .subst L;rw[q1] at Y;cases Y;exact SF rfl (ne k f _ z2 W)
      .subst hk;rw[q1] at W;cases W;exact SF rfl (ne i d _ Z Y)
      .exact o.inj i k d f b Z z2 Y W
     .rcases Be T with ⟨L,_,_⟩ | ⟨L,Z⟩
      .subst L;rw[q1] at J;cases J;exact .inr dn
      .exact (hs i d b Z J).imp id λy=>cE _ y
  .cases e
theorem Cs.view{I:Mu}(o:Cs G A0 He Hb A σ H ρ I){J:List Nat}{ρ':Rho}(e:Lq I J [] ρ=W1 ρ'):OQ G A σ H ρ':=
 Sh (λp h=>o.inA (HQ h)) o.top J [] ρ ρ' o.w.ok (λi d a O L=>.inl λz=>o.w.ow0 i d a O L (kG _ z)) e
abbrev XU:=Rho->Mu->(D->Mu->Prop)->Prop
def puM(g:FS):FM:=λρ z K=>∃o,g ρ=W1 o/\K o z
def thM(L:FM)(K:KM):KM:=λo z=>match o with | .nx ρ=>L ρ z K | o=>K o z
def RO(g L:FM):FM:=λρ z K=>g ρ z (thM L K)
def nxM:FM:=λρ z K=>K (.nx ρ) z
def vwM{α:Type}(J:List Nat)(f:Rho->Option α)(ρ:Rho)(z:Mu):Option α:=(Lq z J [] ρ).bind f
def bdM(I:FM)(K:KM):KM:=λo z=>match o with | .nx ρ=>I ρ z K | .ct ρ=>I ρ z K | .bk ρ=>K (.nx ρ) z | .rt e ρ=>K (.rt e ρ) z
def V1(tg:FG)(b:FM):List D->FM
 |[],ρ,I,K=>K (.nx ρ) I
 |d::r,ρ,I,K=>∃z,tg d ρ=W1 z/\b z I (bdM (V1 tg b r) K)
def forM(src:FI)(tg:FG)(b:FM):FM:=λρ z K=>∃ds,src ρ=W1 ds/\V1 tg b ds ρ z K
def newX(f:FE):XU:=λρ z K=>∃c,f ρ=W1 c/\∀p,p∉mu z->K (.adr p) ((p,c)::z)
abbrev GM:=List D->Mu->(D->Mu->Prop)->Prop
def calX(g:GM)(fs:FA):XU:=λρ z K=>∃ds,fs ρ=W1 ds/\g ds z K
def RC(i:Nat)(h:XU):FM:=λρ I K=>h ρ I λd z=>K (.nx (ρ.set i (.fz d))) z
def ZJ(h:XU):FM:=λρ I K=>h ρ I λ_ z=>K (.nx ρ) z
def su(h:XU):FM:=λρ I K=>h ρ I λd z=>K (.rt d ρ) z
def mutX(i:Nat)(J:List Nat)(g:D->List D->Option (D×D))(fs:FA):XU:=λρ z K=>∃ds a c v I,vwM J fs ρ z=W1 ds/\ρ[i]?=W1 (.fz (.adr a))/\z.lookup a=W1 c/\g c ds=W1 (v,I)/\K v (UM a I z)
def finM(K:D->Mu->Prop):KM:=λo z=>match o with | .rt d _=>K d z | .nx _=>K .non z | _=>False
def WI(n I:Nat)(b:FM):GM:=λds z K=>ds.length=I/\b (CP n ds) z (finM K)
def Lr(G:Gx)(A0:List Addr)(J:Hp)(D:Sf):QU->Mu->Prop
 |.nx ρ,I=>∀z H,Tl G A0 J z H ρ I->D.nx z H
 |.rt d ρ,I=>∀v z H A L,Cs G A0 J L A z H ρ I->hQ G (bm A H) v d->D.rt v H
 |.bk ρ,I=>∀z H,Tl G A0 J z H ρ I->D.bk z H
 |.ct ρ,I=>∀z H,Tl G A0 J z H ρ I->D.ct z H
def tM(G:Gx)(A0:List Addr)(J:Hp)(g:FM):TS:=λD L H=>∃ρ I K,Tl G A0 J L H ρ I/\g ρ I K/\∀o z,K o z->Lr G A0 J D o z
def PSM(X:Cx)(G:Gx)(st:Stmt)(g:FM):Prop:=∀⦃A0⦄ He,PS X st (tM G A0 He g)
def Sb(X:Cx)(G:Gx)(st:List Stmt)(g:FM):Prop:=∀⦃A0⦄ He,SS X st (tM G A0 He g)
def tMX(G:Gx)(A0:List Addr)(O:Hp)(h:XU):TE:=λJ H Q=>∃ρ L K,Tl G A0 O J H ρ L/\h ρ L K/\∀v I d z A S,K d z->Cs G A0 O S A J I ρ z->hQ G (bm A I) v d->Q v I
def PMX(X:Cx)(G:Gx)(e:Expr)(h:XU):Prop:=∀⦃A0⦄ He,PE X e (tMX G A0 He h)
section
theorem Cs.base(o:Cs G A0 Hf Hb A σ H ρ μ)(s:ab He Hf)(z:∀a∈A0,He a≠E2):Cs G A0 He Hb A σ H ρ μ:=
 ⟨o.w,s.trans o.sb,z,λa h=>s.free (o.nf a h),o.nd,o.top⟩
theorem Cs.here(o:Cs G A0 He Hb A σ H ρ μ):ab He (bm (A.filter λa=>decide (a∉A0)) H)/\∃Hc,Cs G A0 (bm (A.filter λa=>decide (a∉A0)) H) Hc A σ H ρ μ:=by
 have J:∀b,b∈(A.filter λa=>decide (a∉A0))↔b∈A/\b∉A0:=λb=>by simp[d4]
 have L:ab He (bm (A.filter λa=>decide (a∉A0)) H):=λb u h=>by
  rw[Ax]
  .exact o.same b u h
  .intro z;obtain⟨Z,Y⟩:=(J b).mp z
   rcases o.fr Z with q | q
   .exact Y q
   .rw[q] at h;cases h
 obtain⟨T,U⟩:=o.w.here;refine⟨L,_,U,λb u h=>?_,λa I h=>?_,λa I=>?_,o.nd,o.top⟩
 .unfold bm at h ⊢;split at h
  .cases h
  .rename_i O;rw[RF]
   .exact h
   .intro z;have S:=d4.mp z;refine O ((J b).mpr ⟨S.1,λy=>?_⟩);exact (OG S.2) (gX _ y)
 .rw[Ax (λz=>((J a).mp z).2 I)] at h;exact (o.w.ok.live a (o.w.sub a (gX _ I))).ne h
 .unfold bm;rw[OF ((J a).mpr ⟨o.inA I,o.n0 I⟩)]
def Cs.plain(sub:∀a∈A0,a∈B)(o:Cs G A0 (bm (B.filter λa=>decide (a∉A0)) H1) Hb A σ H ρ μ):ab (bm B H1) (bm A H):=λb u h=>by
 unfold bm at h;split at h
 .cases h
 .rename_i I;have e:bm (B.filter λa=>decide (a∉A0)) H1 b=W1 u:=by
   rw[Ax (λz=>I (d4.mp z).1)];exact h
  rw[Ax]
  .exact o.same b u e
  .intro z
   rcases o.fr z with q | q
   .exact I (sub b q)
   .rw[q] at e;cases e
theorem Lr.base{O:Hp}{D:Sf}{o:QU}(k:Lr G A0 He D o μ)(s:ab He O)(I:∀a∈A0,He a≠E2):Lr G A0 O D o μ:=by
 cases o with
 |nx J=>rintro z H ⟨A,L,w⟩;exact k z H ⟨A,L,w.base s I⟩
 |rt d J=>exact λv z H A L w r=>k v z H A L (w.base s I) r
 |bk J=>rintro z H ⟨A,L,w⟩;exact k z H ⟨A,L,w.base s I⟩
 |ct J=>rintro z H ⟨A,L,w⟩;exact k z H ⟨A,L,w.base s I⟩
theorem Cs.subA0(o:Cs G A0 He Hb A σ H ρ μ):∀a∈A0,a∈A:=λa h=>o.w.sub a (gX _ h)
theorem Cs.ends{D:Sf}(O:∀S I H' J,NW G (mu μ++A0) Hf S I H' J->Cs G A0 He Hf S I H' J μ){o:QU}(k:Lr G A0 He D o μ):Qz G (mu μ++A0) Hf D o:=by
 cases o with
 |nx L=>rintro z H ⟨A,w⟩;exact k z H ⟨A,Hf,O _ _ _ _ w⟩
 |rt d L=>exact λv z H A w r=>k v z H A Hf (O _ _ _ _ w) r
 |bk L=>rintro z H ⟨A,w⟩;exact k z H ⟨A,Hf,O _ _ _ _ w⟩
 |ct L=>rintro z H ⟨A,w⟩;exact k z H ⟨A,Hf,O _ _ _ _ w⟩
end
section
variable {a b c:Expr}{fa:FE}{gq:List Stmt}{gp:FS}{g gs gb:FM}{h:XU}
def o7:Sb X G [] nxM:=by rintro T S J s z H D I ⟨L,O,K,ok,e,k⟩;exact JW J s z H D I (k _ _ e z H ok)
theorem Dh(h1:PSM X G st g)(h2:Sb X G gq gs):Sb X G (st::gq) (RO g gs):=by
 rintro S O Y s U H D I ⟨W,Z,K,ok,e,k⟩
 refine Mf (@h1 S O) (@h2 S O) Y s U H D I ⟨W,Z,_,ok,e,λo J q=>?_⟩;cases o with
 |nx z=>exact λT H' L=>⟨z,J,K,L,q,k⟩
 |rt d z=>exact k _ _ q
 |bk z=>exact k _ _ q
 |ct z=>exact k _ _ q
def M9(h1:PSM X G st g):Sb X G [st] g:=λO z=>TV (@h1 O z)
def J7(h:Tb X G st gp):PSM X G st (puM gp):=by
 rintro U Y L s z H D I ⟨J,O,K,⟨A,Z,w⟩,⟨o,e,q⟩,k⟩
 obtain⟨T,W,S⟩:=w.lift;exact @h (mu O++U) T L s z H D I ⟨J,o,⟨A,W⟩,e,Cs.ends S (k _ _ q)⟩
def V2{J:Type}{f:Rho->Option J}{I:Mu}{d:J}(e:vwM js f ρ I=W1 d):∃z,Lq I js [] ρ=W1 z/\f z=W1 d:=by
 unfold vwM at e;cases L:Lq I js [] ρ with
 |none=>rw[L] at e;cases e
 |some z=>rw[L] at e;exact⟨z,rfl,e⟩
theorem o8{it:Expr}(hp:w9 (ai X.prog X.w) X.A X.env X.xe)(hc:X.calm=E3)(hi:RI X G ZA tg it src)(hg:PGD X G tg fg)(hb:Sb X G body gb)(hs:∀x,kH it X.env x=pure x:=by intro _;rfl):PSM X G (.For tg it body [] pos) (forM src fg gb):=by
 rintro O He π s Y H D I ⟨ρ,μ,K,⟨A,Hb,w⟩,⟨L,e1,e⟩,k⟩
 have U1:SS X body (λD Y H=>∃O He,tM G O He gb D Y H):=(by rintro π s Y H D I ⟨O,He,q⟩;exact @hb O He π s Y H D I q);have S1:PG X tg (λv Y H Q=>∃O He,tGD G O He fg v Y H Q):=(by rintro π s Y H v u Q I r ⟨O,He,q⟩;exact @hg O He π s Y H v u Q I r q);refine Tc hp hc (@hi A) S1 U1 hs π s Y H D I ⟨ρ,L,w.w.ok,e1,λJ H1 s1 sr=>?_⟩;obtain⟨T0,Hc,w2⟩:=(w.mono s1).here;have k2:∀o μ',K o μ'->Lr G O _ D o μ':=λo μ' q=>(k o μ' q).base T0 w.l0;generalize X1:bm (A.filter λa=>decide (a∉O)) H1=Hf at T0 w2 k2;refine⟨λi m z W=>m=L.length-i/\i<=L.length/\∃S μ',Tl G O Hf z W S μ'/\V1 fg gb (L.drop i) S μ' K,⟨L.length,by simp,eA _,ρ,μ,⟨A,Hc,w2⟩,by simpa using e⟩,?_⟩;rintro i m X0 H3 ⟨rfl,Q2,N1,S0,⟨B,Hd,w3⟩,e3⟩;have pl:ab (bm A H1) (bm B H3):=by rw[<-X1] at w3;exact Cs.plain w.subA0 w3
 by_cases Z:i<L.length
 .right;have hd:L[i]?=W1 L[i]:=by simp[Z]
  have ed:L.drop i=L[i]::L.drop (i+1):=sh Z;rw[ed] at e3;obtain⟨N0,e4,e5⟩:=e3;refine⟨sr.go i H3 (pl.trans Ao) Z,λz W=>∃S μ',Tl G O Hf z W S μ'/\V1 fg gb (L.drop (i+1)) S μ' K,λz W q=>⟨L.length-(i+1),by omega,rfl,Z,q⟩,λx W y=>?_⟩;obtain⟨sy,rx⟩:=sr.yld i H3 x W _ (pl.trans Ao) hd y;obtain⟨Hg,w4,up⟩:=(w3.mono sy).lift;refine⟨mu S0++O,Hg,B,N1,L[i],N0,w4,rx B w3.w.ok.live pl,e4,λY1 H5 ⟨A5,P1⟩=>⟨O,Hf,N0,S0,_,⟨A5,Hg,up _ _ _ _ P1⟩,e5,λo5 O0 q5=>?_⟩⟩;cases o5 with
  |nx T=>exact λz W U=>⟨T,O0,U,q5⟩
  |ct T=>exact λz W U=>⟨T,O0,U,q5⟩
  |bk T=>exact λz W U=>k2 _ _ q5 z W U
  |rt d5 T=>exact k2 _ _ q5
 .left;have ei:i=L.length:=by omega
  subst ei;rw[xt] at e3;exact⟨sr.stop _ H3 (pl.trans Ao) (aE _),k2 _ _ e3 X0 H3 ⟨B,Hd,w3⟩⟩
def o9(ha:PN X G a fa):PMX X G a (newX fa):=λA0 Y L s z H Q I ⟨J,W,K,⟨A,Z,w⟩,⟨c,e,q⟩,k⟩=>
 @ha A L s z H Q I ⟨J,c,w.w.ok,e,λp U O T t=>by
  obtain⟨_,S,m⟩:=w.new O T t;exact k _ U _ _ _ _ (q p S) m (.adr p)⟩
def iG{p:Pos}(T:∀te,PE X a te->PS X (.Assign [.Name x p] a pos) (Wp te (Em i)))(ha:PMX X G a h):PSM X G (.Assign [.Name x p] a pos) (RC i h):=λY U L s z H D I ⟨J,S,K,ok,e,k⟩=>
 T _ (@ha Y U) L s z H D I ⟨J,S,_,ok,e,λv Z d O A W q w r=>k _ _ q _ _ ⟨A,W,w.set r i⟩⟩
def RD(ha:PMX X G a h)(hs:fw a E2 pos.line X.env=pure ZA:=by rfl):PSM X G (.Expr a pos) (ZJ h):=λW T L s z H D I ⟨J,S,K,ok,e,k⟩=>
 TX (@ha W T) hs L s z H D I ⟨J,S,_,ok,e,λv Y d O A U q w r=>k _ _ q _ _ ⟨A,U,w⟩⟩
def iH(ha:PMX X G a h):PSM X G (.Return (W1 a) pos) (su h):=λY T L s z H D I ⟨J,S,K,ok,e,k⟩=>
 cG (@ha Y T) L s z H D I ⟨J,S,_,ok,e,λv W d O A U q w r=>k _ _ q v z W A U w r⟩
def SndM(G:Gx)(r:V->List V->Hp->VK->Prop)(g:D->List D->Option (D×D)):Prop:=∀(A:List Addr) (H:Hp) (l:Addr) (vs:List V) (c:D) (ds:List D) (v J:D) (Q:VK),(∀a∈A,Nt (H a))->l∈A->MY G A H l c->be G (bm A H) vs ds->g c ds=W1 (v,J)->(∀I z,K_ l H z->MY G A z l J->hQ G (bm A z) I v->Q I z)->r (.ref l) vs H Q
end
def spM(G:Gx)(g:GM):Sp:=λvs H Q _=>∃A ds I K,(∀a∈A,Nt (H a))/\(mu I).Nodup/\(∀p∈I,p.1∈A/\MY G A H p.1 p.2)/\be G (bm A H) vs ds/\g ds I K ∧
 ∀v J O z d,K d z->(∀b u,b∉mu I->H b=W1 u->J b=W1 u)->(∀a∈A,a∉mu I->a∈O)->(∀a∈O,Nt (J a))->(mu z).Nodup->(∀p∈z,p.1∈O/\MY G O J p.1 p.2)->(∀a∈mu z,a∈mu I∨H a=E2)->hQ G (bm O J) v d->Q v J
def bM{vs:List V}{μ:Mu}(live:∀a∈A,Nt (H a))(U:(mu μ).Nodup)(Y:∀p∈μ,p.1∈A/\MY G A H p.1 p.2)(r:be G (bm A H) vs ds)(Z:vs.length<=N.length):Cs G (A.filter λa=>decide (a∉mu μ)) (bm (mu μ) H) H A (start N vs) H (CP N.length ds) μ:=by
 have inA:∀a∈mu μ,a∈A:=λa h=>by obtain⟨d,hd⟩:=iC h;exact (Y _ hd).1
 have S:∀a,a∈(A.filter λa=>decide (a∉mu μ))↔a∈A/\a∉mu μ:=λa=>by simp[d4]
 obtain⟨A1,w⟩:=Mr (N:=N) live r Z;have J:∀a,a∈mu μ++(A.filter λa=>decide (a∉mu μ))↔a∈A:=λa=>by
  rw[dQ,S];constructor
  .rintro (h | h)
   .exact inA a h
   .exact h.1
  .intro h
   by_cases z:a∈mu μ
   .exact .inl z
   .exact .inr ⟨h,z⟩
 have L:∀(i:Nat) (d:D),(CP N.length ds)[i]?≠W1 (.ow d):=λi d h=>by
  unfold CP at h
  by_cases T:i<ds.length
  .rw[kt (by simpa using T),cb] at h;cases e:ds[i]? with
   |none=>rw[e] at h;cases h
   |some d=>rw[e] at h;cases h
  .rw[ii (by simpa using kP.mp T),zZ] at h;split at h<;>cases h
 have O:OQ G A (start N vs) H (CP N.length ds):=by
  refine⟨w.ok.len,live,λi d h=>?_,λi d h=>SF h (L i d),λi j d e a h _ _ _=>SF h (L i d)⟩;obtain⟨v,q1,q2⟩:=w.ok.fz i d h;exact⟨v,q1,q2.mono (CJ w.sub)⟩
 refine⟨⟨ab.refl H,λa I=>(J a).mp I,λa I=>.inl ((J a).mpr I),λa I=>(live a ((J a).mp I)).ne,O,λi d a h _=>SF h (L i d),λx d _ h=>SF h (L 0 d)⟩,Ao,λa I=>?_,λa I=>?_,U,λp W=>(Y p W).2⟩
 .rw[Ax ((S a).mp I).2];exact (live a ((S a).mp I).1).ne
 .unfold bm;rw[OF I]
def fn_M{base:Heap}{f:Addr}{k:Nat}{b:FM}(F:FunD G.K x qual st f fd)(S:bc N ps (Ab st))(hl:ps.length<=N.length)(hb:∀(cdv:ac) (A:aS) (J:List Env) (s:ah) (H:Hp) (E:XK),Room k (A.deeper (gu qual (Ab st) s.heap.objs.size f cdv))->Sb (Pd CX0 P w G.K mg base N qual (Ab st) f cdv A J s H E).nox G (BX st) b):
  im P w G.K mg base CX0 (k+1) f fd ps (spM G (WI N.length ps.length b)):=by
 obtain⟨oc,od,dV,kV,S0,pm,an,cdv,ct,O0,rfl,lk,N0⟩:=F.ex;refine cX lk N0 S (λvs H Q E h=>?_) (λA J s H vs Q E hr h=>?_)
 .obtain⟨A,ds,L,K,lv,nd,ct,r,e,_⟩:=h;rw[r.1];exact e.1
 .obtain⟨A1,ds,L,K,lv,nd,ct,r,e,k⟩:=h;have hzz:=hb cdv A J s H E hr;have ot:∀(U:St) (H':Hp) (W:List Addr) (T:Hp) (O:Rho) (I:Mu) (v:V) (d:D),Cs G (A1.filter λa=>decide (a∉mu L)) (bm (mu L) H) T W U H' O I->hQ G (bm W H') v d->K d I->Q v H':=λU H' W T O I v d w rv kd=>by
   refine k v H' W I d kd (λb u nb hb=>w.same b u (by rw[Ax nb];exact hb)) (λa ha na=>w.subA0 a (by simp[d4,ha,na])) w.w.ok.live w.nd (λp hp=>⟨w.inA (HQ hp),w.top p hp⟩) (λa ha=>?_) rv;have:=w.nf a ha
   by_cases z:a∈mu L
   .exact .inl z
   .rw[Ax z] at this;exact .inr this
  refine⟨_,(@hzz (A1.filter λa=>decide (a∉mu L)) (bm (mu L) H)).nox,CP N.length ds,L,_,⟨A1,H,bM lv nd ct r (by rw[r.1,e.1];exact hl)⟩,e.2,λo I q=>?_⟩;cases o with
  |nx O=>rintro Y H' ⟨A,T,w⟩;exact ot Y H' A T O I .non .non w .non q
  |rt d' Z=>exact λv Y H' A T w r'=>ot Y H' A T Z I v d' w r' q
  |bk O=>exact q.elim
  |ct O=>exact q.elim
def yj{base:Heap}{f:Addr}{k:Nat}{b:FM}(F:FunD G.K x qual st f fd)(S:bc N ps (Ab st))(hl:ps.length<=N.length)(J:∀(cdv:ac) (A:aS) (I:List Env) (s:ah) (H:Hp) (E:XK),Room k (A.deeper (gu qual (Ab st) s.heap.objs.size f cdv))->Sb (Pd CX0 P w G.K mg base N qual (Ab st) f cdv A I s H E).nox G (BX st) b)(hg:∀ds d,g ds=W1 d->WI N.length ps.length b ds [] λd' _=>d'=d):
  im P w G.K mg base CX0 (k+1) f fd ps (Na G g):=
 (fn_M F S hl J).imp λvs H Q E ⟨A,ds,d,Z,r,e,q⟩=>⟨A,ds,[],_,Z,DH,λp hp=>(nomatch hp),r,hg ds d e,λv H' A' L d' e' O T Y W O0 N0 U=>by
  subst e';exact q v H' (λb u J=>O b u (λz=>nomatch z) J) (U.mono (CJ λa ha=>T a ha (λz=>nomatch z)))⟩
section
variable {a b c:Expr}{p:Pos}{es:List Expr}{fs:FA}{g:FM}
theorem vX{μ:Mu}{vs:List V}{gm:GM}{K:D->Mu->Prop}{Q:VK}{E:XK}(W:Cs G A0 He Hb A σ H1 ρ μ)(r1:be G (bm A H1) vs ds)(e2:gm ds μ K)(k:∀v H' d μ' A Hb,K d μ'->Cs G A0 He Hb A σ H' ρ μ'->hQ G (bm A H') v d->Q v H'):spM G gm vs H1 Q E:=by
 refine⟨A,ds,μ,K,W.w.ok.live,W.nd,λp hp=>⟨W.inA (HQ hp),W.top p hp⟩,r1,e2,λv H' A' μ' d kd sm sb lv nd ct fr rv=>?_⟩;have T:∀z,z∈(A.filter λa=>decide (a∉mu μ))++mu μ'↔(z∈A/\z∉mu μ)∨z∈mu μ':=λz=>by simp[d4]
 generalize O0:(A.filter λa=>decide (a∉mu μ))++mu μ'=A2 at T;have sub:∀z∈A2,z∈A':=λz O=>by
  rcases (T z).mp O with h | h
  .exact sb z h.1 h.2
  .obtain⟨d,hd⟩:=iC h;exact (ct _ hd).1
 have pl:ab (bm A H1) (bm A2 H'):=λb u I=>by
  unfold bm at I;split at I
  .cases I
  .rename_i Z;rw[Ax]
   .exact sm b u (λz=>Z (W.inA z)) I
   .intro z
    rcases (T b).mp z with h | h
    .exact Z h.1
    .rcases fr b h with y | y
     .exact Z (W.inA y)
     .rw[y] at I;cases I
 have Y:∀(i:Nat) (e:D) (q:Addr),ρ[i]?=W1 (.ow e)->σ[i]?=W1 (W1 (.ref q))->q∈A->q∉mu μ/\q∉mu μ'/\q∉A0:=λi e q U h2 h3=>by
  have n:=W.w.ow0 i e q U h2;have n1:q∉mu μ:=λz=>n (kG _ z);refine⟨n1,λz=>?_,λz=>n (gX _ z)⟩
  rcases fr q z with y | y
  .exact n1 y
  .exact (W.w.ok.live q h3).ne y
 have L:∀z,z∈A->z∉mu μ->H' z=H1 z:=λz O nz=>by
  cases e:H1 z with
  |none=>exact SF e (W.w.ok.live z O).ne
  |some u=>exact sm z u nz e
 have N0:OQ G A2 σ H' ρ:=by
  refine⟨W.w.ok.len,λz O=>lv z (sub z O),λi e h=>?_,λi e h=>?_,W.w.ok.inj⟩
  .obtain⟨v,q1,q2⟩:=W.w.ok.fz i e h;exact⟨v,q1,q2.mono pl⟩
  .obtain⟨q,q1,q2,q3⟩:=W.w.ok.ow i e h;have n:=Y i e q h q1 q2;exact⟨q,q1,(T q).mpr (.inl ⟨q2,n.1⟩),q3.keep (L q q2 n.1) pl⟩
 have S:∀z,z∈(A2.filter λa=>decide (a∉mu μ'++A0))↔z∈A2/\z∉mu μ'++A0:=λz=>by simp[d4]
 have J:∀z∈mu μ'++A0,z∈A2:=λz O=>by
  rcases dQ.mp O with h | h
  .exact (T z).mpr (.inr h)
  .exact (T z).mpr (.inl ⟨W.subA0 z h,λy=>W.n0 y h⟩)
 refine k v H' d μ' A2 (bm (A2.filter λa=>decide (a∉mu μ'++A0)) H') kd ⟨⟨Ao,J,λz O=>?_,λz O h=>?_,N0,λi e q U h2 z=>?_,W.w.lt⟩,λb u I=>?_,W.l0,λz O=>?_,nd,λq hq=>((ct q hq).2).sub sub⟩ (rv.mono (CJ sub))
 .by_cases y:z∈mu μ'++A0
  .exact .inl y
  .right;unfold bm;rw[OF ((S z).mpr ⟨O,y⟩)]
 .rw[Ax (λy=>((S z).mp y).2 O)] at h;exact (lv z (sub z (J z O))).ne h
 .obtain⟨q',q1,q2,_⟩:=W.w.ok.ow i e U;rw[h2] at q1;cases q1;have n:=Y i e q U h2 q2
  rcases dQ.mp z with y | y
  .exact n.2.1 y
  .exact n.2.2 y
 .have U:=W.same b u I;have Z:b∉mu μ:=λz=>by rw[W.nf b z] at I;cases I
  rw[Ax]
  .exact sm b u Z U
  .intro z;obtain⟨z1,z2⟩:=(S b).mp z
   rcases (T b).mp z1 with y | y
   .rcases W.fr y.1 with x | x
    .exact z2 (gX _ x)
    .rw[x] at I;cases I
   .exact z2 (kG _ y)
 .rcases fr z O with y | y
  .exact W.nf z y
  .exact W.same.free y
def iJ{k:Nat}{f:Addr}{L:GM}(F:im X.prog X.w X.K X.mg X.base CX0 k f fd ps (spM G L))(hr:Room k X.A)(hg:Gl X x)(hm:X.mg x=W1 (.ref f))(hk:ic X.K (.ref f)=E3)(hb:MO X.K fd ps [])(ha:TR X G (a::es) fs)(J:(x==("__debug__":Str))=ZA:=by decide)(he:ay (a::es) X.env=(ZA,eval a X.env)::ay es X.env:=by rfl)(z:(dS pos (ay es X.env)).any (·.1)=ZA:=by rfl):
  PMX X G (.Call (.Name x p) (a::es) [] pos) (calX L fs):=by
 rintro A0 He T s O H Q I ⟨S,μ,K,⟨A,Hb,w⟩,⟨ds,e1,e2⟩,k⟩
 refine YJ F hr hg hm hk hb .nil R_ (@ha A) J he z T s O H Q I ⟨S,ds,w.w.ok,e1,λU H1 Y Z=>?_⟩;have W:=w.mono Y;show spM G L (U++[]) H1 Q E0;rw[g9];exact vX W Z e2 k
end
def SH:d6 "enumerate"=W1 (.type "enumerate"):=by decide +kernel
section
variable {a:Expr}{fa:FE}{p:Pos}{ta:TA}
def enD:Nat->List D->List D
 |_,[]=>[]
 |n,d::r=>.tup [.int (n:Nat),d]::enD (n+1) r
theorem QT:∀(n:Nat) (ds:List D),(enD n ds).length=ds.length
 |_,[]=>rfl
 |n,d::r=>by rw[enD,db,db,QT]
theorem ZK:∀(n:Nat) (ds:List D) (i:Nat) (d:D),(enD n ds)[i]?=W1 d->∃e,ds[i]?=W1 e/\d=.tup [.int ((n+i:Nat):Int),e]
 |_,[],i,d,h=>by simp[enD] at h
 |n,x::r,0,d,h=>by simp[enD] at h;exact⟨x,rfl,by rw[<-h];simp⟩
 |n,x::r,i+1,d,h=>by
  simp only[enD,si] at h ⊢;obtain⟨e,I,z⟩:=ZK (n+1) r i d h;exact⟨e,I,by rw[z];congr 3;omega⟩
end
section
open PySem.MeetsSeq PySem.SeqAt
end
def remL(x:D):List D->Option (List D)
 |[]=>E2
 |d::r=>match RH 62 d x with | some E3=>W1 r | some ZA=>(remL x r).map (d::·) | none=>E2
section
def remM:D->List D->Option (D×D)
 |.lst ds,[x]=>if ds.all (λd=>(RH 62 d x).isSome)=E3 then (remL x ds).map λes=>(.non,.lst es) else E2
 |_,_=>E2
def Zp:D->List D->Option (D×D)
 |.lst ds,[x]=>if ds.length<sizeLine then W1 (.non,.lst (ds++[x])) else E2
 |_,_=>E2
def iK:SndM G YM Zp:=λA H l vs c ds v c' Q lv W t r e k=>by
 unfold Zp at e;split at e
 .rename_i Z x;split at e
  .rename_i S;cases e;obtain⟨I,U,z⟩:=t;obtain⟨y,ys,rfl,J,L⟩:=r.uncons;have Y:=L.nil_inv;subst Y;refine⟨l,I,y,rfl,rfl,U,by rw[z.1];exact S,k _ _ (λb o O T=>by rw[Ai O];exact T) ⟨_,Ag,?_⟩ .non⟩;rw[De W];exact z.append (.cons J .nil)
  .cases e
 .cases e
def iM{l:Addr}(t:MY G A H l (.lst ds)):tyV X.K "list" (.ref l) H:=by
 obtain⟨z,h,_⟩:=t;exact .inl ⟨rfl,z,.of h⟩
def vY(A:List Addr)(H:Hp)(l:Addr)(c:D)(ds:List D)(z:D×D)(e:Zp c ds=W1 z)(t:MY G A H l c):tyV X.K "list" (.ref l) H:=by
 unfold Zp at e;split at e
 .exact iM t
 .cases e
end
def bd2:D->Option (List D)
 |.tup [a,b]=>W1 [a,b]
 |_=>E2
def V3(src:FI)(ga:FT)(fe:FE):FE:=Ig bd2 src ga fe
section
variable {t u:Str}{elt iter:Expr}{ifs:List Expr}{pt:Pos}{k1:Nat}
def bnd2{N:Nat}:Bnd G N 2 bd2 (gTup G.K 2 (VJ (Em N) (VJ (Em (N+1)) gNil))):=λA I Y H x d es Q hl Z e r k=>by
 unfold bd2 at e;split at e
 .rename_i a b;cases e;cases r with
  |tup h l q=>
   rename_i c O;obtain⟨x,ys,rfl,W,U⟩:=(show be G (bm A H) O [a,b] from⟨l,q⟩).uncons;obtain⟨y,zs,rfl,T,S⟩:=U.uncons;have e0:=S.nil_inv;subst e0
   match Y,Z with
   |[L,J],_=>
   refine⟨c,[x,y],rfl,DN Ao h,rfl,x,[y],rfl,?_⟩;refine⟨y,[],rfl,rfl,?_⟩;have z:((I++[L,J]).set N (W1 x)).set (N+1) (W1 y)=I++[W1 x,W1 y]:=by
    rw[<-hl,AE _ _ (aE _),se];show (I++[W1 x,J]).set (I.length+1) (W1 y)=_;rw[AE _ _ (kr _),show I.length+1-I.length=1 by omega];rfl
   show Q (((I++[L,J]).set N (W1 x)).set (N+1) (W1 y)) H;rw[z];exact k [x,y] rfl (.cons W (.cons T .nil))
 .cases e
theorem gTwo{J:List Str}(W:G.K=X.K)(Z:Bg [t,u] X.N++[t,u]=J)(c:nj X scope [t,u])(L:X.calm=E3)(S:ah)(O:Hp)(fp:List Addr):PG (Bj X scope J S O fp) (.Tuple [.Name t p1,.Name u p2] k1 pt) (gTup G.K 2 (VJ (Em X.N.length) (VJ (Em (X.N.length+1)) gNil))):=by
 subst Z;rw[W];have at0:(Bg [t,u] X.N++[t,u])[X.N.length]?=W1 t:=by unfold Bg;rw[ii (by rw[aw];exact aE _),aw,se];rfl
 have z:(Bg [t,u] X.N++[t,u])[X.N.length+1]?=W1 u:=by unfold Bg;rw[ii (by rw[aw];exact kr _),aw,Nat.add_sub_cancel_left];rfl
 have lt:=Au (env:=X.env) (c.tl t (by simp));have I:=Au (env:=X.env) (c.tl u (by simp));exact cI L (Qe (Qq (c.nd t (by simp)) at0 (.inl lt) (.inr lt)) (Qe (Qq (c.nd u (by simp)) z (.inl I) (.inr I)) YC rfl) rfl) rfl rfl
def iQ(J:List Str)(Z:Bg [t,u] X.N++[t,u]=J)(c:nj X scope [t,u])(I:X.calm=E3)(W:G.K=X.K)(L:RI X G E3 (.Tuple [.Name t p1,.Name u p2] k1 pt) iter src)(T:∀S z fp,PFTs (Bj X scope J S z fp) G ifs ga)(U:∀S z fp,PF (Bj X scope J S z fp) G elt fe)(hs:∀x,kH iter X.env x=pure x:=by intro _;rfl):PN X G (.ListComp elt [⟨.Tuple [.Name t p1,.Name u p2] k1 pt,iter,ifs,0⟩] scope pos) (V3 src ga fe):=
 λA=>Q0 J Z c I L (gTwo W Z c I) bnd2 T U hs A
def o_(J:List Str)(Z:Dd t X.N++[t]=J)(c:Lh X scope t)(L:X.calm=E3)(I:RI X G E3 (.Name t p1) iter src)(T:∀S z fp,PFTs { Qp X scope t S z fp with N:=J } G ifs ga)(U:∀S z fp,PF { Qp X scope t S z fp with N:=J } G elt fe)(hs:∀x,kH iter X.env x=pure x:=by intro _;rfl):PN X G (.ListComp elt [⟨.Name t p1,iter,ifs,0⟩] scope pos) (BZ src ga fe):=λA=>by
 rw[Vi];exact Q0 J Z c L I (du Z c) bnd1 T U hs A
def cO2{t u:Str}(I:X.N=N)(hs:X.env.scope=sc)(h:Ms N sc scope [t,u]=E3:=by decide +kernel):nj X scope [t,u]:=Q3 I hs h
end
open Classical in
noncomputable def theD(g:GM)(P:List D->D->Prop):List D->Option D:=λds=>if h:∃d,g ds [] (λd' _=>d'=d)/\P ds d then W1 (choose h) else E2
def pA{g:GM}{P:List D->D->Prop}(h:theD g P ds=W1 d):g ds [] (λd' _=>d'=d):=by
 unfold theD at h;split at h
 .rename_i q;cases h;exact (EJ q).1
 .cases h
def pB{g:GM}{P:List D->D->Prop}(h:g ds [] λd' _=>d'=d)(p:P ds d):∃e,theD g P ds=W1 e/\P ds e:=by
 have q:∃d,g ds [] (λd' _=>d'=d)/\P ds d:=⟨d,h,p⟩;exact⟨Classical.choose q,dif_pos q,(EJ q).2⟩
section
variable {a:Expr}{es:List Expr}{fs:FA}{h:XU}
theorem fM{k:Nat}{p:Pos}{d:Dx X.K X.mg x st ps}{g:GM}(F:im X.prog X.w X.K X.mg X.base CX0 k d.f d.fd ps (spM G g))(L:Room k' X.A)(S:TR X G (a::es) fs)(I:k<=k':=by omega)(U:Gl X x:=by rfl)(J:(x==("__debug__":Str))=ZA:=by decide)(O:ay (a::es) X.env=(ZA,eval a X.env)::ay es X.env:=by rfl)(z:(dS pos (ay es X.env)).any (·.1)=ZA:=by rfl):PMX X G (.Call (.Name x p) (a::es) [] pos) (calX g fs):=iJ F (L.mono I) U d.m d.F.kp d.B S J O z
def sXM(O:X.N.Nodup)(i:Nat){x:Str}{p:Pos}(L:PMX X G a h)(I:X.N[i]?=W1 x:=by rfl)(z:Loc X.env.scope x:=by first | exact dE rfl | exact cS rfl)(hs:fw a (W1 (.Name x p)) pos.line X.env=pure ZA:=by rfl)(J:X.fn x=E3∨X.env.scope.names.lookup x=W1 .local :=by first | exact .inl rfl | exact .inr rfl | assumption):PSM X G (.Assign [.Name x p] a pos) (RC i h):=iG (λ_ h=>Wx O I z h hs J) L
end
theorem fnM{base:Heap}{k:Nat}{b:FM}(d:Dx G.K mg x st ps)(S:bc N ps (Ab st))(I:∀(cdv:ac) (A:aS) (z:List Env) (s:ah) (H:Hp) (E:XK),Room k (A.deeper (gu x (Ab st) s.heap.objs.size d.f cdv))->Sb (Pd CX0 P w G.K mg base N x (Ab st) d.f cdv A z s H E).nox G (BX st) b)(Y:ps.length<=N.length:=by decide):
  im P w G.K mg base CX0 (k+1) d.f d.fd ps (spM G (WI N.length ps.length b)):=fn_M d.F S Y I
theorem fnDM{base:Heap}{k:Nat}{b:FM}{Pr:List D->D->Prop}(d:Dx G.K mg x st ps)(S:bc N ps (Ab st))(I:∀(cdv:ac) (A:aS) (z:List Env) (s:ah) (H:Hp) (E:XK),Room k (A.deeper (gu x (Ab st) s.heap.objs.size d.f cdv))->Sb (Pd CX0 P w G.K mg base N x (Ab st) d.f cdv A z s H E).nox G (BX st) b)(Y:ps.length<=N.length:=by decide):
  im P w G.K mg base CX0 (k+1) d.f d.fd ps (Na G (theD (WI N.length ps.length b) Pr)):=yj d.F S Y I λJ L h=>pA h
open PySem.Calls
def WH(z:Mu):D->D
 |.adr a=>(match z.lookup a with | some (.lst ds)=>.lst ds | _=>.adr a)
 |d=>d
def V4(I:Mu):Slot->Slot
 |.fz d=>.fz (WH I d)
 |z=>z
def ZL{I:Mu}(o:Cs G A0 He Hb A σ H ρ I){v:V}{d:D}(r:hQ G (bm A H) v d):hQ G (bm (A.filter λa=>decide (a∉mu I)) H) v (WH I d):=by
 have L:ab (bm A H) (bm (A.filter λa=>decide (a∉mu I)) H):=CJ λa U=>(d4.mp U).1;have J:=r.mono L;unfold WH;split
 .rename_i a;split
  .rename_i ds Y;cases r;have O:=kc Y;obtain⟨Z,W,S⟩:=o.top _ O;have T:a∉(A.filter λa=>decide (a∉mu I)):=λz=>(OG (d4.mp z).2) (HQ O);exact .lst (.of (by rw[Ax T];exact W)) S.1 (S.mono L).2
  .exact J
 .exact J
theorem Cs.lend{μ:Mu}(o:Cs G A0 He Hb A σ H ρ μ):OQ G (A.filter λa=>decide (a∉mu μ)) σ H (ρ.map (V4 μ)):=by
 have Sz:∀{i:Nat}{d:D},(ρ.map (V4 μ))[i]?=W1 (.ow d)->ρ[i]?=W1 (.ow d):=λ{i d} O=>by
  rw[cb] at O;cases q:ρ[i]? with
  |none=>rw[q] at O;cases O
  |some y=>
   rw[q] at O;cases y with
   |fz d=>cases O
   |ow d=>cases O;rfl
   |un=>cases O
 refine⟨by rw[aw];exact o.w.ok.len,λa J=>o.w.ok.live a (d4.mp J).1,λi d O=>?_,λi d O=>?_,λi j d e a W U S L=>o.w.ok.inj i j d e a (Sz W) (Sz U) S L⟩
 .rw[cb] at O;cases q:ρ[i]? with
  |none=>rw[q] at O;cases O
  |some y=>
   rw[q] at O;cases y with
   |fz Y=>
    cases O;obtain⟨v,q1,q2⟩:=o.w.ok.fz i Y q;exact⟨v,q1,ZL o q2⟩
   |ow d=>cases O
   |un=>cases O
 .obtain⟨a,q1,q2,q3⟩:=o.w.ok.ow i d (Sz O);have T:a∉mu μ:=λz=>o.w.ow0 i d a (Sz O) q1 (kG _ z);exact⟨a,q1,d4.mpr ⟨q2,MG T⟩,q3.sub λb I=>(d4.mp I).1⟩
def ifL(t:FT)(g L:FM):FM:=λρ z K=>match t (ρ.map (V4 z)) with | some E3=>g ρ z K | some ZA=>L ρ z K | none=>False
section
variable {a b c:Expr}{fa fb:FE}{p:Pos}{es:List Expr}{fs:FA}{g gs gb:FM}{h:XU}
def pC{S:List Stmt}(ht:SU X G c ga)(h1:Sb X G s1 g)(h2:Sb X G S gs):PSM X G (.If c s1 S pos) (ifL ga g gs):=by
 rintro U O Y s W H D I ⟨L,z,K,⟨A,T,w⟩,e,k⟩
 refine cH (@ht (A.filter λa=>decide (a∉mu z))) (@h1 U O) (@h2 U O) Y s W H D I ?_;unfold ifL at e;split at e
 .rename_i J;exact⟨_,_,w.lend,J,λZ s1=>iteT ⟨L,z,K,⟨A,T,w.mono s1⟩,e,k⟩⟩
 .rename_i J;exact⟨_,_,w.lend,J,λZ s1=>YI ⟨L,z,K,⟨A,T,w.mono s1⟩,e,k⟩⟩
 .exact e.elim
def tAN(G:Gx)(A0:List Addr)(O:Hp)(fs:FA)(S:List Nat)(f:FE):TA:=λL H Q=>∃ρ z ds c A T,Cs G A0 O T A L H ρ z/\fs ρ=W1 ds/\vwM S f ρ z=W1 c ∧
 ∀vs q I J,ab H I->H q=E2->q∉mu z->Cs G A0 O J (q::A) L I ρ ((q,c)::z)->be G (bm (q::A) I) vs ds->Q (vs++[.ref q]) I
def PAN(X:Cx)(G:Gx)(es:List Expr)(fs:FA)(J:List Nat)(f:FE):Prop:=∀⦃A0⦄ He,PA X es (tAN G A0 He fs J f)
def iR{f:FE}(W:List Nat)(hn:PN X G a f)(hs:ay [a] X.env=[(ZA,eval a X.env)]:=by rfl):PAN X G [a] af W f:=by
 rintro A0 He J S s O H Q I ⟨ρ,μ,ds,c,A,Hb,w,e1,e2,k⟩
 obtain⟨z,Z,Y⟩:=V2 e2;refine BW (@hn A) Cp hs J S s O H Q I ⟨z,c,w.view Z,Y,λq H' L T t=>?_⟩;obtain⟨_,U,m⟩:=w.new L T t;cases e1;exact k [] q H' _ L T U m .nil
def clrM:D->List D->Option (D×D)
 |.lst _,[]=>W1 (.non,.lst [])
 |_,_=>E2
theorem mClr(Z:PE X (.Name x xpos) (OH i))(L:fN (.Name x xpos) "clear" X.env (eval (.Name x xpos) X.env)=eval (.Name x xpos) X.env:=by rfl)(J:(apos.endLine==pos.line)=E3:=by rfl):
  PMX X G (.Call (.Attribute (.Name x xpos) "clear" apos) [] [] pos) (mutX i [] clrM af):=by
 rintro A0 He U s S H Q I ⟨ρ,μ,K,⟨A,Hb,w⟩,⟨ds,l,c,v,c',e1,hi,hl,O,q⟩,k⟩
 have z:=kc hl;obtain⟨T,e3,e4⟩:=V2 e1;cases e4;unfold clrM at O;split at O
 .rename_i ds;cases O;obtain⟨W,h1,h2⟩:=w.top _ z;refine uo E1 PySem.F.slot_list_clear PySem.F.type_list_clear dB Z L J U s S H Q I ⟨_,w.at hi,iM (w.top _ z),l,W,rfl,rfl,h1,?_⟩;exact k _ _ _ _ A _ q (w.wr (HQ z) (λb o Y hb=>by rw[Ai Y];exact hb) ⟨[],Ag,.nil⟩) .non
 .cases O
end
open PySem.SetTable (below insertAt Probe Met)
abbrev SK (l:List Nat):Prop:=l.Pairwise (·<·)
theorem RG(xs:Array Nat)(J:SK xs.toList)(j:Nat):∀(f lo hi:Nat),hi-lo<=f->lo<=hi->hi<=xs.size->(∀i (h:i<xs.size),i<lo->xs[i]<j)->(∀i (h:i<xs.size),hi<=i->j<=xs[i]) ->
  lo<=below.go xs j f lo hi/\below.go xs j f lo hi<=hi/\(∀i (h:i<xs.size),i<below.go xs j f lo hi->xs[i]<j)/\(∀i (h:i<xs.size),below.go xs j f lo hi<=i->j<=xs[i])
 |0,lo,hi,Z,W,hs,I,z=>by
  have:lo=hi:=by omega
  subst this;exact⟨aE _,aE _,I,z⟩
 |f+1,lo,hi,Z,W,hs,I,z=>by
  have mono:∀a b (T:a<xs.size) (S:b<xs.size),a<=b->xs[a]<=xs[b]:=λa b T S O=>by
   rcases EK O with h | h
   .have:=sj.mp J a b (by simpa using T) (by simpa using S) h;simp at this;omega
   .subst h;exact aE _
  have U:below.go xs j (f+1) lo hi=if lo<hi then (if xs.getD ((lo+hi)/2) j<j then below.go xs j f ((lo+hi)/2+1) hi else below.go xs j f lo ((lo+hi)/2)) else lo:=rfl
  by_cases c:lo<hi
  .have L:(lo+hi)/2<xs.size:=by omega
   have gd:xs.getD ((lo+hi)/2) j=xs[(lo+hi)/2]:=by simp[L]
   rw[U,OF c,gd]
   by_cases d:xs[(lo+hi)/2]<j
   .simp only[OF d];obtain⟨a,b,e,g⟩:=RG xs J j f ((lo+hi)/2+1) hi (by omega) (by omega) hs (λi h Y=>kx (mono i _ h L (by omega)) d) z;exact⟨by omega,b,e,g⟩
   .simp only[RF d];obtain⟨a,b,e,g⟩:=RG xs J j f lo ((lo+hi)/2) (by omega) (by omega) (by omega) I (λi h Y=>by have:=mono _ i L h Y;omega);exact⟨a,by omega,e,g⟩
  .rw[U,RF c];have:lo=hi:=by omega
   subst this;exact⟨aE _,aE _,I,z⟩
def M_(xs:Array Nat)(z:SK xs.toList)(j:Nat):below xs j<=xs.size/\(∀i (h:i<xs.size),i<below xs j->xs[i]<j)/\(∀i (h:i<xs.size),below xs j<=i->j<=xs[i]):=by
 have:=RG xs z j xs.size 0 xs.size (by omega) (by omega) (aE _) (λ_ _ h=>by omega) (λi h J=>by omega);exact this.2
def below_at(xs:Array Nat)(z:SK xs.toList){i j:Nat}(h:xs[i]?=W1 j):below xs j=i:=by
 obtain⟨I,e⟩:=Array.getElem?_eq_some_iff.mp h;obtain⟨L,b1,b2⟩:=M_ xs z j
 rcases AZ (below xs j) i with c | c | c
 .have J:=b2 (below xs j) (by omega) (aE _);have:=sj.mp z (below xs j) i (by simp;omega) (by simpa using I) c;simp at this;omega
 .exact c
 .have:=b1 i I c;omega
def Sq{t:SetTable}(z:SK t.place.toList){i j:Nat}(h:t.place[i]?=W1 j):t.slot j=.live i:=by
 unfold JU;rw[below_at _ z h];simp[h]
def Xh{t:SetTable}(I:t.dummies=#[]){j:Nat}(h:j∉t.place.toList):t.slot j=.empty:=by
 unfold JU;have L:¬ (t.place[below t.place j]?==W1 j)=E3:=λz=>by
  have:=eq_of_beq z;exact h (by have:=Array.mem_of_getElem? this;simpa using this)
 have J:JY t.dummies j=ZA:=by rw[I];rfl
 simp only[L,J];rfl
def XO(m:Nat)(p:Probe):Probe:=if p.more > 0 then { p with j:=p.j+1,more:=p.more-1 } else { p with j:=(kR m p.i p.perturb).1,more:=gy m (kR m p.i p.perturb).1-(kR m p.i p.perturb).1,i:=(kR m p.i p.perturb).1,perturb:=(kR m p.i p.perturb).2 }
def iT(t:SetTable)(p:Probe):t.advance p=XO t.mask p:=by
 unfold SetTable.advance XO;split<;>rfl
def UH(m:Nat)(p:Probe):Nat->Probe
 |0=>p
 |n+1=>UH m (XO m p) n
theorem Ss(m:Nat):∀(n:Nat) (p:Probe),(UH m p n).dummy=p.dummy
 |0,_=>rfl
 |n+1,p=>by
  show (UH m (XO m p) n).dummy=_;rw[Ss m n];unfold XO;split<;>rfl
theorem V5(t:SetTable)(z:Nat->Int)(h:Int):∀(n f:Nat) (p:Probe),n<f->(∀k,k<n->∃i,t.slot (UH t.mask p k).j=.live i/\z i≠h)->t.slot (UH t.mask p n).j=.empty->qA t z h f p=W1 (.empty (UH t.mask p n).j p.dummy)
 |0,f+1,p,_,_,e=>by
  unfold qA;have e:t.slot p.j=.empty:=e;rw[e];rfl
 |n+1,f+1,p,O,I,e=>by
  obtain⟨i,s,d⟩:=I 0 (by omega);have s:t.slot p.j=.live i:=s;have J:=V5 t z h n f (XO t.mask p) (by omega) (λk L=>I (k+1) (by omega)) e;unfold qA;rw[s];show (if (z i==h)=E3 then _ else qA t z h f (t.advance p))=_;rw[RF (by simpa using d),iT,J];rw[show (XO t.mask p).dummy=p.dummy from Ss t.mask 1 p];rfl
theorem ZM(t:SetTable)(z:Nat->Int)(h:Int):∀(n f:Nat) (p:Probe) (i:Nat),n<f->(∀k,k<n->∃i,t.slot (UH t.mask p k).j=.live i/\z i≠h)->t.slot (UH t.mask p n).j=.live i->z i=h->∃I,qA t z h f p=W1 (.candidate (UH t.mask p n).j i I)
 |0,f+1,p,i,_,_,e,g=>by
  unfold qA;have e:t.slot p.j=.live i:=e;rw[e];show ∃I,(if (z i==h)=E3 then _ else _)=_;rw[OF (by simpa using g)];exact⟨_,rfl⟩
 |n+1,f+1,p,O,T,J,e,g=>by
  obtain⟨i,s,d⟩:=J 0 (by omega);have s:t.slot p.j=.live i:=s;obtain⟨I,L⟩:=ZM t z h n f (XO t.mask p) O (by omega) (λk S=>J (k+1) (by omega)) e g;unfold qA;rw[s];show ∃I,(if (z i==h)=E3 then _ else qA t z h f (t.advance p))=_;rw[RF (by simpa using d),iT,L];exact⟨I,rfl⟩
def Nw(m:Nat)(h:Int)(n:Nat):Nat:=(UH m { j:=iq h%(m+1),more:=gy m (iq h%(m+1))-iq h%(m+1),i:=iq h%(m+1),perturb:=iq h,dummy:=E2 } n).j
def Cov(m:Nat)(h:Int):Prop:=∀j,j<=m->∃n,n<10*mT m/\Nw m h n=j
structure Tab (t:SetTable) (hs:List Int):Prop where
 len:t.place.toList.length=hs.length
 rise:SK t.place.toList
 dum:t.dummies=#[]
 mask:∀j∈t.place.toList,j<=t.mask
 room:hs.length<=t.mask
 far:∀q∈t.place.toList.zip hs,∃n,n<10*mT t.mask/\Nw t.mask q.2 n=q.1/\∀k,k<n->Nw t.mask q.2 k∈t.place.toList
def least{P:Nat->Prop}(h:P n):∃m,m<=n/\P m/\∀k,k<m->¬ P k:=by
 induction n using Nat.strongRecOn with
 |ind n z=>
  by_cases c:∃k,k<n/\P k
  .obtain⟨k,I,O⟩:=c;obtain⟨m,a,b,d⟩:=z k I O;exact⟨m,by omega,b,d⟩
  .exact⟨n,aE _,h,λk I O=>c ⟨k,I,O⟩⟩
def Uh{t:SetTable}{hs:List Int}(T:Tab t hs){j:Nat}(h:j∈t.place.toList):∃i,i<hs.length/\t.place.toList[i]?=W1 j/\t.slot j=.live i:=by
 obtain⟨i,z,e⟩:=ol.mp h;have O:t.place.toList[i]?=W1 j:=by rw[cr z,e]
 exact⟨i,by rw[<-T.len];exact z,O,Sq T.rise (by simpa using O)⟩
theorem UP:∀{l m:List Nat},l.Nodup->(∀x∈l,x∈m)->l.length<=m.length
 |[],m,_,_=>eA _
 |x::l,m,L,h=>by
  obtain⟨n1,n2⟩:=kK.mp L;have J:=h x (by simp);have O:=UP (m:=m.erase x) n2 λy I=>(AQ (show y≠x from λz=>n1 (z▸I))).mpr (h y (by simp[I]));rw[AR J] at O;have:=tm J;simp;omega
def bN{m:Nat}(L:SK l)(O:l.length<=m):∃j,j<=m/\j∉l:=by
 refine EL λc=>?_;have sub:∀j,j<=m->j∈l:=λj U=>EL λz=>c ⟨j,U,z⟩;have I:(bb (m+1)).Nodup:=sk;have:(bb (m+1)).length<=l.length:=by
  refine UP I λx J=>sub x ?_;have:=da.mp J;omega
 rw[mN] at this;omega
theorem Ui{t:SetTable}{hs:List Int}(T:Tab t hs)(J:Nat->Int)(he:∀i h,hs[i]?=W1 h->J i=h)(nd:hs.Nodup){i:Nat}{h:Int}(L:hs[i]?=W1 h):∃j O,t.probe J h (t.probeStart h)=W1 (.candidate j i O):=by
 have Y:i<t.place.toList.length:=by rw[T.len];exact (fF.mp L).1
 have hz:(t.place.toList[i],h)∈t.place.toList.zip hs:=by
  refine za.mpr ⟨i,?_⟩;rw[zb];exact⟨cr Y,L⟩
 obtain⟨n,hn,Z,hb⟩:=T.far _ hz;simp only at Z hb;obtain⟨m,hm,⟨I,s1,g1⟩,hk⟩:=least (P:=λn=>∃i,t.slot (Nw t.mask h n)=.live i/\J i=h) (n:=n) ⟨i,by rw[Z];exact Sq T.rise (by simp[Y]),he i h L⟩;have N0:∀k,k<m->∃i,t.slot (Nw t.mask h k)=.live i/\J i≠h:=λk W=>by
  obtain⟨i2,_,_,s2⟩:=Uh T (hb k (by omega));exact⟨i2,s2,λz=>hk k W ⟨i2,s2,z⟩⟩
 obtain⟨O,e⟩:=ZM t J h m (10*mT t.mask) (t.probeStart h) I (by omega) N0 s1 g1;have S:Nw t.mask h m∈t.place.toList:=by
  rcases EK hm with c | c
  .exact hb m c
  .rw[c,Z];exact eW Y
 obtain⟨i3,U,p3,s3⟩:=Uh T S;have ei:I=i3:=by
  have:=s1.symm.trans s3;injection this
 subst ei;have g3:=he I _ (cr U);have:I=i:=by
  have e1:hs[I]?=W1 h:=by rw[cr U,<-g3,g1]
  exact (zc U nd).mp (e1.trans L.symm)
 subst this;exact⟨_,O,e⟩
theorem V6{t:SetTable}{hs:List Int}(T:Tab t hs)(L:Nat->Int)(Z:∀i h,hs[i]?=W1 h->L i=h){h:Int}(Y:h∉hs)(cv:Cov t.mask h):∃n,n<10*mT t.mask/\Nw t.mask h n∉t.place.toList/\(∀k,k<n->Nw t.mask h k∈t.place.toList)/\t.probe L h (t.probeStart h)=W1 (.empty (Nw t.mask h n) E2):=by
 obtain⟨j,W,O⟩:=bN (m:=t.mask) T.rise (by rw[T.len];exact T.room);obtain⟨n0,S,e0⟩:=cv j W;obtain⟨n,hn,p,U⟩:=least (P:=λn=>Nw t.mask h n∉t.place.toList) (n:=n0) (by rw[e0];exact O);have J:∀k,k<n->Nw t.mask h k∈t.place.toList:=λk I=>EL λz=>U k I z;refine⟨n,by omega,p,J,?_⟩;refine V5 t L h n (10*mT t.mask) (t.probeStart h) (by omega) (λk I=>?_) (Xh T.dum p);obtain⟨i,l,p',s⟩:=Uh T (J k I);refine⟨i,s,λz=>Y ?_⟩;have:=Z i _ (cr l);rw[z] at this;rw[this];exact eW l
def RJ{z:Type}(xs:Array z)(p:Nat)(x:z):(insertAt xs p x).toList=xs.toList.take p++x::xs.toList.drop p:=by
 unfold insertAt;simp;rw[xo];simp
def Xi{xs:Array Nat}(L:SK xs.toList){j:Nat}(O:j∉xs.toList):(∀a∈xs.toList.take (below xs j),a<j)/\∀a∈xs.toList.drop (below xs j),j<a:=by
 obtain⟨T,b1,b2⟩:=M_ xs L j;refine⟨λa J=>?_,λa J=>?_⟩
 .obtain⟨i,I,rfl⟩:=ol.mp J;rw[iO] at I;rw[EM];have:=b1 i (by simp at I;omega) (by omega);simpa using this
 .have S:a∈xs.toList:=B0 J;obtain⟨i,I,rfl⟩:=ol.mp J;rw[mE] at I;rw[K0];have:=b2 (below xs j+i) (by simp at I;omega) (by omega);have ne:¬ xs.toList[below xs j+i]'(by omega)=j:=λz=>O (z▸eW _);simp at this ne ⊢;omega
def iU{J I:Type}{l:List J}{m:List I}{p:Nat}{q:J×I}(h:q∈(l.take p).zip (m.take p)):q∈l.zip m:=by
 obtain⟨i,z⟩:=za.mp h;rw[zb] at z;have L:i<p:=by
  have:=(fF.mp z.1).1;rw[iO] at this;omega
 rw[D1 L,D1 L] at z;exact za.mpr ⟨i,zb.mpr z⟩
def iV{I z:Type}{l:List I}{m:List z}{p:Nat}{q:I×z}(h:q∈(l.drop p).zip (m.drop p)):q∈l.zip m:=by
 obtain⟨i,J⟩:=za.mp h;rw[zb,AA,AA] at J;exact za.mpr ⟨p+i,zb.mpr J⟩
theorem Tab.put{t:SetTable}{hs:List Int}(T:Tab t hs){h:Int}{n j:Nat}(hn:n<10*mT t.mask)(ej:Nw t.mask h n=j)(hj:j∉t.place.toList)(hm:j<=t.mask)(hb:∀k,k<n->Nw t.mask h k∈t.place.toList)(rm:hs.length+1<=t.mask):
  Tab (t.put j).1 (hs.take (t.put j).2++h::hs.drop (t.put j).2)/\(t.put j).2<=hs.length:=by
 have S:(t.put j).2=below t.place j:=rfl;have Y:(t.put j).1.place.toList=t.place.toList.take (below t.place j)++j::t.place.toList.drop (below t.place j):=RJ _ _ _;have L:(t.put j).1.mask=t.mask:=rfl;have hd:(t.put j).1.dummies=#[]:=by
  show (if JY t.dummies j then _ else t.dummies)=_;rw[T.dum];rfl
 obtain⟨b0,b1,b2⟩:=M_ t.place T.rise j;obtain⟨s1,s2⟩:=Xi T.rise hj;have len:=T.len;have W:below t.place j<=hs.length:=by rw[<-len];simpa using b0
 have sub:∀x∈t.place.toList,x∈(t.put j).1.place.toList:=λx I=>by
  rw[Y];rw[<-zd (below t.place j) t.place.toList] at I
  rcases dQ.mp I with I | I
  .exact kG _ I
  .exact gX _ (cE _ I)
 refine⟨⟨?_,?_,hd,?_,?_,?_⟩,by rw[S];exact W⟩
 .rw[Y,S];simp only[ff,iO,db,mE];omega
 .rw[Y];have r:=T.rise;rw[<-zd (below t.place j) t.place.toList] at r;obtain⟨r1,r2,r3⟩:=K2.mp r;refine K2.mpr ⟨r1,kA.mpr ⟨s2,r2⟩,λa Z b U=>?_⟩
  rcases bP.mp U with z | z
  .rw[z];exact s1 a Z
  .exact r3 a Z b z
 .intro x I;rw[Y] at I;rw[L]
  rcases dQ.mp I with I | I
  .exact T.mask x (EN I)
  .rcases bP.mp I with z | z
   .rw[z];exact hm
   .exact T.mask x (B0 z)
 .rw[L,S];simp only[ff,iO,db,mE];omega
 .intro q J;rw[Y,S,List.zip_append (by simp only[iO];omega),BQ] at J;rw[L];have O:∀q∈t.place.toList.zip hs,∃n,n<10*mT t.mask/\Nw t.mask q.2 n=q.1/\∀k,k<n->Nw t.mask q.2 k∈(t.put j).1.place.toList:=λq J=>by
   obtain⟨n,a,b,c⟩:=T.far q J;exact⟨n,a,b,λk L=>sub _ (c k L)⟩
  rcases dQ.mp J with J | J
  .exact O q (iU J)
  .rcases bP.mp J with z | z
   .rw[z];exact⟨n,hn,ej,λk L=>sub _ (hb k L)⟩
   .exact O q (iV z)
def stA(m i pt:Nat):Probe:={ j:=i,more:=gy m i-i,i:=i,perturb:=pt,dummy:=E2 }
theorem Uj(m:Nat):∀(a b:Nat) (p:Probe),UH m p (a+b)=UH m (UH m p a) b
 |0,b,p=>by rw[lS];rfl
 |a+1,b,p=>by
  rw[Nat.add_right_comm];exact Uj m a b (XO m p)
theorem Uk(m i pt:Nat):∀(k L:Nat),k<=L->∀c,UH m { j:=i+c,more:=L,i:=i,perturb:=pt,dummy:=E2 } k={ j:=i+c+k,more:=L-k,i:=i,perturb:=pt,dummy:=E2 }
 |0,L,_,c=>rfl
 |k+1,L,h,c=>by
  show UH m (XO m _) k=_;have:XO m { j:=i+c,more:=L,i:=i,perturb:=pt,dummy:=E2 }={ j:=i+(c+1),more:=L-1,i:=i,perturb:=pt,dummy:=E2 }:=by
   unfold XO;rw[OF (show L > 0 by omega)];simp[zp]
  rw[this,Uk m i pt k (L-1) (by omega) (c+1)];simp;omega
def iW(m i pt:Nat):UH m (stA m i pt) (gy m i-i+1)=stA m (kR m i pt).1 (kR m i pt).2:=by
 rw[Uj];have:=Uk m i pt (gy m i-i) (gy m i-i) (aE _) 0;rw[Kb] at this;unfold stA;rw[this];show XO m _=_;unfold XO;rw[RF (by simp)]
def vZ(m i pt k:Nat)(h:k<=gy m i-i):(UH m (stA m i pt) k).j=i+k:=by
 have:=Uk m i pt k (gy m i-i) h 0;rw[Kb] at this;unfold stA;rw[this]
def Xj(m i:Nat):gy m i+1-i<=10/\i<=gy m i:=by
 unfold gy;split<;>omega
def RK(m:Nat)(j:Nat):Nat->Nat->Nat->Bool
 |0,_,_=>ZA
 |f+1,i,pt=>(decide (i<=j)&&decide (j<=gy m i))||RK m j f (kR m i pt).1 (kR m i pt).2
theorem ZP(m j:Nat):∀(f i pt:Nat),RK m j f i pt=E3->∃n,n<10*f/\(UH m (stA m i pt) n).j=j
 |0,i,pt,h=>by cases h
 |f+1,i,pt,h=>by
  obtain⟨z,L⟩:=Xj m i;unfold RK at h
  rcases Bool.or_eq_true_iff.mp h with h | h
  .rw[fh,hH,hH] at h;exact⟨j-i,by omega,by rw[vZ m i pt (j-i) (by omega)];omega⟩
  .obtain⟨n,a,b⟩:=ZP m j f _ _ h;exact⟨gy m i-i+1+n,by omega,by rw[Uj,iW];exact b⟩
def CovR(m:Nat)(h:Int):Prop:=∀j,j<=m->RK m j (mT m) (iq h%(m+1)) (iq h)=E3
def CovR.cov{m:Nat}{h:Int}(c:CovR m h):Cov m h:=λj U=>ZP m j _ _ _ (c j U)
theorem vd{m:Nat}{p:Probe}(h:p.j+p.more<=m):(XO m p).j+(XO m p).more<=m:=by
 unfold XO;split
 .simp;omega
 .have Y:(kR m p.i p.perturb).1<=m:=qE (AS _ (Ki m));obtain⟨z,L⟩:=Xj m (kR m p.i p.perturb).1;have:gy m (kR m p.i p.perturb).1<=m:=by
   unfold gy;split<;>omega
  simp;omega
theorem iY{m:Nat}:∀(n:Nat) {p:Probe},p.j+p.more<=m->(UH m p n).j<=m
 |0,p,h=>by show p.j<=m;omega
 |n+1,p,h=>iY n (vd h)
def pD(m:Nat)(h:Int)(n:Nat):Nw m h n<=m:=by
 refine iY n ?_;have Y:iq h%(m+1)<=m:=qE (AS _ (Ki m));obtain⟨z,L⟩:=Xj m (iq h%(m+1));have:gy m (iq h%(m+1))<=m:=by
  unfold gy;split<;>omega
 show iq h%(m+1)+(gy m (iq h%(m+1))-iq h%(m+1))<=m;omega
abbrev km:=Nat×Nat
def kk(p:km):List Key:=[.inl (p.1:Int),.inl (p.2:Int)]
def hP(p:km):Int:=BM (zo [(p.1:Int),(p.2:Int)])
def Re(p:km):Prop:=p.1<5/\p.2<5
def covB(m:Nat)(h:Int):Bool:=(bb (m+1)).all λj=>RK m j (mT m) (iq h%(m+1)) (iq h)
def all5:((bb 5).all λa=>(bb 5).all λb=>covB 7 (hP (a,b)))=E3:=by decide +kernel
def dif5:((bb 25).all λa=>(bb 25).all λb=>a==b||!(hP (a/5,a%5)==hP (b/5,b%5)))=E3:=by decide +kernel
def cov5{p:km}(h:Re p):CovR 7 (hP p):=by
 have:=dL.mp (dL.mp all5 p.1 (da.mpr h.1)) p.2 (da.mpr h.2);exact λj U=>dL.mp this j (da.mpr (by omega))
def inj5{p q:km}(h:Re p)(k:Re q)(e:hP p=hP q):p=q:=by
 obtain⟨a,b⟩:=p;obtain⟨c,d⟩:=q;obtain⟨S,O⟩:a<5/\b<5:=h;obtain⟨L,J⟩:c<5/\d<5:=k;have:=dL.mp (dL.mp dif5 (5*a+b) (da.mpr (by omega))) (5*c+d) (da.mpr (by omega));rw[show (5*a+b)/5=a by omega,show (5*a+b)%5=b by omega,show (5*c+d)/5=c by omega,show (5*c+d)%5=d by omega,e] at this;simp at this;have I:a=c:=by omega
 have z:b=d:=by omega
 rw[I,z]
section
variable {A:aS}
def pF{p:km}(h:Re p):vi (Av prog w) (kk p)=hP p:=by
 have e:∀n:Nat,n<5->(Av prog w).hash (.inl (n:Int))=(n:Int):=λn z=>by
  match n,z with
  |0,_=>rfl
  |1,_=>rfl
  |2,_=>rfl
  |3,_=>rfl
  |4,_=>rfl
 unfold vi hP kk;simp only[bn,ja,e p.1 h.1,e p.2 h.2]
def vf{p q:km}(e:kk p=kk q):p=q:=by
 unfold kk at e;injection e with I z
 injection z with z _
 have L:=rf I;have J:=rf z;exact wt (by omega) (by omega)
abbrev QY (prog:d3) (w:ca) (h:Heap) (p:km) (b:Addr):Prop:=Re p/\zn (Av prog w) h (kk p) b
def QY.keep{g:Heap}{p:km}(x:QY prog w h p b)(k:∀o,h.get? b=W1 o->g.get? b=W1 o):QY prog w g p b:=by
 obtain⟨i,o,z,n,I,r⟩:=x;exact⟨i,o,z,n,k o I,r⟩
def QY.ne{p:km}{t:SetTable}(x:QY prog w h p b)(g:h.get? a=W1 o)(d:o.data=.set es ep t):b≠a:=λz=>by
 subst z;obtain⟨_,O,L,n,I,_,J,_⟩:=x;cases g.symm.trans I;cases d.symm.trans J
structure FP (prog:d3) (w:ca) (h:Heap) (es:Array (Int×ac)) (t:SetTable) (qs:List (km×Addr)):Prop where
 ent:es.toList=qs.map λx=>(hP x.1,ba x.2)
 isp:∀x∈qs,QY prog w h x.1 x.2
 nd:(qs.map (·.1)).Nodup
 tab:Tab t (es.toList.map (·.1))
 msk:t.mask=7/\qs.length<=4
 led:Pv w=ZA->t.led=E3
 pln:t.plain=E3
def SI(prog:d3)(w:ca)(B:Addr->Prop)(h:Heap)(a:Addr)(ps:List km):Prop:=∃es t qs,ObX h a es t/\FP prog w h es t qs/\(qs.map (·.1)).Perm ps/\∀x∈qs,B x.2
def FP.len{t:SetTable}{qs:List (km×Addr)}(f:FP prog w h es t qs):es.size=qs.length:=by
 have:=NG eS f.ent;simpa using this
theorem FP.fits{h:Heap}{es:Array (Int×ac)}{t:SetTable}{qs:List (km×Addr)}(f:FP prog w h es t qs):t.fits es.size=E3:=by
 have l:=f.tab.len;rw[aw,ke,ke] at l;have r:=f.tab.room;rw[aw,ke] at r;unfold SetTable.fits Kj;rw[f.tab.dum];simp[l,r]
def FP.hs{t:SetTable}{qs:List (km×Addr)}(f:FP prog w h es t qs):es.toList.map (·.1)=qs.map λx=>hP x.1:=by
 rw[f.ent,bS];rfl
def FP.hnd{t:SetTable}{qs:List (km×Addr)}(f:FP prog w h es t qs):(es.toList.map (·.1)).Nodup:=by
 rw[f.hs];have I:=f.nd;rw[tJ,hJ] at I ⊢;exact B1 (λ{a b} O J L z=>L (inj5 (f.isp a O).1 (f.isp b J).1 z)) I
theorem FP.keep{h g:Heap}{es:Array (Int×ac)}{t:SetTable}{qs:List (km×Addr)}(f:FP prog w h es t qs)(k:∀x∈qs,∀o,h.get? x.2=W1 o->g.get? x.2=W1 o):FP prog w g es t qs:=⟨f.ent,λx z=>(f.isp x z).keep (k x z),f.nd,f.tab,f.msk,f.led,f.pln⟩
def FP.odd{t:SetTable}{qs:List (km×Addr)}(f:FP prog w h es t qs):t.gaveWay=ZA:=by
 unfold SetTable.gaveWay;rw[f.msk.1];rfl
def FP.cov{t:SetTable}{qs:List (km×Addr)}(f:FP prog w h es t qs){p:km}(z:Re p):CovR t.mask (hP p):=by
 rw[f.msk.1];exact cov5 z
def ZQ(n:Nat){p:km}{b:Addr}{Q:Bool->ah->Prop}(x:QY prog w s.heap p b)(k:Q ZA s):ag (ai prog w) A (B2 (n+1) (.ref b)) Q E s:=by
 have ty:=x.2.typeIs;obtain⟨_,o,J,m,g,_,d,i⟩:=x;unfold B2;refine ae (wv ty ?_);show ag _ _ (if ("tuple"=="tuple")=E3 then _ else _) _ _ s;rw[OF (show (("tuple":String)=="tuple")=E3 by decide)];refine ae (av ?_);simp only[kS,dP,XG];refine ae (nv g d ?_);dsimp only;refine ae ?_;rw[<-vk];refine ra _ (λr q z=>q.1=E2/\z=s/\∀v∈r,BS v=E3) _ ?_ ?_ _ _ ⟨rfl,rfl,i.byValue⟩
 .rintro v r q z ⟨e,rfl,al⟩;have I:=al v (by simp);have:B2 n v=pure ZA:=by
   cases v with
   |ref a=>cases I
   |_=>first | rfl | (unfold B2;rfl)
  rw[this];refine ae (av ?_);simp only[dP,XG];exact av ⟨rfl,rfl,λu S=>al u (by simp[S])⟩
 .rintro⟨q1,q2⟩ z ⟨e,rfl,_⟩;simp only at e;subst e;exact av k
def vg{p:km}(x:QY prog w s.heap p b):∀(vs:List ac) {Q:Bool->ah->Prop},(∀v∈vs,∃q c,v=.ref c/\QY prog w s.heap q c)->Q ZA s->ag (ai prog w) A (Kk (.ref b) vs) Q E s:=by
 intro vs Q L k;unfold Kk;refine ae ?_;refine ra _ (λr q z=>q.1=E2/\z=s/\∀v∈r,∃q c,v=.ref c/\QY prog w s.heap q c) _ ?_ ?_ _ _ ⟨rfl,rfl,L⟩
 .rintro v r q z ⟨e,rfl,al⟩;obtain⟨q2,c,rfl,y⟩:=al v (by simp);have I:∀v∈r,∃q c,v=.ref c/\QY prog w z.heap q c:=λu S=>al u (by simp[S]);dsimp only
  by_cases J:(b==c)=E3
  .rw[OF (by simp[J])];exact av ⟨rfl,rfl,I⟩
  .rw[RF (by simp[J,BS])];refine ae (Kn x.2 ?_);simp only[kS,dP,XG];refine ae (Kn y.2 ?_);simp only[kS,dP,XG];refine ae (ZQ 7 x ?_);simp only[dP,XG];refine ae (ZQ 7 y ?_);simp only[dP,XG];exact av ⟨rfl,rfl,I⟩
 .rintro⟨q1,q2⟩ z ⟨e,rfl,_⟩;simp only at e;subst e;exact av k
def yl{p:km}{Q:Bool->ah->Prop}(x:QY prog w s.heap p b)(k:Q E3 s):ag (ai prog w) A (ze 8 (.ref b)) Q E s:=by
 have ty:=x.2.typeIs;obtain⟨_,o,U,m,g,_,d,i⟩:=x;unfold ze;refine ae (nh ty vj.lookup ?_);dsimp only;refine ae (nv g d ?_);refine ae ?_;show ag _ _ (forIn U _ _) _ _ s;rw[<-vk];refine ra _ (λr q z=>q.1=E2/\z=s/\∀v∈r,∃i t,v=.int i t) _ ?_ ?_ _ _ ⟨rfl,rfl,?_⟩
 .rintro v r q z ⟨e,rfl,al⟩;obtain⟨j,t,rfl⟩:=al v (by simp);have:ze 7 (.int j t)=pure E3:=by unfold ze;rfl
  rw[this];refine ae (av ?_);simp only[kS,dP,XG];exact av ⟨rfl,rfl,λu hu=>al u (by simp[hu])⟩
 .rintro⟨q1,q2⟩ z ⟨e,rfl,_⟩;simp only at e;subst e;exact av k
 .have:∀{O:List Key}{L:List ac},ItemsAre (Av prog w) O L->(∀k∈O,∃i,k=.inl i)->∀v∈L,∃i t,v=kU i t:=λ{O L} Z=>by
   induction Z with
   |nil=>intro _ v J;simp at J
   | @cons Y v0 W T h1 _ ih=>
    intro I v J
    rcases bP.mp J with rfl | J
    .obtain⟨i,rfl⟩:=I Y (by simp)
     rcases Bd (show PL (.inl i) v=E3 from h1) with ⟨j,t,_,e⟩ | ⟨y,t,e,_⟩
     .exact⟨j,t,e⟩
     .cases e
    .exact ih (λk S=>I k (by simp[S])) v J
  exact this i λk I=>by
   unfold kk at I;simp only[bP,IC,or_false] at I
   rcases I with rfl | rfl
   .exact⟨_,rfl⟩
   .exact⟨_,rfl⟩
end
section
variable {A:aS}
abbrev nK (X:Cx):=Qc (Av X.prog X.w)
theorem NB:∀{bs:List Addr}{us:List ac},cc (bs.map V.ref) us->us=bs.map ba
 |[],_,.nil=>rfl
 |c::bs,_,.cons r t=>by
  obtain rfl:=(show _=ba c from r);rw[NB t];rfl
def tup_is(I:Inv X π σ H s){k:List Key}{c:Addr}(h:NM X.K H c (k.map kV)):zn (Av X.prog X.w) s.heap k c:=by
 obtain⟨z,r,⟨o,g,L,n,d⟩,_⟩:=I.tuple (show Nn X.K H c (k.map kV) from h);exact⟨o,z.toArray,n,g,L,d,OJ r⟩
def Kw(I:Inv X π σ H s){ks:List (List Key)}{b:Addr}(h:MZ X.K H ks b):OW (Av X.prog X.w) s.heap ks b:=by
 obtain⟨bs,J,S⟩:=h;obtain⟨z,r,⟨o,g,T,n,d⟩,O⟩:=I.tuple (show Nn X.K H b (bs.map V.ref) from J);refine⟨o,z.toArray,n,g,T,d,?_⟩;rw[NB r];show ZI (Av X.prog X.w) s.heap ks (bs.map ba);clear J r d O
 induction S with
 |nil=>exact .nil
 |cons h _ L=>exact .cons (tup_is I h) L
theorem Xk(I:Inv X π σ H s)(J:H a=W1 (.mem F X.K)):(a==hV)=ZA/\∃xs,s.heap.DictOfH (nK X) a xs/\∀q∈xs,MZ X.K H q.1 q.2.1/\TU q.1/\cx (.int (F q.1)) q.2.2:=by
 obtain⟨hs,xs,al,o,O,S,g,L,d,e,z⟩:=(show BJ X.prog X.w H s.heap a (.mem F X.K) from I.hok a _ J);exact⟨hs,xs,⟨o,O,S,g,L,d,e,λq T=>Kw I (al q T).1,z⟩,al⟩
def num:List (Nat×Nat)->Nat
 |[]=>0
 |p::r=>(5*p.1+p.2+1)+26*num r
theorem iZ:∀{ps:List (Nat×Nat)}{n:Nat},ps.length<=n->(∀p∈ps,p.1<5/\p.2<5)->num ps<26^n
 |[],n,_,_=>Nat.pos_of_ne_zero (by simp)
 |p::r,0,h,_=>by simp at h
 |p::r,n+1,h,z=>by
  have I:=iZ (ps:=r) (n:=n) (by simpa using h) λq T=>z q (by simp[T]);have:=z p (by simp);unfold num;rw[Nat.pow_succ];omega
theorem ZR:∀{ps qs:List (Nat×Nat)},(∀p∈ps,p.1<5/\p.2<5)->(∀p∈qs,p.1<5/\p.2<5)->num ps=num qs->ps=qs
 |[],[],_,_,_=>rfl
 |[],q::s,_,T,e=>by unfold num at e;omega
 |p::r,[],I,_,e=>by unfold num at e;omega
 |p::r,q::s,I,T,e=>by
  have a:=I p (by simp);have b:=T q (by simp);unfold num at e;have S:5*p.1+p.2=5*q.1+q.2:=by omega
  have O:p.1=q.1:=by omega
  have L:p.2=q.2:=by omega
  have J:num r=num s:=by omega
  rw[ZR (λx z=>I x (by simp[z])) (λx z=>T x (by simp[z])) J];rw[show p=q from wt O L]
theorem ie{ks:List (List (List Key))}(nd:ks.Nodup)(h:∀k∈ks,TU k):ks.length<=sizeLine:=by
 have:∀k:List (List Key),∃n:Nat,TU k->∃ps:List (Nat×Nat),k=ps.map (λp=>[.inl (p.1:Int),.inl (p.2:Int)])/\ps.length<=5/\(∀p∈ps,p.1<5/\p.2<5)/\n=num ps:=λk=>by
  by_cases I:TU k
  .obtain⟨ps,T,O,S⟩:=I;exact⟨num ps,λ_=>⟨ps,T,O,S,rfl⟩⟩
  .exact⟨0,λz=>SF z I⟩
 obtain⟨f,U⟩:=Classical.axiomOfChoice this;have Y:∀k,TU k->f k<26^5/\∀k',TU k'->f k=f k'->k=k':=λk I=>by
  obtain⟨ps,T,O,S,Z⟩:=U k I;refine⟨by rw[Z];exact iZ O S,λk' J e=>?_⟩;obtain⟨qs,g1,g2,g3,g4⟩:=U k' J;rw[Z,g4] at e;rw[T,g1,ZR S g3 e]
 have W:(ks.map f).Nodup:=by
  rw[tJ,hJ];exact B1 (λ{a b} ha hb L z=>L ((Y a (h a ha)).2 b (h b hb) z)) nd
 have:=UP (m:=bb (26^5)) W λy hy=>by
  obtain⟨k,I,rfl⟩:=aT.mp hy;exact da.mpr (Y k (h k I)).1
 rw[aw,mN] at this;rw[eR];exact cy this (by decide)
def Oz(S:A.units+4<bE)(I:Inv X π σ H s)(J:H a=W1 (.mem F X.K))(z:MZ X.K H ks b)(h:∀xs tk,s.heap.DictOfH (nK X) a xs->(∀q∈xs,MZ X.K H q.1 q.2.1/\TU q.1/\cx (.int (F q.1)) q.2.2)->Q (.bool (!(eC xs ks).isSome)) { s with toks:=tk }):ag (ai X.prog X.w) A (dA .NotIn (.ref b) (.ref a)) Q E s:=by
 obtain⟨hs,xs,Z,al⟩:=Xk I J;exact Kt (knd:=nK X) (by show A.units+1+1<bE;omega) (Kw I z) hs Z (h xs _ Z al)
theorem ig(z:H a=W1 (.mem F X.K)):fk H a (.mem F X.K)=H:=by
 funext c;unfold fk;split
 .rename_i e;rw[e,z]
 .rfl
theorem UO{v:ac}{Q:Unit->ah->Prop}(hu:A.units+4<bE)(I:Inv X π σ H s)(Z:H a=W1 (.mem F X.K))(Y:MZ X.K H ks b)(hi:TU ks)(rv:cx (.int (F ks)) v)(h:∀xs s',Inv X π σ H s'->s'.heap.DictOfH (nK X) a xs->(∀q∈xs,MZ X.K H q.1 q.2.1/\TU q.1/\cx (.int (F q.1)) q.2.2)->(eC xs ks).isSome=E3->Q () s'):ag (ai X.prog X.w) A (setItem (.ref a) (.ref b) v) Q E s:=by
 obtain⟨hs,xs,dd,al⟩:=Xk I Z;have nd:(xs.map (·.1)).Nodup:=let ⟨_,_,_,_,_,_,_,_,z⟩:=dd;z;have O:=ie nd λk Y=>by
  obtain⟨q,T,rfl⟩:=aT.mp Y;exact (al q T).2.1
 rw[aw] at O;refine HM (knd:=nK X) (by show A.units+1+1<bE;omega) (Kw I Y) dd (λh' S sb=>?_) O;have U:∀q∈xb xs ks b v,MZ X.K H q.1 q.2.1/\TU q.1/\cx (.int (F q.1)) q.2.2:=λq T=>by
  unfold xb at T;split at T
  .obtain⟨x,W,e⟩:=aT.mp T;have ax:=al x W;unfold putAt at e;split at e
   .rename_i ek;rw[<-e];exact⟨ax.1,ax.2.1,ek▸rv⟩
   .rw[<-e];exact ax
  .rcases dQ.mp T with T | T
   .exact al q T
   .obtain rfl:q=(ks,b,v):=by simpa using T
    exact⟨Y,hi,rv⟩
 have L:(eC (xb xs ks b v) ks).isSome=E3:=by
  cases J:eC xs ks with
  |none=>
   rw[storedH_new J];unfold eC;rw[xh,KA];exact⟨(ks,b,v),by simp,by simp⟩
  |some p=>
   rw[storedH_old J];unfold eC at J ⊢;obtain⟨x,W,e⟩:=iA.mp J;rw[xh,KA];have S0:=EQ W;have O0:=KB W;refine⟨putAt ks v x,aT.mpr ⟨x,S0,rfl⟩,?_⟩;have:x.1=ks:=OG O0;unfold putAt;rw[OF this];simpa using this
 obtain⟨o',X0,N1,g',T0,d',e',P1,N0⟩:=id S;have I':=I.write (x:=a) (e:=a) (o:=.mem F X.K) (t':=s.toks+(nK X).draws ks) (by rw[Z];exact trivial) (.inl rfl) (λc q J z=>(sb.2 c J).trans z) ⟨o',g'⟩ (by
  rw[ig Z];exact⟨hs,_,U,o',X0,N1,g',T0,d',e',N0⟩)
 rw[ig Z] at I';exact h _ _ I' S U L
def ZS{xs:List (List (List Key)×Addr×ac)}(W:A.units+4<bE)(I:Inv X π σ H s)(O:MZ X.K H ks b)(Z:s.heap.DictOfH (nK X) a xs)(al:∀q∈xs,MZ X.K H q.1 q.2.1/\TU q.1/\cx (.int (F q.1)) q.2.2)(L:(eC xs ks).isSome=E3)(h:∀u tk,cx (.int (F ks)) u->Q u { s with toks:=tk }):ag (ai X.prog X.w) A (nX (.ref a) (.ref b)) Q E s:=by
 obtain⟨p,z⟩:=D0.mp L;refine HL (knd:=nK X) (by show A.units+1+1<bE;omega) (Kw I O) Z z (h _ _ ?_);unfold eC at z;obtain⟨x,J,e⟩:=iA.mp z;have T:=(al x (EQ J)).2.2;have U:=KB J;have S:x.1=ks:=OG U;rw[<-e,<-S];exact T
end
open PyProof.Rows (isTrue_and isTrue_not isTrue_and_nil)
def prD:D->Option km
 |.tup [.int i,.int j]=>if 0<=i/\i<5/\0<=j/\j<5 then W1 (i.toNat,j.toNat) else E2
 |_=>E2
def PM:List D->Option (List km)
 |[]=>W1 []
 |d::r=>(prD d).bind λp=>(PM r).map (p::·)
def PR:D->Option (List km)
 |.tup ds=>(PM ds).bind λps=>if ps.length<=5 then W1 ps else E2
 |_=>E2
abbrev RS (ps:List km):List (List Key):=ps.map kk
section
def vh{A:List Addr}{p:km}(r:hQ G H v d)(e:prD d=W1 p):Re p/\∃c,v=.ref c/\NM G.K H c ((kk p).map kV):=by
 unfold prD at e;split at e
 .rename_i i j;split at e
  .rename_i h;cases e;cases r with
   | @tup c z T I O S=>
    refine⟨⟨by show i.toNat<5;omega,by show j.toNat<5;omega⟩,c,rfl,?_⟩;have:z=[.int i,.int j]:=by
     match z,O,S with
     |[x,y],_,S=>
      have J:=S 0 x (.int i) rfl rfl;have L:=S 1 y (.int j) rfl rfl;cases J;cases L;rfl
    rw[this] at I;show Nn G.K H c [.int ((i.toNat:Nat):Int),.int ((j.toNat:Nat):Int)];rw[AX h.1,AX h.2.2.1];exact I
  .cases e
 .cases e
theorem QV{H:Hp}:∀{ds:List D}{xs:List V}{ps:List km},be G H xs ds->PM ds=W1 ps->(∀p∈ps,Re p)/\∃bs:List Addr,xs=bs.map V.ref/\mo (λk c=>NM G.K H c (k.map kV)) (RS ps) bs
 |[],xs,ps,r,e=>by
  cases e;have:xs=[]:=qf.mp r.1;subst this;exact⟨by simp,[],rfl,.nil⟩
 |d::ds,xs,ps,r,e=>by
  obtain⟨x,Y,rfl,S,O⟩:=r.uncons;unfold PM at e;cases I:prD d with
  |none=>rw[I] at e;cases e
  |some p=>
   rw[I] at e;cases z:PM ds with
   |none=>rw[z] at e;cases e
   |some Z=>
    rw[z] at e;cases e;obtain⟨W,c,rfl,L⟩:=vh (A:=[]) S I;obtain⟨U,bs,rfl,J⟩:=QV O z;refine⟨λq T=>?_,c::bs,rfl,.cons L J⟩
    rcases bP.mp T with rfl | T
    .exact W
    .exact U q T
def pG{ps:List km}(r:hQ G H v d)(e:PR d=W1 ps):∃b,v=.ref b/\MZ G.K H (RS ps) b/\TU (RS ps):=by
 unfold PR at e;split at e
 .rename_i T;cases z:PM T with
  |none=>rw[z] at e;cases e
  |some I=>
   rw[z] at e;have e:(if I.length<=5 then W1 I else E2)=W1 ps:=e;split at e
   .rename_i O;cases e;cases r with
    | @tup b U _ L J S=>
     obtain⟨W,bs,rfl,t⟩:=QV (G:=G) (H:=H) ⟨J,S⟩ z;exact⟨b,rfl,⟨bs,L,t⟩,ps,rfl,O,W⟩
   .cases e
 .cases e
def G6{K:aI}(s:ab H H')(h:MZ K H ks b):MZ K H' ks b:=by
 have T:∀{c:Addr}{xs:List V},NM K H c xs->NM K H' c xs:=λ{c xs} z=>by
  rcases z with (z | ⟨o,z⟩) | z
  .exact .inl (.inl (s _ _ z))
  .exact .inl (.inr ⟨o,s _ _ z⟩)
  .exact .inr z
 obtain⟨bs,J,I⟩:=h;exact⟨bs,T J,Paired.mapP I λ_ _ z=>T z⟩
def HR(Z:X.N[i]?=W1 x)(T:VO X.env.scope x)(L:(x==("__debug__":Str))=ZA)(O:(x==("__classdict__":Str))=ZA)(I:Inv X π σ H s)(e:σ[i]?=W1 (W1 v))(k:∀u,cx v u->Q u s):ag (ai X.prog X.w) X.A (eval (.Name x pos) X.env) Q E s:=by
 obtain⟨m,U,Y⟩:=I.loc;obtain⟨u,r,l⟩:=Y i x v Z e T
 rcases l with ⟨J,W⟩ | ⟨J,c,S,z⟩
 .exact sK (FR I.ok.kind J U W (k u r)) L
 .rcases J with J | J
  .exact sK (FU I.ok.kind J S z (k u r)) L
  .exact sK (FV I.ok.kind J S z (k u r) O) L
structure Fm (X:Cx) (σ:St) (H:Hp) (i:Nat) (f:Str) (m:Addr) (F:List (List Key)->Int):Prop where
 at_:∃a C dx fs,σ[i]?=W1 (W1 (.ref a))/\H a=W1 (.ins C dx fs)/\NX X.K C/\BP X.K C f/\fs.lookup f=W1 (.ref m)
 mem:H m=W1 (.mem F X.K)
def Fm.mono{m:Addr}(h:Fm X σ H i f m F)(s:ab H H'):Fm X σ H' i f m F:=by
 obtain⟨⟨a,C,dx,fs,J,I,S⟩,z⟩:=h;exact⟨⟨a,C,dx,fs,J,s _ _ I,S⟩,s _ _ z⟩
theorem Ls{m:Addr}(W:X.N[i]?=W1 x)(L:VO X.env.scope x)(T:(x==("__debug__":Str))=ZA)(z:(x==("__classdict__":Str))=ZA)(U:fN (.Name x p1) f X.env (eval (.Name x p1) X.env)=eval (.Name x p1) X.env)(I:Inv X π σ H s)(h:Fm X σ H i f m F)(k:∀tk,Q (.ref m) { s with toks:=tk }):ag (ai X.prog X.w) X.A (eval (.Attribute (.Name x p1) f p2) X.env) Q E s:=by
 obtain⟨⟨a,C,dx,fs,Z,Y,c,n,l⟩,_⟩:=h;refine Tg U (HR W L T z I Z λu r=>?_);obtain rfl:u=ba a:=r;obtain⟨mA,O,r,_,_,_⟩:=Kh I.hok Y;obtain⟨u,S,J⟩:=Os.some_of (v:=.ref m) (o:=mA f) (by rw[<-l];exact r f);obtain rfl:u=ba m:=J;exact Tf I.kIn O (c.get f) c.hd n S (N8 (v:=.ref m) rfl) (k _)
theorem ik(hG:G.K=X.K)(I:∀c C,G.cl c=W1 C->NX X.K C/\BP X.K C f)(o:OQ G A σ H ρ)(e:uF (gn f) (vF i) ρ=W1 (.mem F)):∃m,Fm X σ H i f m F:=by
 obtain⟨S,L,J⟩:=Ht e;have O:ρ[i]?=W1 (.fz S):=by
  unfold vF at L;split at L
  .rename_i z O;cases L;exact O
  .cases L
 obtain⟨v,h1,h2⟩:=o.fz i S O;unfold gn at J;split at J
 .rename_i cn gs;cases h2 with
  | @ob a C dx c fs _ q1 q2 q3 T=>
   have Y:=NG eS q3;rw[aw,aw] at Y;obtain⟨v2,Z,U⟩:=Ot (f:=f) (d:=.mem F) (G:=G) q3 ⟨by rw[aw,aw];exact Y,T⟩ J;cases U with
   | @mem m _ W=>exact⟨m,⟨a,C,dx,fs,h1,Ao _ _ q2,(I _ _ q1).1,(I _ _ q1).2,Z⟩,by rw[<-hG];exact Ao _ _ W⟩
 .cases J
def J8{ps:List km}(W:G.K=X.K)(o:OQ G A σ H ρ)(e:vF j ρ=W1 d)(T:PR d=W1 ps):∃b,σ[j]?=W1 (W1 (.ref b))/\MZ X.K H (RS ps) b/\TU (RS ps):=by
 have O:ρ[j]?=W1 (.fz d):=by
  unfold vF at e;split at e
  .rename_i z O;cases e;exact O
  .cases e
 obtain⟨v,L,J⟩:=o.fz j d O;obtain⟨b,rfl,S,I⟩:=pG J T;exact⟨b,L,by rw[<-W];exact G6 Ao S,I⟩
def memR(i:Nat)(f:Str)(j:Nat)(z:FE):FS:=λρ=>match uF (gn f) (vF i) ρ,(vF j ρ).bind PR,z ρ with
 |some (.mem F),W1 ps,W1 (.int v)=>if v=F (RS ps) then W1 (.rt (.int v) ρ) else E2
 |_,_,_=>E2
def memZ(i:Nat)(f:Str)(j:Nat)(ft:FT):FS:=λρ=>match uF (gn f) (vF i) ρ,(vF j ρ).bind PR,ft ρ with
 |some (.mem F),W1 ps,W1 t=>if t=E3∨F (RS ps)=0 then W1 (.nx ρ) else E2
 |_,_,_=>E2
theorem ir{z:Expr}{fv:FE}{VU TK Y W:Pos}(hu:X.A.units+64<bE)(hG:G.K=X.K)(X1:∀c C,G.cl c=W1 C->NX X.K C/\BP X.K C f)(hN:X.N[i]?=W1 x)(hv:VO X.env.scope x)(T0:X.N[j]?=W1 y)(Z:VO X.env.scope y)(hval:PF X G z fv)(hs:fw z (W1 (.Subscript (.Attribute (.Name x p5) f p6) (.Name y p7) p8)) p9.line X.env=pure ZA:=by rfl)(hm:hZ .NotIn (.Attribute (.Name x p2) f p3)=ZA:=by rfl)(U1:NoSl (.Name y TK):=by intro _ _;rfl)(hd:(x==("__debug__":Str))=ZA:=by decide)(O0:(x==("__classdict__":Str))=ZA:=by decide)(N0:(y==("__debug__":Str))=ZA:=by decide)(O:(y==("__classdict__":Str))=ZA:=by decide)(hb:∀p,fN (.Name x p) f X.env (eval (.Name x p) X.env)=eval (.Name x p) X.env:=by intro _;rfl):
    QP X G [.If (.Compare (.Name y p1) [.NotIn] [.Attribute (.Name x p2) f p3] p4) [.Assign [.Subscript (.Attribute (.Name x p5) f p6) (.Name y p7) p8] z p9] [] p10,.Return (W1 (.Subscript (.Attribute (.Name x p11) f VU) (.Name y TK) Y)) W] (memR i f j fv):=by
  rintro A0 He π s σ H D I ⟨ρ,o,⟨A,w⟩,e,k⟩
  unfold memR at e;split at e
  . rename_i F ps v ef ek ev
    split at e
    . rename_i hF
      cases e;obtain⟨dk,S2,Q2⟩:=u7.mp ek;obtain⟨m,fm⟩:=ik (X:=X) hG X1 w.ok ef;obtain⟨b,S0,mk,kin⟩:=J8 (X:=X) hG w.ok S2 Q2;have ot:∀(L:Hp) (s':ah) (J:List (List (List Key)×Addr×ac)),ab H L->Inv X π σ L s'->s'.heap.DictOfH (nK X) m J->(∀q∈J,MZ X.K L q.1 q.2.1/\TU q.1/\cx (.int (F q.1)) q.2.2)->(eC J (RS ps)).isSome=E3 ->
          ag (ai X.prog X.w) X.A (exec (.Return (W1 (.Subscript (.Attribute (.Name x p11) f VU) (.Name y TK) Y)) W) X.env) (SP X π D) X.xe s':=λL s' J S U dd al pr=>by
        refine zz (YQ EB.lookup U1 (Ls hN hv hd O0 (hb _) U (fm.mono S) λtk=>HR T0 Z N0 O (U.tok tk) S0 λu r=>⟨dd.typeIs,?_⟩));obtain rfl:u=ba b:=r;refine ZS (F:=F) (by omega) (U.tok tk) (G6 S mk) dd al pr λu T ru=>⟨.int v,σ,L,(U.tok tk).tok T,by rw[hF];exact ru,?_⟩;exact k (.int v) σ L A (w.mono S) (.int v)
      have gq:∀(L:Hp) (s':ah) (J:List (List (List Key)×Addr×ac)),ab H L->Inv X π σ L s'->s'.heap.DictOfH (nK X) m J->(∀q∈J,MZ X.K L q.1 q.2.1/\TU q.1/\cx (.int (F q.1)) q.2.2)->(eC J (RS ps)).isSome=E3 ->
          ag (ai X.prog X.w) X.A (ka [.Return (W1 (.Subscript (.Attribute (.Name x p11) f VU) (.Name y TK) Y)) W] X.env) (SP X π D) X.xe s':=λL s' J S U dd al pr=>by
        refine lh (mr (ot L s' J S U dd al pr) λfl s1 q=>?_);cases fl with
        |next=>
          obtain⟨N1,H2,I2,q⟩:=q;exact JW (X:=X) π s1 N1 H2 D I2 q
        |ret v=>exact q
        |brk=>exact q
        |cont=>exact q
      refine lh (vE (wb (HR T0 Z N0 O I S0 λu r=>Ls hN hv hd O0 (hb _) I fm λtk=>?_) hm));obtain rfl:u=ba b:=r;refine Oz (F:=F) (by omega) (I.tok tk) fm.mem mk λJ T dd al=>jS ?_;cases pr:(eC J (RS ps)).isSome with
      |true=>
        show ag _ _ (ka [] X.env) _ _ _;exact lc (gq H _ J (ab.refl H) ((I.tok tk).tok T) dd al pr)
      |false=>
        show ag _ _ (ka [_] X.env) _ _ _;have I2:=(I.tok tk).tok T;refine lh (As (mr (@hval A π _ σ H (λx H1=>ab H H1/\x=.int v) I2 ⟨ρ,_,w.ok,ev,λv1 H1 s1 r1=>⟨s1,by cases r1;rfl⟩⟩) λr1 s1 q0=>?_) hs);obtain⟨v1,H1,I1,rv,S,Y1⟩:=q0;subst Y1;refine Ls hN hv hd O0 (hb _) I1 (fm.mono S) λX0=>HR T0 Z N0 O (I1.tok X0) S0 λu r=>?_;obtain rfl:u=ba b:=r;refine UO (F:=F) (by omega) (I1.tok X0) (S _ _ fm.mem) (G6 S mk) kin (by rw[<-hF];exact rv) λP1 s' U T2 U2 S1=>?_;exact lc (gq H1 s' P1 S U T2 U2 S1)
    . cases e
  . cases e
theorem iu{O:Expr}{VU TK:Pos}{jj:Nat}(hu:X.A.units+64<bE)(hG:G.K=X.K)(N1:∀c C,G.cl c=W1 C->NX X.K C/\BP X.K C f)(hN:X.N[i]?=W1 x)(hv:VO X.env.scope x)(T0:X.N[j]?=W1 y)(Z:VO X.env.scope y)(ht:SU X G O ft)(hs:fw (.Constant (.int 0) jj p9) (W1 (.Subscript (.Attribute (.Name x p5) f p6) (.Name y p7) p8)) p10.line X.env=pure ZA:=by rfl)(hm:hZ .NotIn (.Attribute (.Name x p2) f p3)=ZA:=by rfl)(hd:(x==("__debug__":Str))=ZA:=by decide)(O0:(x==("__classdict__":Str))=ZA:=by decide)(N0:(y==("__debug__":Str))=ZA:=by decide)(S:(y==("__classdict__":Str))=ZA:=by decide)(hb:∀p,fN (.Name x p) f X.env (eval (.Name x p) X.env)=eval (.Name x p) X.env:=by intro _;rfl):
  Tb X G (.If (.BoolOp .And [.Compare (.Name y p1) [.NotIn] [.Attribute (.Name x p2) f p3] p4,.UnaryOp .Not O p11] VU) [.Assign [.Subscript (.Attribute (.Name x p5) f p6) (.Name y p7) p8] (.Constant (.int 0) jj p9) p10] [] TK) (memZ i f j ft):=by
 rintro A0 He W s U H D I ⟨ρ,o,⟨A,w⟩,e,k⟩
 unfold memZ at e;split at e
 .rename_i F ps t ef ek et;split at e
  .rename_i hF;cases e;obtain⟨dk,S1,P1⟩:=u7.mp ek;obtain⟨m,fm⟩:=ik (X:=X) hG N1 w.ok ef;obtain⟨b,S0,mk,kin⟩:=J8 (X:=X) hG w.ok S1 P1;have z:∀(J:Hp) (s':ah),ab H J->Inv X W U J s'->SP X W D .next s':=λJ s' L I'=>⟨U,J,I',k U J ⟨A,w.mono L⟩⟩;have put:∀(J:Hp) (s':ah),ab H J->Inv X W U J s'->F (RS ps)=0->ag (ai X.prog X.w) X.A (ka [.Assign [.Subscript (.Attribute (.Name x p5) f p6) (.Name y p7) p8] (.Constant (.int 0) jj p9) p10] X.env) (SP X W D) X.xe s':=λJ s' L I' h0=>by
    refine lh (As (C8 ?_) hs);have T:=I'.tok (s'.toks+1);refine Ls hN hv hd O0 (hb _) T (fm.mono L) λY=>HR T0 Z N0 S (T.tok Y) S0 λu r=>?_;obtain rfl:u=ba b:=r;refine UO (F:=F) (by omega) (T.tok Y) (L _ _ fm.mem) (G6 L mk) kin (by rw[h0];exact⟨_,rfl⟩) λU1 s2 I3 Y1 Q2 X1=>?_;exact lc (z J s2 L I3)
   refine vE (sL (wb (HR T0 Z N0 S I S0 λu r=>Ls hN hv hd O0 (hb _) I fm λtk=>?_) hm));obtain rfl:u=ba b:=r;refine Oz (F:=F) (by omega) (I.tok tk) fm.mem mk λxs X0 dd al=>jS ?_;have T:=(I.tok tk).tok X0;cases pr:(eC xs (RS ps)).isSome with
   |true=>
    show ag _ _ (ka [] X.env) _ _ _;exact lc (z H _ (ab.refl H) T)
   |false=>
    show ag _ _ (oS _ _ _) _ _ _;refine sL (Cb (mr (@ht A W _ U H (λb H1=>ab H H1/\b=t) T ⟨ρ,_,w.ok,et,λH1 s1=>⟨s1,rfl⟩⟩) λb s1 q9=>?_));obtain⟨H1,I1,L,eb⟩:=q9;subst eb;cases b with
    |true=>
     show ag _ _ (ka [] X.env) _ _ _;exact lc (z H1 s1 L I1)
    |false=>
     refine C9 ?_;show ag _ _ (ka [_] X.env) _ _ _;exact put H1 s1 L I1 (hF.resolve_left (by simp))
  .cases e
 .cases e
def memE(z:Rho->Option (List (List Key)->Int)):FE:=λρ=>(z ρ).map .mem
theorem vm{J:Rho->Option (List (List Key)->Int)}(W:G.K=X.K):PF X G (.Dict [] [] pos) (memE J):=by
 rintro A π s σ H Q I ⟨ρ,d,o,e,k⟩
 unfold memE at e;obtain⟨F,_,rfl⟩:=iA.mp e;have T:(s.heap.objs.size==hV)=ZA:=(show BJ X.prog X.w (fk H s.heap.objs.size (.dK [])) _ _ (.dK []) from Va s.heap I.big).2.1;have z:H s.heap.objs.size=E2:=I.hok.fresh (aE _);obtain⟨L,Z,ep,U,Y,d1,e1,_,O⟩:=Heap.DictOfH.new (knd:=nK X) s.heap;refine DI ⟨.ref s.heap.objs.size,_,I.laid (a:=s.heap.objs.size) (o:=.mem F X.K) (t':=s.toks) (λ_ _ q=>bg _ q) (aE _) ⟨T,[],by simp,L,Z,ep,U,Y,d1,e1,O⟩,rfl,k _ _ (Ak z _) (.mem ?_)⟩;unfold bm;rw[RF,W]
 .exact Ag
 .intro S;have:=o.live _ S;rw[z] at this;exact SF rfl this.1
end
def NS(ps:List km)(p:km):List km:=if p∈ps then ps else ps++[p]
section
variable {A:aS}
def vo{h:Int}(e:(es.toList.map (·.1))[i]?=W1 h):∃v,es[i]?=W1 (h,v):=by
 rw[cb] at e;obtain⟨x,z,rfl⟩:=iA.mp e;exact⟨x.2,by rw[<-ER];exact z⟩
theorem pH{t:SetTable}{qs:List (km×Addr)}{p:km}{Q:SetFound->ah->Prop}(hu:A.units<bE)(g:s.heap.get? a=W1 o)(d:o.data=.set es ep t)(f:FP prog w s.heap es t qs)(y:QY prog w s.heap p b)(k1:p∈qs.map (·.1)->Q (.there E2) s)(k2:p∉qs.map (·.1)->∀n,n<10*mT t.mask->Nw t.mask (hP p) n∉t.place.toList->(∀k,k<n->Nw t.mask (hP p) k∈t.place.toList)->Q (.free (Nw t.mask (hP p) n) ZA) s):ag (ai prog w) A (setSearch a (.ref b) (hP p) (adding:=E3)) Q E s:=by
  unfold setSearch ES;refine ae (om g d f.fits ?_);dsimp only;rw[f.odd];simp only[dP,XG];have ha:∀(i:Nat) (h:Int),(es.toList.map (·.1))[i]?=W1 h->(es[i]?.map (·.1)).getD 0=h:=λi h e=>by
    obtain⟨v,T⟩:=vo e;rw[T];rfl
  by_cases m:p∈qs.map (·.1)
  . obtain⟨x,I,J⟩:=aT.mp m
    obtain⟨i,hi,ei⟩:=ol.mp I;have hh:(es.toList.map (·.1))[i]?=W1 (hP p):=by
      rw[f.hs,cb,cr hi,ei,<-J];rfl
    obtain⟨j,nx,e⟩:=Ui f.tab _ ha f.hnd hh;have e':t.probe (λi=>(es[i]?.map (·.1)).getD 0) (hP p) (B3 E2 (t.probeStart (hP p)))=W1 (.candidate j i nx):=e;have ev:es[i]?=W1 (hP x.1,ba x.2):=by
      rw[<-ER,f.ent,cb,cr hi,ei];rfl
    have yx:=f.isp x I;have gq:ag (ai prog w) A (do
        let W1 (_,y):=es[i]? | ET "internal:set-entry"
        let equal <-li [y] (eqBool y (.ref b))
        let (es',_,t') <-setState a
        if E3&&equal then return SetFound.there E2
        let W1 same:=t'.sameMemory t.moves t.mask | ET "set.changed-during-lookup:is-the-new-block-at-the-old-address"
        let still <-match (if same then t'.slot j else .empty) with
          |.live O=>match es'[O]? with
            |some (_,y')=>do pure (if <-isSame y' y then W1 O else E2)
            |none=>pure E2
          |_=>pure E2
        match still with
        |none=>rule "set.search.anew";ES a (.ref b) (hP p) E3 99999 E2
        |some O=>if equal then return .there (W1 O) else ES a (.ref b) (hP p) E3 99999 (W1 nx)) Q E s:=by
      rw[ev];dsimp only;refine ae (wpAny_holding (Fs hu yx.2 y.2 ?_));rw[MG (show kk x.1=kk p by rw[J])];refine ae (om g d f.fits ?_);dsimp only;simp only[Bool.and_self,WG];exact av (k1 m)
    show ag _ _ (match t.probe (λi=>(es[i]?.map (·.1)).getD 0) (hP p) (B3 E2 (t.probeStart (hP p))) with | some L=>_ | _=>_) _ _ _;rw[e'];dsimp only
    by_cases ld:t.led=E3
    . rw[ld]
      simp only[kS,dP,XG];exact gq
    . have S:t.led=ZA:=by simpa using ld
      rw[S];simp only[Fu,WG];refine ae (vg y _ (λv T=>?_) ?_)
      . obtain⟨e1,Z,rfl⟩:=aT.mp T
        have:e1∈es.toList:=by
          have:=CB.mp Z;rw[Array.mem_filter] at this;exact CB.mpr this.1
        rw[f.ent] at this;obtain⟨z,hz,rfl⟩:=aT.mp this;exact⟨z.1,z.2,rfl,f.isp z hz⟩
      . simp only[dP,XG]
        exact gq
  . have hn:hP p∉es.toList.map (·.1):=λz=>by
      rw[f.hs] at z;obtain⟨x,I,J⟩:=aT.mp z;exact m (aT.mpr ⟨x,I,inj5 (f.isp x I).1 y.1 J⟩)
    obtain⟨n,Y,W,U,e⟩:=V6 f.tab _ ha hn (f.cov y.1).cov;have e':t.probe (λi=>(es[i]?.map (·.1)).getD 0) (hP p) (B3 E2 (t.probeStart (hP p)))=W1 (.empty (Nw t.mask (hP p) n) E2):=e;show ag _ _ (match t.probe (λi=>(es[i]?.map (·.1)).getD 0) (hP p) (B3 E2 (t.probeStart (hP p))) with | some L=>_ | _=>_) _ _ _;rw[e'];dsimp only;exact av (k2 m n Y W U)
end
section
variable {A:aS}
def vy{I:Array (Int×ac)}{t t':SetTable}{Q:Unit->ah->Prop}(g:s.heap.get? a=W1 o)(L:o.ExactSet)(d:o.data=.set es ep t)(z:I.size<=100)(k:∀h' J,f6 a s.heap h'->h'.get? a=W1 J->J.ExactSet->J.data=.set I (ep+1) t'->Q () { s with heap:=h' }):ag (ai prog w) A (storeSet a I t') Q E s:=by
 refine IN g d (k _ { o with data:=.set I (ep+1) t' } (tf _ _ _) ?_ L rfl) (cy z (by decide));have u:=mS (Obj.putSet I t') g (by rw[AL I t' d];rfl)
 rwa [AL I t' d] at u
theorem V7{J Z:Type}{f:J->Z}{l:List Z}{m:List J}(h:l.Perm (m.map f)):∃k:List J,l=k.map f/\k.Perm m:=by
 generalize e:m.map f=x at h
 induction h generalizing m with
 |nil=>
  have:m=[]:=by simpa using e
  subst this;exact⟨[],rfl,lI _⟩
 | @cons a l1 l2 _ ih=>
  cases m with
  |nil=>cases e
  |cons y r=>
   rw[bn] at e;injection e with Y I
   obtain⟨k,ek,pk⟩:=ih I;exact⟨y::k,by rw[bn,Y,ek],IU _ pk⟩
 |swap a c l1=>
  match m,e with
  |y::z::r,e=>
   rw[bn,bn] at e;injection e with Y I
   injection I with I e3
   exact⟨z::y::r,by rw[bn,bn,Y,I,e3],IT _ _ _⟩
 |trans _ _ T S=>
  obtain⟨k2,U,L⟩:=S e;obtain⟨k1,W,O⟩:=T U.symm;exact⟨k1,W,O.trans L⟩
theorem ym{B:Addr->Prop}{ps:List km}{p:km}{Q:Bool->ah->Prop}(hu:A.units<bE)(x:SI prog w B s.heap a ps)(y:QY prog w s.heap p b)(yb:B b)(r:p∉ps->ps.length<=3)(c:∀v h',f6 a s.heap h'->SI prog w B h' a (NS ps p)->Q v { s with heap:=h' }):ag (ai prog w) A (zf a (.ref b) (hP p)) Q E s:=by
 obtain⟨L,t,I,⟨o,ep,g,ex,d⟩,f,pm,bq⟩:=x;have lq:I.length=ps.length:=by have:=pm.length_eq;simpa using this
 have le:=f.len;unfold zf setAddHashedIn;refine wpAny_holding (ae (om g d f.fits ?_));dsimp only;rw[RF (show ¬ byScan (.ref b) L=E3 by unfold byScan Value.scannable;simp)];refine ae (pH hu g d f y (λm=>?_) λm n Y1 T0 X1=>?_)
 .dsimp only;have mp:p∈ps:=pm.mem_iff.mp m;refine av ?_;have:=c ZA s.heap (EC a _) (by unfold NS;rw[OF mp];exact⟨L,t,I,⟨o,ep,g,ex,d⟩,f,pm,bq⟩);exact this
 .dsimp only;have mp:p∉ps:=λz=>m (pm.mem_iff.mpr z);have r:=r mp;refine ae (om g d f.fits ?_);dsimp only;generalize hj:Nw t.mask (hP p) n=j at T0;have jm:j<=t.mask:=hj▸pD _ _ _;have hl:(L.toList.map (·.1)).length=I.length:=by rw[aw,ke,le]
  have rm:(L.toList.map (·.1)).length+1<=t.mask:=by
   rw[hl];rw[f.msk.1];omega
  obtain⟨T1,pl⟩:=f.tab.put Y1 hj T0 jm X1 rm;have N0:(t.put j).1.plain=E3:=f.pln;rw[N0];simp only[WG];refine ae (yl y ?_);simp only[WG];rw[hl] at pl;have S:(insertAt L (t.put j).2 (hP p,ba b)).toList=(I.take (t.put j).2++(p,b)::I.drop (t.put j).2).map λx=>(hP x.1,ba x.2):=by
   rw[RJ,f.ent,<-zg,<-B4,dc,bn]
  have W:(I.take (t.put j).2++(p,b)::I.drop (t.put j).2).Perm (I++[(p,b)]):=by
   refine KF.trans ?_;rw[zd];exact (List.perm_append_singleton _ _).symm
  have S2:∀x∈I.take (t.put j).2++(p,b)::I.drop (t.put j).2,B x.2:=λx J=>by
   rcases dQ.mp (W.mem_iff.mp J) with J | J
   .exact bq x J
   .obtain rfl:x=(p,b):=by simpa using J
    exact yb
  have Y:(insertAt L (t.put j).2 (hP p,ba b)).size=I.length+1:=by
   have:=NG eS S;rw[aw,W.length_eq] at this;simpa using this
  have P1:∀x∈I,x.2≠a:=λx J=>(f.isp x J).ne g d;have S1:b≠a:=y.ne g d;have S0:∀h',f6 a s.heap h'->∀x∈I.take (t.put j).2++(p,b)::I.drop (t.put j).2,QY prog w h' x.1 x.2:=λh' sb x J=>by
   have J:=W.mem_iff.mp J
   rcases dQ.mp J with J | J
   .exact (f.isp x J).keep λo' g'=>(sb.2 x.2 (P1 x J)).trans g'
   .obtain rfl:x=(p,b):=by simpa using J
    exact y.keep λo' g'=>(sb.2 b S1).trans g'
  have N1:((I.take (t.put j).2++(p,b)::I.drop (t.put j).2).map (·.1)).Nodup:=by
   rw[(W.map (·.1)).nodup_iff,dc];refine gE.mpr ⟨f.nd,by simp,λu hu v hv e=>?_⟩;have:v=p:=by simpa using hv
   exact m (this▸e▸hu)
  have O0:((I.take (t.put j).2++(p,b)::I.drop (t.put j).2).map (·.1)).Perm (NS ps p):=by
   unfold NS;rw[RF mp];refine (W.map (·.1)).trans ?_;rw[dc];exact pm.append_right _
  have U1:(insertAt L (t.put j).2 (hP p,ba b)).toList.map (·.1)=(L.toList.map (·.1)).take (t.put j).2++hP p::(L.toList.map (·.1)).drop (t.put j).2:=by
   rw[RJ,dc,bn,zg,B4]
  have U:Tab (t.put j).1 ((insertAt L (t.put j).2 (hP p,ba b)).toList.map (·.1)):=by rw[U1];exact T1
  have T:(t.put j).1.fill=I.length+1:=by
   unfold Kj;rw[U.dum];have:=U.len;rw[aw,ke,ke,Y] at this;simpa using this
  have O:(t.put j).1.mask=t.mask:=rfl;refine ae (vy g ex d (by rw[Y];omega) λh1 o1 Z g1 Q2 d1=>?_);have X0:¬ (t.put j).1.tooFull=E3:=by
   unfold SetTable.tooFull;rw[T,O,f.msk.1];simp;omega
  rw[RF (by simp[X0])];refine av (c E3 h1 Z ⟨_,_,_,⟨o1,ep+1,g1,Q2,d1⟩,⟨S,S0 h1 Z,N1,U,?_,f.led,N0⟩,O0,S2⟩);rw[W.length_eq,ff,HE,O];exact⟨f.msk.1,by omega⟩
end
section
variable {A:aS}{R:nL->ah->Prop}{I:Addr}{wr:List Addr}{P:Nat->ac->Prop}{Sx:Nat->Heap->Prop}{B:Addr->Prop}
theorem SI.keep{h h':Heap}{a:Addr}{ps:List km}(x:SI prog w B h a ps)(e:∀b,B b->∀o,h.get? b=W1 o->h'.get? b=W1 o)(Y:∀o,h.get? a=W1 o->h'.get? a=W1 o):SI prog w B h' a ps:=by
 obtain⟨U,t,J,⟨o,W,g,q⟩,f,T,z⟩:=x;exact⟨U,t,J,⟨o,W,Y o g,q⟩,f.keep λx O L S=>e x.2 (z x O) L S,T,z⟩
def NY(val:Nat->km)(i:Nat):List km:=((bb i).map val).foldl NS []
def Ky(val:Nat->km)(i:Nat):NY val (i+1)=NS (NY val i) (val i):=by simp[NY,t5,KG]
theorem ZV(val:Nat->km){i:Nat}:∀{n:Nat},i<=n->(NY val i).length<=(NY val n).length
 |0,h=>by rw[B5.mp h];exact aE _
 |n+1,h=>by
  rcases EK h with z | z
  .refine cy (ZV val (qE z)) ?_;rw[Ky];unfold NS;split<;>simp
  .rw[z];exact aE _
def yo(hu:A.units+1<bE)(W:mP prog w A.in1 I fp wr n P Sx){S:Addr}(nS:S∉fp)(val:Nat->km)(bs:Nat->Addr)(hv:∀i v,P i v->v=.ref (bs i))(hB:∀i,i<n->B (bs i))(nB:∀b,B b->b∉wr/\b≠S)(hb:(NY val n).length<=4):
    ∀(m i:Nat) (s:ah),i+m=n->Sx i s.heap->SI prog w B s.heap S (NY val i)->(∀i,i<n->QY prog w s.heap (val i) (bs i)) ->
      (∀h' tk,(∀b o,b∉wr->b≠S->s.heap.get? b=W1 o->h'.get? b=W1 o)->SI prog w B h' S (NY val n)->R (.ok (.ret .none)) { s with heap:=h',toks:=tk }) ->
      fA (ai prog w) A (.builtin "set.update.loop" ⟨[.ref S,.ref I],[]⟩) R s:=by
  have nW:S∉wr:=λz=>nS (W.sub S z);have J:∀{s:ah},ag (ai prog w) A.in1 (do
        let W1 x <-gg (.ref I) | ret .none
        let _ <-li [x] (setAdd S x)
        again (.builtin "set.update.loop" ⟨[.ref S,.ref I],[]⟩))
      (λot Y=>match ot with | .done f=>R (.ok f) Y | .again c'=>c'.quiet=E3/\fA (ai prog w) A c' R Y) (λe Y=>R (.error e) Y) s->fA (ai prog w) A (.builtin "set.update.loop" ⟨[.ref S,.ref I],[]⟩) R s:=λq=>by
    refine ia KI ?_;rw[ly B6 _];exact q
  intro m
  induction m with
  |zero=>
    intro i s e st x _ k;have:i=n:=by omega
    subst this;exact J (ae (W.done s _ _ st λh' tk L=>av (k h' tk (λb o Z _ q=>L b o Z q) (x.keep (λb hb o q=>L b o (nB b hb).1 q) λo q=>L S o nW q))))
  |succ m ih=>
    intro i s e st x al k;refine J (ae (W.item i s _ _ (by omega) st λv h1 tk pv N0 L=>?_));obtain rfl:=hv i v pv;have x1:SI prog w B h1 S (NY val i):=x.keep (λb hb o q=>L b o (nB b hb).1 q) λo q=>L S o nW q;have U:∀i,i<n->QY prog w h1 (val i) (bs i):=λi T=>(al i T).keep λo q=>L _ o (nB _ (hB i T)).1 q;have hl:val i∉NY val i->(NY val i).length<=3:=λnp=>by
      have:=ZV val (show i+1<=n by omega);rw[Ky] at this;unfold NS at this;rw[RF np,ff] at this;simp at this;omega
    have y:=U i (by omega);refine ae (wpAny_holding (wpAny_holding (ae (Fn (s:={ s with heap:=h1,toks:=tk }) (show A.in1.units<bE from hu) y.2 ?_))));rw[pF y.1];refine ym (s:={ s with heap:=h1,toks:=tk+((kk (val i)).length+1) }) (w:=w) (show A.in1.units<bE from hu) x1 y (hB i (by omega)) hl λb h2 sb x2=>av ⟨kQ B6 _,?_⟩;rw[<-Ky] at x2;refine ih (i+1) { s with heap:=h2,toks:=tk+((kk (val i)).length+1) } (by omega) (W.frame _ _ _ N0 λb m o q=>(sb.2 b λz=>nS (z▸m)).trans q) x2 (λi T=>(U i T).keep λo q=>(sb.2 _ (nB _ (hB i T)).2).trans q) λh3 t3 O0 x3=>?_;exact k h3 t3 (λb o Z O q=>O0 b o Z O ((sb.2 b O).trans (L b o Z q))) x3
structure TN (prog:d3) (w:ca) (T:String) (l:Addr) (n:Nat) (R:Nat->ac->Prop) (h0:Heap):Prop where
 ty:∀s:ah,(∀o,h0.get? l=W1 o->s.heap.get? l=W1 o)->s.TypeIs (.ref l) T
 ns:isSubtype (.type T) (.type "set")=pure ZA
 nf:isSubtype (.type T) (.type "frozenset")=pure ZA
 nd:(gL T==gL "dict")=ZA
 lt:l<h0.objs.size
 it:∀(A:aS) (E:ac->ah->Prop) (s:ah) (Q:ac->ah->Prop),A.handled=E2->(∀o,h0.get? l=W1 o->s.heap.get? l=W1 o)->l<s.heap.objs.size ->
  (∀(oI:Obj) (Sx:Nat->Heap->Prop) (P:Nat->ac->Prop),(∀A':aS,A'.handled=E2->mP prog w A' s.heap.objs.size [s.heap.objs.size,l] [s.heap.objs.size] n P Sx)->Sx 0 (s.heap.push oI)->(∀i v,P i v->R i v)->Q (.ref s.heap.objs.size) { s with heap:=s.heap.push oI }) ->
  ag (ai prog w) A (nI (.ref l)) Q E s
def Xl(h:Heap):SI prog w B (h.push { cls:=.type "set",dict:=E2,data:=.set #[] 0 (.fresh 0 0 (!Pv w)) }) h.objs.size []:=
 ⟨#[],_,[],⟨_,0,cp _ rfl,⟨rfl,rfl,rfl⟩,rfl⟩,⟨rfl,by simp,by simp,⟨rfl,by simp[EU,SK],rfl,by simp[EU],by simp,by simp⟩,⟨rfl,by simp⟩,λb=>by simp[EU,b],rfl⟩,by simp,by simp⟩
theorem pI{B:Addr->Prop}{T:String}{l:Addr}{val:Nat->km}{bs:Nat->Addr}(hu:A.units+4<bE)(hh:A.handled=E2)(X:TN prog w T l n (λi v=>v=.ref (bs i)) s.heap)(al:∀i,i<n->QY prog w s.heap (val i) (bs i))(L:(NY val n).length<=4)(hB:∀i,i<n->B (bs i))(Y:∀b,B b->b<s.heap.objs.size)(k:∀h' tk,SI prog w B h' s.heap.objs.size (NY val n)->(∀b o,s.heap.get? b=W1 o->h'.get? b=W1 o)->Q (.ref s.heap.objs.size) { s with heap:=h',toks:=tk }):ag (ai prog w) A (call (.type "set") [.ref l]) Q E s:=by
 refine rG (Q1:=λob O=>ob=.ref s.heap.objs.size/\O={ s with heap:=s.heap.push { cls:=.type "set",dict:=E2,data:=.set #[] 0 (.fresh 0 0 (!Pv w)) } }) B7 (KL _) (Yg _ ⟨rfl,rfl⟩) λob O q0=>?_;obtain⟨e1,e2⟩:=q0;subst e1 e2;have ob:=cp s.heap (o:={ cls:=.type "set",dict:=E2,data:=.set #[] 0 (.fresh 0 0 (!Pv w)) }) rfl;refine⟨⟨_,ob,rfl⟩,KO B7.init.plain KP (KS ⟨_,ob,rfl⟩ ?_)⟩;have Z:∀o,s.heap.get? l=W1 o->(s.heap.push { cls:=.type "set",dict:=E2,data:=.set #[] 0 (.fresh 0 0 (!Pv w)) }).get? l=W1 o:=λo q=>bg _ q;have ty:=X.ty { s with heap:=s.heap.push { cls:=.type "set",dict:=E2,data:=.set #[] 0 (.fresh 0 0 (!Pv w)) } } Z;have O:=X.ns;have s2:=X.nf;have s3:=X.nd;unfold de.«set.__init__» noKeywords KU;generalize hp:nI=PI
 wp_walk
 subst hp;refine X.it _ _ _ _ (by simp[hh]) Z (by rw[gi];exact jp X.lt) λoI Sx P W st hv=>?_;refine ae (xE ?_);have J:(s.heap.push { cls:=.type "set",dict:=E2,data:=.set #[] 0 (.fresh 0 0 (!Pv w)) }).objs.size=s.heap.objs.size+1:=gi _ _;have x0:SI prog w B ((s.heap.push { cls:=.type "set",dict:=E2,data:=.set #[] 0 (.fresh 0 0 (!Pv w)) }).push oI) s.heap.objs.size (NY val 0):=(Xl s.heap).keep (λb _ o q=>bg _ q) λo q=>bg _ q;refine yo (by simp;omega) (W _ (by simp[hh])) (S:=s.heap.objs.size) (λz=>?_) val bs hv hB (λb L=>⟨λz=>?_,bX (Y b L)⟩) L n 0 _ (by omega) st x0 (λi hi=>(al i hi).keep λo q=>bg _ (bg _ q)) λh' tk kp x=>?_
 .rcases bP.mp z with z | z
  .rw[J] at z;exact SF z (bX (pw _))
  .exact SF (fR.mp z) (nE X.lt)
 .have e:=fR.mp z;rw[J] at e;exact SF e (bX (jp (Y b L)))
 .show ag _ _ _ _ _ _;refine av (show ag _ _ (ret fq) _ _ _ from av ⟨rfl,k h' tk x λb o q=>?_⟩);have U:b<s.heap.objs.size:=bv q;exact kp b o (λz=>by have e:=fR.mp z;rw[J] at e;exact SF e (bX (jp U))) (bX U) (bg _ (bg _ q))
end
end PV
namespace PV
open PySem PySem.W PyProof.Rows
section
variable {key:Nat->Nat}
def QO(n:Nat)(z:Nat->Nat){I:Type}:KasT I->(I->Prop)->Prop
 |.ret a,Q=>Q a
 |.ask i j k,Q=>i<n/\j<n/\QO n z (k (decide (z i<z j))) Q
theorem QO.bind{z I:Type}{f:z->KasT I}{Q:I->Prop}{R:z->Prop}:∀{t:KasT z},QO n key t R->(∀a,R a->QO n key (f a) Q)->QO n key (t.bind f) Q
 |.ret a,h,k=>k a h
 |.ask i j g,h,k=>⟨h.1,h.2.1,QO.bind h.2.2 k⟩
theorem QO.wp{z:Type}{cmp:Nat->Nat->(Bool->ah->Prop)->ah->Prop}{s:ah}(J:∀i j C,i<n->j<n->C (decide (key i<key j)) s->cmp i j C s){Q:z->Prop}{R:z->ah->Prop}(I:∀a,Q a->R a s):∀{t:KasT z},QO n key t Q->t.kasWp cmp R s
 |.ret a,h=>I a h
 |.ask i j k,h=>J i j _ h.1 h.2.1 (QO.wp J I h.2.2)
structure Od (n:Nat) (p:Array Nat):Prop where
 sz:p.size=n
 pm:p.toList.Perm (bb n)
theorem Od.lt{p:Array Nat}(o:Od n p){i:Nat}(h:i<n):p.getD i 0<n:=by
 have z:i<p.size:=by rw[o.sz];exact h
 rw[show p.getD i 0=p[i] by simp[z]];have:p[i]∈p.toList:=by simp
 exact da.mp (o.pm.mem_iff.mp this)
theorem Od.inj{p:Array Nat}(o:Od n p){i j:Nat}(I:i<n)(U:j<n)(e:p.getD i 0=p.getD j 0):i=j:=by
 have Y:i<p.size:=by rw[o.sz];exact I
 have J:j<p.size:=by rw[o.sz];exact U
 rw[show p.getD i 0=p[i] by simp[Y],show p.getD j 0=p[j] by simp[J]] at e;have z:p.toList.Nodup:=o.pm.nodup_iff.mpr sk;refine (zc (l:=p.toList) (by simpa using Y) z).mp ?_;rw[cr (by simpa using Y),cr (by simpa using J)];simpa using e
def VZ(z:Nat->Nat)(p:Array Nat)(m:Nat):Prop:=∀i j,i<j->j<m->z (p.getD i 0)<z (p.getD j 0)
def Dsc(z:Nat->Nat)(p:Array Nat)(m:Nat):Prop:=∀i j,i<j->j<m->z (p.getD j 0)<z (p.getD i 0)
variable (inj:∀i j,i<n->j<n->key i=key j->i=j)
include inj
theorem iw{p:Array Nat}(o:Od n p){i j:Nat}(z:i<n)(U:j<n)(h:i≠j):key (p.getD i 0)≠key (p.getD j 0):=λe=>h (o.inj z U (inj _ _ (o.lt z) (o.lt U) e))
theorem Xm{p:Array Nat}(o:Od n p):∀(f m:Nat),1<=m->m+f<=n->VZ key p m->QO n key (kas_asc p f m) λr=>m<=r/\r<=m+f/\VZ key p r/\(r<m+f->key (p.getD r 0)<key (p.getD (r-1) 0))
 |0,m,S,L,a=>⟨aE _,aE _,a,λz=>SF z (by omega)⟩
 |f+1,m,S,L,a=>by
  refine⟨o.lt (by omega),o.lt (by omega),?_⟩
  by_cases c:key (p.getD m 0)<key (p.getD (m-1) 0)
  .rw[MG c];dsimp only;rw[OF rfl];exact⟨aE _,by omega,a,λ_=>c⟩
  .rw[UF c];dsimp only;rw[RF (by simp)];have ne:=iw inj o (i:=m) (j:=m-1) (by omega) (by omega) (by omega);have U:VZ key p (m+1):=λi j I W=>by
    by_cases e:j=m
    .subst e
     by_cases T:i=j-1
     .subst T;omega
     .have:=a i (j-1) (by omega) (by omega);omega
    .exact a i j I (by omega)
   have:=Xm o f (m+1) (by omega) (by omega) U;have O:∀{t:KasT Nat},QO n key t (λr=>m+1<=r/\r<=m+1+f/\VZ key p r/\(r<m+1+f->key (p.getD r 0)<key (p.getD (r-1) 0)))->QO n key t λr=>m<=r/\r<=m+(f+1)/\VZ key p r/\(r<m+(f+1)->key (p.getD r 0)<key (p.getD (r-1) 0)):=λ{t}=>by
    induction t with
    |ret r=>exact λh=>⟨by have:=h.1;omega,by have:=h.2.1;omega,h.2.2.1,λz=>h.2.2.2 (by omega)⟩
    |ask i j k J=>exact λh=>⟨h.1,h.2.1,J _ h.2.2⟩
   exact O this
theorem ZW{p:Array Nat}(o:Od n p):∀(f m:Nat),1<=m->m+f<=n->Dsc key p m->QO n key (kas_desc f p m 0) λr=>r.1=p/\r.2.2=0/\m<=r.2.1/\r.2.1<=m+f/\Dsc key p r.2.1
 |0,m,L,J,a=>⟨rfl,rfl,aE _,aE _,a⟩
 |f+1,m,L,J,a=>by
  refine⟨o.lt (by omega),o.lt (by omega),?_⟩;have ne:=iw inj o (i:=m) (j:=m-1) (by omega) (by omega) (by omega)
  by_cases c:key (p.getD m 0)<key (p.getD (m-1) 0)
  .rw[MG c];dsimp only;rw[OF rfl,RF (by omega)];have T:Dsc key p (m+1):=λi j I U=>by
    by_cases e:j=m
    .subst e
     by_cases S:i=j-1
     .subst S;omega
     .have:=a i (j-1) (by omega) (by omega);omega
    .exact a i j I (by omega)
   have:=ZW o f (m+1) (by omega) (by omega) T;have O:∀{t:KasT (Array Nat×Nat×Nat)},QO n key t (λr=>r.1=p/\r.2.2=0/\m+1<=r.2.1/\r.2.1<=m+1+f/\Dsc key p r.2.1)->QO n key t λr=>r.1=p/\r.2.2=0/\m<=r.2.1/\r.2.1<=m+(f+1)/\Dsc key p r.2.1:=λ{t}=>by
    induction t with
    |ret r=>exact λh=>⟨h.1,h.2.1,by have:=h.2.2.1;omega,by have:=h.2.2.2.1;omega,h.2.2.2.2⟩
    |ask i j k z=>exact λh=>⟨h.1,h.2.1,z _ h.2.2⟩
   exact O this
  .rw[UF c];dsimp only;rw[RF (by simp)];refine⟨o.lt (by omega),o.lt (by omega),?_⟩;rw[MG (show key (p.getD (m-1) 0)<key (p.getD m 0) by omega)];dsimp only;rw[OF rfl];exact⟨rfl,rfl,aE _,Nat.le_add_right m (f+1),a⟩
omit inj
theorem Od.rev{p:Array Nat}(o:Od n p)(m:Nat):Od n (zh p 0 m):=⟨(mirror_size _ _ _ _).trans o.sz,(KW.mp (mirror_perm p 0 m _)).trans o.pm⟩
theorem iz{p:Array Nat}{m:Nat}(z:m<=p.size){k:Nat}(I:k<m):(zh p 0 m).getD k 0=p.getD (m-1-k) 0:=by
 have e:=getElem?_mirror (xs:=p) (i:=0) (j:=m) z ((m-0)/2) (by omega) k;have:(zh p 0 m)[k]?=p[m-1-k]?:=by
  unfold zh;rw[e];split
  .congr 1;omega
  .congr 1;omega
 simp only[L1,this]
include inj
theorem i_{p:Array Nat}(o:Od n p)(m:Nat)(h1:1<=m)(I:m<=n)(d:Dsc key p m):QO n key (kas_tail3 m n p) λr=>Od n r.2/\1<=r.1/\r.1<=n/\VZ key r.2 r.1:=by
 have z:=o.rev m;have a:VZ key (zh p 0 m) m:=λi j L U=>by
  rw[iz (by rw[o.sz];exact I) (by omega:i<m),iz (by rw[o.sz];exact I) U];exact d _ _ (by omega) (by omega)
 unfold kas_tail3;exact QO.bind (Xm inj z (n-m) m h1 (by omega) a) λr J=>⟨z,by omega,by omega,J.2.2.1⟩
theorem jA(h1:1<=n){p:Array Nat}(o:Od n p):QO n key (kas_count n p) λr=>Od n r.2/\1<=r.1/\r.1<=n/\VZ key r.2 r.1:=by
 unfold kas_count;refine QO.bind (Xm inj o (n-1) 1 (aE _) (by omega) λi j I Z=>by omega) λm Y=>?_;obtain⟨z,m2,a,T⟩:=Y
 by_cases c:(m==n)=E3
 .rw[OF c];exact⟨o,z,by omega,a⟩
 .rw[RF c];have c':m≠n:=by simpa using c
  by_cases J:m > 1
  .rw[OF J];refine⟨o.lt (by omega),o.lt (by omega),?_⟩;rw[MG (a 0 (m-1) (by omega) (by omega))];dsimp only;rw[OF rfl];exact⟨o,z,by omega,a⟩
  .rw[RF J];have e1:m=1:=by omega
   subst e1;have U:=T (by omega);unfold kas_descPart;have d:Dsc key p 2:=λi j I Z=>by
    have:i=0:=by omega
    have:j=1:=by omega
    subst i j;exact U
   refine QO.bind (ZW inj o (n-(1+1)) (1+1) (by omega) (by omega) d) λr W=>?_;obtain⟨S,O,r3,r4,L⟩:=W;rw[O,RF (by omega),S];exact i_ inj o r.2.1 (by omega) (by omega) L
omit inj
theorem RL{p:Array Nat}(o:Od n p){k:Nat}(L:k<n)(a:VZ key p k):∀(f l r:Nat),r-l<=f->l<=r->r<=k->(∀i,i<l->¬ key (p.getD k 0)<key (p.getD i 0))->(∀i,r<=i->i<k->key (p.getD k 0)<key (p.getD i 0))->QO n key (kas_place p k f l r) λx=>x<=k/\(∀i,i<x->¬ key (p.getD k 0)<key (p.getD i 0))/\(∀i,x<=i->i<k->key (p.getD k 0)<key (p.getD i 0))
 |0,l,r,T,Y,S,J,I=>⟨by omega,J,λi O z=>I i (by omega) z⟩
 |f+1,l,r,T,Y,S,J,I=>by
  unfold kas_place
  by_cases c:l≥r
  .rw[OF c];exact⟨by omega,J,λi O z=>I i (by omega) z⟩
  .rw[RF c];refine⟨o.lt L,o.lt (by omega),?_⟩
   by_cases d:key (p.getD k 0)<key (p.getD ((l+r)/2) 0)
   .rw[MG d];dsimp only;rw[OF rfl];refine RL o L a f l ((l+r)/2) (by omega) (by omega) (by omega) J λi O z=>?_
    by_cases e:i=(l+r)/2
    .subst e;exact d
    .have:=a ((l+r)/2) i (by omega) z;omega
   .rw[UF d];dsimp only;rw[RF (by simp)];refine RL o L a f ((l+r)/2+1) r (by omega) (by omega) S (λi O=>?_) I
    by_cases e:i=(l+r)/2
    .subst e;exact d
    .have:=a i ((l+r)/2) (by omega) (by omega);omega
include inj
theorem jB:∀(f:Nat) {p:Array Nat}{k:Nat},Od n p->k+f=n->VZ key p k->QO n key (kas_bin f p k) λq=>Od n q/\VZ key q n
 |0,p,k,o,e,a=>⟨o,by rw[<-e];exact a⟩
 |f+1,p,k,o,e,a=>by
  unfold kas_bin;refine QO.bind (RL o (by omega) a k 0 k (by omega) (by omega) (aE _) (λi hi=>by omega) λi h1 h2=>by omega) λl W=>?_;obtain⟨l1,Y,U⟩:=W;have hs:k<p.size:=by rw[o.sz];omega
  have T:Od n (bubble p k (k-l)):=⟨(bubble_size _ _ _).trans o.sz,(KW.mp (bubble_perm p k _)).trans o.pm⟩;have z:∀i,(bubble p k (k-l)).getD i 0=if i=l then p.getD k 0 else if l<i/\i<=k then p.getD (i-1) 0 else p.getD i 0:=λi=>by
   have e:=getElem?_bubble hs (k-l) (by omega) i;rw[show k-(k-l)=l by omega] at e;simp only[L1,e];split
   .rfl
   .split<;>rfl
  refine jB f T (by omega) λi j Z hj=>?_;rw[z i,z j];have I:∀x,x<k->key (p.getD k 0)≠key (p.getD x 0):=λx hx=>iw inj o (by omega) (by omega) (by omega)
  by_cases L:i=l
  .rw[OF L,RF (by omega),OF (by omega)];exact U (j-1) (by omega) (by omega)
  .rw[RF L]
   by_cases S:j=l
   .rw[OF S,RF (by omega)];have:=Y i (by omega);have:=I i (by omega);omega
   .rw[RF S]
    by_cases J:l<i/\i<=k
    .rw[OF J,OF (by omega)];exact a _ _ (by omega) (by omega)
    .rw[RF J]
     by_cases O:l<j/\j<=k
     .rw[OF O]
      by_cases e2:i=j-1
      .omega
      .exact a _ _ (by omega) (by omega)
     .rw[RF O];exact a _ _ (by omega) (by omega)
theorem ZX(h1:1<=n):QO n key (kas_sort n) λq=>Od n q/\VZ key q n:=by
 have o:Od n (EV (bb n)):=⟨by simp,by simp⟩;unfold kas_sort;refine QO.bind (jA inj h1 o) λr J=>?_;obtain⟨I,O,L,z⟩:=J
 by_cases c:r.1<n
 .rw[OF c,show max r.1 1=r.1 by omega];exact jB inj (n-r.1) I (by omega) z
 .rw[RF c];have:r.1=n:=by omega
  exact⟨I,this▸z⟩
end
open PySem.Spec L2
def Pt(p:km):Nat:=5*p.1+p.2
section
variable {A:aS}
theorem QY.items{p:km}(x:QY prog w h p b):∃o n t u,h.get? b=W1 o/\o.cls=.type "tuple"/\o.data=.seq #[.int (p.1:Int) t,.int (p.2:Int) u] n:=by
 obtain⟨_,o,J,n,g,c,d,i⟩:=x;unfold kk at i;generalize e:J.toList=l at i;cases i with
 | @cons _ Y _ I S i=>
  cases i with
  | @cons _ U _ W O i=>
   cases i;have f:∀{k:Int}{v:ac},(Av prog w).is (.inl k) v=E3->∃t,v=.int k t:=λ{k v} L=>by
    rcases Bd (show PL (.inl k) v=E3 from L) with ⟨j,t,z,T⟩ | ⟨y,t,z,_⟩
    .have:=rf z;subst this;exact⟨t,T⟩
    .cases z
   obtain⟨t,rfl⟩:=f S;obtain⟨u,rfl⟩:=f O;refine⟨o,n,t,u,g,c,?_⟩;rw[d];congr 1;exact AK.mp e
def yp{p q:km}{c:Addr}{Q:Bool->ah->Prop}(x:QY prog w s.heap p b)(y:QY prog w s.heap q c)(k:Q (decide (Pt p<Pt q)) s):ag (ai prog w) A (keyLt' (tuples' E3) (.ref b) (.ref c)) Q E s:=by
 have S:=x.1;have Y:=y.1;obtain⟨o,n,t,u,g,_,d⟩:=x.items;obtain⟨Z,n2,J,u2,T,_,W⟩:=y.items;obtain⟨O,L⟩:=p;obtain⟨q1,q2⟩:=q;obtain⟨h1,h2⟩:O<5/\L<5:=S;obtain⟨h3,h4⟩:q1<5/\q2<5:=Y;unfold Pt at k;simp only at k;refine kat_lt g d T W ?_;show KatLex _ _ _ _ _ _ [(.int (O:Int) t,.int (q1:Int) J),(.int (L:Int) u,.int (q2:Int) u2)] 0 s;refine kat_cons (vt (kat_go (λe=>?_) λe=>?_))
 .have U:O=q1:=by have:=eq_of_beq e;omega
  refine kat_yes (kat_cons (vt (kat_go (λI=>?_) λI=>?_)))
  .have e3:L=q2:=by have:=eq_of_beq I;omega
   refine kat_yes (kat_nil ?_);rw[UF (by omega)] at k;exact k
  .refine kat_no (kat_one _ _ (PyProof.Rows.lt_int ?_));show Q (decide ((L:Int)<(q2:Int))) s;rw[show decide ((L:Int)<(q2:Int))=decide (5*O+L<5*q1+q2) by rw[decide_eq_decide];omega];exact k
 .have U:O≠q1:=λz=>by rw[z] at e;simp at e
  refine kat_no (oneLt_int ?_);rw[show decide ((O:Int)<(q1:Int))=decide (5*O+L<5*q1+q2) by rw[decide_eq_decide];omega];exact k
theorem jC{h:Heap}:∀{qs:List (km×Addr)},(∀x∈qs,QY prog w h x.1 x.2)->∃fs:List ac,KatTups h (qs.map λx=>.ref x.2) fs/\fs.length=qs.length/\∀v∈fs,∃i t,v=kU i t
 |[],_=>⟨[],KatTups.nil,rfl,by simp⟩
 |x::r,I=>by
  obtain⟨fs,a,b,c⟩:=jC (qs:=r) λy J=>I y (by simp[J]);obtain⟨o,n,t,u,g,L,d⟩:=(I x (by simp)).items;refine⟨.int (x.1.1:Int) t::fs,KatTups.cons g L d rfl a,by simp[b],λv z=>?_⟩
  rcases bP.mp z with rfl | z
  .exact⟨_,_,rfl⟩
  .exact c v z
def ZZ{p q:km}(a:Re p)(b:Re q)(e:Pt p=Pt q):p=q:=by
 obtain⟨O,L⟩:=p;obtain⟨q1,q2⟩:=q;obtain⟨J,I⟩:O<5/\L<5:=a;obtain⟨S,z⟩:q1<5/\q2<5:=b;unfold Pt at e;simp only at e;have:O=q1:=by omega
 have:L=q2:=by omega
 rw[‹O=q1›,‹L=q2›]
theorem Ul{z:Type}:∀l:List z,(l.zip l).map (·.2)=l
 |[]=>rfl
 |x::r=>by rw[BQ,bn,Ul r]
theorem RM{qs:List (km×Addr)}{P:Fin->ah->Prop}(ho:s.heap.get? a=W1 (ma "list" (qs.map λx=>ba x.2).toArray n))(O:∀x∈qs,QY prog w s.heap x.1 x.2)(nd:(qs.map (·.1)).Nodup)(S2:qs.length<64)(k:∀Z:List (km×Addr),Z.Perm qs->(Z.map λx=>Pt x.1).Pairwise (·<·)->P (.done (.ret .none)) { s with heap:=B8 s.heap a (qs.map λx=>ba x.2) (Z.map λx=>ba x.2).toArray }):
  ag (ai prog w) A (de.«list.sort» ⟨[.ref a],[]⟩) P E s:=by
 generalize S:(qs.map λx=>ba x.2)=vs at ho k;have lv:vs.length=qs.length:=by rw[<-S,aw]
 rw[list_sort_plain];have ha:a<s.heap.objs.size:=bv ho;refine ae (listItems_at ho rfl ?_);refine ae (ua ho rfl ?_ (by rw[cw,eR];omega) (eA _));obtain⟨e1,X0⟩:∃e1,(s.heap.update a (i6 λ_=>#[])).get? a=W1 (ma "list" #[] e1):=⟨_,get?_update_seq ho (λ_=>#[])⟩;refine ae (ub X0 rfl ?_);refine ae (EW ?_ (by show vs.length<=_;rw[eR];omega));refine ae (oj ?_ (eA _));refine wpAny_holding ?_;generalize hg:((s.heap.update a (i6 λ_=>#[])).push (ma "tuple" vs.toArray 0)).push (ma "list" #[] 0)=g6;have W:g6.get? a=W1 (ma "list" #[] e1):=by
  rw[<-hg];exact bg _ (bg _ X0)
 have J:∀x∈qs,QY prog w g6 x.1 x.2:=λx hx=>(O x hx).keep λo g=>by
  rw[<-hg];have ne:x.2≠a:=λz=>by
   obtain⟨o2,_,_,_,g2,c2,_⟩:=(O x hx).items;rw[z] at g2;cases g2.symm.trans ho;have c3:gL "list"=gL "tuple":=c2;injection c3 with c3
   exact SF c3 (by decide)
  exact bg _ (bg _ ((kN _ _ (cq ne)).trans g))
 have hG:B8 s.heap a vs=λS0=>g6.update a (i6 λ_=>S0):=by funext S0;rw[<-hg];rfl
 dsimp only
 by_cases Y:vs.toArray.size<2
 .rw[OF Y,OF Y];refine ae (av ?_);rw[L3];refine ae (av ?_);dsimp only;refine ae (ub W rfl ?_);refine ae (ua W rfl ?_ (hsz2:=by rw[L4];show (uk vs).size<=_;rw[L5,eR];omega));simp only[bne_self_eq_false,dP,XG];refine av ?_;have:=k qs (lI _) (by
   rw[cw,lv] at Y
   match qs,Y with
   |[],_=>exact xi
   |[x],_=>exact L6 _ _)
  rw[S,hG] at this;have ez:(arrOf (B9 Bi (vs.toArray.zip vs.toArray) #[] 7 E2)).map (·.2)=vs.toArray:=by
   show (vs.toArray.zip vs.toArray).map (·.2)=vs.toArray;apply AK.mp;simp[Ul]
  rw[show (vs.toArray.zip vs.toArray)=uk vs from rfl] at ez;show P _ { s with heap:=g6.update a (i6 λ_=>(arrOf (B9 Bi (uk vs) #[] 7 E2)).map (·.2)) };rw[ez];exact this
 .rw[RF Y,RF Y];have l2:2<=vs.length:=by rw[cw] at Y;omega
  obtain⟨fs,t1,t2,t3⟩:=jC J;rw[S] at t1;refine ae (kat_kind (s:={ s with heap:=g6 }) (T:=gL "int") t1 (by rw[t2,<-lv];omega) (λv hv=>?_) (by decide) ?_)
  .obtain⟨i,t,rfl⟩:=t3 v hv;exact .now
  show ag (ai prog w) A _ P E { s with heap:=g6 };rw[show (gL "int" != gL "tuple")=E3 by decide];have N0:∀i (h:i<qs.length),vs.getD i fq=.ref qs[i].2:=λi h=>by
   rw[<-S];simp[h]
  have inj:∀i j,i<vs.length->j<vs.length->(λi=>Pt (qs.getD i ((0,0),0)).1) i=(λi=>Pt (qs.getD i ((0,0),0)).1) j->i=j:=λi j I U e=>by
   rw[lv] at I U;simp only[show qs.getD i ((0,0),0)=qs[i] by simp[I],show qs.getD j ((0,0),0)=qs[j] by simp[U]] at e;have e2:=ZZ (O _ (eW I)).1 (O _ (eW U)).1 e;refine (zc (l:=qs.map (·.1)) (by simpa using I) nd).mp ?_;rw[cb,cb,cr I,cr U];exact NG W1 e2
  have S1:=QO.wp (cmp:=kas_ask prog w A (tuples' E3) vs) (s:={ s with heap:=g6 }) (λi j C I U hC=>by
   rw[lv] at I U;unfold kas_ask;rw[N0 i I,N0 j U];refine yp (J _ (eW I)) (J _ (eW U)) ?_;simp only[show qs.getD i ((0,0),0)=qs[i] by simp[I],show qs.getD j ((0,0),0)=qs[j] by simp[U]] at hC;exact hC) (Q:=λq=>Od vs.length q/\VZ (λi=>Pt (qs.getD i ((0,0),0)).1) q vs.length) (R:=λq z=>z={ s with heap:=g6 }/\Od vs.length q/\VZ (λi=>Pt (qs.getD i ((0,0),0)).1) q vs.length) (λq hq=>⟨rfl,hq⟩) (ZX inj (by omega))
  refine ae (gT (kat_run (Q:=λL z=>z={ s with heap:=g6 }/\∃p:Array Nat,arrOf L=p.map (kas_item (vs.toArray.zip vs.toArray))/\failedOf L=E2/\Od vs.length p/\VZ (λi=>Pt (qs.getD i ((0,0),0)).1) p vs.length) rfl l2 (by omega) (λp L z a1 a2 a3 a4=>⟨a4.1,p,a2,a3,a4.2.1,a4.2.2⟩) S1) ?_ λ_ _ e=>e);rintro⟨⟨⟩,L⟩ z ⟨rfl,p,Y1,hf,od,Q2⟩;dsimp only;have T0:=kat_snds (ks:=vs) (vs:=vs) rfl Y1;have oq:(EV (p.toList.map λi=>vs.getD i fq))=((p.toList.map λi=>qs.getD i ((0,0),0)).map λx=>ba x.2).toArray:=by
   rw[bS];congr 1;refine jv λi I=>?_;have I:=da.mp (od.pm.mem_iff.mp I);rw[lv] at I;rw[N0 i I];simp[I]
  rw[T0,oq];have O0:(p.toList.map λi=>qs.getD i ((0,0),0)).Perm qs:=by
   have e:(bb vs.length).map (λi=>qs.getD i ((0,0),0))=qs:=by
    apply Bn
    .simp[lv]
    .intro i h1 Y;simp[Y]
   have:=od.pm.map λi=>qs.getD i ((0,0),0)
   rwa [e] at this
  have P1:((p.toList.map λi=>qs.getD i ((0,0),0)).map λx=>Pt x.1).Pairwise (·<·):=by
   rw[bS,hJ,sj];intro i j I U U1;have X1:i<p.size:=by simpa using I
   have N1:j<p.size:=by simpa using U
   have:=Q2 i j U1 (by rw[<-od.sz];exact N1);rw[show p.getD i 0=p[i] by simp[X1],show p.getD j 0=p[j] by simp[N1]] at this;simpa using this
  refine ae (ub W rfl ?_);refine ae (ua W rfl ?_ (hsz2:=by
   rw[cw,aw,O0.length_eq,eR];omega))
  rw[hf];simp only[bne_self_eq_false,dP,XG];have:=k _ O0 P1;rw[hG] at this;exact av this
end
section
variable {A:aS}{I:Addr}{t:SetTable}
structure FQ (w:ca) (es:Array (Int×ac)) (t:SetTable) (qs:List (Int×ac)):Prop where
 ent:es.toList=qs
 rise:SK t.place.toList
 len:t.place.size=es.size
 fits:t.fits es.size=E3
 led:Pv w=ZA->t.led=E3
 pln:t.plain=E3
 sz:qs.length<=18
abbrev qp (qs:List (km×Addr)):List (Int×ac):=qs.map λx=>(hP x.1,ba x.2)
def FP.toQ{qs:List (km×Addr)}(f:FP prog w h es t qs):FQ w es t (qp qs):=by
 have l:=f.tab.len;rw[aw,ke,ke] at l;exact⟨f.ent,f.tab.rise,l,f.fits,f.led,f.pln,by rw[aw];have:=f.msk.2;omega⟩
def Pp(w:ca)(h:Heap)(a:Addr)(qs:List (Int×ac)):Prop:=∃es t,ObX h a es t/\FQ w es t qs
def Pp.keep(x:Pp w h a qs)(e:∀o,h.get? a=W1 o->h'.get? a=W1 o):Pp w h' a qs:=by
 obtain⟨z,t,⟨o,J,g,q⟩,f⟩:=x;exact⟨z,t,⟨o,J,e o g,q⟩,f⟩
theorem V8(xs:Array Nat)(z:SK xs.toList){v i:Nat}(O:i<=xs.size)(h1:∀a (h:a<xs.size),a<i->xs[a]<v)(J:∀a (h:a<xs.size),i<=a->v<=xs[a]):zi xs v=i:=by
 obtain⟨L,b1,b2⟩:=M_ xs z v;generalize zi xs v=b at L b1 b2
 rcases AZ b i with c | c | c
 .have:=b2 b (by omega) (aE _);have:=h1 b (by omega) c;omega
 .exact c
 .have:=b1 i (by omega) c;have:=J i (by omega) (aE _);omega
def Xn(xs:Array Nat)(z:SK xs.toList){i:Nat}(S:i<=xs.size):zi xs (if i=0 then 0 else xs.getD (i-1) 0+1)=i:=by
 have mono:∀a b (U:a<xs.size) (T:b<xs.size),a<b->xs[a]<xs[b]:=λa b U T O=>by
  have:=sj.mp z a b (by simpa using U) (by simpa using T) O;simpa using this
 by_cases W:i=0
 .rw[OF W];exact V8 xs z S (λa h L=>by omega) λa h _=>eA _
 .have J:i-1<xs.size:=by omega
  rw[RF W,show xs.getD (i-1) 0=xs[i-1] by simp[J]];refine V8 xs z S (λa h L=>?_) λa h Y=>?_
  .by_cases e:a=i-1
   .subst e;omega
   .have:=mono a (i-1) h J (by omega);omega
  .have:=mono (i-1) a J h (by omega);omega
def jD{sl:Nat->Nat}(T:q≠I)(hf:t.fits es.size=E3)(hL:vs.length=es.size)(hx:∀(i:Nat) (z:ah),i<=es.size->J2 z.heap q es ep t->(∃v,vs[i]?=W1 v/\i<es.size/\∀(B:aS) (J:ac->ah->Prop) (R:Option (ac×Nat)->ah->Prop),R (W1 (v,sl (i+1))) z->ag (ai prog w) B (qo q (sl i) i ep) R J z)
   ∨ (es.size<=i/\∀(B:aS) (J:ac->ah->Prop) (R:Option (ac×Nat)->ah->Prop),R E2 z->ag (ai prog w) B (qo q (sl i) i ep) R J z)):
  ∀Y:aS,Y.handled=E2->mP prog w Y I [I,q] [I] vs.length (λi v=>vs[i]?=W1 v) (λi h=>TZ h I q (.int (sl i) 0) i es.size ep/\J2 h q es ep t):=λY hh=>{
 sub:=λb m=>by simp at m;simp[m]
 frame:=λi h L U e=>⟨U.1.keep (e I (by simp)),U.2.keep (e q (by simp))⟩
 item:=λi z Q J hi U k=>by
  rcases hx i z (by omega) U.2 with ⟨v,hv,_,O⟩ | ⟨O0,_⟩
  .refine oE U.1 U.2 hf rfl (λB W R y=>by rw[eD];exact O B W R y) λL Z it=>k v L z.toks hv ⟨it,U.2.keep λo g=>(Z.2 q T).trans g⟩ λb o S g=>(Z.2 b λe=>S (by simp[e])).trans g
  .omega
 done:=λz Q J U k=>by
  rcases hx vs.length z (by omega) U.2 with ⟨v,_,N0,_⟩ | ⟨_,O⟩
  .omega
  .exact oG hh U.1 U.2 hf rfl (λB W R y=>by rw[eD];exact O B W R y) λL kp=>k L z.toks λb o S g=>kp b o (λe=>S (by simp[e])) g
 self:=λi z Q J U k=>oK U.1 k }
def ItP(prog:d3)(w:ca)(s:ah)(q:Addr)(qs:List (Int×ac))(I:Addr)(h':Heap):Prop:=∃(L:List (Int×ac)) (fp:List Addr) (Sx:Nat->Heap->Prop),L.Perm qs/\s.heap.objs.size<=I/\(∀b∈fp,b=q∨s.heap.objs.size<=b)/\(∀b o,s.heap.get? b=W1 o->h'.get? b=W1 o) ∧
 (∀O:aS,O.handled=E2->mP prog w O I fp [I] L.length (λi v=>(L.map (·.2))[i]?=W1 v) Sx)/\Sx 0 h'
theorem bO(x:Pp w s.heap q qs)(k:∀I h',ItP prog w s q qs I h'->Q (.ref I) { s with heap:=h' }):ag (ai prog w) A (nI (.ref q)) Q E s:=by
  obtain⟨J,t,⟨o,O,g,ex,d⟩,f⟩:=x;have ty:s.TypeIs (.ref q) "set":=⟨o,g,ex.1⟩;have y:J2 s.heap q J O t:=⟨o,g,ex,d⟩;have lq:q<s.heap.objs.size:=bv g;have W:J.size=qs.length:=by have:=NG eS f.ent;simpa using this
  refine IY ty L7 (hU L7 ty UJ ?_ (F.args_set_iter_1 _));unfold de.«frozenset.__iter__»;refine ae (show ag _ _ (pure q) _ _ s from av ?_);refine ae (show ag _ _ (setEntries q >>= λr=>pure r.size) _ _ s from ae (Ee g d f.fits (av ?_)));have ot:∀(T:ac),(∀h',h'=s.heap.push { cls:=.type "set_iterator",data:=.fields #[T,.int 0 0,.ref q,.int J.size 0,.int O 0] }->TZ h' s.heap.objs.size q T 0 J.size O->J2 h' q J O t->ItP prog w s q qs s.heap.objs.size h') ->
      ag (ai prog w) A.in1 (do ret (<-newFields "set_iterator" [T,eP 0,.ref q,eP J.size,eP (<-setEpoch q)])) (λot z=>∃v,ot=.done (.ret v)/\∃T' r,z.TypeIs v T'/\Da (.type T') "__next__"=pure (W1 r)/\Q v z) E s:=λT w1=>by
    refine ae (wpAny_setEpoch_of g d f.fits (ae (kL (av ⟨_,rfl,"set_iterator",_,⟨_,cp _ rfl,rfl⟩,Km.lookup,k _ _ (w1 _ rfl ⟨_,cp _ rfl,rfl,rfl⟩ (y.keep λo' g'=>bg _ g'))⟩))))
  have dr:∀{R:Bool->ah->Prop},R ZA s->ag (ai prog w) A.in1 (setDrawn q) R E s:=λ{R} hr=>by
    unfold setDrawn;refine ae (om g d f.fits ?_);refine ae (show ag _ A.in1 Bz _ E s from ae (ti (av (av ?_))));show R (!(ai prog w).w.params.followText "set-order"&&(!t.plain&&decide (J.size > 1))) s;rw[f.pln];simpa using hr
  refine ae (dr ?_);simp only[dP,XG];have Y:∀b∈[s.heap.objs.size,q],b=q∨s.heap.objs.size<=b:=λb m=>by simp at m;rcases m with m | m;exact .inr (zX m.symm);exact .inl m
  cases bq:Pv w with
  |true=>
    refine ae (av (ot _ λh' eh it sa=>?_));subst eh;have pL:(qq (w.params.setOrder q O) J).toList.Perm qs:=by rw[<-f.ent];exact SX _ J
    obtain⟨L,eL⟩:∃L,L=(qq (w.params.setOrder q O) J).toList:=⟨_,rfl⟩;rw[<-eL] at pL;have pz:(qq (w.params.setOrder q O) J).size=J.size:=by have:=(SX (w.params.setOrder q O) J).length_eq;simpa using this
    refine⟨L,[s.heap.objs.size,q],(λi h=>TZ h s.heap.objs.size q (.int (((λ_=>0:Nat->Nat) i:Nat):Int) 0) i J.size O/\J2 h q J O t),pL,aE _,Y,λb o z=>bg _ z,?_,it,sa⟩;have lv:(L.map (·.2)).length=L.length:=aw ..;rw[<-lv];refine jD (sl:=λ_=>0) (es:=J) (t:=t) (ep:=O) (bX lq) f.fits (by rw[lv,pL.length_eq,W]) λi z O0 q0=>?_;obtain⟨oz,gz,_,dz⟩:=q0;have S:∀(B:aS) (U:ac->ah->Prop) (R:Option (ac×Nat)->ah->Prop),R (((qq (w.params.setOrder q O) J)[i]?).map λe=>(e.2,0)) z->ag (ai prog w) B (qo q 0 i O) R U z:=λB U R Z=>by
      unfold qo setWalk;refine ae (om gz dz f.fits ?_);refine ae (show ag _ B Bz _ U z from ae (ti (av ?_)));rw[show (ai prog w).w.params.followText "set-order"=E3 from bq];dsimp only;rw[OF rfl,RF (by simp)];refine ae (ae (om gz dz f.fits (ae (show ag _ B Bz _ U z from ae (ti (av ?_))))));rw[show (ai prog w).w.params.followText "set-order"=E3 from bq];dsimp only;rw[OF rfl];exact ae (ti (av (av Z)))
    by_cases hi:i<J.size
    . have hz:i<(qq (w.params.setOrder q O) J).size:=by omega
      refine .inl ⟨(qq (w.params.setOrder q O) J)[i].2,?_,hi,λB U R Z=>S B U R ?_⟩
      . rw[eL,cb]
        simp[hz]
      . rw[EZ hz]
        exact Z
    . refine .inr ⟨by omega,λB U R Z=>S B U R ?_⟩
      rw[L8 (by omega)];exact Z
  |false=>
    have N0:t.led=E3:=f.led bq;refine ae (av (ot _ λh' eh it sa=>?_));subst eh;refine⟨qs,[s.heap.objs.size,q],(λi h=>TZ h s.heap.objs.size q (.int (((λi=>if i=0 then 0 else t.place.getD (i-1) 0+1:Nat->Nat) i:Nat):Int) 0) i J.size O/\J2 h q J O t),lI _,aE _,Y,λb o z=>bg _ z,?_,it,sa⟩;have lv:(qs.map (·.2)).length=qs.length:=aw ..;rw[<-lv];refine jD (sl:=λi=>if i=0 then 0 else t.place.getD (i-1) 0+1) (es:=J) (t:=t) (ep:=O) (bX lq) f.fits (by rw[lv,W]) λi z O0 q9=>?_;obtain⟨oz,gz,_,dz⟩:=q9;have S:∀(sl:Nat) (B:aS) (U:ac->ah->Prop) (R:Option (ac×Nat)->ah->Prop),R (match J[zi t.place sl]?,t.place[zi t.place sl]? with | some (_,x),W1 j=>W1 (x,j+1) | _,_=>E2) z->ag (ai prog w) B (qo q sl i O) R U z:=λsl B U R Z=>by
      unfold qo;refine ae (om gz dz f.fits ?_);refine ae (show ag _ B Bz _ U z from ae (ti (av ?_)));rw[show (ai prog w).w.params.followText "set-order"=ZA from bq];dsimp only;rw[RF df];split
      . rename_i hd
        have S0:(!t.plain&&decide (J.size > 1))=E3:=hd;rw[f.pln] at S0;simp at S0
      . refine ae (show ag _ B (if (!t.led&&!J.isEmpty)=E3 then ET "set:maker-not-led" else pure ()) _ U z from ?_)
        rw[RF (by rw[N0];simp)];exact av (av Z)
    have eb:=Xn t.place f.rise (i:=i) (by rw[f.len];exact O0)
    by_cases hi:i<J.size
    . have hp:i<t.place.size:=by rw[f.len];exact hi
      refine .inl ⟨J[i].2,?_,hi,λB U R Z=>S _ B U R ?_⟩
      . rw[<-f.ent,cb]
        simp[hi]
      . rw[eb,EZ hi,EZ hp]
        have:(if i+1=0 then 0 else t.place.getD (i+1-1) 0+1)=t.place[i]+1:=by
          rw[RF (by omega),Nat.add_sub_cancel];simp[hp]
        rw[this] at Z;exact Z
    . refine .inr ⟨by omega,λB U R Z=>S _ B U R ?_⟩
      rw[eb,L8 (by omega)];exact Z
end
section
variable {A:aS}{I T:Addr}
theorem Pp.ty(x:Pp w s.heap q qs):s.TypeIs (.ref q) "set":=let ⟨_,_,⟨o,_,g,ex,_⟩,_⟩:=x;⟨o,g,ex.1⟩
theorem NK{ks:List (Int×ac)}{Q:List ac->ah->Prop}(hh:A.handled=E2)(x:Pp w s.heap q ks)(hz:ks.length<=4000)(k:∀(L:List (Int×ac)) (h':Heap) (tk:Nat),L.Perm ks->s.heap.objs.size<=h'.objs.size->(∀b o,s.heap.get? b=W1 o->h'.get? b=W1 o)->Q (L.map (·.2)) { s with heap:=h',toks:=tk }):
  ag (ai prog w) A (qv (.ref q)) Q E s:=by
 obtain⟨lq⟩:Nonempty (q<s.heap.objs.size):=let ⟨_,_,⟨_,_,g,_⟩,_⟩:=x;⟨bv g⟩;unfold qv;refine ae (xE (ia EG (show ag _ _ (do again (.builtin "list.__iadd__" ⟨[<-xl [],.ref q],[]⟩)) _ _ s from ?_)));refine ae (oj (av ⟨E4 _ (by decide +kernel),ia EH (show ag _ _ (xI (.ref s.heap.objs.size) (.ref q) (.ref s.heap.objs.size)) _ _ _ from ?_)⟩));have Z:Pp w (s.heap.push { cls:=.type "list",data:=.seq ([]:List ac).toArray }) q ks:=x.keep λo g=>bg _ g;unfold xI;refine ae (wv (T:="set") (Pp.ty (s:={ s with heap:=s.heap.push { cls:=.type "list",data:=.seq ([]:List ac).toArray } }) Z) ?_);have nr:L9 (.ref s.heap.objs.size) (.ref q)=ZA:=by simp[L9,nE lq]
 rw[RF (by rw[nr];decide)];refine ae (bO (s:={ s with heap:=s.heap.push { cls:=.type "list",data:=.seq ([]:List ac).toArray } }) Z λI h' p0=>?_);obtain⟨L,fp,Sx,hL,O0,S0,kp,W,st⟩:=p0;have x2:Pp w h' q ks:=Z.keep λo g=>kp q o g;refine ae (wpAny_holding (gJ (s:={ s with heap:=h' }) (Pp.ty (s:={ s with heap:=h' }) x2) ?_));have gS:h'.get? s.heap.objs.size=W1 { cls:=.type "list",dict:=E2,data:=.seq #[] 0,slots:=#[] }:=kp _ _ (cp _ rfl);have O:(s.heap.push { cls:=.type "list",data:=.seq ([]:List ac).toArray }).objs.size=s.heap.objs.size+1:=gi _ _;have nS:s.heap.objs.size∉fp:=λm=>by
  rcases S0 _ m with z | z
  .exact SF z (nE lq)
  .have z':(s.heap.push { cls:=.type "list",data:=.seq ([]:List ac).toArray }).objs.size<=s.heap.objs.size:=z;rw[O] at z';exact SF z' (Nat.not_succ_le_self _)
 have U:s.heap.objs.size+1<=I:=by rw[<-O];exact O0
 rw[OF (by decide +kernel)];refine ae (rb (ae (show ag _ _ (AH s.heap.objs.size (·.push .none) >>= λ_=>AH s.heap.objs.size (·.pop)) _ _ _ from ae (xB gS rfl ?_))));have g1:=mS (i6 (·.push fq)) gS rfl;refine xB (hz:=by seq_fits) g1 rfl ?_;have g2:=mS (i6 (·.pop)) g1 rfl;have S:∀b o,b≠s.heap.objs.size->h'.get? b=W1 o->((h'.update s.heap.objs.size (i6 (·.push fq))).update s.heap.objs.size (i6 (·.pop))).get? b=W1 o:=λb o nb g=>(kN _ _ (cq nb)).trans ((kN _ _ (cq nb)).trans g);have N0:=(W A hh).frame 0 _ _ st λb m o g=>S b o (λz=>nS (z▸m)) g;refine av ⟨kQ PySem.F.plain_extend_loop _,codeAny_extend_loopS (W _ (by simp[hh])).toS (cy (by rw[hL.length_eq];exact hz) (by decide)) s.heap.objs.size nS _ L.length 0 { s with heap:=(h'.update s.heap.objs.size (i6 (·.push fq))).update s.heap.objs.size (i6 (·.pop)) } #[] _ rfl (eA _) N0 g2 (ItemsOf.nil _) λs' J c' hm Y ha=>?_⟩;rw[Moved.eq_with hm];show ag _ A (load s.heap.objs.size >>= _) _ _ _;have ev:J.toList=L.map (·.2):=by
  apply DO;intro i;have hl:J.toList.length=L.length:=by rw[ke];exact ha.1
  by_cases c:i<L.length
  .have ga:J.toList[i]?=W1 (J.toList[i]'(by omega)):=cr (by omega);rw[ga];exact (ha.2 i _ (by rw[<-ER];exact ga)).symm
  .rw[oe (by omega),oe (by rw[aw];omega)]
 refine ae (vS Y (av (ev▸k L s'.heap s'.toks hL (sD (bv Y)) λb o g=>?_)));have lb:b<s.heap.objs.size:=bv g;refine hm.heap b o (λm=>?_) (S b o (bX lb) (kp b o (bg _ g)))
 rcases bP.mp m with z | z
 .exact SF z (bX lb)
 .exact SF (fR.mp z) (bX (eK lb (Nat.le_of_succ_le U)))
theorem V9{qs:List (km×Addr)}(hh:A.handled=E2)(x:Pp w s.heap q (qp qs))(S:∀x∈qs,QY prog w s.heap x.1 x.2)(nd:(qs.map (·.1)).Nodup)(k:∀(L:List (km×Addr)) (e:Nat) (l:Addr) (h':Heap) (tk:Nat),L.Perm qs->(L.map λx=>Pt x.1).Pairwise (·<·)->h'.get? l=W1 (lP "list" (L.map λx=>ba x.2).toArray e)->s.heap.objs.size<=l->(∀b o,s.heap.get? b=W1 o->h'.get? b=W1 o)->Q (.ref l) { s with heap:=h',toks:=tk }):
  ag (ai prog w) A (call (.builtin "sorted") [.ref q]) Q E s:=by
 have sz:qs.length<=18:=let ⟨_,_,_,f⟩:=x;by simpa using f.sz
 refine xL xS y0 ya (yi _) ?_;unfold de.«sorted»;refine ae (m:=yk "sorted" 1 1 _) (av (ae (NK (A:=A.in1) hh x (by rw[aw];omega) λL0 Y tk U le O=>?_)));obtain⟨L,eL,J⟩:=V7 U;subst eL;rw[show ((L.map λx:km×Addr=>(hP x.1,ba x.2)).map (·.2))=L.map λx=>ba x.2 from bS ..];have z:(L.map λx=>ba x.2).length<=60:=by rw[aw,J.length_eq];omega
 refine ae (oj ?_ (cy z (by decide)));have gl:(Y.push { cls:=.type "list",data:=.seq (L.map λx=>ba x.2).toArray }).get? Y.objs.size=W1 (lP "list" (L.map λx=>ba x.2).toArray 0):=cp _ rfl;refine ae (wpAny_holding (hU yn ⟨_,gl,rfl⟩ yA (RM gl (λx hx=>(S x (J.mem_iff.mp hx)).keep λo g=>bg _ (O _ o g)) ((J.map (·.1)).nodup_iff.mpr nd) (by rw[J.length_eq];omega) λL2 p2 Z=>⟨_,rfl,?_⟩) (yB _)));obtain⟨c,hc⟩:=yT (out:=(L2.map λx=>ba x.2).toArray) gl;refine av ⟨_,rfl,k L2 c _ _ tk (p2.trans J) Z hc le λb o g=>?_⟩;have W:=bv (O b o g);rw[yY (bX W) (by rw[gi];exact jp W)];exact bg _ (O b o g)
end
abbrev V_ (w:ca) (q:Addr) (rs:List (km×Addr)):HO:=.ext λh=>Pp w h q (qp rs)
abbrev TH (qs:List (km×Addr)):List V:=qs.map λx=>V.ref x.2
def AtP(X:Cx)(H:Hp)(qs:List (km×Addr)):Prop:=∀x∈qs,Re x.1/\NM X.K H x.2 ((kk x.1).map kV)
section
theorem Um(val:Nat->km):∀{n:Nat}{y:km},y∈NY val n↔∃i,i<n/\val i=y
 |0,y=>by simp[NY]
 |n+1,y=>by
  rw[Ky];unfold NS;have I:=Um val (n:=n) (y:=y);split
  .rename_i h;rw[I];constructor
   .rintro⟨i,z,e⟩;exact⟨i,by omega,e⟩
   .rintro⟨i,z,e⟩
    by_cases c:i=n
    .subst c;obtain⟨j,U,J⟩:=(Um val (n:=i) (y:=val i)).mp h;exact⟨j,U,J.trans e⟩
    .exact⟨i,by omega,e⟩
  .rw[dQ,I,fR];constructor
   .rintro (⟨i,z,e⟩ | e)
    .exact⟨i,by omega,e⟩
    .exact⟨n,by omega,e.symm⟩
   .rintro⟨i,z,e⟩
    by_cases c:i=n
    .subst c;exact .inr e.symm
    .exact .inl ⟨i,by omega,e⟩
def Za{qs:List (km×Addr)}(I:Inv X π σ H s)(h:AtP X H qs):∀x∈qs,QY X.prog X.w s.heap x.1 x.2:=λx z=>⟨(h x z).1,tup_is I (h x z).2⟩
def WD{qs:List (km×Addr)}(r:cc (TH qs) us)(i:Nat)(v:ac)(h:us[i]?=W1 v):v=.ref (qs.getD i ((0,0),0)).2:=by
 have e:us=(qs.map (·.2)).map ba:=NB (bs:=qs.map (·.2)) (by rw[bS];exact r);rw[e,bS,cb] at h;obtain⟨x,z,rfl⟩:=iA.mp h;simp[z]
def prsL{R:Nat->ac->Prop}(i:Inv X π σ H s)(h:MR X.K H p xs)(k:∀us,cc xs us->∀i v,us[i]?=W1 v->R i v):TN X.prog X.w "list" p xs.length R s.heap:=by
 obtain⟨I,r,L,_⟩:=i.list h;obtain⟨o,g,c,m,d⟩:=L.isList;have Y:=r.length;refine⟨λz e=>⟨o,e o g,c⟩,by rw[qk];kernel_rfl,by rw[qk];kernel_rfl,by decide,bv g,λA E z Q S e lt y=>?_⟩;have J:z.heap.IsList p I.toArray:=⟨o,e o g,c,m,d⟩;refine zI J (y _ (λi h=>h.IsListIter z.heap.objs.size p i/\h.IsList p I.toArray) (λi v=>I.toArray[i]?=W1 v) (λT O=>by rw[Y,<-cw];exact AJ O _ p (bX lt) I.toArray) ⟨⟨_,cp _ rfl,rfl,rfl⟩,J.push _⟩ λi v q=>k I r i v (by simpa using q))
def prsT{R:Nat->ac->Prop}(i:Inv X π σ H s)(h:Nn X.K H p xs)(k:∀us,cc xs us->∀i v,us[i]?=W1 v->R i v):TN X.prog X.w "tuple" p xs.length R s.heap:=by
 obtain⟨I,r,L,_⟩:=i.tuple h;obtain⟨o,g,c,m,d⟩:=(show s.heap.IsTuple p I.toArray from L);have Y:=r.length;refine⟨λz e=>⟨o,e o g,c⟩,by rw[qk];kernel_rfl,by rw[qk];kernel_rfl,by decide,bv g,λA E z Q U e lt y=>?_⟩;have J:z.heap.IsTuple p I.toArray:=⟨o,e o g,c,m,d⟩;refine vT J (y _ (λi h=>h.IsTupleIter z.heap.objs.size p i/\h.IsTuple p I.toArray) (λi v=>I.toArray[i]?=W1 v) (λW O=>by rw[Y,<-cw];exact Walks.tuple O _ p (bX lt) I.toArray) ⟨⟨_,cp _ rfl,rfl,rfl⟩,J.at λT S=>bg _ S⟩ λi v q=>k I r i v (by simpa using q))
def tB(X:Cx):List V->Hp->VK->Prop:=λxs H Q=>∃p qs,xs=[.ref p]/\(MR X.K H p (TH qs)∨Nn X.K H p (TH qs))/\AtP X H qs/\((qs.map (·.1)).foldl NS []).length<=4/\∀l z,H l=E2->(z.map (·.1)).Nodup->(∀x∈z,x∈qs)->(∀x∈qs,x.1∈z.map (·.1))->Q (.ref l) (fk H l (V_ X.w l z))
theorem bQ(hu:X.A.units+64<bE)(hc:X.calm=E3):CN X (.type "set") (tB X):=by
 intro π s σ H xs Z Q I r h;obtain⟨p,qs,rfl,hs,Y,U,k⟩:=h;obtain⟨u,rfl,ru⟩:=NJ r;cases ru;have O:=Za I Y;have U:(NY (λi=>(qs.getD i ((0,0),0)).1) qs.length).length<=4:=by
  unfold NY;rw[show (bb qs.length).map (λi=>(qs.getD i ((0,0),0)).1)=qs.map (·.1) from Bn (by simp) λi W h2=>by simp at W;simp[W]];exact U
 have go:∀{T:String},TN X.prog X.w T p qs.length (λi v=>v=.ref (qs.getD i ((0,0),0)).2) s.heap->ag (ai X.prog X.w) X.A (call (.type "set") [.ref p]) (EP X π σ Q) X.xe s:=λt=>by
  refine pI (B:=λb=>b∈qs.map (·.2)) (val:=λi=>(qs.getD i ((0,0),0)).1) (by omega) (I.ok.hd hc) t (λi z=>?_) U (λi z=>?_) (λb hb=>?_) λh' tk x kp=>?_
  .rw[show qs.getD i ((0,0),0)=qs[i] by simp[z]];exact O _ (eW z)
  .rw[show qs.getD i ((0,0),0)=qs[i] by simp[z]];exact aT.mpr ⟨_,eW z,rfl⟩
  .obtain⟨y,J,rfl⟩:=aT.mp hb;obtain⟨_,o,_,_,g,_⟩:=O y J;exact bv g
  .obtain⟨es,t,S,ob,f,pm,bq⟩:=x;have sub:∀x∈S,x∈qs:=λx L=>by
    obtain⟨y,J,e⟩:=aT.mp (bq x L);have iy:=(O y J).keep (g:=h') λo g=>kp _ o g;have ix:=f.isp x L;rw[<-e] at ix;have:=vf (ix.2.inj iy.2);rw[show x=y from wt this e.symm];exact J
   refine⟨.ref s.heap.objs.size,_,I.laid (a:=s.heap.objs.size) (o:=V_ X.w s.heap.objs.size S) (t':=tk) kp (aE _) ⟨⟨es,t,ob,f.toQ⟩,?_,λW h2 x1 e=>x1.keep e⟩,rfl,k _ S I.fresh f.nd sub λx L=>?_⟩
   .obtain⟨o,_,g,_⟩:=ob;exact⟨o,g⟩
   .obtain⟨i,z,e⟩:=ol.mp L;exact pm.mem_iff.mpr ((Um _).mpr ⟨i,z,by simp[z,e]⟩)
 rcases hs with hs | hs
 .exact go (by rw[<-aw (as:=qs) λx=>V.ref x.2];exact prsL I hs λZ r=>WD r)
 .exact go (by rw[<-aw (as:=qs) λx=>V.ref x.2];exact prsT I hs λZ r=>WD r)
def RN(X:Cx):List V->Hp->VK->Prop:=λxs H Q=>∃p z,xs=[.ref p]/\(H p=W1 (V_ X.w p z)∨((MR X.K H p (TH z)∨Nn X.K H p (TH z))/\z.length<=60))/\AtP X H z/\(z.map (·.1)).Nodup/\∀l ts,H l=E2->ts.Perm z->(ts.map λx=>Pt x.1).Pairwise (·<·)->Q (.ref l) (fk H l (.lst (TH ts)))
theorem RP:∀(qs:List (km×Addr)),cc (TH qs) (qs.map λx=>ba x.2)
 |[]=>.nil
 |x::r=>.cons rfl (RP r)
theorem Pu{A:aS}{l:Addr}{T:String}{Q:List ac->ah->Prop}(O:T="list"∨T="tuple")(I:s.heap.get? l=W1 o)(L:o.cls=.type T)(J:o.data=.seq vs.toArray n)(hz:vs.length<=1000)(k:∀h',s.heap.objs.size<=h'.objs.size->(∀b o,s.heap.get? b=W1 o->h'.get? b=W1 o)->Q vs { s with heap:=h' }):ag (ai prog w) A (qv (.ref l)) Q E s:=by
 unfold qv;refine ae (xE (ia EG (show ag _ _ (do again (.builtin "list.__iadd__" ⟨[<-xl [],.ref l],[]⟩)) _ _ s from ?_)));refine ae (oj (av ⟨E4 _ (by decide +kernel),ia EH (show ag _ _ (xI (.ref s.heap.objs.size) (.ref l) (.ref s.heap.objs.size)) _ _ { s with heap:=s.heap.push (lP "list" #[] 0) } from ?_)⟩));have z:(s.heap.push (lP "list" #[] 0)).get? l=W1 o:=bg _ I;unfold xI;refine ae (wv (T:=T) ⟨o,z,L⟩ ?_);rw[OF (by rcases O with rfl | rfl<;>simp)];refine ae (Lc z J (ae (Lc (xs:=#[]) (n:=0) (cp _ rfl) rfl ?_)));rw[RF (by simp)];refine ae (PyProof.Rows.listUpdate_at (xs:=#[]) (n:=0) (cp _ rfl) rfl ?_ (eA _) (by simp only[Array.size_append,cw,A9,eR];omega));refine av (show ag (ai prog w) A (load s.heap.objs.size >>= _) Q E _ from ae (vS (PyProof.Rows.get?_update_seq (cp _ rfl) _) ?_));show ag _ _ (pure ((#[]:Array ac)++vs.toArray).toList) Q E _;rw[show ((#[]:Array ac)++vs.toArray).toList=vs by simp];refine av (k _ (by rw[Heap.size_update,gi];exact kr _) λb o g=>?_);rw[Heap.get?_update_ne _ _ _ _ (bX (bv g))];exact bg _ g
theorem NP(hc:X.calm=E3):CN X (.builtin "sorted") (RN X):=by
 intro π s σ H xs us Q I r h;obtain⟨p,O,rfl,J,S0,nd,k⟩:=h;obtain⟨u,rfl,ru⟩:=NJ r;cases ru;have W:=Za I S0
 rcases J with J | ⟨J,hz⟩
 .obtain⟨x,_,_⟩:=(show BJ X.prog X.w H s.heap p (V_ X.w p O) from I.hok p _ J);have sz:O.length<=18:=let ⟨_,_,_,f⟩:=x;by simpa using f.sz
  refine V9 (I.ok.hd hc) x W nd λL e l h' tk hL hS g S U=>?_;exact⟨.ref l,_,I.laid (a:=l) (o:=.lst (TH L)) (t':=tk) U S ⟨by rw[aw,hL.length_eq,eR];omega,_,e,RP L,g⟩,rfl,k l L (I.hok.fresh S) hL hS⟩
 .have go:∀{T:String}{o:Obj}{n:Nat},(T="list"∨T="tuple")->s.heap.get? p=W1 o->o.cls=.type T->o.data=.seq (O.map λx=>ba x.2).toArray n->ag (ai X.prog X.w) X.A (call (.builtin "sorted") [.ref p]) (EP X π σ Q) X.xe s:=λ{T o n} hT ho N0 hd=>by
   refine xL xS y0 ya (yi _) ?_;unfold de.«sorted»;refine ae (m:=yk "sorted" 1 1 _) (av (ae (Pu hT ho N0 hd (by rw[aw];omega) λY S U=>?_)));refine ae (oj ?_ (by rw[aw,eR];omega));have gl:(Y.push { cls:=.type "list",data:=.seq (O.map λx=>ba x.2).toArray }).get? Y.objs.size=W1 (lP "list" (O.map λx=>ba x.2).toArray 0):=cp _ rfl;refine ae (wpAny_holding (hU yn ⟨_,gl,rfl⟩ yA (RM gl (λx hx=>(W x hx).keep λo g=>bg _ (U _ o g)) nd (by omega) λL2 p2 s2=>⟨_,rfl,?_⟩) (yB _)));obtain⟨c,O0⟩:=yT (out:=(L2.map λx=>ba x.2).toArray) gl;refine av ⟨_,rfl,.ref Y.objs.size,_,I.laid (a:=Y.objs.size) (o:=.lst (TH L2)) (t':=s.toks) (λb o g=>?_) S ⟨by rw[aw,p2.length_eq,eR];omega,_,c,RP L2,O0⟩,rfl,k _ L2 (I.hok.fresh S) p2 s2⟩;have lb:=bv (U b o g);rw[yY (bX lb) (by rw[gi];exact jp lb)];exact bg _ (U b o g)
  have ei:∀{z:List ac},cc (TH O) z->z=O.map λx=>ba x.2:=λ{z} r=>by
   have:=NB (bs:=O.map (·.2)) (us:=z) (by rw[bS];exact r);rw[this,bS];rfl
  rcases J with J | J
  .obtain⟨z,r,Z,_⟩:=I.list J;obtain⟨o,g,c,m,d⟩:=Z.isList;exact go (.inl rfl) g c (by rw[<-ei r];exact d)
  .obtain⟨z,r,Z,_⟩:=I.tuple J;obtain⟨o,g,c,m,d⟩:=(show s.heap.IsTuple p z.toArray from Z);exact go (.inr rfl) g c (by rw[<-ei r];exact d)
end
def UR(p:km):List km->List km
 |[]=>[p]
 |q::r=>if Pt p<Pt q then p::q::r else if Pt p=Pt q then q::r else q::UR p r
def Am(ps:List km):List km:=ps.foldr UR []
abbrev OV (l:List km):Prop:=(l.map Pt).Pairwise (·<·)
theorem RQ{p x:km}(z:Re p):∀{l:List km},(∀q∈l,Re q)->(x∈UR p l↔x=p∨x∈l)
 |[],_=>by simp[UR]
 |q::r,h=>by
  have I:=RQ (x:=x) z (l:=r) λy J=>h y (by simp[J]);unfold UR;split
  .simp
  .split
   .rename_i _ e;have:p=q:=ZZ z (h q (by simp)) e;subst this;simp
   .rw[bP,I,bP];constructor
    .rintro (a | a | a)
     .exact .inr (.inl a)
     .exact .inl a
     .exact .inr (.inr a)
    .rintro (a | a | a)
     .exact .inr (.inl a)
     .exact .inl a
     .exact .inr (.inr a)
theorem WF{p:km}(S:Re p):∀{l:List km},(∀q∈l,Re q)->OV l->OV (UR p l)
 |[],_,_=>by simp[UR,OV]
 |q::r,h,s=>by
  have L:∀y∈r,Re y:=λy I=>h y (by simp[I]);have J:(∀y∈r,Pt q<Pt y)/\OV r:=by
   rw[OV,bn,kA] at s;exact⟨λy I=>s.1 _ (aT.mpr ⟨y,I,rfl⟩),s.2⟩
  have T:=WF S L J.2;unfold UR;split
  .rename_i c;rw[OV,bn,kA];refine⟨λy I=>?_,s⟩;obtain⟨z,O,rfl⟩:=aT.mp I
   rcases bP.mp O with rfl | O
   .exact c
   .exact HK c (J.1 z O)
  .split
   .exact s
   .rename_i W U;rw[OV,bn,kA];refine⟨λy I=>?_,T⟩;obtain⟨z,O,rfl⟩:=aT.mp I
    rcases (RQ S L).mp O with rfl | O
    .omega
    .exact J.1 z O
theorem NQ:∀{ps:List km},(∀p∈ps,Re p)->OV (Am ps)/\∀x,x∈Am ps↔x∈ps
 |[],_=>⟨by simp[Am,OV],λx=>by simp[Am]⟩
 |p::r,h=>by
  have z:∀y∈r,Re y:=λy I=>h y (by simp[I]);obtain⟨a,b⟩:=NQ z;have hs:∀q∈Am r,Re q:=λq T=>z q ((b q).mp T);exact⟨WF (h p (by simp)) hs a,λx=>by show x∈UR p (Am r)↔_;rw[RQ (h p (by simp)) hs,b,bP]⟩
theorem Uo:∀{l m:List km},OV l->OV m->(∀x,x∈l↔x∈m)->l=m
 |[],[],_,_,_=>rfl
 |[],y::m,_,_,h=>SF ((h y).mpr (by simp)) (by simp)
 |x::l,[],_,_,h=>SF ((h x).mp (by simp)) (by simp)
 |x::l,y::m,a,b,h=>by
  rw[OV,bn,kA] at a b;have J:∀z∈l,Pt x<Pt z:=λz O=>a.1 _ (aT.mpr ⟨z,O,rfl⟩);have b1:∀z∈m,Pt y<Pt z:=λz O=>b.1 _ (aT.mpr ⟨z,O,rfl⟩);have e:x=y:=by
   rcases bP.mp ((h x).mp (by simp)) with z | z
   .exact z
   .rcases bP.mp ((h y).mpr (by simp)) with w | w
    .exact w.symm
    .have:=b1 x z;have:=J y w;omega
  subst e;have:=Uo a.2 b.2 λz=>by
   have O:=h z;rw[bP,bP] at O;constructor
   .intro c
    rcases O.mp (.inr c) with d | d
    .subst d;have:=J z c;omega
    .exact d
   .intro c
    rcases O.mpr (.inr c) with d | d
    .subst d;have:=b1 z c;omega
    .exact d
  rw[this]
abbrev prT (p:km):D:=.tup [.int (p.1:Int),.int (p.2:Int)]
def tssL(ds:List D):Option D:=(PM ds).bind λps=>if (ps.foldl NS []).length<=4 then W1 (.tup ((Am ps).map prT)) else E2
def tssD:D->Option D
 |.lst ds=>tssL ds
 |.tup ds=>tssL ds
 |_=>E2
def tslL(ds:List D):Option D:=(PM ds).bind λps=>if ps.length<=17/\ps.Nodup then W1 (.tup ((Am ps).map prT)) else E2
def tslD:D->Option D
 |.lst ds=>tslL ds
 |.tup ds=>tslL ds
 |_=>E2
section
variable {a:Expr}{fa:FE}
theorem Sm{H:Hp}:∀{ks:List km}{bs:List Addr},mo (λk c=>NM X.K H c (k.map kV)) (RS ks) bs->(∀p∈ks,Re p)->∃qs:List (km×Addr),bs=qs.map (·.2)/\ks=qs.map (·.1)/\AtP X H qs
 |[],_,.nil,_=>⟨[],rfl,rfl,λx z=>by cases z⟩
 |k::ks,_,.cons r t,h=>by
  obtain⟨qs,O,L,J⟩:=Sm t λp I=>h p (by simp[I]);refine⟨(k,_)::qs,by rw[bn,<-O],by rw[bn,<-L],λx z=>?_⟩
  rcases bP.mp z with rfl | z
  .exact⟨h k (by simp),r⟩
  .exact J x z
def J9{qs:List (km×Addr)}(s:ab H H')(h:AtP X H qs):AtP X H' qs:=λx I=>by
 obtain⟨a,b⟩:=h x I;refine⟨a,?_⟩
 rcases b with (z | ⟨o,z⟩) | z
 .exact .inl (.inl (s _ _ z))
 .exact .inl (.inr ⟨o,s _ _ z⟩)
 .exact .inr z
theorem pJ{ts:List (km×Addr)}(W:G.K=X.K)(h:AtP X (bm A H) ts):be G (bm A H) (TH ts) ((ts.map (·.1)).map prT):=by
 refine⟨by simp,λi x d z I=>?_⟩;rw[cb] at z;rw[bS,cb] at I;cases e:ts[i]? with
 |none=>rw[e] at z;cases z
 |some y=>
  rw[e] at z I;cases z;cases I;obtain⟨_,t⟩:=h y (pT e);rw[<-W] at t;refine .tup (xs:=[.int (y.1.1:Int),.int (y.1.2:Int)]) t rfl λj x d z I=>?_
  match j,z,I with
  |0,z,I=>cases z;cases I;exact .int _
  |1,z,I=>cases z;cases I;exact .int _
  |j+2,z,_=>simp at z
def Su{qs ts:List (km×Addr)}{ps:List km}(e:ps=qs.map (·.1))(W:∀p∈ps,Re p)(T:(ts.map λx=>Pt x.1).Pairwise (·<·))(I:∀x,x∈ts.map (·.1)↔x∈ps):ts.map (·.1)=Am ps:=by
 obtain⟨z,S⟩:=NQ W;refine Uo ?_ z λx=>by rw[I,S]
 rw[OV,bS];exact T
def Zb{z:Hp}{l:Addr}{ts:List (km×Addr)}{ps:List km}{Q:VK}(W:G.K=X.K)(o:OQ G A σ H ρ)(S:ab H z)(I:AtP X (bm A z) ts)(Y:z l=E2)(L:ts.map (·.1)=Am ps)(k:∀v H',ab H H'->hQ G (bm A H') v (.tup ((Am ps).map prT))->Q v H'):(∃p ys,[V.ref l]=[.ref p]/\((MR X.K (fk z l (.lst (TH ts))) p ys/\∀m,fk z l (.lst (TH ts)) m=E2->Q (.ref m) (fk (fk z l (.lst (TH ts))) m (.tup ys)))∨(Nn X.K (fk z l (.lst (TH ts))) p ys/\Q (.ref p) (fk z l (.lst (TH ts)))))):=by
 refine⟨l,TH ts,rfl,.inl ⟨.of Ag,λm J=>k _ _ ?_ ?_⟩⟩
 .exact (S.trans (Ak Y _)).trans (Ak J _)
 .have U:ab H (fk z l (.lst (TH ts))):=S.trans (Ak Y _);refine Eo (o.mono U).live J ?_;rw[<-L];exact pJ W (J9 (Ay (Ak Y _)) I)
theorem vz{z:Str}{p q r I:Pos}(hu:X.A.units+64<bE)(hc:X.calm=E3)(hG:G.K=X.K)(hg:Gl X z)(hm:X.mg z=E2)(hv:d6 z=W1 (.type "tuple"))(Y1:Gl X x)(U1:X.mg x=E2)(X0:d6 x=W1 (.builtin "sorted"))(X1:Gl X y)(S1:X.mg y=E2)(T0:d6 y=W1 (.type "set"))(ha:PU X G a fa)(hn:z≠"__name__":=by decide)(Q2:(z==("__debug__":Str))=ZA:=by decide)(P1:x≠"__name__":=by decide)(N0:(x==("__debug__":Str))=ZA:=by decide)(N1:y≠"__name__":=by decide)(Y:(y==("__debug__":Str))=ZA:=by decide)(he:ay [a] X.env=[(ZA,eval a X.env)]:=by rfl)(Z:ay [.Call (.Name y q) [a] [] pos2] X.env=[(ZA,eval (.Call (.Name y q) [a] [] pos2) X.env)]:=by rfl)(W:ay [.Call (.Name x p) [.Call (.Name y q) [a] [] pos2] [] I] X.env=[(ZA,eval (.Call (.Name x p) [.Call (.Name y q) [a] [] pos2] [] I) X.env)]:=by rfl):
  PF X G (.Call (.Name z r) [.Call (.Name x p) [.Call (.Name y q) [a] [] pos2] [] I] [] pos) (uF tssD fa):=λA=>Bp (En K7 hg hm hv (BW (Iw (NP hc) Y1 U1 X0 (BW (En (bQ hu hc) X1 S1 T0 (BW (@ha A) Cp he) N1 Y he rfl) Cp Z) P1 N0 Z rfl) Cp W) hn Q2 W rfl)<|by
 rintro σ H Q ⟨ρ,d,o,e,k⟩
 obtain⟨dx,e1,e2⟩:=Ht e;refine⟨ρ,dx,o,e1,λv U s1 r1=>?_⟩;have S:∀(ds:List D) (J:Addr) (L:List V),tssL ds=W1 d->v=.ref J->(MR G.K U J L∨Nn G.K U J L)->be G (bm A U) L ds->tB X [v] U λx2 H2=>RN X [x2] H2 λx3 H3=>(∃p ys,[x3]=[.ref p]/\((MR X.K H3 p ys/\∀l,H3 l=E2->Q (.ref l) (fk H3 l (.tup ys)))∨(Nn X.K H3 p ys/\Q (.ref p) H3))):=λds J L e3 ev hs rr=>by
  unfold tssL at e3;obtain⟨ps,ez,e4⟩:=u7.mp e3;split at e4
  .rename_i hz;cases e4;obtain⟨i5,bs,rfl,pr⟩:=QV rr ez;rw[hG] at pr;obtain⟨qs,eb,eq,at0⟩:=Sm pr i5;have er:bs.map V.ref=TH qs:=by rw[eb,bS];rfl
   have O0:AtP X U qs:=J9 Ao at0;refine⟨J,qs,by rw[ev],by rw[<-hG,<-er];exact hs,O0,by rw[eq] at hz;exact hz,λl rs hl nd sub all=>⟨l,rs,rfl,.inl Ag,J9 (Ak hl _) λx O=>O0 x (sub x O),nd,λm ts hm T S0=>?_⟩⟩;have s2:ab H (fk U l (V_ X.w l rs)):=s1.trans (Ak hl _);refine Zb (ps:=ps) hG o s2 (λx O=>J9 (Ay (Ak hl _)) at0 x (sub x (T.mem_iff.mp O))) hm (Su eq i5 S0 λx=>?_) k;constructor
   .intro O;obtain⟨y,hy,rfl⟩:=aT.mp O;rw[eq];exact aT.mpr ⟨y,sub y (T.mem_iff.mp hy),rfl⟩
   .intro O;rw[eq] at O;obtain⟨y,hy,rfl⟩:=aT.mp O;obtain⟨z,hz,ez⟩:=aT.mp (all y hy);exact aT.mpr ⟨z,T.mem_iff.mpr hz,ez⟩
  .cases e4
 unfold tssD at e2;split at e2
 .obtain⟨J,L,ev,hs,r⟩:=r1.lst;exact S _ J L e2 ev (.inl hs) r
 .obtain⟨J,L,ev,hs,r⟩:=r1.tup;exact S _ J L e2 ev (.inr hs) r
 .cases e2
def v4{z:Str}{p r I:Pos}(hc:X.calm=E3)(hG:G.K=X.K)(hg:Gl X z)(hm:X.mg z=E2)(hv:d6 z=W1 (.type "tuple"))(X0:Gl X x)(T0:X.mg x=E2)(O0:d6 x=W1 (.builtin "sorted"))(ha:PU X G a fa)(hn:z≠"__name__":=by decide)(N1:(z==("__debug__":Str))=ZA:=by decide)(S0:x≠"__name__":=by decide)(U:(x==("__debug__":Str))=ZA:=by decide)(he:ay [a] X.env=[(ZA,eval a X.env)]:=by rfl)(S:ay [.Call (.Name x p) [a] [] I] X.env=[(ZA,eval (.Call (.Name x p) [a] [] I) X.env)]:=by rfl):
  PF X G (.Call (.Name z r) [.Call (.Name x p) [a] [] I] [] pos) (uF tslD fa):=λA=>Bp (En K7 hg hm hv (BW (Iw (NP hc) X0 T0 O0 (BW (@ha A) Cp he) S0 U he rfl) Cp S) hn N1 S rfl)<|by
 rintro σ H Q ⟨ρ,d,o,e,k⟩
 obtain⟨dx,e1,Y⟩:=Ht e;refine⟨ρ,dx,o,e1,λv H1 s1 r1=>?_⟩;have O:∀(ds:List D) (J:Addr) (L:List V),tslL ds=W1 d->v=.ref J->(MR G.K H1 J L∨Nn G.K H1 J L)->be G (bm A H1) L ds->RN X [v] H1 λx3 Z=>(∃p ys,[x3]=[.ref p]/\((MR X.K Z p ys/\∀l,Z l=E2->Q (.ref l) (fk Z l (.tup ys)))∨(Nn X.K Z p ys/\Q (.ref p) Z))):=λds J L e3 W hs rr=>by
  unfold tslL at e3;obtain⟨ps,ez,e4⟩:=u7.mp e3;split at e4
  .rename_i hz;cases e4;obtain⟨i5,bs,rfl,pr⟩:=QV rr ez;rw[hG] at pr;obtain⟨qs,eb,eq,at0⟩:=Sm pr i5;have er:bs.map V.ref=TH qs:=by rw[eb,bS];rfl
   have P1:AtP X H1 qs:=J9 Ao at0;have lz:qs.length<=17:=by have:=hz.1;rw[eq,aw] at this;exact this
   refine⟨J,qs,by rw[W],.inr ⟨by rw[<-hG,<-er];exact hs,by omega⟩,P1,by rw[<-eq];exact hz.2,λm ts hm T N0=>?_⟩;refine Zb (ps:=ps) hG o s1 (λx hx=>at0 x (T.mem_iff.mp hx)) hm (Su eq i5 N0 λx=>?_) k;rw[eq];exact (T.map (·.1)).mem_iff
  .cases e4
 unfold tslD at Y;split at Y
 .obtain⟨J,L,W,hs,r⟩:=r1.lst;exact O _ J L Y W (.inl hs) r
 .obtain⟨J,L,W,hs,r⟩:=r1.tup;exact O _ J L Y W (.inr hs) r
 .cases Y
end
open PyProof.Rows hiding St
def VW(val:Nat->Int):Nat->Int
 |0=>val 0
 |k+1=>if val (k+1)<VW val k then val (k+1) else VW val k
def Zc(x y:D):Option D:=match x with
 |.lst ds=>(Ey ds).map λns=>if ns=[] then y else .int (VW (λi=>ns.getD i 0) (ns.length-1))
 |_=>E2
def bR(a v:ac):og "min" ⟨[a],[(eB "default",v)]⟩:=by unfold og;kernel_rfl
theorem RT(val:Nat->Int):∀k,val (ip (λi j=>decide (val i<val j)) k)=VW val k
 |0=>rfl
 |k+1=>by
  have z:=RT val k;unfold ip VW
  by_cases h:val (k+1)<VW val k
  .rw[OF (by rw[z];exact MG h),OF h]
  .rw[RF (by rw[z];simpa using h),RF h];exact z
theorem O1{f g:Nat->Int}:∀{k:Nat},(∀i,i<=k->f i=g i)->VW f k=VW g k
 |0,h=>h 0 (aE _)
 |k+1,h=>by
  unfold VW;rw[h (k+1) (aE _),O1 λi z=>h i (AF z)]
def mMin:Mm:=⟨"min","min.loop",.Lt,λi j=>decide (i<j),VW,by decide,PySem.F.plain_min_loop,PySem.F.entry_min_loop,PySem.F.kind_min,PySem.F.plain_min,PySem.F.entry_min,bR,CmpOf.ints_lt,RT,O1⟩
section
variable {a b:Expr}{fa fb:FE}{p kpos:Pos}
def pK(T:X.calm=E3)(Z:G.K=X.K)(U:Gl X x)(L:X.mg x=E2)(I:d6 x=W1 (.builtin "min"))(Y:PU X G a fa)(W:PF X G b fb)(J:x≠"__name__":=by decide)(z:(x==("__debug__":Str))=ZA:=by decide)(S:ay [a] X.env=[(ZA,eval a X.env)]:=by rfl)(O:iL [⟨W1 (eB "default"),b,kpos⟩] X.env=[(W1 (eB "default"),eval b X.env)]:=by rfl):
  PF X G (.Call (.Name x p) [a] [⟨W1 (eB "default"),b,kpos⟩] pos) (bF Zc fa fb):=rF mMin T Z U L I Y W J z S O
end
def tD(K:aI):R2:=λx y H Q=>∃a b xs ys,x=.ref a/\y=.ref b/\Nn K H a xs/\Nn K H b ys/\ys≠[]/\xs.length+ys.length<=sizeLine ∧
 (xs=[]->Q (.ref b) H)/\∀p,H p=E2->Q (.ref p) (fk H p (.tup (xs++ys)))
def catU:D->D->Option D
 |.tup ds,.tup es=>if es≠[]/\ds.length+es.length<=1000 then W1 (.tup (ds++es)) else E2
 |_,_=>E2
section
theorem pM:NH X (kg .Add) (tD X.K):=by
 intro π s σ H x y v u Q I rx ry h;obtain⟨a,b,xs,ys,rfl,rfl,ha,hb,hy,hz,q1,q2⟩:=h;cases rx;cases ry;obtain⟨L,Y,p1,_⟩:=I.tuple ha;obtain⟨J,W,p2,_⟩:=I.tuple hb
 by_cases Z:L=[]
 .obtain⟨⟨cls,dd,S0,sl⟩,ho,hc,n,hd⟩:=id p1;obtain⟨⟨T0,N0,O0,U⟩,O,T,n2,S⟩:=id p2;simp only at hc hd T S;subst hc hd T S;exact A3 ⟨_,ho,rfl⟩ ⟨_,O,rfl⟩ D3 D4 D5 D6 (D7 _ _)
   (tuple_addW0 a b L.toArray J.toArray n n2 dd N0 sl U (by simp[Z])) ⟨ho,O,⟨.ref b,H,I,rfl,q1 (Y.nil_iff.mp Z)⟩⟩
 .refine HT.mR p1 p2 Z (λz=>SF (W.nil_iff.mp z) hy) (λz=>?_) (by rw[<-Y.length,<-W.length];exact hz);refine⟨.ref s.heap.objs.size,_,I.laid (t':=s.toks) (o:=.tup (xs++ys)) (λb ob q=>bg _ q) (aE _) ?_,rfl,q2 _ (I.hok.fresh (aE _))⟩;exact⟨by rw[ff];exact hz,_,Y.append W,DB _ _⟩
def jE:Dw G (tD G.K) catU:=by
 intro A H x y dx dy d Q U rx I h k;unfold catU at h;split at h
 .rename_i ds es;split at h
  .rename_i W;cases h;obtain⟨l,T,rfl,Z,J⟩:=rx.tup;obtain⟨m,S,rfl,Y,L⟩:=I.tup;refine⟨l,m,T,S,rfl,rfl,Z,Y,λz=>W.1 ?_,by rw[J.1,L.1,eR];omega,λz=>?_,λp O=>k _ _ (Ak O _) (Eo U O (J.append L))⟩
   .rw[z] at L;exact qf.mp L.1.symm
   .have:ds=[]:=by
     rw[z] at J;exact qf.mp J.1.symm
    rw[this,oy] at k
    rcases I with I | ⟨a,e,I⟩
    .exact k _ H (ab.refl H) I
    .exact I.elim
  .cases h
 .cases h
end
section
variable {A:aS}
def NxOk(prog:d3)(w:ca)(s:ah)(it:Addr)(x:ac)(P:Heap->Prop):Prop:=∀(B:aS) (U:ac->ah->Prop) (R:ac->ah->Prop),(∀h1,f6 it s.heap h1->P h1->R x { s with heap:=h1 })->ag (ai prog w) B (BA (.ref it)) R U s
def pO{e:Addr}{x old:ac}{P:Heap->Prop}{Q:Option ac->ah->Prop}(he:n9 s.heap e it i old)(L:e≠it)(nx:NxOk prog w s it x P)(st:∀g g',P g->(∀o,g.get? it=W1 o->g'.get? it=W1 o)->P g')(k:∀h',IsEnumOut h' e it ((i:Int)+1) x s.heap.objs.size->P h'->h'.get? s.heap.objs.size=W1 { cls:=.type "tuple",data:=.seq #[.int i s.toks,x] }->h'.objs.size=s.heap.objs.size+1->(∀b o,b≠e->b≠it->s.heap.get? b=W1 o->h'.get? b=W1 o)->Q (W1 (.ref s.heap.objs.size)) { s with heap:=h',toks:=s.toks+1 }):
  ag (ai prog w) A (gg (.ref e)) Q E s:=by
 have ty:s.TypeIs (.ref e) "enumerate":=⟨_,he,rfl⟩;have le:e<s.heap.objs.size:=bv he;unfold gg;refine ae (AM (ro (name:=eB "__next__") ty BB (hU BB ty Ll ?_ (Lm _))));obtain⟨T,U,Y,tk,S⟩:=s;show ag _ _ (qS (.ref e) 2 >>= _) _ _ _;refine ae (ku he rfl (x:=.ref it) rfl (ae (nx _ _ _ λW (J:f6 it T W) p1=>?_)));have e1:n9 W e it i old:=(J.2 e L).trans he;show ag _ _ (qS (.ref e) 3 >>= _) _ _ ⟨W,U,Y,tk,S⟩;refine ae (ku e1 rfl (x:=eP i) rfl ?_);show ag _ _ (qS (.ref e) 4 >>= _) _ _ ⟨W,U,Y,tk,S⟩;refine ae (ku e1 rfl (x:=.none) rfl ?_);show ag _ _ (mkInt i >>= _) _ _ ⟨W,U,Y,tk,S⟩;refine ae (wpAny_mkInt ?_);show ag _ _ (setField (.ref e) 3 (eP ((i:Int)+1)) >>= _) _ _ ⟨W,U,Y,tk+1,S⟩;refine ae (zj e1 (by simp) λg2 (e2:n9 g2 e it ((i:Int)+1) old) (I:f6 e W g2)=>?_);show ag _ _ (setField (.ref e) 4 .none >>= _) _ _ ⟨g2,U,Y,tk+1,S⟩;refine ae (zj e2 (by simp) λg3 (e3:n9 g3 e it ((i:Int)+1) old) (z:f6 e g2 g3)=>?_);show ag _ _ (newTuple [.int i tk,x] >>= _) _ _ ⟨g3,U,Y,tk+1,S⟩;refine ae (EW ?_);have z3:g3.objs.size=T.objs.size:=by rw[z.1,I.1,J.1]
 obtain⟨g4,Z⟩:∃g4,g4=g3.push { cls:=.type "tuple",data:=.seq #[.int i tk,x] }:=⟨_,rfl⟩;have e4:n9 g4 e it ((i:Int)+1) old:=Z▸bg _ e3;have t4:g4.get? T.objs.size=W1 { cls:=.type "tuple",data:=.seq #[.int i tk,x] }:=by rw[Z,<-z3];exact cp _ rfl
 have z4:g4.objs.size=T.objs.size+1:=by rw[Z,gi,z3]
 have k4:∀b o,b≠e->b≠it->T.get? b=W1 o->g4.get? b=W1 o:=λb o O bi q=>by
  rw[Z];exact bg _ ((z.2 b O).trans ((I.2 b O).trans ((J.2 b bi).trans q)))
 have p4:P g4:=st W g4 p1 λo q=>by
  rw[Z];exact bg _ ((z.2 it (cq L)).trans ((I.2 it (cq L)).trans q))
 show ag _ _ (Lo (.ref e) >>= _) _ _ ⟨g3.push { cls:=.type "tuple",data:=.seq #[.int i tk,x] },U,Y,tk+1,S⟩;rw[<-Z,z3];clear Z e3 z e2 I e1 J p1 z3;unfold Lo;refine ae (ae (ku e4 rfl (x:=.none) rfl (av ?_)));simp only[WG];refine ae (rb (ae (ku e4 rfl (x:=old) rfl (ae (zj e4 (by simp) λg5 (e5:n9 g5 e it ((i:Int)+1) x) (S0:f6 e g4 g5)=>?_)))));show ag _ _ (Lu (.ref e) (.ref T.objs.size) >>= _) _ _ ⟨g5,U,Y,tk+1,S⟩;unfold Lu;refine ae (ae (zj e5 (by simp) λg6 (e6:IsEnumOut g6 e it ((i:Int)+1) x T.objs.size) (O0:f6 e g5 g6)=>?_));refine zj e6 (by simp) λg7 (e7:IsEnumOut g7 e it ((i:Int)+1) x T.objs.size) (N0:f6 e g6 g7)=>?_;have up:∀b,b≠e->∀o,g4.get? b=W1 o->g7.get? b=W1 o:=λb O o q=>(N0.2 b O).trans ((O0.2 b O).trans ((S0.2 b O).trans q));refine ae (xC (av ⟨_,rfl,av (k g7 e7 (st g4 g7 p4 (up it (cq L))) (up _ (nE le) _ t4) (by rw[N0.1,O0.1,S0.1,z4]) λb o O bi q=>up b O o (k4 b o O bi q))⟩))
def v5{t:Addr}{us:Array ac}{x:ac}(z:s.heap.IsTupleIter it t i)(O:s.heap.IsTuple t us)(I:us[i]?=W1 x):NxOk prog w s it x (λh=>h.IsTupleIter it t (i+1)):=λB U R k=>by
 obtain⟨o,g,c,d⟩:=id z;obtain⟨L,J,_,S,dt⟩:=O;unfold BA;refine ae (ro (name:=eB "__next__") z.typeIs BC (hU BC z.typeIs Lv ?_ (LA _)));show ag _ _ (qS (.ref it) 0 >>= _) _ _ s;refine ae (ku g d (x:=.ref t) rfl ?_);show ag _ _ (if (ba t==fq)=E3 then _ else _) _ _ s;rw[RF (show ¬ ((ba t==fq)=E3) from df)];show ag _ _ (qS (.ref it) 1 >>= _) _ _ s;refine ae (ku g d (x:=.int i 0) rfl (show ag _ _ (xw (.ref t) >>= _) _ _ s from ae (nv J dt ?_)));simp only[eD,I];refine ae (E9 g d (by simp) (av ⟨x,rfl,av (k _ (tf ..) ?_)⟩));exact⟨_,mS _ g (E7 (tj d _)),(E8 ..).trans c,by rw[tj d];simp[eP]⟩
theorem jF{t:Addr}{us:Array ac}(J:A.handled=E2)(z:s.heap.IsTupleIter it t i)(O:s.heap.IsTuple t us)(I:us[i]?=E2)(k:∀h' v,AU it s.heap h'->(∃o,h'.get? v=W1 o/\o.cls=.type "StopIteration")->E (.ref v) { s with heap:=h' }):ag (ai prog w) A (BA (.ref it)) Q E s:=by
 obtain⟨o,g,c,d⟩:=id z;obtain⟨S,L,_,T,dt⟩:=O;unfold BA;refine ae (ro (name:=eB "__next__") z.typeIs BC (hU BC z.typeIs Lv ?_ (LA _)));show ag _ _ (qS (.ref it) 0 >>= _) _ _ s;refine ae (ku g d (x:=.ref t) rfl ?_);show ag _ _ (if (ba t==fq)=E3 then _ else _) _ _ s;rw[RF (show ¬ ((ba t==fq)=E3) from df)];show ag _ _ (qS (.ref it) 1 >>= _) _ _ s;refine ae (ku g d (x:=.int i 0) rfl (show ag _ _ (xw (.ref t) >>= _) _ _ s from ae (nv L dt ?_)));simp only[eD,I];refine ae (rb (ae (E9 g d (by simp) ?_)));show ag _ _ (newExc (.type "StopIteration") [] >>= _) _ _ _;refine ae ?_;simp only[newExc,newTuple];refine ae (kL ?_ (by size_fits));refine ae (m:=AN _ _) (AI (a:=fq) (by first | rfl | (simp only[AN];rfl)) (kL ?_ (by size_fits)));simp only[raiseNew];refine ae (wpAny_handled ?_);rw[show A.in1.handled=E2 from J];exact ae (av (wpAny_throw (k _ _ (((tf ..).extBut.push _).push _) ⟨_,cp _ rfl,rfl⟩)))
theorem bT{e t:Addr}{us:Array ac}{O:ac}{Q:Option ac->ah->Prop}(U:A.handled=E2)(I:n9 s.heap e it i O)(z:s.heap.IsTupleIter it t i)(S:s.heap.IsTuple t us)(J:us[i]?=E2)(k:∀h',AU it s.heap h'->Q E2 { s with heap:=h' }):ag (ai prog w) A (gg (.ref e)) Q E s:=by
 have ty:s.TypeIs (.ref e) "enumerate":=⟨_,I,rfl⟩;unfold gg;refine ae (AM (ro (name:=eB "__next__") ty BB (hU BB ty Ll ?_ (Lm _))));show ag _ _ (qS (.ref e) 2 >>= _) _ _ _;refine ae (ku I rfl (x:=.ref it) rfl (ae (jF U z S J λh' v W L=>?_)));obtain⟨o,g,c⟩:=L;exact ae (sv (T:="StopIteration") (b:=E3) ⟨o,g,c⟩ isSubtype_stop (av (k _ W)))
def bU(t:Addr)(us:Array ac)(n:Nat)(I:Option Addr)(sl:Array (Option ac)):Meets (de.«enumerate.__new__» ⟨[.type "enumerate",.ref t],[]⟩) (λ_ R s=>s.heap.get? t=W1 { cls:=.type "tuple",dict:=I,data:=.seq us n,slots:=sl } ∧
  R (.ok (.ret (.ref (s.heap.push { cls:=.type "tuple_iterator",data:=.fields #[.ref t,.int 0 0] }).objs.size))) { s with heap:=(s.heap.push { cls:=.type "tuple_iterator",data:=.fields #[.ref t,.int 0 0] }).push { cls:=.type "enumerate",data:=.fields #[.none,.bool ZA,.ref s.heap.objs.size,eP 0,.none,.none] } }):=.of_wp λJ w A R s h=>by
 obtain⟨O,U,Y,tk,L⟩:=s;obtain⟨g,h⟩:=h;have T:=sub_enumerate;have z:Heap.IsTuple (Shared.heap ⟨O,U,Y,tk,L⟩) t us:=⟨_,g,rfl,n,rfl⟩
 wp_walk using BD g
 refine wpAny_stack_any λS=>av ?_;split
 .rename_i c _ _ _ _ _;cases (c==gL "enumerate")
  .wp_walk using BD g,vT z
   exact⟨_,rfl,h⟩
  .wp_walk using BD g,vT z
   exact⟨_,rfl,h⟩
 .wp_walk using BD g,vT z
  exact⟨_,rfl,h⟩
theorem Xo{t:Addr}{us:Array ac}(J:s.heap.IsTuple t us)(k:∀h',n9 h' (s.heap.objs.size+1) s.heap.objs.size 0 .none->h'.IsTupleIter s.heap.objs.size t 0->h'.objs.size=s.heap.objs.size+2->(∀b o,s.heap.get? b=W1 o->h'.get? b=W1 o)->Q (.ref (s.heap.objs.size+1)) { s with heap:=h' }):
  ag (ai prog w) A (call (.type "enumerate") [.ref t]) Q E s:=by
 obtain⟨⟨c,I,dt,W⟩,g,S,n,L⟩:=J;obtain rfl:c=.type "tuple":=S;obtain rfl:dt=.seq us n:=L;refine callType_new F.called_enumerate (by decide) (F.typeCall_enumerate_1 _) (F.newCall_enumerate_1 _) (λob=>F.args_object_init_2 ob _) F.entry_enumerate_new (bU t us n I W) ⟨g,?_⟩;have O:(s.heap.push { cls:=.type "tuple_iterator",data:=.fields #[.ref t,.int 0 0] }).objs.size=s.heap.objs.size+1:=gi ..;show _/\_;rw[O];have z:n9 ((s.heap.push { cls:=.type "tuple_iterator",data:=.fields #[.ref t,.int 0 0] }).push { cls:=.type "enumerate",data:=.fields #[.none,.bool ZA,.ref s.heap.objs.size,eP 0,.none,.none] }) (s.heap.objs.size+1) s.heap.objs.size 0 .none:=by
  have:=cp (s.heap.push { cls:=.type "tuple_iterator",data:=.fields #[.ref t,.int 0 0] }) (o:={ cls:=.type "enumerate",data:=.fields #[.none,.bool ZA,.ref s.heap.objs.size,eP 0,.none,.none] }) rfl
  rwa [O] at this
 exact⟨⟨_,z,rfl⟩,k _ z ⟨_,bg _ (cp _ rfl),rfl,rfl⟩ (by rw[gi,O]) λb o x=>bg _ (bg _ x)⟩
end
section
variable {a:Expr}{fa:FE}{ta:TA}{p:Pos}
def IteT(K:aI)(a:Addr):It:=
 ⟨λi H=>∃xs x,Nn K H a xs/\xs[i]?=W1 x,λi H x z=>∃T y,H T=E2/\(∀xs,Nn K H a xs->xs[i]?=W1 y)/\x=.ref T/\z=fk H T (.tup [.int i,y]),λi H=>∃xs,Nn K H a xs/\xs.length<=i⟩
theorem Xp{K:aI}(a it e:Addr)(N0:e≠it):
  VQ P w K (.Tuple elts x1 tp) (IteT K a) [e,it] e (λi h=>(∃O,n9 h e it ((i:Nat):Int) O)/\h.IsTupleIter it a i) where
 mem:=by simp
 obj:=λi h U b L=>by
  obtain⟨⟨O,T⟩,o,eo,c,d⟩:=U
  rcases bP.mp L with z | z
  .subst z;exact⟨_,T,λv z=>by
    have z':Co _=Ct v:=z;cases z'⟩
  .have z:b=it:=by simpa using z
   subst z;exact⟨o,eo,λv z=>by rw[d] at z;cases z⟩
 keep:=λi h h' U k=>⟨let ⟨O,z⟩:=U.1;⟨O,k e (by simp) _ z⟩,U.2.at λo z=>k it (by simp) o z⟩
 item:=by
  intro X hP hw hK hc i π s σ H E I hf U hg;subst hP hw hK;obtain⟨⟨O,T⟩,S⟩:=U;obtain⟨xs,x,hq,hx⟩:=hg;obtain⟨S0,rv,p,hz⟩:=I.tuple hq;obtain⟨u,hu,ru⟩:=rv.get hx;obtain⟨f0,f1,f2,f3,f4,f5⟩:=hf e (by simp);obtain⟨g0,g1,g2,g3,g4,g5⟩:=hf it (by simp);have Z:e<s.heap.objs.size:=bv T;have W:it<s.heap.objs.size:=by obtain⟨o,eo,_⟩:=id S;exact bv eo
  refine pO T N0 (v5 S p (x:=u) (by simpa using hu)) (λg g' q z=>q.at z) λh1 X0 Y T0 P1 kk=>?_;refine⟨_,rfl,wpAny_letOwnedTupleGo_enum (s:={ s with heap:=h1,toks:=s.toks+1 }) X0 λh2 O0 sb=>?_⟩;have hT:H s.heap.objs.size=E2:=I.hok.fresh (aE _);have I1:Inv X π σ (fk H s.heap.objs.size (.tup [.int i,x])) { s with heap:=s.heap.push { cls:=.type "tuple",data:=.seq #[.int i s.toks,u] } }:=
   I.laid (a:=s.heap.objs.size) (t':=s.toks) (λb u e=>bg _ e) (aE _) ⟨by show 2<=sizeLine;decide,[.int i s.toks,u],.cons ⟨_,rfl⟩ (.cons ru .nil),_,cp _ rfl,rfl,_,rfl⟩
  let hA:=(s.heap.push { cls:=.type "tuple",data:=.seq #[.int i s.toks,u] })
  have N1:s.heap.objs.size<h1.objs.size:=by omega
  obtain⟨oi,S1,_⟩:=id Y;have I2:Inv X π σ (fk H s.heap.objs.size (.tup [.int i,x])) { s with heap:=h2,toks:=s.toks+1 }:=by
   have fr:({ cls:=.type "enumerate",data:=.fields #[.none,.bool ZA,.ref it,eP ((i:Nat):Int),.none,O] }:Obj).isFreed=ZA:=rfl;have gm:=mS (λ_=>({ cls:=.type "enumerate",data:=.fields #[.none,.bool ZA,.ref it,eP ((i:Nat):Int),.none,O] }:Obj)) O0 fr;have go:∀b,b≠e->(h2.update e (λ_=>({ cls:=.type "enumerate",data:=.fields #[.none,.bool ZA,.ref it,eP ((i:Nat):Int),.none,O] }:Obj))).get? b=h2.get? b:=λb L=>kN _ _ (cq L);generalize h2.update e (λ_=>({ cls:=.type "enumerate",data:=.fields #[.none,.bool ZA,.ref it,eP ((i:Nat):Int),.none,O] }:Obj))=hm at gm go;have k1:∀b o,b≠it->(s.heap.push { cls:=.type "tuple",data:=.seq #[.int i s.toks,u] }).get? b=W1 o->hm.get? b=W1 o:=λb o L z=>by
    by_cases J:b=e
    .rcases ED z with ⟨q,_⟩ | q
     .rw[J] at q;exact SF q (bX Z)
     .rw[J] at q ⊢;have:s.heap.get? e=_:=T;rw[this] at q;cases q;exact gm
    .rw[go b J];refine (sb.2 b J).trans ?_
     rcases ED z with ⟨q,rfl⟩ | q
     .rw[q];exact T0
     .exact kk b o J L q
   have I3:=L2.Inv.turned (t':=s.toks+1) (it:=it) (h':=hm) I1 k1 (by rw[Ai (bX W)];exact g0) g1 g3 g4 g5;exact L2.Inv.turned (s:={ s with heap:=hm,toks:=s.toks+1 }) (t':=s.toks+1) (it:=e) (h':=h2) I3 (λb o L z=>by have z':hm.get? b=W1 o:=z;rw[go b L] at z';exact z') (by rw[Ai (bX Z)];exact f0) f1 f3 f4 f5
  refine⟨.ref s.heap.objs.size,_,I2,rfl,⟨_,x,hT,λys hy=>by rw[I.tuple_inj hy hq];exact hx,rfl,rfl⟩,⟨⟨u,by simpa using O0⟩,Y.at λo z=>(sb.2 it (cq N0)).trans z⟩,λb L=>?_⟩
  rcases bP.mp L with z | z
  .rw[z,Ai (bX Z)];exact f0
  .have z:b=it:=by simpa using z
   rw[z,Ai (bX W)];exact g0
 done:=by
  intro X hP hw hK hc i π s σ H E I hf U hg;subst hP hw hK;obtain⟨⟨O,T⟩,S⟩:=U;obtain⟨xs,hq,hx⟩:=hg;obtain⟨S0,rv,p,hz⟩:=I.tuple hq;obtain⟨g0,g1,g2,g3,g4,g5⟩:=hf it (by simp);have hl:=rv.length;exact bT (I.ok.hd hc) T S p (by simp;omega) λh' eb=>⟨rfl,I.turned (t':=s.toks) (λb o L e=>eb b o L e) g0 g1 g3 g4 g5⟩
 self:=λ_ _ _ _ _ U h=>let ⟨O,z⟩:=U.1;LB z h
def v6(K:aI)(J:TA):TI:=λI H R=>J I H λvs z=>∃a,vs=[.ref a]/\(∃xs,Nn K z a xs)/\R (IteT K a) z
theorem jG(hg:Gl X "enumerate")(hm:X.mg "enumerate"=E2)(ha:PA X [a] ta)(hs:ay [a] X.env=[(ZA,eval a X.env)]:=by rfl):PI X (.Tuple elts x1 tp) (.Call (.Name "enumerate" p) [a] [] pos) (v6 X.K ta):=by
 intro T s S H R I h;refine PyProof.Rows.Call_ (N6 I hg hm SH (CA (mr (ha pos T s S H _ I h) λus J q0=>?_) hs rfl));obtain⟨vs,Y,L,Z,q1⟩:=q0;obtain⟨l,e,⟨xs,hq⟩,q⟩:=q1;subst e;cases Z with
 |cons r rr=>
  cases rr;cases r;obtain⟨N0,rv,p,hz⟩:=L.tuple hq;refine Xo p λh' W O O0 kp=>?_;refine LB W ?_;have I2:Inv X T S Y { J with heap:=h' }:=L.kept (t':=J.toks) kp;refine⟨J.heap.objs.size+1,[J.heap.objs.size+1,J.heap.objs.size],_,_,Y,rfl,I2,Xp l J.heap.objs.size (J.heap.objs.size+1) (Iq _),⟨⟨_,W⟩,O⟩,λb hb=>?_,q⟩;have U:J.heap.objs.size<=b:=by
   rcases bP.mp hb with z | z
   .rw[z];exact kr _
   .have z:b=J.heap.objs.size:=by simpa using z
    rw[z];exact aE _
  exact L.fpOk U (L.hok.fresh U)
def enIT(f:FE):FI:=λρ=>match f ρ with | some (.tup ds)=>W1 (enD 0 ds) | _=>E2
def bV(h:Nn G.K F1 q xs)(r:be G F2 xs ds):Src G (IteT G.K q) (enD 0 ds) F1 F2 where
 go:=λi H s I=>⟨xs,xs[i]'(by rw[r.1];rwa [QT] at I),DN s h,by rw[QT] at I;simp[r.1,I]⟩
 yld:=λi H x Y d s W y=>by
  obtain⟨T,z,O,Z,rfl,rfl⟩:=y;obtain⟨e,S,rfl⟩:=ZK 0 ds i d W;have U:hQ G F2 z e:=r.2 i z e (Z xs (DN s h)) S;refine⟨Ak O _,λB L J=>?_⟩;rw[lS];exact Eo L O (.cons (.int _) (.cons (U.mono J) .nil))
 stop:=λi H s I=>⟨xs,DN s h,by rw[QT] at I;rw[r.1];exact I⟩
def bW(W:G.K=X.K)(U:Gl X "enumerate")(O:X.mg "enumerate"=E2)(h:PF X G a fa)(hs:ay [a] X.env=[(ZA,eval a X.env)]:=by rfl):RI X G ZA (.Tuple elts x1 tp) (.Call (.Name "enumerate" p) [a] [] pos) (enIT fa):=λA=>Qy (jG U O (BW (@h A) Cp hs) hs)<|by
 rintro Z H R ⟨z,ds,o,e,k⟩
 unfold enIT at e;split at e
 .rename_i T S;cases e;refine⟨z,_,o,S,λv Y J L=>?_⟩;cases L with
  |tup h l r=>
   rename_i b I;refine⟨b,rfl,⟨I,by rw[<-W];exact DN Ao h⟩,?_⟩;rw[<-W];exact k _ Y J (bV h ⟨l,r⟩)
 .cases e
end
section
variable {a:Expr}{fa:FE}{p:Pos}
def enIB(f:FE):FI:=λρ=>match f ρ with | some (.lst ds)=>W1 (enD 0 ds) | some (.tup ds)=>W1 (enD 0 ds) | _=>E2
end
def Jd(P:d3)(w:ca)(m:Addr)(xs:List (List (List Key)×Addr×ac)):Heap->Prop:=λh=>∃o es ep,h.get? m=W1 o/\o.ExactDict/\o.data=.dict es ep/\es.toList=xs.map (C3 (PV.Qc (Av P w)))/\(xs.map (·.1)).Nodup
structure Pres (P:d3) (w:ca) (K:aI) (f:Str) (H:Hp) (a b m:Addr) (F:List (List Key)->Int) (xs:List (List (List Key)×Addr×ac)) (ks:List (List Key)):Prop where
 at_:∃C dx fs,H a=W1 (.ins C dx fs)/\NX K C/\BP K C f/\fs.lookup f=W1 (.ref m)
 sm:(m==hV)=ZA
 ext:H m=W1 (.ext (Jd P w m xs))
 al:∀q∈xs,MZ K H q.1 q.2.1/\TU q.1/\cx (.int (F q.1)) q.2.2
 ky:MZ K H ks b
 pr:(eC xs ks).isSome=E3
def spP(P:d3)(w:ca)(K:aI)(f:Str):Sp:=λvs H Q _=>∃a b m F xs ks,vs=[.ref a,.ref b]/\Pres P w K f H a b m F xs ks/\Q (.int (F ks)) H
def tP(P:d3)(w:ca)(K:aI)(f:Str):TS:=λD z H=>∃a b m F xs ks,z[0]?=W1 (W1 (.ref a))/\z[1]?=W1 (W1 (.ref b))/\Pres P w K f H a b m F xs ks/\D.rt (.int (F ks)) H
section
def O2{m:Addr}{xs:List (List (List Key)×Addr×ac)}(I:Inv X π σ H s)(h:Pres X.prog X.w X.K f H a b m F xs ks):s.heap.DictOfH (nK X) m xs:=by
 obtain⟨⟨o,L,O,g,J,d,e,z⟩,_,_⟩:=(show BJ X.prog X.w H s.heap m (.ext (Jd X.prog X.w m xs)) from I.hok m _ h.ext);exact⟨o,L,O,g,J,d,e,λq T=>Kw I (h.al q T).1,z⟩
theorem jH{m:Addr}(W:X.N[i]?=W1 x)(L:VO X.env.scope x)(T:(x==("__debug__":Str))=ZA)(z:(x==("__classdict__":Str))=ZA)(U:fN (.Name x p1) f X.env (eval (.Name x p1) X.env)=eval (.Name x p1) X.env)(I:Inv X π σ H s)(h1:σ[i]?=W1 (W1 (.ref a)))(h:∃C dx fs,H a=W1 (.ins C dx fs)/\NX X.K C/\BP X.K C f/\fs.lookup f=W1 (.ref m))(k:∀tk,Q (.ref m) { s with toks:=tk }):ag (ai X.prog X.w) X.A (eval (.Attribute (.Name x p1) f p2) X.env) Q E s:=by
 obtain⟨C,dx,fs,Y,c,n,l⟩:=h;refine Tg U (HR W L T z I h1 λu r=>?_);obtain rfl:u=ba a:=r;obtain⟨mA,O,r,_,_,_⟩:=Kh I.hok Y;obtain⟨u,S,J⟩:=Os.some_of (v:=.ref m) (o:=mA f) (by rw[<-l];exact r f);obtain rfl:u=ba m:=J;exact Tf I.kIn O (c.get f) c.hd n S (N8 (v:=.ref m) rfl) (k _)
def pP{VU TK Y W:Pos}(hu:X.A.units+64<bE)(hN:X.N[0]?=W1 x)(hv:VO X.env.scope x)(T:X.N[1]?=W1 y)(Z:VO X.env.scope y)(hm:hZ .NotIn (.Attribute (.Name x p2) f p3)=ZA:=by rfl)(O0:NoSl (.Name y TK):=by intro _ _;rfl)(hd:(x==("__debug__":Str))=ZA:=by decide)(S:(x==("__classdict__":Str))=ZA:=by decide)(L:(y==("__debug__":Str))=ZA:=by decide)(O:(y==("__classdict__":Str))=ZA:=by decide)(hb:∀p,fN (.Name x p) f X.env (eval (.Name x p) X.env)=eval (.Name x p) X.env:=by intro _;rfl):
  SS X [.If (.Compare (.Name y p1) [.NotIn] [.Attribute (.Name x p2) f p3] p4) body [] p10,.Return (W1 (.Subscript (.Attribute (.Name x p11) f VU) (.Name y TK) Y)) W] (tP X.prog X.w X.K f):=by
 rintro π s σ H D I ⟨a,b,m,F,xs,ks,h0,h1,h,k⟩
 refine lh (vE (wb (HR T Z L O I h1 λu r=>jH hN hv hd S (hb _) I h0 h.at_ λtk=>?_) hm));obtain rfl:u=ba b:=r;have I1:=I.tok tk;refine Kt (knd:=nK X) (by show X.A.units+1+1<bE;omega) (Kw I1 h.ky) h.sm (O2 I1 h) (jS ?_);rw[h.pr];show ag _ _ (ka [] X.env) _ _ _;refine lc ?_;have z:∀tk,Inv X π σ H { s with toks:=tk }:=λtk=>I.tok tk;refine lh (mr (?_:ag (ai X.prog X.w) X.A (exec (.Return (W1 (.Subscript (.Attribute (.Name x p11) f VU) (.Name y TK) Y)) W) X.env) (SP X π D) X.xe _) λfl s1 q=>?_)
 .refine zz (YQ EB.lookup O0 (jH hN hv hd S (hb _) (z _) h0 h.at_ λJ=>HR T Z L O (z J) h1 λu r=>⟨(O2 (z J) h).typeIs,?_⟩));obtain rfl:u=ba b:=r;exact ZS (F:=F) (by omega) (z J) h.ky (O2 (z J) h) h.al h.pr λu N0 ru=>⟨.int (F ks),σ,H,z N0,ru,k⟩
 .cases fl with
  |next=>
   obtain⟨U,H2,I3,q⟩:=q;exact JW (X:=X) π s1 U H2 D I3 q
  |ret v=>exact q
  |brk=>exact q
  |cont=>exact q
def fn_P{K:aI}{base:Heap}{f:Addr}{k:Nat}{J:Str}(F:Fun K x qual st f fd)(S:bc N ps (Ab st))(Y:ps.length=2)(U:∀(cdv:ac) (A:aS) (z:List Env) (s:ah) (H:Hp) (E:XK),Room k (A.deeper (gu qual (Ab st) s.heap.objs.size f cdv))->SS (Pd CX0 P w K mg base N qual (Ab st) f cdv A z s H E).nox (BX st) (tP P w K J)):
  im P w K mg base CX0 (k+1) f fd ps (spP P w K J):=by
 refine F.ok S (λL H Q E h=>?_) (λcdv A z s H L Q E T h=>?_)
 .obtain⟨a,b,m,F,I,O,rfl,_⟩:=h;rw[Y];rfl
 .obtain⟨a,b,m,F,I,O,rfl,h,q⟩:=h;exact⟨_,U cdv A z s H E T,a,b,m,F,I,O,rfl,rfl,h,q⟩
def Yf(i:Nat)(f:Str)(j:Nat)(ft:FT)(c z:Str)(fr:FE):FS:=λρ=>match uF (gn f) (vF i) ρ,(vF j ρ).bind PR,ft ρ with
 |some (.mem F),W1 ps,W1 E3=>jn fr ρ
 |some (.mem F),W1 ps,W1 ZA=>if F (RS ps)=0/\(vF i ρ).map (Dg c z)=W1 E3 then W1 (.rt (.int 0) ρ) else E2
 |_,_,_=>E2
def WK{K:aI}{m:Addr}{o:HO}(I:∀u,H m=W1 u->¬ Tu u)(h:MZ K H ks b):MZ K (fk H m o) ks b:=by
 have T:∀{c:Addr}{xs:List V},NM K H c xs->NM K (fk H m o) c xs:=λ{c xs} z=>by
  rcases z with (z | ⟨u,z⟩) | z
  .exact .inl (.inl (by rw[Ai (λe=>I (.tup xs) (by rw[<-e];exact z) trivial)];exact z))
  .exact .inl (.inr ⟨u,by rw[Ai (λe=>I (.frz u (.tup xs)) (by rw[<-e];exact z) trivial)];exact z⟩)
  .exact .inr z
 obtain⟨bs,L,J⟩:=h;exact⟨bs,T L,Paired.mapP J λ_ _ z=>T z⟩
theorem WL{m:Addr}{o u:HO}(h:H m=W1 u):fk (fk H m o) m u=H:=by
 funext c;unfold fk;split
 .rename_i e;rw[e,h]
 .rfl
theorem jJ{L c:Str}{sf:Stmt}{Y1:List Str}{k0:Nat}{N1:Expr}{fr:FE}{VU TK q1 q2 q3 q4 q5:Pos}{jj:Nat}{pl:Sem Bool}{d:Mx X.K C L qual sf Y1}(hu:X.A.units+64<bE)(hG:G.K=X.K)(Y2:∀c C,G.cl c=W1 C->NX X.K C/\BP X.K C f)(hc:G.cl c=W1 C)(hN:X.N[i]?=W1 x)(hv:VO X.env.scope x)(X0:X.N[j]?=W1 y)(O0:VO X.env.scope y)(ht:SU X G N1 ft)(F2:im X.prog X.w X.K X.mg X.base CX0 k0 d.f d.fd Y1 (spP X.prog X.w X.K f))(hr:Room k0 X.A)(U2:Tb X G (.Return (W1 (.Call (.Attribute (.Name x q1) L q2) [.Name y q3] [] q4)) q5) (jn fr))(hs:fw (.Constant (.int 0) jj p9) (W1 (.Subscript (.Attribute (.Name x p5) f p6) (.Name y p7) p8)) p10.line X.env=pure ZA:=by rfl)(hm:hZ .NotIn (.Attribute (.Name x p2) f p3)=ZA:=by rfl)(hd:(x==("__debug__":Str))=ZA:=by decide)(T0:(x==("__classdict__":Str))=ZA:=by decide)(S0:(y==("__debug__":Str))=ZA:=by decide)(T:(y==("__classdict__":Str))=ZA:=by decide)(hb:∀p,fN (.Name x p) f X.env (eval (.Name x p) X.env)=eval (.Name x p) X.env:=by intro _;rfl)(S2:ay [.Name y q3] X.env=(ZA,eval (.Name y q3) X.env)::ay [] X.env:=by rfl)(S4:(dS q4 (ay [] X.env)).any (·.1)=ZA:=by rfl)(P1:eval (.Call (.Attribute (.Name x q1) L q2) [.Name y q3] [] q4) X.env=(do
      let ov <-eval (.Name x q1) X.env
      pj q2.atName
      let (f,first) <-li [ov] (rj ov L pl)
      sN q4 f first (dS q4 (ay [.Name y q3] X.env)) (ll q4 (iL [] X.env))):=by rfl):
    QP X G [.If (.BoolOp .And [.Compare (.Name y p1) [.NotIn] [.Attribute (.Name x p2) f p3] p4,.UnaryOp .Not N1 p11] VU) [.Assign [.Subscript (.Attribute (.Name x p5) f p6) (.Name y p7) p8] (.Constant (.int 0) jj p9) p10] [] TK,.Return (W1 (.Call (.Attribute (.Name x q1) L q2) [.Name y q3] [] q4)) q5] (Yf i f j ft c L fr):=by
  rintro A0 He Z s Y H D I ⟨ρ,o,⟨A,w⟩,e,k⟩
  unfold Yf at e;split at e
  . rename_i F ps ef ek et
    refine Ad (iu hu hG Y2 hN hv X0 O0 ht hs hm hd T0 S0 T hb) (Ae U2) (A0:=A0) He Z s Y H D I ⟨ρ,o,⟨A,w⟩,?_,k⟩;unfold dq memZ;rw[ef,ek,et];simp only[true_or,WG];exact e
  . rename_i F ps ef ek et
    split at e
    . rename_i hF
      obtain⟨hF,N0⟩:=hF;cases e;obtain⟨dk,P7,P6⟩:=u7.mp ek;obtain⟨m,fm⟩:=ik (X:=X) hG Y2 w.ok ef;obtain⟨b,S1,mk,kin⟩:=J8 (X:=X) hG w.ok P7 P6;obtain⟨od,eo,N0⟩:=iA.mp N0;have X2:∃a C' dx fs,Y[i]?=W1 (W1 (.ref a))/\H a=W1 (.ins C' dx fs)/\NX X.K C'/\BP X.K C' f/\fs.lookup f=W1 (.ref m)/\C'=C/\fs.lookup L=E2:=by
        have hz:ρ[i]?=W1 (.fz od):=by
          unfold vF at eo;split at eo
          . rename_i z hz;cases eo;exact hz
          . cases eo
        obtain⟨v,g1,g2⟩:=w.ok.fz i od hz;obtain⟨a,C',dx,fs,a1,a2,a3,a4,a5⟩:=fm.at_;cases od with
        |ob c' gs=>
          simp only[Dg,fh,SG,tq] at N0;obtain⟨rfl,hn⟩:=N0;cases g2 with
          | @ob a' C2 r9 _ P8 _ t1 t2 t3 t4=>
            rw[a1] at g1;cases g1;have X1:=Ao _ _ t2;rw[a2] at X1;cases X1;rw[hc] at t1;cases t1;exact⟨a,C,dx,fs,a1,a2,a3,a4,a5,rfl,Ox t3 hn⟩
        |_=>simp[Dg] at N0
      obtain⟨a,C',dx,fs,a1,a2,a3,a4,a5,rfl,a6⟩:=X2;have gq:∀(O:Hp) (s':ah) (J:List (List (List Key)×Addr×ac)),ab H O->Inv X Z Y O s'->s'.heap.DictOfH (nK X) m J->(∀q∈J,MZ X.K O q.1 q.2.1/\TU q.1/\cx (.int (F q.1)) q.2.2)->(eC J (RS ps)).isSome=E3 ->
          ag (ai X.prog X.w) X.A (ka [.Return (W1 (.Call (.Attribute (.Name x q1) L q2) [.Name y q3] [] q4)) q5] X.env) (SP X Z D) X.xe s':=λO s' J S I' dd al pr=>by
        have U:O m=W1 (.mem F X.K):=S _ _ fm.mem;have Q2:∀u,O m=W1 u->¬ Tu u:=λu e z=>by rw[U] at e;cases e;exact z
        obtain⟨T2,_⟩:=Xk I' U;obtain⟨o',es,ep,g,ex,dt,ee,is,nd⟩:=id dd;have ph:Jd X.prog X.w m J s'.heap:=⟨o',es,ep,g,ex,dt,ee,nd⟩;have W:Inv X Z Y (fk O m (.ext (Jd X.prog X.w m J))) s':=I'.write (x:=m) (e:=m) (o:=.ext (Jd X.prog X.w m J)) (h':=s'.heap) (t':=s'.toks) (by rw[U];exact trivial) (.inl rfl) (λ_ _ _ z=>z) ⟨o',g⟩
          ⟨ph,⟨o',g⟩,(by rintro h1 h2 ⟨o,es,ep,z1,z2⟩ kk;exact ⟨o,es,ep,kk _ z1,z2⟩)⟩
        have N3:fk O m (.ext (Jd X.prog X.w m J)) a=W1 (.ins C' dx fs):=by
          rw[Ai (λe=>by have:=S _ _ a2;rw[e,U] at this;cases this)];exact S _ _ a2
        have P2:Pres X.prog X.w X.K f (fk O m (.ext (Jd X.prog X.w m J))) a b m F J (RS ps):=⟨⟨C',dx,fs,N3,a3,a4,a5⟩,T2,Ag,λq hq=>⟨WK Q2 (al q hq).1,(al q hq).2⟩,WK Q2 (G6 S mk),pr⟩;have P4:=YK (pl:=pl) (Ww hN hv hd T0) a3 d.me F2 hr d.B .nil R_ (BW (Ww X0 O0 S0 T) Cp S2) S2 S4 P1 Z s' Y _ (λv H3=>v=.int 0/\H3=fk O m (.ext (Jd X.prog X.w m J))) W ⟨_,a1,a,dx,fs,rfl,N3,a6,_,S1,a,b,m,F,J,RS ps,rfl,P2,by rw[hF],rfl⟩;have one:ag (ai X.prog X.w) X.A (exec (.Return (W1 (.Call (.Attribute (.Name x q1) L q2) [.Name y q3] [] q4)) q5) X.env) (SP X Z D) X.xe s':=by
          refine zz (mr P4 λu s1 q=>?_);obtain⟨v,H3,I3,ru,ev,eH⟩:=q;subst ev eH;obtain⟨⟨o4,P5,r6,z1,z2,z3,z4,z5⟩,_,_⟩:=(show BJ X.prog X.w _ s1.heap m (.ext (Jd X.prog X.w m J)) from I3.hok m _ Ag);have I4:=I3.write (x:=m) (e:=m) (o:=.mem F X.K) (h':=s1.heap) (t':=s1.toks) (by rw[Ag];exact trivial) (.inl rfl) (λ_ _ _ z=>z) ⟨o4,z1⟩ (by
            rw[WL U];exact⟨T2,J,al,o4,P5,r6,z1,z2,z3,z4,z5⟩)
          rw[WL U] at I4;exact⟨.int 0,Y,O,I4,ru,k (.int 0) Y O A (w.mono S) (.int 0)⟩
        refine lh (mr one λfl s1 q=>?_);cases fl with
        |next=>
          obtain⟨P3,H2,W,q⟩:=q;exact JW (X:=X) Z s1 P3 H2 D W q
        |ret v=>exact q
        |brk=>exact q
        |cont=>exact q
      have put:∀(O:Hp) (s':ah),ab H O->Inv X Z Y O s'->ag (ai X.prog X.w) X.A (ka [.Assign [.Subscript (.Attribute (.Name x p5) f p6) (.Name y p7) p8] (.Constant (.int 0) jj p9) p10] X.env) (λfl s'=>fl=.next/\∃H2 J,ab H H2/\Inv X Z Y H2 s'/\s'.heap.DictOfH (nK X) m J/\(∀q∈J,MZ X.K H2 q.1 q.2.1/\TU q.1/\cx (.int (F q.1)) q.2.2)/\(eC J (RS ps)).isSome=E3) X.xe s':=λO s' S I'=>by
        refine lh (As (C8 ?_) hs);have W:=I'.tok (s'.toks+1);refine Ls hN hv hd T0 (hb _) W (fm.mono S) λU1=>HR X0 O0 S0 T (W.tok U1) S1 λu r=>?_;obtain rfl:u=ba b:=r;refine UO (F:=F) (by omega) (W.tok U1) (S _ _ fm.mem) (G6 S mk) kin (by rw[hF];exact⟨_,rfl⟩) λS3 s2 I3 f8 u8 N4=>?_;exact lc ⟨rfl,O,S3,S,I3,f8,u8,N4⟩
      refine lh (mr (Q:=λfl s'=>fl=.next/\∃H2 J,ab H H2/\Inv X Z Y H2 s'/\s'.heap.DictOfH (nK X) m J/\(∀q∈J,MZ X.K H2 q.1 q.2.1/\TU q.1/\cx (.int (F q.1)) q.2.2)/\(eC J (RS ps)).isSome=E3) (vE (sL (wb (HR X0 O0 S0 T I S1 λu r=>Ls hN hv hd T0 (hb _) I fm λtk=>?_) hm))) λfl s1 q=>?_)
      . obtain rfl:u=ba b:=r
        refine Oz (F:=F) (by omega) (I.tok tk) fm.mem mk λJ Y3 dd al=>jS ?_;have W:=(I.tok tk).tok Y3;cases pr:(eC J (RS ps)).isSome with
        |true=>
          show ag _ _ (ka [] X.env) _ _ _;exact lc ⟨rfl,H,J,ab.refl H,W,dd,al,pr⟩
        |false=>
          show ag _ _ (oS _ _ _) _ _ _;refine sL (Cb (mr (@ht A Z _ Y H (λb H1=>ab H H1/\b=ZA) W ⟨ρ,_,w.ok,et,λH1 s1=>⟨s1,rfl⟩⟩) λb s1 q0=>?_));obtain⟨H1,I1,S,eb⟩:=q0;subst eb;refine C9 ?_;show ag _ _ (ka [_] X.env) _ _ _;exact put H1 s1 S I1
      . obtain⟨rfl,H2,J,S,W,dd,al,pr⟩:=q
        exact gq H2 s1 J S W dd al pr
    . cases e
  . cases e
end
def gxL(K:aI)(l:List (Str×Addr)):Gx:={ K:=K,cl:=λc=>l.lookup c }
section
variable {K:aI}{a b:Str}{C1:Addr}{l:List (Str×Addr)}
def jK:(gxL K ((a,C)::l)).cl a=W1 C:=by
 show cf a ((a,C)::l)=W1 C;rw[ck,MH]
def v7(e:(b==a)=ZA)(h:(gxL K l).cl b=W1 C):(gxL K ((a,C1)::l)).cl b=W1 C:=by
 show cf b ((a,C1)::l)=W1 C;rw[ck,e];exact h
def FlOk(K:aI)(l:List (Str×Addr))(x:Str):Prop:=∀c C,l.lookup c=W1 C->NX K C/\BP K C x
def fl_n:FlOk K [] x:=λ_ _ h=>by cases h
def fl_c(L:NX K C)(n:fI K (.ref C) x=W1 E2)(h:FlOk K l x):FlOk K ((a,C)::l) x:=λc I e=>by
 rw[ck] at e;split at e
 .cases e;exact⟨L,n⟩
 .exact h _ _ e
def Lw(X:K.In h)(f:FlOk K l x):∀c I,(gxL K l).cl c=W1 I->NX K I/\BP K I x:=λc I h=>f c I h
def kxL{g:Addr}{n:Nat}{z:Array ac}{xs:List Str}(X:K.In h)(N:h.Ns gI mg)(a:AW K gI x=W1 (W1 (.ref g)))(I:K.lookup g=W1 ⟨.type "tuple",od,.seq z n,osl⟩)(hz:z.size<=sizeLine)(r:cc (xs.map V.str) z.toList):Kx (gxL K l) mg x (.tup (xs.map .str)):=⟨g,tz X N a,bA I hz r⟩
end
end PV
namespace PV
open PySem PySem.Spec L2 EX
open PyProof.Rows hiding St
def scD:D->Bool
 |.non=>E3
 |.bl _=>E3
 |.int _=>E3
 |.str _=>E3
 |_=>ZA
def jL(h:scD d=E3)(r:hQ G H v d):hQ G H' v d:=by
 cases d with
 |non=>cases r;exact .non
 |bl b=>cases r;exact .bl b
 |int b=>cases r;exact .int b
 |str b=>cases r;exact .str b
 |_=>cases h
theorem WM{G:Gx}{H:Hp}{v:V}{d:D}:∀{vs:List V}{ds:List D},be G H vs ds->hQ G H v d->be G H (vs++[v]) (ds++[d])
 |[],ds,r,h=>by
  rw[AV r.1.symm];exact .cons h .nil
 |x::vs,[],r,h=>by cases r.1
 |x::vs,y::ds,r,h=>by
  obtain⟨z,J,e,I,L⟩:=r.uncons;cases e;exact .cons I (WM L h)
def mutN(i:Nat)(L:D->List D->Option (D×D))(fs:FA)(T:List Nat)(f:FE):XU:=λρ I K=>∃l J ds c,ρ[i]?=W1 (.fz (.adr l))/\I.lookup l=W1 J/\(∃z S,L J z=W1 S)/\fs ρ=W1 ds/\vwM T f ρ I=W1 c/\∀p,p∉mu I->∃v O,L J (ds++[.adr p])=W1 (v,O)/\K v (UM l O ((p,c)::I))
section
variable {a:Expr}{fs:FA}{es:List Expr}
def jM{name:Str}{T id:String}{r:V->List V->Hp->VK->Prop}{gm:D->List D->Option (D×D)}{f:FE}(pa:DE T)(S:E5 T name id)(Y:typeOf (.builtin id)=pure (.type "method_descriptor"))(hm:MtM X id r)(sn:SndM G r gm)(tv:∀(A:List Addr) (H:Hp) (l:Addr) (c:D) (ds:List D) (vc:D×D),gm c ds=W1 vc->MY G A H l c->tyV X.K T (.ref l) H)(hv:PE X (.Name x xpos) (OH i))(ha:PAN X G (e::es) fs js f)(O:fN (.Name x xpos) name X.env (eval (.Name x xpos) X.env)=eval (.Name x xpos) X.env:=by rfl)(W:((dS pos (ay (e::es) X.env)).all (λx=>!x.1)&&(ll pos (iL [] X.env)).all (λx=>x.1.isSome)&&decide ((e::es).length+([]:List mB).length+(if ([]:List mB).isEmpty then 0 else 1)<30))=E3:=by rfl)(J:(apos.endLine==pos.line)=E3:=by rfl)(hs:ay (e::es) X.env=(ZA,eval e X.env)::ay es X.env:=by rfl)(Z:(dS pos (ay es X.env)).any (·.1)=ZA:=by rfl):
  PMX X G (.Call (.Attribute (.Name x xpos) name apos) (e::es) [] pos) (mutN i gm fs js f):=by
 rintro A0 He π s σ H Q I ⟨ρ,μ,K,⟨A,Hb,w⟩,⟨l,x0,ds,c,hi,hl,⟨z,vc,ez⟩,e1,e2,q⟩,k⟩
 have U:=kc hl;refine qz pa S Y hm hv (@ha A0 He) O W J hs Z π s σ H Q I ⟨_,w.at hi,tv _ _ _ _ _ _ ez (w.top _ U),ρ,μ,ds,c,A,Hb,w,e1,e2,λvs p H1 N0 s1 hp np m r1=>?_⟩;obtain⟨v,c',e3,q'⟩:=q p np;have L:(l,x0)∈(p,c)::μ:=cE _ U;exact sn (p::A) H1 l (vs++[.ref p]) x0 (ds++[.adr p]) v c' Q m.w.ok.live (m.inA (HQ L)) (m.top _ L) (r1.append (.cons (.adr p) .nil)) e3 λvv H' sx t rv=>k vv H' v _ (p::A) _ q' (m.wr (HQ L) sx t) rv
def yq{f:FE}(L:PE X (.Name x xpos) (OH i))(O:PAN X G [a] fs js f)(I:fN (.Name x xpos) "append" X.env (eval (.Name x xpos) X.env)=eval (.Name x xpos) X.env:=by rfl)(J:((dS pos (ay [a] X.env)).all (λx=>!x.1)&&(ll pos (iL [] X.env)).all (λx=>x.1.isSome)&&decide ([a].length+([]:List mB).length+(if ([]:List mB).isEmpty then 0 else 1)<30))=E3:=by rfl)(z:(apos.endLine==pos.line)=E3:=by rfl)(hs:ay [a] X.env=[(ZA,eval a X.env)]:=by rfl):PMX X G (.Call (.Attribute (.Name x xpos) "append" apos) [a] [] pos) (mutN i Zp fs js f):=
 jM E1 IL IM OD iK vY L O I J z hs rfl
end
def seeW(z:Mu):D->D
 |.adr a=>(match z.lookup a with | some (.lst ds)=>.lst (ds.map (WH z)) | _=>.adr a)
 |d=>d
def jN(I:Mu):Slot->Slot
 |.fz d=>.fz (seeW I d)
 |z=>z
section
theorem WN(o:Cs G A0 He Hb A σ H ρ μ){v:V}{d:D}(r:hQ G (bm A H) v d):hQ G (bm (A.filter λa=>decide (a∉mu μ)) H) v (seeW μ d):=by
 have T:ab (bm A H) (bm (A.filter λa=>decide (a∉mu μ)) H):=CJ λa W=>(d4.mp W).1;have U:=r.mono T;unfold seeW;split
 .rename_i a;cases r;split
  .rename_i ds e;have O:=kc e;obtain⟨L,Y,S⟩:=o.top _ O;have J:bm (A.filter λa=>decide (a∉mu μ)) H a=H a:=Ax λz=>by
    have:=(d4.mp z).2;exact SF (HQ O) (OG this)
   refine .lst (xs:=L) (.of (by rw[J];exact Y)) (by rw[aw];exact S.1) λi x d Z I=>?_;rw[cb] at I;cases q:ds[i]? with
   |none=>rw[q] at I;cases I
   |some d0=>
    rw[q] at I;cases I;exact ZL o (S.2 i x d0 Z q)
  .exact .adr a
 .exact U
theorem Cs.lendW(o:Cs G A0 He Hb A σ H ρ μ):OQ G (A.filter λa=>decide (a∉mu μ)) σ H (ρ.map (jN μ)):=by
 have k:=o.lend;have Sz:∀{i:Nat}{d:D},(ρ.map (jN μ))[i]?=W1 (.ow d)->(ρ.map (V4 μ))[i]?=W1 (.ow d):=λ{i d} O=>by
  rw[cb] at O ⊢;cases q:ρ[i]? with
  |none=>rw[q] at O;cases O
  |some y=>
   rw[q] at O;cases y with
   |fz d=>cases O
   |ow d=>cases O;rfl
   |un=>cases O
 refine⟨by rw[aw];exact o.w.ok.len,k.live,λi d O=>?_,λi d O=>k.ow i d (Sz O),λi j d e a I z=>k.inj i j d e a (Sz I) (Sz z)⟩;rw[cb] at O;cases q:ρ[i]? with
 |none=>rw[q] at O;cases O
 |some y=>
  rw[q] at O;cases y with
  |fz J=>
   cases O;obtain⟨v,q1,q2⟩:=o.w.ok.fz i J q;exact⟨v,q1,WN o q2⟩
  |ow d=>cases O
  |un=>cases O
end
def dkD:D->Bool
 |.dk kvs=>kvs.all λp=>scD p.2
 |_=>ZA
def v8(S:∀a o kvs,a∈A->bm B H a≠W1 (.frz o (.dK kvs)))(h:dkD d=E3)(r:hQ G (bm B H) v d):hQ G (bm A H) v d:=by
 cases d with
 |dk L=>
  cases r with
  |dk I W U=>
   rename_i a o kvs;have T:a∉A:=λz=>S a _ _ z I;refine .dk (kvs:=kvs) (o:=o) (by rw[Ax T];exact Ao _ _ I) W λi x d Y J=>jL ?_ (U i x d Y J);obtain⟨p,O,rfl⟩:=aT.mp (pT J);exact dL.mp h p O
 |_=>cases h
def lnK(f:FE):XU:=λρ z K=>∃d,f (ρ.map (jN z))=W1 d/\dkD d=E3/\K d z
def pQ(t:MY G A H a d):H a≠W1 (.frz o (.dK kvs)):=λz=>by
 cases d with
 |lst J=>obtain⟨I,q,_⟩:=t;rw[q] at z;cases z
 |dk J=>obtain⟨I,q,_⟩:=t;rw[q] at z;cases z
 |dt J=>obtain⟨I,q,_⟩:=t;rw[q] at z;cases z
 |ob c L=>obtain⟨C,dx,I,q,_⟩:=t;rw[q] at z;cases z
 |_=>exact t
def pR{a:Expr}{fa:FE}(ha:PF X G a fa):PMX X G a (lnK fa):=λA0 He S s O H Q I ⟨ρ,J,K,⟨A,Hb,w⟩,⟨d,e1,fl,q⟩,k⟩=>
 @ha (A.filter λa=>decide (a∉mu J)) S s O H Q I ⟨_,d,w.lendW,e1,λv L T U=>by
  have W:=w.mono T;refine k v L d J A Hb q W (v8 (λa o Y hA z=>?_) fl U)
  by_cases y:a∈mu J
  .obtain⟨d',Z⟩:=iC y;exact pQ (W.top _ Z) (Ao _ _ z)
  .have hB:a∈A.filter λa=>decide (a∉mu J):=d4.mpr ⟨hA,MG y⟩;have n:bm (A.filter λa=>decide (a∉mu J)) L a=E2:=by unfold bm;rw[OF hB]
   rw[n] at z;cases z⟩
def WP(a:Addr)(ds:List D)(tg:FG)(b:FM):List D->FM
 |[],ρ,I,K=>I.lookup a=W1 (.lst ds)/\K (.nx ρ) I
 |d::r,ρ,I,K=>I.lookup a=W1 (.lst ds)/\∃z,tg d ρ=W1 z/\b z I (bdM (WP a ds tg b r) K)
def forC(i:Nat)(tg:FG)(b:FM):FM:=λρ z K=>∃a ds,ρ[i]?=W1 (.fz (.adr a))/\WP a ds tg b ds ρ z K
theorem jO{gb:FM}(hp:w9 (ai X.prog X.w) X.A X.env X.xe)(hc:X.calm=E3)(hG:G.K=X.K)(hv:PE X (.Name x xpos) (OH i))(hg:PGD X G tg fg)(hb:Sb X G body gb)(hs:∀z,kH (.Name x xpos) X.env z=pure z:=by intro _;rfl):PSM X G (.For tg (.Name x xpos) body [] pos) (forC i fg gb):=by
 rintro O He π s Y H D I ⟨ρ,μ,K,⟨A,Hb,w⟩,⟨a,J,hi,e⟩,k⟩
 have X1:SS X body (λD Y H=>∃O He,tM G O He gb D Y H):=(by rintro π s Y H D I ⟨O,He,q⟩;exact @hb O He π s Y H D I q);have U1:PG X tg (λv Y H Q=>∃O He,tGD G O He fg v Y H Q):=(by rintro π s Y H v u Q I r ⟨O,He,q⟩;exact @hg O He π s Y H v u Q I r q);have e0:μ.lookup a=W1 (.lst J):=by
  cases J with
  |nil=>exact e.1
  |cons d r=>exact e.1
 obtain⟨P1,h0,r0⟩:=w.top _ (kc e0);refine Tc hp hc (TY hv) U1 X1 hs π s Y H D I ⟨.ref a,w.at hi,a,rfl,⟨P1,.of h0⟩,?_⟩;obtain⟨T0,Hc,w2⟩:=w.here;have k2:∀o μ',K o μ'->Lr G O _ D o μ':=λo μ' q=>(k o μ' q).base T0 w.l0;generalize S2:bm (A.filter λa=>decide (a∉O)) H=Hf at T0 w2 k2;refine⟨λi m L W=>m=J.length-i/\i<=J.length/\∃S μ',Tl G O Hf L W S μ'/\WP a J fg gb (J.drop i) S μ' K,⟨J.length,by simp,eA _,ρ,μ,⟨A,Hc,w2⟩,by simpa using e⟩,?_⟩;rintro i m X0 H3 ⟨rfl,Q2,N1,S0,⟨B,Hd,w3⟩,e3⟩
 by_cases Z:i<J.length
 .right;have hd:J[i]?=W1 J[i]:=by simp[Z]
  have ed:J.drop i=J[i]::J.drop (i+1):=sh Z;rw[ed] at e3;obtain⟨el,N0,e4,e5⟩:=e3;obtain⟨xs,h1,r1⟩:=w3.top _ (kc el);have hx:i<xs.length:=by rw[r1.1];exact Z
  refine⟨⟨xs,xs[i],.of h1,cr hx⟩,λL W=>∃S μ',Tl G O Hf L W S μ'/\WP a J fg gb (J.drop (i+1)) S μ' K,λL W q=>⟨J.length-(i+1),by omega,rfl,Z,q⟩,λx W y=>?_⟩;obtain⟨rfl,y2⟩:=y;have ex:=y2 xs (.of h1);have rx:hQ G (bm B W) x J[i]:=r1.2 i x J[i] ex hd;obtain⟨Hg,w4,up⟩:=w3.lift;refine⟨mu S0++O,Hg,B,N1,J[i],N0,w4,rx,e4,λY1 H5 ⟨A5,S1⟩=>⟨O,Hf,N0,S0,_,⟨A5,Hg,up _ _ _ _ S1⟩,e5,λo5 O0 q5=>?_⟩⟩;cases o5 with
  |nx T=>exact λL W U=>⟨T,O0,U,q5⟩
  |ct T=>exact λL W U=>⟨T,O0,U,q5⟩
  |bk T=>exact λL W U=>k2 _ _ q5 L W U
  |rt d5 T=>exact k2 _ _ q5
 .left;have ei:i=J.length:=by omega
  subst ei;rw[xt] at e3;obtain⟨xs,h1,r1⟩:=w3.top _ (kc e3.1);exact⟨⟨xs,.of h1,by rw[r1.1];exact aE _⟩,k2 _ _ e3.2 X0 H3 ⟨B,Hd,w3⟩⟩
def cpyX(i:Nat):XU:=λρ I K=>∃(a:Addr) (ds:List D) (z:List (List D)),ρ[i]?=W1 (.fz (.adr a))/\I.lookup a=W1 (.lst ds)/\ds.length=z.length/\z.length<sizeLine ∧
 (∀(j:Nat) d cs,ds[j]?=W1 d->z[j]?=W1 cs->∃r,d=.adr r/\I.lookup r=W1 (.lst cs)/\∀c∈cs,scD c=E3)/\K (.lst (z.map .lst)) I
def pW{t:Str}{p q:Pos}(U:Gl X x)(S:X.mg x=E2)(J:d6 x=W1 (.type "list"))(O:PE X (.Name t q) (OH n))(L:x≠"__name__":=by decide)(z:(x==("__debug__":Str))=ZA:=by decide)(I:ay [.Name t q] X.env=[(ZA,eval (.Name t q) X.env)]:=by rfl):PE X (.Call (.Name x p) [.Name t q] [] pos) (λσ H Q=>∃r ys,σ[n]?=W1 (W1 (.ref r))/\MR X.K H r ys/\∀l,H l=E2->Q (.ref l) (fk H l (.lst ys))):=
 Bp (En Tp U S J (BW O Cp I) L z I rfl) (by rintro σ H Q ⟨r,ys,W,T,k⟩;exact ⟨_,W,r,ys,rfl,.inl T,k⟩)
theorem pX{t:Str}{px py:Pos}{W:Expr}{i2:Nat}(N':List Str)(eN:Dd t X.N++[t]=N')(c:Lh X scope t)(hc:X.calm=E3)(hN:X.N.Nodup)(X0:X.N[i2]?=W1 y)(hx:Loc X.env.scope y)(hv:PE X (.Name x xpos) (OH i))(hE:∀Z H2 fp,PE (Bj X scope N' Z H2 fp) W (λσ H Q=>∃r ys,σ[X.N.length]?=W1 (W1 (.ref r))/\MR X.K H r ys/\∀l,H l=E2->Q (.ref l) (fk H l (.lst ys))))(T0:fw (.ListComp W [⟨.Name t px,.Name x xpos,[],0⟩] scope pos) (W1 (.Name y py)) spos.line X.env=pure E3:=by rfl)(hf:X.fn y=E3∨X.env.scope.names.lookup y=W1 .local :=by first | exact .inl rfl | exact .inr rfl | assumption)(hs:∀z,kH (.Name x xpos) X.env z=pure z:=by intro _;rfl):PSM X G (.Assign [.Name y py] (.ListComp W [⟨.Name t px,.Name x xpos,[],0⟩] scope pos) spos) (RC i2 (cpyX i)):=by
 rintro A0 He π s σ H D I ⟨ρ,μ,K,⟨A,Hb,w⟩,⟨a,ds,J,hi,el,hl,hz,N1,q⟩,k⟩
 subst eN;obtain⟨S,h1,r1⟩:=w.top _ (kc el);have lx:S.length=J.length:=r1.1.trans hl;have len:=I.len;refine dI c hc hN X0 hx (TY hv) (λZ H2 fp=>du rfl c Z H2 fp) (λZ H2 fp=>YT) hE T0 hf hs π s σ H D I ⟨.ref a,w.at hi,a,rfl,⟨S,.of h1⟩,λp hp=>?_⟩;have S0:p∉A:=λz=>(w.w.ok.live p z).ne hp;refine⟨λi m ys Hc=>m=J.length-i/\i<=J.length/\Hc p=W1 (.lst ys)/\ab H Hc/\ys.length=i/\be G (bm (p::A) Hc) ys ((J.take i).map .lst),
  ⟨J.length,by simp,eA _,Ag,Ak hp _,rfl,.nil⟩,?_⟩
 rintro i m ys Hc ⟨rfl,P1,U,Y,hy,rr⟩;have ha:=Y _ _ h1
 by_cases N0:i<J.length
 .right;have hx:i<S.length:=by omega
  refine⟨⟨S,S[i],.of ha,cr hx⟩,λx H' q0 os ho=>?_⟩;obtain⟨e0,y2⟩:=q0;subst e0;have ex:=y2 S (.of ha);have hd:ds[i]?=W1 ds[i]:=cr (by omega);have T:J[i]?=W1 J[i]:=cr N0;obtain⟨r,er,lr,O0⟩:=N1 i _ _ hd T;have rx:=r1.2 i x _ ex hd;rw[er] at rx;cases rx;obtain⟨zs,h2,r2⟩:=w.top _ (kc lr);have hr:=Y _ _ h2;obtain⟨o,rfl⟩:=IG.mp ho;have z:(σ++[o]).set X.N.length (W1 (.ref r))=σ++[W1 (.ref r)]:=by rw[<-len,AE _ _ (aE _),se];rfl
  show (∃o2,(σ++[o]).set X.N.length (W1 (.ref r))=σ++o2/\o2.length=1)/\_;rw[z];refine⟨⟨_,rfl,rfl⟩,?_⟩;show (if E3=E3 then _ else _);rw[OF rfl];refine⟨r,zs,by rw[<-len,ii (aE _),se];rfl,.of hr,λl O=>?_⟩;have lp:l≠p:=λe=>by rw[e,U] at O;cases O
  have lA:l∉A:=λy=>by
   cases e:H l with
   |none=>exact (w.w.ok.live l y).ne e
   |some u=>rw[Y _ _ e] at O;cases O
  have Z:ab H (fk (fk H' l (.lst zs)) p (.lst (ys++[.ref l]))):=λb u L=>by
   have bp:b≠p:=λe=>by rw[e,hp] at L;cases L
   have bl:b≠l:=λe=>by rw[e] at L;rw[Y _ _ L] at O;cases O
   rw[Ai bp,Ai bl];exact Y _ _ L
  have s3:ab (bm (p::A) H') (bm (p::A) (fk (fk H' l (.lst zs)) p (.lst (ys++[.ref l])))):=λb u L=>by
   unfold bm at L ⊢;split at L
   .cases L
   .rename_i nb;rw[RF nb];have bp:b≠p:=λe=>nb (by rw[e];simp);have bl:b≠l:=λe=>by rw[e,O] at L;cases L
    rw[Ai bp,Ai bl];exact L
  refine⟨by rw[Ai (cq lp)];exact U,by omega,J.length-(i+1),by omega,rfl,N0,Ag,Z,by simp[hy],?_⟩;rw[zk,T,dc];refine WM (rr.mono s3) ?_;have nl:l∉p::A:=λy=>by
   rcases bP.mp y with y | y
   .exact lp y
   .exact lA y
  refine .lst (xs:=zs) (.of (by rw[Ax nl,Ai lp];exact Ag)) r2.1 λj y d e1 e2=>jL (O0 d (pT e2)) (r2.2 j y d e1 e2)
 .left;have ei:i=J.length:=by omega
  subst ei;rw[LD] at rr;have rr:=rr.mono (CJ (A:=A) (B:=p::A) λb L=>cE _ L);exact⟨⟨S,.of ha,by omega⟩,k _ _ q _ _ ⟨A,Hb,(w.mono Y).set (.lst (xs:=ys) (.of (by rw[Ax S0];exact U)) rr.1 rr.2) i2⟩⟩
def eqW(h:XU)(J:FE):XU:=λρ I K=>h ρ I λd z=>∃y r,J ρ=W1 y/\MQ ZA (seeW z d) y=W1 (.bl r)/\K (.bl r) z
section
variable {a b:Expr}{fb:FE}{h:XU}
def pZ(hG:G.K=X.K)(hu:X.A.units+190<bE)(ha:PMX X G a h)(hb:PF X G b fb)(hm:hZ .Eq b=ZA):PMX X G (.Compare a [.Eq] [b] pos) (eqW h fb):=by
 rintro A0 He L s J H Q I ⟨T,Y,K,ok,e,k⟩
 have O:PE X b (λJ H Q=>∃A,tF G A fb J H Q):=(by rintro L s J H Q I ⟨A,q⟩;exact @hb A L s J H Q I q);refine Te (XQ hG hu) (@ha A0 He) O hm L s J H Q I ⟨T,Y,_,ok,e,λv H' d z A Hb ⟨y,rr,ey,eq,q⟩ w r=>⟨A,T,y,w.w.ok,ey,λZ S W r2=>?_⟩⟩;have U:=w.mono W;have sb:ab (bm A S) (bm (A.filter λa=>decide (a∉mu z)) S):=CJ λa ha=>(d4.mp ha).1;exact T6 ZA (A.filter λa=>decide (a∉mu z)) S v Z _ y (.bl rr) _ (λa ha=>U.w.ok.live a (d4.mp ha).1) (.inl (WN U (r.mono (Ay W)))) (.inl (r2.mono sb)) eq λvv H3 s3 r3=>by
  cases r3;exact k _ H3 _ z A Hb q (U.mono s3) (.bl rr)
end
def Zd:D->Option D
 |.lst ds=>(Ey ds).bind λns=>if ns=[] then E2 else W1 (.int (VW (λi=>ns.getD i 0) (ns.length-1)))
 |_=>E2
def rMn1(K:aI):List V->Hp->VK->Prop:=λxs H Q=>∃(p:Addr) (ns:List Int),xs=[.ref p]/\MR K H p (ns.map V.int)/\ns≠[]/\Q (.int (VW (λi=>ns.getD i 0) (ns.length-1))) H
section
def bY(hc:X.calm=E3)(hG:G.K=X.K):CN X (.builtin "min") (rMn1 G.K):=by
 rw[hG];intro π s σ H xs us Q I r h;obtain⟨p,S,rfl,hs,T,k⟩:=h;obtain⟨u,rfl,L⟩:=NJ r;cases L;obtain⟨Y,J,O,hz⟩:=I.list hs;obtain⟨z,e1,e2,e3⟩:=Vj J;have hl:s.heap.IsList p (gv z):=by rw[<-e1];exact O.isList
 have W:0<S.length:=DZ.mpr T;refine min_intList (I.ok.hd hc) hl (by omega) λv h' tk hP U=>?_;obtain⟨t,rfl⟩:=DV hP;refine⟨.int _,H,I.kept U,⟨t,?_⟩,k⟩;have Z:=Lj (λi j=>decide (jI z i<jI z j)) (z.size-1);have q:=RT (jI z) (z.size-1);rw[q,e2];congr 1;exact O1 λi hi=>e3 i (by omega)
def jP:Sa G (rMn1 G.K) Zd:=by
 intro A H x dx d Q U rx h k;unfold Zd at h;split at h
 .rename_i S;cases z:Ey S with
  |none=>simp[z] at h
  |some L=>
   simp only[z,eI] at h;split at h
   .cases h
   .rename_i J;cases h;obtain⟨q,T,rfl,I,rr⟩:=rx.lst;have O:=Pm rr z;subst O;exact⟨q,L,rfl,I,J,k _ H (ab.refl H) (.int _)⟩
 .cases h
end
def Sl:List (List Nat):=(bb 32).map λn=>(bb 5).filter λi=>n/2^i%2==1
def Of(ks:List Nat)(k:Nat):List Nat:=(ks.filter (·<k))++k::ks.filter (k<·)
def posN(ks:List Nat)(k:Nat):Nat:=(ks.filter (·<k)).length
def OY(led:Bool)(ks:List Nat):SetTable:={ mask:=if ks.length<=4 then 7 else 31,place:=ks.toArray,dummies:=#[],finger:=0,led:=led,moves:=if ks.length<=4 then 0 else 1,plain:=E3 }
def UK(led:Bool)(ks:List Nat):SetTable:={ mask:=7,place:=ks.toArray,dummies:=#[],finger:=0,led:=led,moves:=0,plain:=E3 }
def QI(ks:List Nat)(k:Nat):List Nat:=if k∈ks then ks else Of ks k
def tu(f:Nat->Tok)(k:Nat):Int×ac:=((k:Int),.int k (f k))
def Ze:∀ks∈Sl,∀k∈bb 5,k∉ks->Of ks k∈Sl/\(Of ks k).length=ks.length+1/\ks.length<=4/\Of ks k=ks.take (posN ks k)++k::ks.drop (posN ks k)/\(ks.length=4->Of ks k=[0,1,2,3,4]):=by decide +kernel
def jQ:∀z:Bool,∀ks∈Sl,∀k∈bb 5,k∉ks->(OY z ks).freeSlot (k:Int)=W1 (k,ZA)/\(OY z ks).put k=(UK z (Of ks k),posN ks k)/\(UK z (Of ks k)).fits (ks.length+1)=E3/\(UK z (Of ks k)).tooFull=(ks.length==4):=by decide +kernel
def RV:∀z:Bool,∀ks∈Sl,(OY z ks).fits ks.length=E3/\ks.length<=5/\ks.Pairwise (·<·):=by decide +kernel
def jR:∀k∈bb 5,hashInt (k:Int)=(k:Int):=by decide +kernel
def jT(z:Bool):(UK z [0,1,2,3,4]).relaid #[0,1,2,3,4] 20=W1 (OY z [0,1,2,3,4],#[0,1,2,3,4])/\(OY z [0,1,2,3,4]).fits 5=E3/\coversAll #[0,1,2,3,4] 5=E3:=by revert z;decide +kernel
def p_(z:Bool)(f:Nat->Tok):relayAll (UK z [0,1,2,3,4]) (([0,1,2,3,4].map (tu f)).toArray) 20=(([0,1,2,3,4].map (tu f)).toArray,OY z [0,1,2,3,4],ZA):=by
 obtain⟨J,I,S⟩:=jT z;unfold relayAll;rw[show (([0,1,2,3,4].map (tu f)).toArray).map (·.1)=#[0,1,2,3,4] by simp[tu],J];show (if (coversAll #[0,1,2,3,4] 5&&(OY z [0,1,2,3,4]).fits 5)=E3 then _ else _)=_;rw[I,S];rfl
def v9{z:Type}(l:List z)(p:Nat)(x:z):LF l.toArray p x=(l.take p++x::l.drop p).toArray:=by
 unfold LF;apply Array.ext';simp[xo]
section
variable {A:aS}
def Ps(w:ca)(h:Heap)(a:Addr)(ks:List Nat):Prop:=ks∈Sl/\∃f,ObX h a ((ks.map (tu f)).toArray) (OY (!Pv w) ks)
def Ps.keep{ks:List Nat}(x:Ps w h a ks)(e:∀o,h.get? a=W1 o->h'.get? a=W1 o):Ps w h' a ks:=by
 obtain⟨m,f,o,z,g,q⟩:=x;exact⟨m,f,o,z,e o g,q⟩
def v_{ks:List Nat}{f:Nat->Tok}(m:∀k∈ks,k∈bb 5):ElemsOf (kX prog w) ((ks.map (tu f)).toArray).toList:=λe z=>by
 obtain⟨k,mk,rfl⟩:=aT.mp (by simpa using z);exact⟨⟨(k:Int),BE prog w k (f k),(jR k (m k mk)).symm⟩,rfl⟩
def sub_lt:∀ks∈Sl,∀k∈ks,k∈bb 5:=by decide +kernel
def yr{ks:List Nat}{k:Nat}{u:Tok}{Q:Bool->ah->Prop}(x:Ps w s.heap a ks)(hk:k<5)(c:∀b h',f6 a s.heap h'->Ps w h' a (QI ks k)->Q b { s with heap:=h' }):ag (ai prog w) A (zf a (.int k u) (hashInt k)) Q E s:=by
 obtain⟨S,f,ob⟩:=x;obtain⟨o,ep,g,ex,d⟩:=id ob;have Y:k∈bb 5:=da.mpr hk;have el:ElemsOf (kX prog w) ((ks.map (tu f)).toArray).toList:=v_ (sub_lt ks S);have T0:(kX prog w).is (k:Int) (.int k u)=E3:=BE ..;have U:((ks.map (tu f)).toArray).size=ks.length:=by simp
 obtain⟨O,O0,_⟩:=RV (!Pv w) ks S;have J:(OY (!Pv w) ks).fits ((ks.map (tu f)).toArray).size=E3:=by rw[U];exact O
 have sz:((ks.map (tu f)).toArray).size<scanBound:=by rw[U];exact kx O0 (by decide)
 show ag _ A (zf a (.int k u) ((kX prog w).hash k)) Q E s;unfold zf setAddHashedIn setAddByScan;refine wpAny_holding (ae (om g d J ?_));dsimp only;rw[OF (show byScan (.int k u) _=E3 from byScan_of rfl sz el)];refine ae (ae (rb (ae (wpAny_setScan_of T0 g d J el ?_))));have N0:∀j,(((ks.map (tu f)).toArray).toList.findIdx? λe=>(kX prog w).is (k:Int) e.2)=W1 j->k∈ks:=λj L=>by
  obtain⟨hj,T,_⟩:=List.findIdx?_eq_some_iff_getElem.mp L;obtain⟨k',mk,ek⟩:=aT.mp (show ((ks.map (tu f)).toArray).toList[j]∈ks.map (tu f) from eW hj);rw[<-ek] at T;have:(k':Int)=k:=by simpa [tu,kX,BU] using T
  have:k'=k:=by omega
  exact this▸mk
 rcases Option.eq_none_or_eq_some (((ks.map (tu f)).toArray).toList.findIdx? λe=>(kX prog w).is (k:Int) e.2) with no | ⟨j,L⟩
 .have W:k∉ks:=λm=>by
   have z:=List.findIdx?_eq_none_iff.mp no (tu f k) (by simpa using ⟨k,m,rfl⟩);rw[show (kX prog w).is (k:Int) (tu f k).2=E3 from BE ..] at z;cases z
  rw[no];obtain⟨i1,i2,i3,i4,i5⟩:=Ze ks S k Y W;obtain⟨f1,f2,f3,f4⟩:=jQ (!Pv w) ks S k Y W;have e1:(ks.take (posN ks k)).map (tu f)++((k:Int),kU k u)::(ks.drop (posN ks k)).map (tu f)=(Of ks k).map (tu λj=>if j=k then u else f j):=by
   rw[i4,dc,bn];have same:∀l:List Nat,(∀j∈l,j∈ks)->l.map (tu f)=l.map (tu λj=>if j=k then u else f j):=λl hl=>jv λj mj=>by
    have:j≠k:=λe=>W (e▸hl j mj);simp[tu,this]
   rw[same _ λj m=>EN m,same _ λj m=>B0 m];simp[tu]
  have S0:layNew (OY (!Pv w) ks) ((ks.map (tu f)).toArray) ((kX prog w).hash k) (.int k u)=(((Of ks k).map (tu λj=>if j=k then u else f j)).toArray,UK (!Pv w) (Of ks k),ZA,ZA):=by
   show layNew _ _ (hashInt k) _=_;rw[jR k Y];unfold layNew;rw[f1];dsimp only;rw[f2];dsimp only;rw[v9,<-zg,<-B4,e1];have z:(((Of ks k).map (tu λj=>if j=k then u else f j)).toArray).size=ks.length+1:=by simp[i2]
   rw[z,f3];unfold SetTable.orStandIn;rw[f3];rfl
  rw[S0];dsimp only;refine ae (av ?_);rw[OF (show (UK (!Pv w) (Of ks k)).plain=E3 from rfl),show ze 8 (.int k u)=pure E3 from rfl];refine ae (av ?_);rw[OF rfl];have Z:(((Of ks k).map (tu λj=>if j=k then u else f j)).toArray).size<scanBound:=by simp[i2];exact kx (Nat.succ_le_succ i3) (by decide)
  refine ae (eO ob Z λh1 b1 o1=>?_);have ea:QI ks k=Of ks k:=RF W
  by_cases I:ks.length=4
  .rw[OF (by rw[f4];simp[I])];have e5:=i5 I;rw[e5] at o1 Z ⊢;rw[show SetTable.grown (([0,1,2,3,4].map (tu λj=>if j=k then u else f j)).toArray).size=20 from rfl,p_];dsimp only;refine ae (av (ae (eO o1 Z λh2 b2 o2=>av (av (c _ h2 (b1.trans b2) ?_)))));rw[ea,e5];exact⟨by decide +kernel,_,o2⟩
  .rw[RF (by rw[f4];simp[I])];refine av (av (c _ h1 b1 ?_));rw[ea];have:OY (!Pv w) (Of ks k)=UK (!Pv w) (Of ks k):=by
    unfold OY UK;rw[i2];have h4:ks.length+1<=4:=by omega
    simp only[OF h4]
   exact⟨i1,_,by rw[this];exact o1⟩
 .rw[L];have kk:=N0 j L;have:=c ZA s.heap (EC a _) (by unfold QI;rw[OF kk];exact⟨S,f,ob⟩);exact av (av this)
end
section
variable {a b:Expr}{fs:FA}{es:List Expr}
def tG(X:Cx):List V->Hp->VK->Prop:=λxs H Q=>∃p ns,xs=[.ref p]/\MR X.K H p (ns.map V.int)/\ns.length<=60/\∀l,H l=E2->Q (.ref l) (fk H l (.lst ((kB ns).map V.int)))
theorem Ur:CN X (.builtin "sorted") (tG X):=by
 intro π s σ H xs us Q I r h;obtain⟨p,U,rfl,hs,Z,k⟩:=h;obtain⟨u,rfl,O⟩:=r.one;cases O;obtain⟨z,J,S,Y⟩:=I.list hs;have hl:=J.length;rw[aw] at hl;refine sorted_ints S.isList (Sr J) (by omega) λW T h1 L h3=>?_;have e:=BF L h3;subst e;obtain⟨c,hc⟩:=sortedAll_at s.heap z W;refine⟨.ref _,_,I.laid (a:=s.heap.objs.size+1) (o:=.lst ((kB U).map V.int)) (t':=s.toks) (λb o e=>sortedAll_old e) (kr _) ⟨?_,W.toList,c,Iz h1,by simpa [ma] using hc⟩,rfl,k _ (I.hok.fresh (kr _))⟩;rw[aw,L.length_eq];exact cy Z (by decide)
def JG:List D->Option (List Int)
 |[]=>W1 []
 |.int i::r=>(JG r).map (i::·)
 |_::_=>E2
theorem RW:∀{ds:List D}{ns:List Int},JG ds=W1 ns->ds=ns.map .int
 |[],ns,h=>by cases h;rfl
 |d::r,ns,h=>by
  cases d with
  |int i=>
   cases e:JG r with
   |none=>simp[JG,e] at h
   |some m=>
    simp[JG,e] at h;subst h;rw[RW e];rfl
  |_=>cases h
def Sv(ns:List Int):JG (ns.map .int)=W1 ns:=by
 induction ns with
 |nil=>rfl
 |cons i r z=>show (JG (r.map .int)).map (i::·)=_;rw[z];rfl
def srtI:D->Option D
 |.lst ds=>(JG ds).bind λns=>if ns.length<=60 then W1 (.lst ((kB ns).map .int)) else E2
 |_=>E2
theorem Kz{F:Hp}:∀{ns:List Int}{xs:List V},be G F xs (ns.map .int)->xs=ns.map V.int
 |[],xs,r=>r.nil_inv
 |i::ns,xs,r=>by
  obtain⟨x,I,rfl,z,L⟩:=r.uncons;cases z;rw[Kz L];rfl
def jU(W:G.K=X.K):Sa G (tG X) srtI:=by
 intro A H x dx d Q T r e k;cases dx with
 |lst ds=>
  obtain⟨p,xs,rfl,I,rr⟩:=r.lst;cases S:JG ds with
  |none=>simp[srtI,S] at e
  |some L=>
   have O:(if L.length<=60 then W1 (D.lst ((kB L).map .int)) else E2)=W1 d:=by simpa [srtI,S] using e
   split at O
   .rename_i U;cases O;have ed:=RW S;subst ed;have Z:=Kz rr;subst Z;refine⟨p,L,rfl,W▸I,U,λl Y=>k _ _ (Ak Y _) (Df T Y ⟨by simp,λi v d I J=>?_⟩)⟩;rw[cb] at I J;cases q:(kB L)[i]? with
    |none=>rw[q] at I;cases I
    |some z=>rw[q] at I J;cases I;cases J;exact .int z
   .cases O
 |_=>cases e
end
section
variable {A:aS}{R:nL->ah->Prop}{I:Addr}{wr:List Addr}{P:Nat->ac->Prop}{Sx:Nat->Heap->Prop}
def SW(val:Nat->Nat)(i:Nat):List Nat:=((bb i).map val).foldl QI []
def bZ(val:Nat->Nat)(i:Nat):SW val (i+1)=QI (SW val i) (val i):=by simp[SW,t5,KG]
def yt(W:mP prog w A.in1 I fp wr n P Sx){S:Addr}(nS:S∉fp)(val:Nat->Nat)(hv:∀i v,P i v->∃u,v=.int (val i:Nat) u)(h5:∀i,i<n->val i<5):
    ∀(m i:Nat) (s:ah),i+m=n->Sx i s.heap->Ps w s.heap S (SW val i) ->
      (∀h' tk,(∀b o,b∉wr->b≠S->s.heap.get? b=W1 o->h'.get? b=W1 o)->Ps w h' S (SW val n)->R (.ok (.ret .none)) { s with heap:=h',toks:=tk }) ->
      fA (ai prog w) A (.builtin "set.update.loop" ⟨[.ref S,.ref I],[]⟩) R s:=by
  have nW:S∉wr:=λz=>nS (W.sub S z);have J:∀{s:ah},ag (ai prog w) A.in1 (do
        let W1 x <-gg (.ref I) | ret .none
        let _ <-li [x] (setAdd S x)
        again (.builtin "set.update.loop" ⟨[.ref S,.ref I],[]⟩))
      (λot T=>match ot with | .done f=>R (.ok f) T | .again c'=>c'.quiet=E3/\fA (ai prog w) A c' R T) (λe T=>R (.error e) T) s->fA (ai prog w) A (.builtin "set.update.loop" ⟨[.ref S,.ref I],[]⟩) R s:=λq=>by
    refine ia KI ?_;rw[ly B6 _];exact q
  intro m
  induction m with
  |zero=>
    intro i s e Z x k;have:i=n:=by omega
    subst this;exact J (ae (W.done s _ _ Z λh' tk L=>av (k h' tk (λb o U _ q=>L b o U q) (x.keep λo q=>L S o nW q))))
  |succ m ih=>
    intro i s e Z x k;refine J (ae (W.item i s _ _ (by omega) Z λv h1 tk pv Y L=>?_));obtain⟨u,rfl⟩:=hv i v pv;have x1:Ps w h1 S (SW val i):=x.keep λo q=>L S o nW q;refine ae (wpAny_holding (wpAny_holding (ae ((kX prog w).pyHash (k:=(val i:Int)) (BE ..) ?_))));refine yr (s:={ s with heap:=h1,toks:=tk+1 }) (w:=w) x1 (h5 i (by omega)) λb h2 sb x2=>av ⟨kQ B6 _,?_⟩;rw[<-bZ] at x2;refine ih (i+1) { s with heap:=h2,toks:=tk+1 } (by omega) (W.frame _ _ _ Y λb m o q=>(sb.2 b λz=>nS (z▸m)).trans q) x2 λh3 t3 N0 x3=>?_;exact k h3 t3 (λb o U O q=>N0 b o U O ((sb.2 b O).trans (L b o U q))) x3
end
section
variable {A:aS}
theorem qC{T:String}{l:Addr}{val:Nat->Nat}(O:A.handled=E2)(X:TN prog w T l n (λi v=>∃u,v=.int (val i:Nat) u) s.heap)(h5:∀i,i<n->val i<5)(k:∀h' tk,Ps w h' s.heap.objs.size (SW val n)->(∀b o,s.heap.get? b=W1 o->h'.get? b=W1 o)->Q (.ref s.heap.objs.size) { s with heap:=h',toks:=tk }):ag (ai prog w) A (call (.type "set") [.ref l]) Q E s:=by
 refine rG (Q1:=λob I=>ob=.ref s.heap.objs.size/\I={ s with heap:=s.heap.push { cls:=.type "set",dict:=E2,data:=.set #[] 0 (.fresh 0 0 (!Pv w)) } }) B7 (KL _) (Yg _ ⟨rfl,rfl⟩) λob I q0=>?_;obtain⟨e1,e2⟩:=q0;subst e1 e2;have ob:=cp s.heap (o:={ cls:=.type "set",dict:=E2,data:=.set #[] 0 (.fresh 0 0 (!Pv w)) }) rfl;refine⟨⟨_,ob,rfl⟩,KO B7.init.plain KP (KS ⟨_,ob,rfl⟩ ?_)⟩;have Z:∀o,s.heap.get? l=W1 o->(s.heap.push { cls:=.type "set",dict:=E2,data:=.set #[] 0 (.fresh 0 0 (!Pv w)) }).get? l=W1 o:=λo q=>bg _ q;have ty:=X.ty { s with heap:=s.heap.push { cls:=.type "set",dict:=E2,data:=.set #[] 0 (.fresh 0 0 (!Pv w)) } } Z;have I:=X.ns;have s2:=X.nf;have s3:=X.nd;unfold de.«set.__init__» noKeywords KU;generalize hp:nI=PI
 wp_walk
 subst hp;refine X.it _ _ _ _ (by simp[O]) Z (by rw[gi];exact jp X.lt) λoI Sx P W Y hv=>?_;refine ae (xE ?_);have J:(s.heap.push { cls:=.type "set",dict:=E2,data:=.set #[] 0 (.fresh 0 0 (!Pv w)) }).objs.size=s.heap.objs.size+1:=gi _ _;have U:Ps w ((s.heap.push { cls:=.type "set",dict:=E2,data:=.set #[] 0 (.fresh 0 0 (!Pv w)) }).push oI) s.heap.objs.size (SW val 0):=
  Ps.keep (h:=s.heap.push { cls:=.type "set",dict:=E2,data:=.set #[] 0 (.fresh 0 0 (!Pv w)) }) ⟨show []∈Sl by decide +kernel,λ_=>0,_,0,ob,⟨rfl,rfl,rfl⟩,rfl⟩ λo q=>bg _ q
 refine yt (W _ (by simp[O])) (S:=s.heap.objs.size) (λz=>?_) val hv h5 n 0 _ (by omega) Y U λh' tk kp x=>?_
 .rcases bP.mp z with z | z
  .rw[J] at z;exact SF z (bX (pw _))
  .exact SF (fR.mp z) (nE X.lt)
 .show ag _ _ _ _ _ _;refine av (show ag _ _ (ret fq) _ _ _ from av ⟨rfl,k h' tk x λb o q=>?_⟩);have L:b<s.heap.objs.size:=bv q;exact kp b o (λz=>by have e:=fR.mp z;rw[J] at e;exact SF e (bX (jp L))) (bX L) (bg _ (bg _ q))
def Ps.toQ{ks:List Nat}(x:Ps w h q ks):∃f,Pp w h q (ks.map (tu f)):=by
 obtain⟨m,f,ob⟩:=x;obtain⟨z,I,S⟩:=RV (!Pv w) ks m;exact⟨f,_,_,ob,⟨by simp,by simpa [OY] using S,by simp[OY],by simpa using z,λb=>by simp[OY,b],rfl,by simp;omega⟩⟩
theorem WV(f:Nat->Tok):∀ks:List Nat,F0 ((ks.map (tu f)).map (·.2)) (ks.map λk:Nat=>(k:Int))
 |[]=>.nil
 |k::r=>.cons k (f k) (WV f r)
theorem RX{ks:List Int}{v:ac}(L:ks.length<=60)(I:∀(R:List ac->ah->Prop) (E':ac->ah->Prop),(∀(vs:List ac) (ns:List Int) (h':Heap) (tk:Nat),F0 vs ns->ns.Perm ks->s.heap.objs.size<=h'.objs.size->(∀b o,s.heap.get? b=W1 o->h'.get? b=W1 o)->R vs { s with heap:=h',toks:=tk })->ag (ai prog w) A.in1 (qv v) R E' s)(k:∀(its:List ac) (e:Nat) (l:Addr) (h':Heap) (tk:Nat),F0 its (kB ks)->h'.get? l=W1 (lP "list" its.toArray e)->s.heap.objs.size<=l->(∀b o,s.heap.get? b=W1 o->h'.get? b=W1 o)->Q (.ref l) { s with heap:=h',toks:=tk }):
  ag (ai prog w) A (call (.builtin "sorted") [v]) Q E s:=by
 refine xL xS y0 ya (yi _) ?_;unfold de.«sorted»;refine ae (m:=yk "sorted" 1 1 _) (av (ae (I _ _ λvs ns U tk T O Z J=>?_)));have z:vs.length<=60:=by rw[T.length,O.length_eq];exact L
 refine ae (oj ?_ (cy z (by decide)));have gl:(U.push { cls:=.type "list",data:=.seq vs.toArray }).get? U.objs.size=W1 (lP "list" vs.toArray 0):=cp _ rfl;refine ae (wpAny_holding (hU yn ⟨_,gl,rfl⟩ yA (PyProof.Rows.list_sort_tree gl T (by omega) λW Y a1 a2 a3=>⟨_,rfl,?_⟩) (yB _)));have e:=BF (a2.trans O) a3;subst e;obtain⟨c,I⟩:=yT (out:=W) gl;refine av ⟨_,rfl,k W.toList c _ _ tk a1 (by simpa using I) Z λb o g=>?_⟩;have S:=bv (J b o g);rw[yY (bX S) (by rw[gi];exact jp S)];exact bg _ (J b o g)
end
open PySem.MeetsSeq PySem.MeetsSeq2 PySem.MeetsSeq3 PySem.SeqAt
open PySem.AutoSeq1 (wpAny_loadPart')
def jV(l b:Addr)(items z:Array ac)(n n2:Nat)(Z O:Option Addr)(sl L:Array (Option ac))(a c:Int)(t u:Tok)(h1:items[0]?=W1 (.int a t))(U:z[0]?=W1 (.int c u))(ne:a≠c):
  Meets (de.«list.__eq__.loop» ⟨[.ref l,.ref b,eP 0,eP 0],[]⟩)
   (λA R s=>s.heap.get? l=W1 { cls:=.type "list",dict:=Z,data:=.seq items n,slots:=sl }/\s.heap.get? b=W1 { cls:=.type "list",dict:=O,data:=.seq z n2,slots:=L } ∧
    R (.ok (.ret (.bool (decide (a<c))))) s):=by
 intro S w A R s h;obtain⟨hp,g,d,tk,W⟩:=s;obtain⟨Y,T,h⟩:=h
 wp_walk using nc Y,nc T
 have J:items[(0:Int).toNat]?=W1 (.int a t):=h1;have I:z[(0:Int).toNat]?=W1 (.int c u):=U;rw[J,I];refine ae (vt ?_);rw[show (a==c)=ZA from beq_eq_false_iff_ne.mpr ne]
 wp_walk using nc Y,nc T
 rw[J,I];refine ae (show ag _ _ (dA .Lt (.int a t) (.int c u)) _ _ _ from wpAny_lt_int ?_);exact av h
def jW(l b:Addr)(items z:Array ac)(n n2:Nat)(Z L:Option Addr)(sl I:Array (Option ac))(a c:Int)(t u:Tok)(h1:items[0]?=W1 (.int a t))(S:z[0]?=W1 (.int c u))(ne:a≠c):
  Meets (de.«list.__lt__» ⟨[.ref l,.ref b],[]⟩)
   (λA R s=>s.heap.get? l=W1 { cls:=.type "list",dict:=Z,data:=.seq items n,slots:=sl }/\s.heap.get? b=W1 { cls:=.type "list",dict:=L,data:=.seq z n2,slots:=I } ∧
    R (.ok (.ret (.bool (decide (a<c))))) s):=by
 intro J w A R s h;obtain⟨U,g,d,tk,T⟩:=s;obtain⟨Y,O,h⟩:=h;have W:=LG
 wp_walk using nc Y,nc O
 exact⟨kQ plain_eq_loop _,ia entry_eq_loop (by
  rw[ly plain_eq_loop _];exact jV l b items z n n2 Z L sl I a c t u h1 S ne J w A R _ ⟨Y,O,h⟩)⟩
def Xq(l:Addr)(items:Array ac)(n:Nat)(Z:Option Addr)(sl:Array (Option ac))(U:∀j (h:j<items.size),∃a t,items[j]=.int a t)(k:Nat):
  ∀i:Nat,items.size-i=k->Meets (de.«list.__eq__.loop» ⟨[.ref l,.ref l,eP i,eP 0],[]⟩)
   (λA R s=>s.heap.get? l=W1 { cls:=.type "list",dict:=Z,data:=.seq items n,slots:=sl }/\R (.ok (.ret (.bool ZA))) s):=by
 induction k with
 |zero=>
  intro i T J w A R s h;obtain⟨S,g,d,tk,L⟩:=s;obtain⟨Y,h⟩:=h
  wp_walk using nc Y
  have I:items[((i:Nat):Int).toNat]?=E2:=by simp;omega
  rw[I]
  wp_walk using nc Y
  show R (.ok (.ret (.bool (decide (items.size<items.size))))) _;rw[UF (iE _)];exact h
 |succ k O=>
  intro i T J w A R s h;obtain⟨S,g,d,tk,L⟩:=s;obtain⟨Y,h⟩:=h
  wp_walk using nc Y
  have z:i<items.size:=by omega
  obtain⟨a,t,e⟩:=U i z;have I:items[((i:Nat):Int).toNat]?=W1 (.int a t):=by simp[z,e]
  have W:((i:Int)+1)=((i+1:Nat):Int):=by push_cast;rfl
  rw[I];refine ae (vt ?_);rw[MH]
  wp_walk
  rw[W];exact⟨kQ plain_eq_loop _,ia entry_eq_loop (by
   rw[ly plain_eq_loop _];exact O (i+1) (by omega) J w A R _ ⟨Y,h⟩)⟩
def jX(l:Addr)(items:Array ac)(n:Nat)(Z:Option Addr)(sl:Array (Option ac))(z:∀j (h:j<items.size),∃a t,items[j]=.int a t):
  Meets (de.«list.__lt__» ⟨[.ref l,.ref l],[]⟩)
   (λA R s=>s.heap.get? l=W1 { cls:=.type "list",dict:=Z,data:=.seq items n,slots:=sl }/\R (.ok (.ret (.bool ZA))) s):=by
 intro J w A R s h;obtain⟨L,g,d,tk,I⟩:=s;obtain⟨Y,h⟩:=h;have T:=LG
 wp_walk using nc Y
 exact⟨kQ plain_eq_loop _,ia entry_eq_loop (by
  rw[ly plain_eq_loop _];exact Xq l items n Z sl z _ 0 rfl J w A R _ ⟨Y,h⟩)⟩
section
variable {A:aS}
def Xr{l:Addr}{items z:Array ac}{n2:Nat}{Z J:Option Addr}{I:Array (Option ac)}{a c:Int}{t u:Tok}{Q:Bool->ah->Prop}(S:A.units<bE)(Y:s.heap.get? l=W1 { cls:=.type "list",dict:=Z,data:=.seq items n,slots:=sl })(L:s.heap.get? b=W1 { cls:=.type "list",dict:=J,data:=.seq z n2,slots:=I })(h1:items[0]?=W1 (.int a t))(O:z[0]?=W1 (.int c u))(ne:a≠c)(h:Q (decide (a<c)) s):
  ag (ai prog w) A (LH E3 (.ref l) (.ref b)) Q E s:=by
 rw[LI];simp only[WG];refine ae (wpAny_cRoomFor S ?_);refine ae (LJ ⟨_,Y,rfl⟩ BG (A8 BG ⟨_,Y,rfl⟩ LL (LM _ _) (jW l b items z n n2 Z J sl I a c t u h1 O ne) ⟨Y,L,?_⟩));exact jS h
def Xu{l:Addr}{items:Array ac}{Z:Option Addr}{Q:Bool->ah->Prop}(S:A.units<bE)(Y:s.heap.get? l=W1 { cls:=.type "list",dict:=Z,data:=.seq items n,slots:=sl })(z:∀j (h:j<items.size),∃a t,items[j]=.int a t)(h:Q ZA s):
  ag (ai prog w) A (LH E3 (.ref l) (.ref l)) Q E s:=by
 rw[LI];simp only[WG];refine ae (wpAny_cRoomFor S ?_);refine ae (LJ ⟨_,Y,rfl⟩ BG (A8 BG ⟨_,Y,rfl⟩ LL (LM _ _) (jX l items n Z sl z) ⟨Y,?_⟩));exact jS h
end
open PySem.W
open PyProof.Rows (seqObj listItems_at listUpdate_at seqEpoch_at list_sort_plain sortedHeap get?_update_seq keyLt' tuples' keyKind' oneLt' oneLt_int arrOf failedOf SortSt general' pairsOf oneType' kat_kind_eq oneTypeOnly'_eq firstOfTuple')
def IsL(h:Heap)(k:Nat)(b:Addr):Prop:=∃Z sl items n t,h.get? b=W1 { cls:=.type "list",dict:=Z,data:=.seq items n,slots:=sl }/\items[0]?=W1 (.int (k:Int) t)/\∀j (_:j<items.size),∃a t,items[j]=.int a t
theorem IsL.keep{k:Nat}(x:IsL h k b)(e:∀o,h.get? b=W1 o->h'.get? b=W1 o):IsL h' k b:=let ⟨dd,sl,i,n,t,g,z⟩:=x;⟨dd,sl,i,n,t,e _ g,z⟩
section
variable {A:aS}
theorem bf{Q:PyProof.Rows.SortKind->ah->Prop}(L:∀v∈vs,∃a o,v=ba a/\s.heap.get? a=W1 o/\o.cls=.type "list")(J:0<vs.length)(h:Q oneType' s):ag M A (keyKind' vs.toArray) Q E s:=by
 have ty:∀v∈vs,Looks M s.heap (typeOf v) (.type "list"):=λv z=>by
  obtain⟨a,o,rfl,g,c⟩:=L v z;rw[<-c];exact (Looks.ld g).andThen .now
 rw[kat_kind_eq,LN,map_eq_pure_bind];refine ae (ae (kas_mapM (r:=E2) _ (λv z S T=>?_) (av ?_)))
 .rw[kas_first_eq];refine ae ((ty v z).here ?_);rw[OF (by first | decide | simp)];exact av T
 .obtain⟨v0,vr,rfl⟩:∃v0 vr,vs=v0::vr:=by
   match vs,J with
   |v0::vr,_=>exact⟨v0,vr,rfl⟩
  rw[RF (by simp),RF (by simp),oneTypeOnly'_eq,LN,map_eq_pure_bind];refine ae (ae (ae (kas_mapM (r:=gL "list") _ (λv z S T=>(ty v z).here T) (av ?_))));have I:((BH (λ_=>gL "list") (v0::vr)).toArray.all λx=>x==gL "list")=E3:=by
   simp only[List.all_toArray,xp,dL];intro _ _;show (gL "list"==gL "list")=E3;decide
  have O:(BH (λ_=>gL "list") (v0::vr)).toArray[0]?=W1 (gL "list"):=by simp
  rw[O];simp only[I,WG];exact av (av h)
end
section
variable {A:aS}
def wA{k m:Nat}{c:Addr}{Q:Bool->ah->Prop}(S:A.units<bE)(x:IsL s.heap k b)(y:IsL s.heap m c)(e:k=m->b=c)(h:Q (decide (k<m)) s):
  ag (ai prog w) A (keyLt' oneType' (.ref b) (.ref c)) Q E s:=by
 rw[PyProof.Rows.keyLt'_oneType];obtain⟨_,_,W,n1,O,U,Z,J⟩:=x;obtain⟨_,_,T,n2,L,I,Y,a2⟩:=y
 by_cases z:k=m
 .obtain rfl:=e z;subst z;rw[UF (iE _)] at h;exact Xu S U J h
 .refine Xr S U I Z Y (λq=>z (by omega)) ?_;rw[show decide ((k:Int)<(m:Int))=decide (k<m) by rw[decide_eq_decide];omega];exact h
theorem Xv{qs:List (Nat×Addr)}{P:Fin->ah->Prop}(ho:s.heap.get? a=W1 (ma "list" (qs.map λx=>ba x.2).toArray n))(hu:A.units<bE)(P1:∀x∈qs,IsL s.heap x.1 x.2)(na:∀x∈qs,x.2≠a)(nd:(qs.map (·.1)).Nodup)(Q2:qs.length<64)(k:∀Z:List (Nat×Addr),Z.Perm qs->(Z.map λx=>x.1).Pairwise (·<·)->P (.done (.ret .none)) { s with heap:=B8 s.heap a (qs.map λx=>ba x.2) (Z.map λx=>ba x.2).toArray }):
  ag (ai prog w) A (de.«list.sort» ⟨[.ref a],[]⟩) P E s:=by
 generalize S:(qs.map λx=>ba x.2)=vs at ho k;have lv:vs.length=qs.length:=by rw[<-S,aw]
 rw[list_sort_plain];have ha:a<s.heap.objs.size:=bv ho;refine ae (listItems_at ho rfl ?_);refine ae (ua ho rfl ?_ (by rw[cw,eR];omega) (eA _));obtain⟨e1,S0⟩:∃e1,(s.heap.update a (i6 λ_=>#[])).get? a=W1 (ma "list" #[] e1):=⟨_,get?_update_seq ho (λ_=>#[])⟩;refine ae (ub S0 rfl ?_);refine ae (EW ?_ (by show vs.length<=_;rw[eR];omega));refine ae (oj ?_ (eA _));refine wpAny_holding ?_;generalize hg:((s.heap.update a (i6 λ_=>#[])).push (ma "tuple" vs.toArray 0)).push (ma "list" #[] 0)=g6;have W:g6.get? a=W1 (ma "list" #[] e1):=by
  rw[<-hg];exact bg _ (bg _ S0)
 have J:∀x∈qs,IsL g6 x.1 x.2:=λx hx=>(P1 x hx).keep λo g=>by
  rw[<-hg];exact bg _ (bg _ ((kN _ _ (cq (na x hx))).trans g))
 have hG:B8 s.heap a vs=λN0=>g6.update a (i6 λ_=>N0):=by funext N0;rw[<-hg];rfl
 dsimp only
 by_cases O:vs.toArray.size<2
 .rw[OF O,OF O];refine ae (av ?_);rw[L3];refine ae (av ?_);dsimp only;refine ae (ub W rfl ?_);refine ae (ua W rfl ?_ (hsz2:=by rw[L4];show (uk vs).size<=_;rw[L5,eR];omega));simp only[bne_self_eq_false,dP,XG];refine av ?_;have:=k qs (lI _) (by
   rw[cw,lv] at O
   match qs,O with
   |[],_=>exact xi
   |[x],_=>exact L6 _ _)
  rw[S,hG] at this;have ez:(arrOf (B9 Bi (vs.toArray.zip vs.toArray) #[] 7 E2)).map (·.2)=vs.toArray:=by
   show (vs.toArray.zip vs.toArray).map (·.2)=vs.toArray;apply AK.mp;simp[Ul]
  rw[show (vs.toArray.zip vs.toArray)=uk vs from rfl] at ez;show P _ { s with heap:=g6.update a (i6 λ_=>(arrOf (B9 Bi (uk vs) #[] 7 E2)).map (·.2)) };rw[ez];exact this
 .rw[RF O,RF O];have l2:2<=vs.length:=by rw[cw] at O;omega
  refine ae (bf (s:={ s with heap:=g6 }) (λv hv=>?_) (by omega) ?_)
  .rw[<-S] at hv;obtain⟨x,hx,rfl⟩:=aT.mp hv;obtain⟨_,_,items,m,t,g,_⟩:=J x hx;exact⟨x.2,_,rfl,g,rfl⟩
  show ag (ai prog w) A _ P E { s with heap:=g6 };have T:∀i (h:i<qs.length),vs.getD i fq=.ref qs[i].2:=λi h=>by
   rw[<-S];simp[h]
  have inj:∀i j,i<vs.length->j<vs.length->(λi=>(qs.getD i (0,0)).1) i=(λi=>(qs.getD i (0,0)).1) j->i=j:=λi j I U e=>by
   rw[lv] at I U;simp only[show qs.getD i (0,0)=qs[i] by simp[I],show qs.getD j (0,0)=qs[j] by simp[U]] at e;have e2:=e;refine (zc (l:=qs.map (·.1)) (by simpa using I) nd).mp ?_;rw[cb,cb,cr I,cr U];exact NG W1 e2
  have N1:=QO.wp (cmp:=kas_ask prog w A oneType' vs) (s:={ s with heap:=g6 }) (λi j C I U hC=>by
   rw[lv] at I U;unfold kas_ask;rw[T i I,T j U];simp only[show qs.getD i (0,0)=qs[i] by simp[I],show qs.getD j (0,0)=qs[j] by simp[U]] at hC;exact wA hu (J _ (eW I)) (J _ (eW U)) (λq=>by
    have ij:i=j:=(zc (l:=qs.map (·.1)) (by simpa using I) nd).mp (by rw[cb,cb,cr I,cr U];exact NG W1 q);subst ij;rfl) hC) (Q:=λq=>Od vs.length q/\VZ (λi=>(qs.getD i (0,0)).1) q vs.length) (R:=λq z=>z={ s with heap:=g6 }/\Od vs.length q/\VZ (λi=>(qs.getD i (0,0)).1) q vs.length) (λq hq=>⟨rfl,hq⟩) (ZX inj (by omega))
  refine ae (gT (kat_run (Q:=λL z=>z={ s with heap:=g6 }/\∃p:Array Nat,arrOf L=p.map (kas_item (vs.toArray.zip vs.toArray))/\failedOf L=E2/\Od vs.length p/\VZ (λi=>(qs.getD i (0,0)).1) p vs.length) rfl l2 (by omega) (λp L z a1 a2 a3 a4=>⟨a4.1,p,a2,a3,a4.2.1,a4.2.2⟩) N1) ?_ λ_ _ e=>e);rintro⟨⟨⟩,L⟩ z ⟨rfl,p,X1,hf,od,Y1⟩;dsimp only;have O0:=kat_snds (ks:=vs) (vs:=vs) rfl X1;have oq:(EV (p.toList.map λi=>vs.getD i fq))=((p.toList.map λi=>qs.getD i (0,0)).map λx=>ba x.2).toArray:=by
   rw[bS];congr 1;refine jv λi I=>?_;have I:=da.mp (od.pm.mem_iff.mp I);rw[lv] at I;rw[T i I];simp[I]
  rw[O0,oq];have Y:(p.toList.map λi=>qs.getD i (0,0)).Perm qs:=by
   have e:(bb vs.length).map (λi=>qs.getD i (0,0))=qs:=by
    apply Bn
    .simp[lv]
    .intro i h1 O;simp[O]
   have:=od.pm.map λi=>qs.getD i (0,0)
   rwa [e] at this
  have X0:((p.toList.map λi=>qs.getD i (0,0)).map λx=>x.1).Pairwise (·<·):=by
   rw[bS,hJ,sj];intro i j I U S1;have U1:i<p.size:=by simpa using I
   have T0:j<p.size:=by simpa using U
   have:=Y1 i j S1 (by rw[<-od.sz];exact T0);rw[show p.getD i 0=p[i] by simp[U1],show p.getD j 0=p[j] by simp[T0]] at this;simpa using this
  refine ae (ub W rfl ?_);refine ae (ua W rfl ?_ (hsz2:=by
   rw[cw,aw,Y.length_eq,eR];omega))
  rw[hf];simp only[bne_self_eq_false,dP,XG];have:=k _ Y X0;rw[hG] at this;exact av this
end
section
abbrev rfL (qs:List (Nat×Addr)):List V:=qs.map λx=>V.ref x.2
def tH(X:Cx):List V->Hp->VK->Prop:=λxs H Q=>∃(p:Addr) (qs:List (Nat×Addr)),xs=[.ref p]/\MR X.K H p (rfL qs)/\(∀x∈qs,∃ns:List Int,MR X.K H x.2 (((x.1:Int)::ns).map V.int))/\qs.Pairwise (λx y=>x.1<y.1)/\qs.length<=60/\∀l,H l=E2->Q (.ref l) (fk H l (.lst (rfL qs)))
theorem WQ:∀(qs:List (Nat×Addr)),cc (rfL qs) (qs.map λx=>ba x.2)
 |[]=>.nil
 |x::r=>.cons rfl (WQ r)
theorem Px:∀{ns:List Int}{us:List ac},cc (ns.map V.int) us->∀j (h:j<us.length),∃a t,us[j]=.int a t
 |[],us,r,j,h=>by cases r;cases h
 |n::ns,us,r,j,h=>by
  cases r with
  |cons z L=>
   obtain⟨t,rfl⟩:=z;cases j with
   |zero=>exact⟨n,t,rfl⟩
   |succ j=>exact Px L j (by simpa using h)
def wB(I:Inv X π σ H s){k:Nat}{b:Addr}{ns:List Int}(h:MR X.K H b (((k:Int)::ns).map V.int)):IsL s.heap k b:=by
 obtain⟨Z,r,Y,_⟩:=I.list h;obtain⟨o,n,g,c,dd,d⟩:=Y;obtain⟨cls,L,O,z⟩:=o;cases c;cases d;cases r with
 |cons W U=>
  rename_i u S;obtain⟨t,rfl⟩:=W;refine⟨_,_,_,n,t,g,rfl,λj hj=>?_⟩;cases j with
  |zero=>exact⟨_,t,rfl⟩
  |succ j=>
   have J:j<S.length:=by simpa using hj
   obtain⟨a,T,e⟩:=Px U j J;exact⟨a,T,by simpa using e⟩
theorem Rv(hu:X.A.units+4<bE):CN X (.builtin "sorted") (tH X):=by
 intro π s σ H xs us Q I r h;obtain⟨p,qs,rfl,hp,hq,J,hz,k⟩:=h;obtain⟨u,rfl,ru⟩:=NJ r;cases ru;have O:∀x∈qs,IsL s.heap x.1 x.2:=λx S=>by
  obtain⟨ns,h⟩:=hq x S;exact wB I h
 obtain⟨L,rv,pl,_⟩:=I.list hp;have ei:L=qs.map λx=>ba x.2:=by
  have:=NB (bs:=qs.map (·.2)) (us:=L) (by rw[bS];exact rv);rw[this,bS];rfl
 obtain⟨o,ho,W,n,hd⟩:=pl.isList;rw[ei] at hd;refine xL xS y0 ya (yi _) ?_;unfold de.«sorted»;refine ae (m:=yk "sorted" 1 1 _) (av (ae (Pu (.inl rfl) ho W hd (by rw[aw];omega) λz T U=>?_)));refine ae (oj ?_ (by rw[aw,eR];omega));have gl:(z.push { cls:=.type "list",data:=.seq (qs.map λx=>ba x.2).toArray }).get? z.objs.size=W1 (lP "list" (qs.map λx=>ba x.2).toArray 0):=cp _ rfl;have ne:∀x∈qs,x.2≠z.objs.size:=λx S=>by
  obtain⟨_,_,_,_,_,g,_⟩:=O x S;exact bX (eK (bv g) T)
 have nd:(qs.map (·.1)).Nodup:=by
  rw[LO,hJ];exact J.imp λh=>bX h
 refine ae (wpAny_holding (hU yn ⟨_,gl,rfl⟩ yA (Xv gl (by simp;omega) (λx S=>(O x S).keep λo g=>bg _ (U _ o g)) ne nd (by omega) λL2 p2 Z=>⟨_,rfl,?_⟩) (yB _)));have e2:L2=qs:=by
  rw[hJ] at Z;exact List.Perm.eq_of_pairwise (λa b _ _ z h2=>SF z (Nat.not_lt_of_gt h2)) Z J p2
 subst e2;obtain⟨c,Y⟩:=yT (out:=(L2.map λx=>ba x.2).toArray) gl;refine av ⟨_,rfl,.ref z.objs.size,_,I.laid (a:=z.objs.size) (o:=.lst (rfL L2)) (t':=s.toks) (λb o g=>?_) T ⟨by rw[aw,eR];omega,_,c,WQ L2,Y⟩,rfl,k _ (I.hok.fresh T)⟩;have lb:=bv (U b o g);rw[yY (bX lb) (by rw[gi];exact jp lb)];exact bg _ (U b o g)
def lsN:D->Option Nat
 |.lst ds=>(Ey ds).bind λns=>match ns with | k::_=>if 0<=k then W1 k.toNat else E2 | []=>E2
 |_=>E2
def lsA:List D->Option (List Nat)
 |[]=>W1 []
 |d::r=>(lsN d).bind λk=>(lsA r).map (k::·)
def srtL:D->Option D
 |.lst ds=>(lsA ds).bind λks=>if ks.Pairwise (·<·)/\ks.length<=60 then W1 (.lst ds) else E2
 |_=>E2
theorem Zf{F:Hp}:∀{ds:List D}{xs:List V}{ks:List Nat},be G F xs ds->lsA ds=W1 ks->∃qs:List (Nat×Addr),xs=rfL qs/\qs.map (·.1)=ks/\∀x∈qs,∃ns:List Int,MR G.K F x.2 (((x.1:Int)::ns).map V.int)
 |[],xs,ks,r,e=>by
  cases e;exact⟨[],r.nil_inv,rfl,by simp⟩
 |d::ds,xs,ks,r,e=>by
  obtain⟨x,ys,rfl,S,O⟩:=r.uncons;cases z:lsN d with
  |none=>simp[lsA,z] at e
  |some k=>
   cases L:lsA ds with
   |none=>simp[lsA,z,L] at e
   |some T=>
    simp[lsA,z,L] at e;subst e;obtain⟨qs,rfl,e2,U⟩:=Zf O L;cases d with
    |lst cs=>
     cases J:Ey cs with
     |none=>simp[lsN,J] at z
     |some ns=>
      simp only[lsN,J,eI] at z;cases ns with
      |nil=>cases z
      |cons n ns=>
       simp only at z;split at z
       .rename_i Y;cases z;cases S with
        |lst W Z rr=>
         rename_i a zs;have ez:=Pm ⟨Z,rr⟩ J;subst ez;refine⟨(n.toNat,a)::qs,rfl,by simp[e2],λx I=>?_⟩
         rcases bP.mp I with rfl | I
         .exact⟨ns,by rw[show ((n.toNat:Nat):Int)=n from AX Y];exact W⟩
         .exact U x I
       .cases z
    |_=>simp[lsN] at z
def jY(W:G.K=X.K):Sa G (tH X) srtL:=by
 intro A H x dx d Q U r e k;cases dx with
 |lst J=>
  obtain⟨p,xs,rfl,h1,rr⟩:=r.lst;cases S:lsA J with
  |none=>simp[srtL,S] at e
  |some z=>
   have O:(if z.Pairwise (·<·)/\z.length<=60 then W1 (D.lst J) else E2)=W1 d:=by simpa [srtL,S] using e
   split at O
   .rename_i I;cases O;obtain⟨L,rfl,e1,e2⟩:=Zf rr S;subst e1;refine⟨p,L,rfl,W▸h1,λx Z=>?_,hJ.mp I.1,by simpa using I.2,λl Y=>k _ _ (Ak Y _) (Df U Y rr)⟩;obtain⟨T,q⟩:=e2 x Z;exact⟨T,W▸Ao.seq q⟩
   .cases O
 |_=>simp[srtL] at e
end
section
variable {a:Expr}{fa:FE}
abbrev Zg (w:ca) (q:Addr) (ks:List Nat):HO:=.ext λh=>Ps w h q ks
def YY(z:List Nat):List Nat:=z.foldl QI []
def jZ(zs:List Nat):SW (λi=>zs.getD i 0) zs.length=YY zs:=by
 unfold SW YY;congr 1;apply Bn
 .simp
 .intro i I z;simp[z]
def jb{ks:List Nat}{k y:Nat}:y∈QI ks k↔y∈ks∨y=k:=by
 unfold QI Of;split
 .rename_i h;constructor
  .exact .inl
  .rintro (m | rfl)
   .exact m
   .exact h
 .rename_i h;simp only[dQ,bP,d4,hH];have:y∈ks->y≠k:=λm e=>h (e▸m);constructor
  .rintro (⟨m,_⟩ | e | ⟨m,_⟩)
   .exact .inl m
   .exact .inr e
   .exact .inl m
  .rintro (m | e)
   .rcases Nat.lt_or_gt_of_ne (this m) with z | z
    .exact .inl ⟨m,z⟩
    .exact .inr (.inr ⟨m,z⟩)
   .exact .inr (.inl e)
def wC:∀ks∈Sl,ks=(bb 5).filter (·∈ks):=by decide +kernel
theorem jc:∀(I ks:List Nat),ks∈Sl->(∀z∈I,z<5)->I.foldl QI ks∈Sl/\∀y,y∈I.foldl QI ks↔y∈ks∨y∈I
 |[],ks,h,_=>⟨h,λy=>by simp⟩
 |z::r,ks,h,l=>by
  have S:QI ks z∈Sl:=by
   unfold QI;split
   .exact h
   .rename_i J;exact (Ze ks h z (da.mpr (l z dn)) J).1
  obtain⟨O,L⟩:=jc r _ S λy m=>l y (cE _ m);refine⟨O,λy=>?_⟩;rw[List.foldl_cons,L,jb,bP,or_assoc]
def wD{I:List Nat}(l:∀z∈I,z<5):YY I=(bb 5).filter (·∈I):=by
 obtain⟨L,J⟩:=jc I [] (by decide +kernel) l;rw[show YY I=I.foldl QI [] from rfl,wC _ L];refine F3 λk _=>?_;have:=J k;simpa using this
theorem WR{z:List Nat}(r:cc (z.map λk:Nat=>V.int k) us)(i:Nat)(v:ac)(h:us[i]?=W1 v):∃u,v=kU (z.getD i 0:Nat) u:=by
 have Y:=r.length;rw[aw] at Y;have L:i<us.length:=(fF.mp h).1;obtain⟨J,I,u,e⟩:=r.get (i:=i) (x:=V.int ((z[i]'(by omega):Nat):Int)) (by rw[cb,cr (by omega)];rfl);rw[h] at I;cases I;exact⟨u,by rw[e];simp[show i<z.length by omega]⟩
def yu(X:Cx):List V->Hp->VK->Prop:=λxs H Q=>∃p I,xs=[.ref p]/\(MR X.K H p (I.map λk:Nat=>V.int k)∨Nn X.K H p (I.map λk:Nat=>V.int k))/\(∀z∈I,z<5)/\∀l,H l=E2->Q (.ref l) (fk H l (Zg X.w l (YY I)))
theorem bh(hc:X.calm=E3):CN X (.type "set") (yu X):=by
 intro U s S H xs J Q I r h;obtain⟨p,z,rfl,hs,hz,k⟩:=h;obtain⟨u,rfl,W⟩:=NJ r;cases W;have O:∀{T:String},TN X.prog X.w T p z.length (λi v=>∃u,v=kU (z.getD i 0:Nat) u) s.heap->ag (ai X.prog X.w) X.A (call (.type "set") [.ref p]) (EP X U S Q) X.xe s:=λt=>by
  refine qC (val:=λi=>z.getD i 0) (I.ok.hd hc) t (λi L=>?_) λh' tk x Y=>?_
  .rw[show z.getD i 0=z[i] by simp[L]];exact hz _ (eW L)
  rw[jZ] at x;refine⟨.ref s.heap.objs.size,_,I.laid (a:=s.heap.objs.size) (o:=Zg X.w s.heap.objs.size (YY z)) (t':=tk) Y (aE _) ⟨x,?_,λh1 h2 Z e=>Z.keep e⟩,rfl,k _ I.fresh⟩;obtain⟨_,_,o,_,g,_⟩:=x;exact⟨o,g⟩
 rcases hs with hs | hs
 .exact O (by rw[<-aw (as:=z) λk:Nat=>V.int k];exact prsL I hs λJ r=>WR r)
 .exact O (by rw[<-aw (as:=z) λk:Nat=>V.int k];exact prsT I hs λJ r=>WR r)
def WT(h:ns.Pairwise (·<=·)):kB ns=ns:=(BF (lI _) h).symm
def jd(X:Cx):List V->Hp->VK->Prop:=λxs H Q=>∃p ks,xs=[.ref p]/\H p=W1 (Zg X.w p ks)/\∀l,H l=E2->Q (.ref l) (fk H l (.lst (ks.map λk:Nat=>V.int k)))
theorem Us(hc:X.calm=E3):CN X (.builtin "sorted") (jd X):=by
 intro π s σ H xs us Q I r h;obtain⟨p,O,rfl,hp,k⟩:=h;obtain⟨u,rfl,ru⟩:=NJ r;cases ru;obtain⟨x,_,_⟩:=(show BJ X.prog X.w H s.heap p (Zg X.w p O) from I.hok p _ hp);obtain⟨_,N0,Z⟩:=RV E3 O x.1;obtain⟨f,Y⟩:=x.toQ;have ei:kB (O.map λk:Nat=>(k:Int))=O.map λk:Nat=>(k:Int):=WT (hJ.mpr (Z.imp λh=>by omega));refine RX (ks:=O.map λk:Nat=>(k:Int)) (by rw[aw];omega) (λR E' hR=>NK (I.ok.hd hc) Y (by rw[aw];omega) λL W tk hL z J=>?_) λS e l W tk U g z J=>?_
 .obtain⟨L',eL,pL⟩:=V7 hL;subst eL;exact hR _ _ W tk (WV f L') (pL.map _) z J
 .rw[ei] at U;have T:=Iz U;rw[bS] at T;exact⟨.ref l,_,I.laid (a:=l) (o:=.lst (O.map λk:Nat=>V.int k)) (t':=tk) J z ⟨by rw[aw,eR];omega,S,e,T,g⟩,rfl,k l (I.hok.fresh z)⟩
def RZ:List D->Option (List Nat)
 |[]=>W1 []
 |.int i::r=>if 0<=i/\i<5 then (RZ r).map (i.toNat::·) else E2
 |_::_=>E2
theorem WW:∀{ds:List D}{I:List Nat},RZ ds=W1 I->ds=I.map (λk:Nat=>.int k)/\∀z∈I,z<5
 |[],I,h=>by cases h;exact⟨rfl,by simp⟩
 |d::r,I,h=>by
  cases d with
  |int i=>
   unfold RZ at h;split at h
   .rename_i S;obtain⟨J,e,rfl⟩:=iA.mp h;obtain⟨O,L⟩:=WW e;refine⟨?_,λz m=>?_⟩
    .rw[O,bn,show ((i.toNat:Nat):Int)=i by omega]
    .rcases bP.mp m with rfl | m
     .omega
     .exact L z m
   .cases h
  |_=>cases h
def ssN:D->Option D
 |.lst ds=>(RZ ds).map λz=>.lst (((bb 5).filter (·∈z)).map λk:Nat=>.int k)
 |_=>E2
theorem wF{p q:Pos}(hc:X.calm=E3)(hG:G.K=X.K)(hg:Gl X x)(hm:X.mg x=E2)(hv:d6 x=W1 (.builtin "sorted"))(W:Gl X y)(I:X.mg y=E2)(Z:d6 y=W1 (.type "set"))(ha:PU X G a fa)(hn:x≠"__name__":=by decide)(N0:(x==("__debug__":Str))=ZA:=by decide)(T:y≠"__name__":=by decide)(Y:(y==("__debug__":Str))=ZA:=by decide)(he:ay [a] X.env=[(ZA,eval a X.env)]:=by rfl)(L:ay [.Call (.Name y q) [a] [] pos2] X.env=[(ZA,eval (.Call (.Name y q) [a] [] pos2) X.env)]:=by rfl):
  PF X G (.Call (.Name x p) [.Call (.Name y q) [a] [] pos2] [] pos) (uF ssN fa):=λA=>Bp (Iw (Us hc) hg hm hv (BW (En (bh hc) W I Z (BW (@ha A) Cp he) T Y he rfl) Cp L) hn N0 L rfl)<|by
 rintro σ H Q ⟨ρ,d,o,e,k⟩
 obtain⟨dx,e1,S⟩:=Ht e;refine⟨ρ,dx,o,e1,λv H1 s1 r1=>?_⟩;unfold ssN at S;split at S
 .rename_i ds;obtain⟨pp,xs,ev,hs,r⟩:=r1.lst;obtain⟨J,ez,rfl⟩:=iA.mp S;obtain⟨rfl,h5⟩:=WW ez;have ex:xs=J.map λk:Nat=>V.int k:=by
   have:=Kz (ns:=J.map λk:Nat=>(k:Int)) (by rw[bS];exact r);rw[this,bS];rfl
  subst ex;refine⟨pp,J,by rw[ev],.inl (by rw[<-hG];exact hs),h5,λl hl=>⟨l,YY J,rfl,Ag,λm I=>?_⟩⟩;rw[wD h5] at I ⊢;have o1:=(o.mono s1);have n1:l≠m:=λz=>by rw[<-z,Ag] at I;cases I
  have U:H1 m=E2:=by rw[Ai (cq n1)] at I;exact I
  refine k _ _ (s1.trans ((Ak hl _).trans (Ak I _))) (.lst (.of (xs:=((bb 5).filter (·∈J)).map λk:Nat=>V.int k) ?_) (by simp) λi v d O h2=>?_)
  .rw[Ax (λz=>(o1.live m z).ne U),Ag]
  .rw[cb] at O h2;cases q:((bb 5).filter (·∈J))[i]? with
   |none=>rw[q] at O;cases O
   |some z=>rw[q] at O h2;cases O;cases h2;exact .int z
 .cases S
def rSdI:List V->Hp->VK->Prop:=λxs H Q=>∃(p:Addr) (kvs:List (Key×V)) (z:List Int),xs=[.ref p]/\Rd H p (.dK kvs)/\kvs.map (λq=>kV q.1)=z.map V.int/\z.length<=60/\∀l,H l=E2->Q (.ref l) (fk H l (.lst ((kB z).map V.int)))
theorem Rw(hc:X.calm=E3):CN X (.builtin "sorted") rSdI:=by
 intro π s σ H xs us Q I r h;obtain⟨p,J,O,rfl,e,ez,hz,k⟩:=h;obtain⟨u,rfl,ru⟩:=r.one;cases ru;obtain⟨z,hd,vs,L,Z⟩:=Pb I.hok e;obtain⟨ep,Z⟩:=Z.dictAt;have hl:J.length=vs.length:=L.length;refine RX (ks:=O) hz (λR E' hR=>Pn (JI (knd:=Av X.prog X.w) (kvs:=vs) (ep:=ep) hd) (I.ok.hd hc) Z (by omega) λh' tk Y T S hi=>hR _ O h' tk ?_ (lI _) S T) λU e2 l h' tk hS g S T=>?_
 .have va:cc (J.map λq=>kV q.1) Y.toList:=by
   refine UW (P:=X.prog) (w:=X.w) (by simp[hi.1,hl]) λj u hu=>?_;obtain⟨k,x,h1,h2⟩:=hi.2 j u (by simpa using hu);have hj:j<J.length:=by rw[hl];exact (fF.mp h1).1
   refine⟨J[j],by simp[hj],?_⟩;rw[(M3 L (by simp[hj]) h1).1];exact h2
  rw[ez] at va;exact Sr va
 .have hv:=Iz hS;refine⟨.ref l,_,I.laid (a:=l) (o:=.lst ((kB O).map V.int)) (t':=tk) T S ⟨?_,U,e2,hv,g⟩,rfl,k l (I.hok.fresh S)⟩;rw[aw,(PySem.W.sortI_perm O).length_eq];exact cy hz (by decide)
def sdI:D->Option D
 |.dk z=>(JG (z.map λp=>Sj p.1)).bind λI=>if I.length<=60 then W1 (.lst ((kB I).map .int)) else E2
 |_=>E2
def qD:Sa G rSdI sdI:=by
 intro A H x dx d Q W r e k;cases dx with
 |dk O=>
  obtain⟨p,L,rfl,I,J,h3⟩:=r.dk;obtain⟨T,ez,S⟩:=u7.mp (show (JG (O.map λp=>Sj p.1)).bind _=W1 d from e);split at S
  .rename_i Z;cases S;have Y:=gU (G:=G) (H:=bm A H) J;rw[RW ez] at Y;refine⟨p,L,T,rfl,I,Kz Y,Z,λl U=>k _ _ (Ak U _) (Df W U ⟨by simp,λi v d I J=>?_⟩)⟩;rw[cb] at I J;cases q:(kB T)[i]? with
   |none=>rw[q] at I;cases I
   |some z=>rw[q] at I J;cases I;cases J;exact .int z
  .cases S
 |_=>cases e
end
open PyProof.Rows hiding St
end PV
namespace K43
open PySem L2 PV
abbrev cs (x:Str):List Nat:=x.cps.toList
def Oy:Str:="abcdefghijklmnopqrstuvwxyz"
def IsL(x:Str):Prop:=∀c∈cs x,c∈cs Oy
def Se:List Str:=["not","and","or","some","all"]
structure Wd (x:Str):Prop where
 lo:1<=x.length
 hi:x.length<=8
 isL:IsL x
 kept:x∉Se
structure Wl where
 n:Nat
 ms:List (Str×List Nat)
 ts:List (Str×List (Nat×Nat))
abbrev iN (t:Nat):D:=.int (t:Int)
abbrev pN (q:Nat×Nat):D:=.tup [.int (q.1:Int),.int (q.2:Int)]
def lM(l:List Nat):D:=.lst (l.map iN)
def lT(l:List (Nat×Nat)):D:=.lst (l.map pN)
def eM(I:List (Str×List Nat)):List (Key×D):=I.map λp=>(.inr p.1,lM p.2)
def eT(ts:List (Str×List (Nat×Nat))):List (Key×D):=ts.map λp=>(.inr p.1,lT p.2)
def kM(l:List Nat):D:=.dk (l.map λ(t:Nat)=>((.inl (t:Int):Key),.bl E3))
def kT(l:List (Nat×Nat)):D:=.dt (l.map λq=>([(.inl (q.1:Int):Key),.inl (q.2:Int)],.bl E3))
def oM(I:List (Str×List Nat)):List (Key×D):=I.map λp=>(.inr p.1,kM p.2)
def oT(ts:List (Str×List (Nat×Nat))):List (Key×D):=ts.map λp=>(.inr p.1,kT p.2)
def fc(W:Wl):D:=.ob "World" [("size",.int W.n),("marked",.dk (oM W.ms)),("tied",.dk (oT W.ts))]
structure mf (W:Wl):Prop where
 n5:W.n<=5
 m3:W.ms.length<=3
 t3:W.ts.length<=3
 mw:∀p∈W.ms,Wd p.1
 tw:∀p∈W.ts,Wd p.1
 nd:(W.ms.map (·.1)++W.ts.map (·.1)).Nodup
 ml:∀p∈W.ms,p.2.Nodup/\p.2.length<=100/\∀t∈p.2,t<W.n
 tl:∀p∈W.ts,p.2.Nodup/\p.2.length<=100/\∀q∈p.2,q.1<W.n/\q.2<W.n
def wd(W:Wl):D:=.lst [.int (W.n:Int),.dk (eM W.ms),.dk (eT W.ts)]
def lN(z:List Nat):D:=.lst (z.map iN)
abbrev Pr:=Nat×Nat
def mk(W:Wl)(w:Str)(i:Nat):Bool:=match W.ms.find? (λp=>p.1=w) with | some p=>decide (i∈p.2) | none=>ZA
def tk(W:Wl)(w:Str)(i j:Nat):Bool:=match W.ts.find? (λp=>p.1=w) with | some p=>decide ((i,j)∈p.2) | none=>ZA
abbrev mw (W:Wl):List Str:=W.ms.map (·.1)
abbrev tw (W:Wl):List Str:=W.ts.map (·.1)
def HS(W V:Wl)(q:Pr):Bool:=(mw W).all λw=>mk W w q.1==mk V w q.2
def Di(W V:Wl)(p q:Pr):Bool:=(tw W).all λw=>tk W w p.1 q.1==tk V w p.2 q.2
def SY(W V:Wl)(p q:Pr):Bool:=(decide (p.1=q.1)==decide (p.2=q.2))&&(Di W V p q&&Di W V q p)
def TL(W V:Wl)(ps:List Pr)(q:Pr):Bool:=(HS W V q&&Di W V q q)&&ps.all λp=>SY W V p q
def MX(n:Nat)(xs:List Nat):List Nat:=(bb n).filter λt=>decide (t∉xs)
def il(W V:Wl):Nat:=max W.n V.n+1
def Nd(l:List Nat):Nat:=l.foldr max 0
def stp(W V:Wl)(R:List Pr->Nat)(ps:List Pr):Nat:=
 let fs:=MX W.n (ps.map (·.1))
 let Y:=MX V.n (ps.map (·.2))
 let rw:=λq:Pr=>if TL W V ps q then R (Am (ps++[q])) else 0
 min (il W V) (1+((fs.map λf=>Nd (Y.map λs=>rw (f,s)))++Y.map λs=>Nd (fs.map λf=>rw (f,s))).foldr min (il W V))
def rkN(W V:Wl):Nat->List Pr->Nat
 |0,_=>0
 |n+1,ps=>stp W V (rkN W V n) ps
def NV(W V:Wl)(ps:List Pr):Bool:=ps.all λp=>(HS W V p&&Di W V p p)&&ps.all (SY W V p)
def OP(W V:Wl)(ps:List Pr):Nat:=if NV W V ps then rkN W V 6 ps else 0
def unk1:List Key->Pr
 |[.inl i,.inl j]=>(i.toNat,j.toNat)
 |_=>(0,0)
def FW(W V:Wl)(ks:List (List Key)):Int:=(OP W V (ks.map unk1):Nat)
open Classical in
noncomputable def FF(a b:D):List (List Key)->Int:=if h:∃x:Wl×Wl,a=fc x.1/\b=fc x.2 then FW (choose h).1 (choose h).2 else λ_=>0
noncomputable def Phi(ρ:Rho):Option (List (List Key)->Int):=match vF 1 ρ,vF 2 ρ with
 |some a,W1 b=>W1 (FF a b)
 |_,_=>E2
def tK(_:List D)(d:D):Prop:=d=.bl E3
open PySem.Spec EX
open PyProof.Rows hiding St
noncomputable section
def NF:D:=(.tup ((["not","and","or","some","all"]:List Str).map .str))
def Hw:FS:=dq (PY (MW (bF ltD (vF 1) (uF UQ (vF 0)))) (jn (bF ixD (vF 0) (vF 1))) (Sn)) (jn (kF (.int 0)))
def Al:List D->Option D:=lu 2 2 Hw
def Dj:FS:=dq (nq 10 (bF rc (bF rc (bF Ex (vF 3) (bF rc (vF 9) (kF (.int 3)))) (bF Pc (vF 9) (vF 9))) (bF Pc (uF intD (bF (MQ ZA) (vF 9) (vF 5))) (vF 7)))) (nq 8 (bF rc (vF 8) (bF oo (vF 2) (bF tx (vF 10) (kF (.int 26))))))
def Dk:FS:=dq (nq 8 (kF (.str ""))) (dq (NL (MU (vF 4)) (Bh 9) (Dj)) (dq (PY (MW (bF (RU ZA) (vF 8) (ML (Aa (kF (.str "not")) (Aa (kF (.str "and")) (Aa (kF (.str "or")) (Aa (kF (.str "some")) (Aa (kF (.str "all")) (af))))))))) (nq 8 (bF rc (vF 8) (kF (.str "x")))) (Sn)) (UN VI 6 (vF 8))))
def Je:FS:=dq (nq 2 (kF (.str "abcdefghijklmnopqrstuvwxyz"))) (dq (nq 3 (bF tx (vF 0) (kF (.int 2147483629)))) (dq (nq 4 (bF rc (kF (.int 1)) (bF tx (vF 3) (kF (.int 8))))) (dq (nq 5 (bF tx (bF Ex (vF 3) (kF (.int 8))) (vF 4))) (dq (setW 6 (ML (af))) (dq (NL (MU (vF 1)) (Bh 7) (Dk)) (fzS [6] (jn (vF 6))))))))
def Gz:List D->Option D:=lu 11 2 Je
def DR:FS:=PY (MW (bF (MQ ZA) (bF tx (vF 0) (kF (.int 3))) (kF (.int 0)))) (UN VI 2 (bF (MQ ZA) (bF tx (bF Ex (bF Ex (vF 0) (kF (.int 3))) (bF shlD (kF (.int 1)) (vF 4))) (kF (.int 2))) (kF (.int 1)))) (dq (nq 3 (bF tx (bF rc (bF rc (bF rc (bF Pc (vF 3) (vF 3)) (bF Pc (kF (.int 48271)) (vF 3))) (vF 4)) (kF (.int 1))) (kF (.int 2147483629)))) (UN VI 2 (bF (MQ ZA) (bF tx (bF Ex (vF 3) (kF (.int 7))) (bF Pc (kF (.int 2)) (bF tx (vF 0) (kF (.int 3))))) (kF (.int 0)))))
def J_:FS:=dq (setW 2 (ML (af))) (dq (nq 3 (bF tx (bF Ex (vF 0) (kF (.int 3))) (kF (.int 2147483629)))) (dq (NL (MU (vF 1)) (Bh 4) (DR)) (fzS [2] (jn (vF 2)))))
def Gi:List D->Option D:=lu 5 2 J_
def HW:FT:=Ts (bF oo (vF 9) (vF 10))
def KC:FE:=vF 10
def HX:FT:=Ts (bF oo (vF 9) (vF 10))
def HY:FE:=UI (Aa (bF Ex (vF 10) (vF 3)) (Aa (bF tx (vF 10) (vF 3)) (af)))
def Bv:FS:=PY (MW (bF ltD (vF 8) (vF 4))) (dq (nq 9 (Aj (Gi) (Aa (Aj (Al) (Aa (vF 0) (Aa (bF rc (bF rc (vF 1) (kF (.int 2))) (vF 8)) (af)))) (Aa (vF 3) (af))))) (putF 6 (bF oo (vF 5) (vF 8)) (BZ (MU (vF 3)) (HW) (KC)))) (dq (nq 9 (Aj (Gi) (Aa (Aj (Al) (Aa (vF 0) (Aa (bF subD (bF rc (bF rc (vF 1) (kF (.int 5))) (vF 8)) (vF 4)) (af)))) (Aa (bF Pc (vF 3) (vF 3)) (af))))) (putF 7 (bF oo (vF 5) (vF 8)) (BZ (MU (bF Pc (vF 3) (vF 3))) (HX) (HY))))
def Jf:FS:=dq (nq 2 (Aj (Al) (Aa (vF 0) (Aa (vF 1) (af))))) (dq (nq 3 (bF oo (ML (Aa (bF tx (bF Ex (vF 2) (kF (.int 9))) (kF (.int 5))) (Aa (kF (.int 5)) (af)))) (uF intD (bF (MQ ZA) (bF tx (bF Ex (vF 2) (kF (.int 45))) (kF (.int 12))) (kF (.int 11)))))) (dq (nq 4 (bF tx (vF 2) (kF (.int 4)))) (dq (nq 5 (Aj (Gz) (Aa (Aj (Al) (Aa (vF 0) (Aa (bF rc (vF 1) (kF (.int 1))) (af)))) (Aa (bF rc (vF 4) (bF tx (bF Ex (vF 2) (kF (.int 4))) (kF (.int 4)))) (af))))) (dq (setW 6 (kF (.dk []))) (dq (setW 7 (kF (.dk []))) (dq (NL (MU (uF NN (vF 5))) (Bh 8) (Bv)) (fzS [6,7] (jn (ML (Aa (vF 3) (Aa (vF 6) (Aa (vF 7) (af)))))))))))))
def Fg:List D->Option D:=lu 10 2 Jf
def Ha:FS:=PY (MW (bF gtD (vF 0) (vF 1))) (badF) (Sn)
def Ba:List D->Option D:=lu 2 2 Ha
def Fi:FS:=PY (Ya (MW (bF ltD (vF 1) (kF (.int 0)))) (MW (bF geD (vF 1) (vF 0)))) (badF) (Sn)
def A_:List D->Option D:=lu 2 2 Fi
def Ed:FS:=dq (GJ (Aj (A_) (Aa (vF 0) (Aa (vF 3) (af))))) (putF 2 (vF 3) (kF (.bl E3)))
def Ij:FS:=dq (setW 2 (kF (.dk []))) (dq (NL (pq (vF 1)) (Bh 3) (Ed)) (fzS [2] (jn (vF 2))))
def DW:List D->Option D:=lu 4 2 Ij
def Fj:FS:=dq (GJ (Aj (A_) (Aa (vF 0) (Aa (vF 3) (af))))) (dq (GJ (Aj (A_) (Aa (vF 0) (Aa (vF 4) (af))))) (Vq 2 (Aa (vF 3) (Aa (vF 4) (af))) (kF (.bl E3))))
def Jg:FS:=dq (setW 2 (kF (.dt []))) (dq (NL (pq (vF 1)) (MS 2 (Aw 3 (Aw 4 (MV)))) (Fj)) (fzS [2] (jn (vF 2))))
def Du:List D->Option D:=lu 5 2 Jg
def Gj:FE:=bF (RU ZA) (vF 1) (kF (.str "abcdefghijklmnopqrstuvwxyz"))
def O3:FS:=dq (PY (Ya (MW (bF (RU ZA) (vF 0) (kF NF))) (Ya (MW (bF (MQ ZA) (uF NN (vF 0)) (kF (.int 0)))) (MW (bF gtD (uF NN (vF 0)) (kF (.int 8)))))) (jn (kF (.bl ZA))) (Sn)) (jn (uF Zs (BZ (pq (vF 0)) (xq) (Gj))))
def Dv:List D->Option D:=lu 1 1 O3
def Bw:Pi:=Fb (ifE (Q6 (OZ (Ts (Aj (Dv) (Aa (vF 4) (af))))))) (Pk "marked" (vF 4) (Aj (DW) (Aa (vF 1) (Aa (vF 5) (af)))))
def Bx:Pi:=Fb (ifE (orTE (Q6 (OZ (Ts (Aj (Dv) (Aa (vF 4) (af)))))) (YO "marked" (vF 4)))) (Pk "tied" (vF 4) (Aj (Du) (Aa (vF 1) (Aa (vF 6) (af)))))
def GK:Pi:=Fb (OX (GJ (Aj (Ba) (Aa (vF 1) (Aa (kF (.int 5)) (af)))))) (Fb (OX (GJ (Aj (Ba) (Aa (uF NN (vF 2)) (Aa (kF (.int 3)) (af)))))) (Fb (OX (GJ (Aj (Ba) (Aa (uF NN (vF 3)) (Aa (kF (.int 3)) (af)))))) (Fb (HN "size" (vF 1)) (Fb (Pj "marked" (kF (.dk []))) (Fb (Pj "tied" (kF (.dk []))) (Fb (YU (Oq (vF 2)) (MS 2 (Aw 4 (Aw 5 (MV)))) (Bw)) (Fb (YU (Oq (vF 3)) (MS 2 (Aw 4 (Aw 6 (MV)))) (Bx)) (nilE))))))))
def Bt:Addr->List D->Option Ef:=XZ 7 4 GK
def Ik:FT:=MW (bF geD (vF 5) (bF tx (vF 1) (kF (.int 4))))
def Il:FE:=vF 5
def GZ:FS:=putF 2 (vF 4) (BZ (pq (bF oo (bF oo (vF 0) (kF (.int 1))) (vF 4))) (Ik) (Il))
def Ga:FT:=andT (MW (bF geD (bF oo (vF 5) (kF (.int 0))) (bF tx (vF 1) (kF (.int 4))))) (MW (bF geD (bF oo (vF 5) (kF (.int 1))) (bF tx (vF 1) (kF (.int 4)))))
def Im:FE:=vF 5
def Gb:FS:=putF 3 (vF 4) (BZ (pq (bF oo (bF oo (vF 0) (kF (.int 2))) (vF 4))) (Ga) (Im))
def KD:FS:=dq (setW 2 (kF (.dk []))) (dq (setW 3 (kF (.dk []))) (dq (NL (pq (bF oo (vF 0) (kF (.int 1)))) (Bh 4) (GZ)) (dq (NL (pq (bF oo (vF 0) (kF (.int 2)))) (Bh 4) (Gb)) (fzS [2,3] (jn (ML (Aa (bF oo (vF 0) (kF (.int 0))) (Aa (vF 2) (Aa (vF 3) (af))))))))))
def CZ:List D->Option D:=lu 5 2 KD
def GP:Pi:=Fb (HN "one" (vF 1)) (Fb (HN "other" (vF 2)) (Fb (HN "reckoned" (memE Phi)) (Fb (HN "endless" (bF rc (bF maxD (uF (gn "size") (vF 1)) (uF (gn "size") (vF 2))) (kF (.int 1)))) (nilE))))
def Bu:Addr->List D->Option Ef:=XZ 3 3 GP
def Jh:FT:=MW (bF (RU E3) (vF 2) (vF 1))
def Ji:FE:=vF 2
def Lx:FS:=jn (BZ (MU (vF 0)) (Jh) (Ji))
def Hh:List D->Option D:=lu 2 2 Lx
def Fl:FS:=PY (MW (bF (MQ E3) (bF (RU ZA) (bF oo (vF 2) (kF (.int 0))) (bF oo (uF (gn "marked") (vF 0)) (vF 3))) (bF (RU ZA) (bF oo (vF 2) (kF (.int 1))) (bF oo (uF (gn "marked") (vF 1)) (vF 3))))) (jn (kF (.bl ZA))) (Sn)
def Gq:FS:=dq (NL (pq (uF (gn "marked") (vF 0))) (Bh 3) (Fl)) (jn (kF (.bl E3)))
def Eg:List D->Option D:=lu 4 3 Gq
def Fo:FS:=PY (MW (bF (MQ E3) (inTF (Aa (bF oo (vF 2) (kF (.int 0))) (Aa (bF oo (vF 3) (kF (.int 0))) (af))) (bF oo (uF (gn "tied") (vF 0)) (vF 4))) (inTF (Aa (bF oo (vF 2) (kF (.int 1))) (Aa (bF oo (vF 3) (kF (.int 1))) (af))) (bF oo (uF (gn "tied") (vF 1)) (vF 4))))) (jn (kF (.bl ZA))) (Sn)
def Gr:FS:=dq (NL (pq (uF (gn "tied") (vF 0))) (Bh 4) (Fo)) (jn (kF (.bl E3)))
def CQ:List D->Option D:=lu 5 4 Gr
def Io:FS:=dq (PY (MW (bF (MQ E3) (bF (MQ ZA) (bF oo (vF 2) (kF (.int 0))) (bF oo (vF 3) (kF (.int 0)))) (bF (MQ ZA) (bF oo (vF 2) (kF (.int 1))) (bF oo (vF 3) (kF (.int 1)))))) (jn (kF (.bl ZA))) (Sn)) (jn (andF (Aj (CQ) (Aa (vF 0) (Aa (vF 1) (Aa (vF 2) (Aa (vF 3) (af)))))) (Aj (CQ) (Aa (vF 0) (Aa (vF 1) (Aa (vF 3) (Aa (vF 2) (af))))))))
def Gd:List D->Option D:=lu 4 4 Io
def Ip:FE:=Aj (Gd) (Aa (vF 0) (Aa (vF 1) (Aa (vF 4) (Aa (vF 3) (af)))))
def KH:FS:=dq (PY (Ya (OZ (Ts (Aj (Eg) (Aa (vF 0) (Aa (vF 1) (Aa (vF 3) (af))))))) (OZ (Ts (Aj (CQ) (Aa (vF 0) (Aa (vF 1) (Aa (vF 3) (Aa (vF 3) (af))))))))) (jn (kF (.bl ZA))) (Sn)) (jn (uF Zs (BZ (pq (vF 2)) (xq) (Ip))))
def Gk:List D->Option D:=lu 4 4 KH
def Fp(z:List D->Option D):FS:=dq (PY (OZ (Ts (Aj (Gk) (Aa (uF (gn "one") (vF 0)) (Aa (uF (gn "other") (vF 0)) (Aa (vF 1) (Aa (vF 2) (af)))))))) (jn (kF (.int 0))) (Sn)) (jn (Et "Ranks" "rank_of_fitting" (z) (vF 0) (Aa (uF tslD (bF catU (vF 1) (UI (Aa (vF 2) (af))))) (af))))
def Bb(z:List D->Option D):List D->Option D:=lu 3 3 (Fp z)
def Dz(z:List D->Option D):FE:=Et "Ranks" "rank_with" (Bb z) (vF 0) (Aa (vF 1) (Aa (vF 3) (af)))
def Fq(z:List D->Option D):FS:=jn (bF YW (BZ (pq (vF 2)) (xq) ((Dz z))) (kF (.int 0)))
def Ar(z:List D->Option D):List D->Option D:=lu 3 3 (Fq z)
def Dl(z:List D->Option D):FE:=bF oo (vF 7) (kF (.int 0))
def Dm(z:List D->Option D):FE:=bF oo (vF 7) (kF (.int 1))
def Dn(z:List D->Option D):FE:=UI (Aa (vF 5) (Aa (vF 7) (af)))
def Ca(z:List D->Option D):FS:=UN VI 4 (Et "Ranks" "best_rank" (Ar z) (vF 0) (Aa (vF 1) (Aa (BZ (pq (vF 3)) (xq) ((Dn z))) (af))))
def Do(z:List D->Option D):FE:=UI (Aa (vF 7) (Aa (vF 6) (af)))
def Cd(z:List D->Option D):FS:=UN VI 4 (Et "Ranks" "best_rank" (Ar z) (vF 0) (Aa (vF 1) (Aa (BZ (pq (vF 2)) (xq) ((Do z))) (af))))
def Ek(z:List D->Option D):FS:=dq (nq 2 (Aj (Hh) (Aa (uF (gn "size") (uF (gn "one") (vF 0))) (Aa (BZ (pq (vF 1)) (xq) ((Dl z))) (af))))) (dq (nq 3 (Aj (Hh) (Aa (uF (gn "size") (uF (gn "other") (vF 0))) (Aa (BZ (pq (vF 1)) (xq) ((Dm z))) (af))))) (dq (setW 4 (ML (af))) (dq (NL (pq (vF 2)) (Bh 5) ((Ca z))) (dq (NL (pq (vF 3)) (Bh 6) ((Cd z))) (jn (bF minD (uF (gn "endless") (vF 0)) (bF rc (kF (.int 1)) (bF Zc (vU 4) (uF (gn "endless") (vF 0))))))))))
def By(z:List D->Option D):List D->Option D:=lu 7 2 (Ek z)
def BR(z:List D->Option D):FS:=memR 0 "reckoned" 1 (Et "Ranks" "least_rank" (By z) (vF 0) (Aa (vF 1) (af)))
def Af:Nat->List D->Option D
 |0=>λ_=>E2
 |n+1=>lu 2 2 (BR (Af n))
def KJ:FE:=Aj (Gk) (Aa (vF 0) (Aa (vF 1) (Aa (slF (vF 2) (noO) (Rl (vF 3))) (Aa (vF 4) (af)))))
def O4:FS:=jn (uF Zs (V3 (enIT (vF 2)) (xq) (KJ)))
def G7:List D->Option D:=lu 3 3 O4
def Eh:FS:=dq (nq 2 (uF tssD (vF 1))) (Yf 0 "reckoned" 2 (Ts (Aj (G7) (Aa (uF (gn "one") (vF 0)) (Aa (uF (gn "other") (vF 0)) (Aa (vF 2) (af)))))) "Ranks" "rank_of_fitting" (Et "Ranks" "rank_of_fitting" (Af 8) (vF 0) (Aa (vF 2) (af))))
def CT:List D->Option D:=lu 3 2 Eh
def G3:FS:=dq (nq 3 (Et "Ranks" "rank_of" (CT) (vF 0) (Aa (vF 1) (af)))) (jn (orF (bF (MQ ZA) (vF 3) (uF (gn "endless") (vF 0))) (bF ltD (vF 2) (vF 3))))
def Br:List D->Option D:=lu 4 3 G3
def Gs:FT:=Ts (Et "Ranks" "last" (Br) (vF 0) (Aa (ML (Aa (UI (Aa (vF 3) (Aa (vF 1) (af)))) (af))) (Aa (vF 2) (af))))
def Gu:FE:=vF 3
def Ir:FS:=jn (uF Zd (BZ (MU (bF rc (vF 1) (kF (.int 1)))) (Gs) (Gu)))
def Ge:List D->Option D:=lu 3 3 Ir
def Jj:FE:=Aj (Ge) (Aa (vF 2) (Aa (vF 6) (Aa (vF 1) (af))))
def Ly:FT:=MW (bF (MQ ZA) (bF oo (vF 3) (vF 6)) (vF 5))
def Lz:FE:=vF 6
def Ra:FM:=ZJ (mutN 4 Zp af [] (BZ (MU (uF (gn "size") (vF 0))) (Ly) (Lz)))
def WX:FM:=RO (puM (nq 2 (mkI "Ranks" (Bu) (Aa (vF 0) (Aa (vF 0) (af)))))) (RO (puM (nq 3 (BZ (MU (uF (gn "size") (vF 0))) (xq) (Jj)))) (RO (RC 4 (newX (ML (af)))) (RO (forM (pq (uF ssN (vF 3))) (Bh 5) (Ra)) (puM (jn (vF 4))))))
def NT:GM:=WI 6 2 WX
def Ft:FS:=dq (PY (Ya (OZ (Ts (uF (So "int") (vF 4)))) (Ya (Ts (uF (So "bool") (vF 4))) (MW (bF (RU ZA) (vF 4) (vU 2))))) (jn (kF (.dk []))) (Sn)) (putF 2 (vF 4) (vF 3))
def Fv:FS:=dq (PY (Ya (OZ (Ts (uF (So "list") (bF oo (vF 0) (vF 3))))) (Ya (MW (bF (MQ E3) (bF oo (vF 0) (vF 3)) (uF srtI (bF oo (vF 0) (vF 3))))) (MW (bF (MQ ZA) (bF oo (vF 0) (vF 3)) (ML (af)))))) (jn (kF (.dk []))) (Sn)) (NL (pq (bF oo (vF 0) (vF 3))) (Bh 4) (Ft))
def Jk:FS:=dq (setW 2 (kF (.dk []))) (dq (PY (OZ (Ts (uF (So "list") (vF 0)))) (fzS [2] (jn (vF 2))) (Sn)) (dq (NL (MU (uF NN (vF 0))) (Bh 3) (Fv)) (dq (PY (Ya (MW (bF (MQ E3) (vF 0) (uF srtL (vF 0)))) (MW (bF (MQ E3) (uF sdI (vU 2)) (uF Vz (vF 1))))) (jn (kF (.dk []))) (Sn)) (fzS [2] (jn (vF 2))))))
def Fw:List D->Option D:=lu 5 2 Jk
def El:FS:=jn (uF sdkD (uF (gn "marked") (vF 0)))
def B_:List D->Option D:=lu 1 1 El
def Fx:FS:=jn (uF sdkD (uF (gn "tied") (vF 0)))
def Ce:List D->Option D:=lu 1 1 Fx
def Gv:FS:=PY (Ya (MW (bF (MQ E3) (Et "World" "mark_words" (B_) (vF 0) af) (Et "World" "mark_words" (B_) (vF 1) af))) (MW (bF (MQ E3) (Et "World" "tie_words" (Ce) (vF 0) af) (Et "World" "tie_words" (Ce) (vF 1) af)))) (badF) (Sn)
def Ei:List D->Option D:=lu 2 2 Gv
def Bk:FS:=dq (GJ (Aj (A_) (Aa (uF (gn "size") (vF 0)) (Aa (vF 3) (af))))) (GJ (Aj (A_) (Aa (uF (gn "size") (vF 1)) (Aa (vF 4) (af)))))
def DG:FS:=dq (GJ (Aj (Ei) (Aa (vF 0) (Aa (vF 1) (af))))) (NL (pq (vF 2)) (MS 2 (Aw 3 (Aw 4 (MV)))) (Bk))
def Bs:List D->Option D:=lu 5 3 DG
def Ut:FS:=dq (GJ (Aj (Bs) (Aa (vF 0) (Aa (vF 1) (Aa (vF 2) (af)))))) (jn (Et "Ranks" "last" (Br) (mkI "Ranks" (Bu) (Aa (vF 0) (Aa (vF 1) (af)))) (Aa (vF 2) (Aa (vF 3) (af)))))
def NZ:List D->Option D:=lu 4 4 Ut
def EY:FS:=PY (MW (bF gtD (vF 1) (kF (.int 0)))) (dq (nq 7 (bF tx (vF 6) (vF 1))) (dq (nq 8 (bF tx (bF Ex (vF 6) (kF (.int 5))) (vF 1))) (PY (MW (bF (MQ E3) (Aj (NZ) (Aa (vF 0) (Aa (vF 0) (Aa (ML (Aa (UI (Aa (vF 7) (Aa (vF 8) (af)))) (af))) (Aa (vF 2) (af)))))) (bF (MQ ZA) (bF oo (vF 5) (vF 7)) (bF oo (vF 5) (vF 8))))) (jn (kF (.bl ZA))) (Sn)))) (Sn)
def LK:FM:=ZJ (mutX 10 [] clrM af)
def Hx:FM:=RO (RC 4 (calX (NT) (Aa (vF 0) (Aa (vF 2) (af))))) (RO (RC 5 (lnK (Aj (Fw) (Aa (vF 4) (Aa (vF 1) (af)))))) (RO (ifL (Ya (MW (bF (MQ E3) (uF NN (vF 5)) (vF 1))) (andT (MW (bF (MQ ZA) (vF 1) (kF (.int 0)))) (MW (bF (MQ E3) (vF 4) (ML (af)))))) (puM (jn (kF (.bl ZA)))) (nxM)) (RO (puM (NL (pq (vF 3)) (Bh 6) (EY))) (RO (RC 9 (cpyX 4)) (RO (forC 4 (Bh 10) (LK)) (RO (ZJ (mutX 4 [] clrM af)) (su (eqW (calX (NT) (Aa (vF 0) (Aa (vF 2) (af)))) (vF 9)))))))))
def Cy:List D->Option D:=theD (WI 11 4 Hx) tK
def je:FS:=dq (UZ (Aj (Fg) (Aa (vF 0) (Aa (kF (.int 0)) (af)))) (MS 3 (Aw 1 (Aw 2 (Aw 3 (MV)))))) (dq (PY (MW (bF (MQ ZA) (bF tx (Aj (Al) (Aa (vF 0) (Aa (kF (.int 8)) (af)))) (kF (.int 2))) (kF (.int 1)))) (UZ (Aj (CZ) (Aa (ML (Aa (vF 1) (Aa (vF 2) (Aa (vF 3) (af))))) (Aa (bF Ex (Aj (Al) (Aa (vF 0) (Aa (kF (.int 8)) (af)))) (kF (.int 2))) (af)))) (MS 3 (Aw 1 (Aw 2 (Aw 3 (MV)))))) (Sn)) (dq (nq 4 (mkI "World" (Bt) (Aa (vF 1) (Aa (vF 2) (Aa (vF 3) (af)))))) (dq (nq 5 (bF rc (ML (Aa (kF (.int 1)) (Aa (kF (.int 5)) (Aa (kF (.int 7)) (Aa (kF (.int 11)) (af)))))) (slF (vF 0) (Rl (kF (.int 10))) (Rl (kF (.int 14)))))) (dq (nq 6 (bF oo (ML (Aa (kF (.int 0)) (Aa (kF (.int 1)) (Aa (kF (.int 2)) (Aa (kF (.int 3)) (Aa (kF (.int 4)) (Aa (kF (.int 5)) (Aa (kF (.int 6)) (Aa (kF (.int 60)) (af)))))))))) (bF tx (Aj (Al) (Aa (vF 0) (Aa (kF (.int 9)) (af)))) (kF (.int 8))))) (jn (andF (Aj (Cy) (Aa (vF 4) (Aa (vF 1) (Aa (kF (.int 1)) (Aa (vF 5) (af)))))) (Aj (Cy) (Aa (vF 4) (Aa (vF 1) (Aa (vF 6) (Aa (vF 5) (af))))))))))))
def WY:List D->Option D:=lu 7 1 je
end
def top(i:Nat):Stmt:=PySem.Challenge.pw_twinrounds_k43_groups.main.body.getD i (.Pass ⟨0,0,0,0⟩)
abbrev Py:Stmt:=top 34
abbrev Nb:Stmt:=top 36
abbrev Pz:Stmt:=top 35
abbrev G4:Stmt:=top 37
abbrev KN:Stmt:=top 14
abbrev Hy:Stmt:=top 15
abbrev LQ:Stmt:=top 16
abbrev Nf:Stmt:=top 17
abbrev O5:Stmt:=top 13
abbrev JH:Stmt:=MM (top 18) 0
abbrev Hz:Stmt:=top 38
abbrev JK:Stmt:=MM (top 29) 0
abbrev L_:Stmt:=top 28
abbrev Jo:Stmt:=top 22
abbrev Jp:Stmt:=top 23
abbrev LR:Stmt:=top 24
abbrev KQ:Stmt:=top 25
abbrev H_:Stmt:=MM (top 29) 3
abbrev Fy:Stmt:=MM (top 29) 4
abbrev Bf:Stmt:=MM (top 29) 5
abbrev Eu:Stmt:=MM (top 29) 2
abbrev O6:Stmt:=top 26
abbrev Jq:Stmt:=MM (top 29) 1
abbrev Ng:Stmt:=MM (top 29) 7
abbrev Iu:Stmt:=top 31
abbrev Nh:Stmt:=top 32
abbrev Ni:Stmt:=top 39
abbrev Hi:Stmt:=MM (top 18) 3
abbrev IK:Stmt:=MM (top 18) 4
abbrev Jr:Stmt:=top 20
abbrev Fz:Stmt:=top 21
abbrev Zh:Stmt:=top 30
abbrev KR:Stmt:=top 40
abbrev tL:Stmt:=top 41
set_option genInjectivity false in
structure Tx (G:Gx) (mg:Str->Option ac) where
 c_:Addr
 f_:G.cl "World"=W1 c_
 r_:NX G.K c_
 s_:mg "World"=W1 (.ref c_)
 w_:Addr
 z_:G.cl "Ranks"=W1 w_
 q0:NX G.K w_
 z0:mg "Ranks"=W1 (.ref w_)
 y1:Dx G.K mg "_law_cell" Py ["_law_script","_law_k"]
 m4:Dx G.K mg "_law_words" Nb ["_law_cell_here","_law_many"]
 x4:Dx G.K mg "_law_bits" Pz ["_law_cell_here","_law_many"]
 x5:Dx G.K mg "_law_world" G4 ["_law_script","_law_start"]
 x6:Dx G.K mg "refuse_above" KN ["number","most"]
 h7:Dx G.K mg "refuse_no_thing" Hy ["size","thing"]
 z7:Dx G.K mg "kept_things" LQ ["size","things"]
 h8:Dx G.K mg "kept_pairs" Nf ["size","pairs"]
 x8:Dx G.K mg "is_word" O5 ["text"]
 h9:Ix G.K c_ "World.__init__" JH ["self","size","marks","ties"]
 x9:Dx G.K mg "_law_bare" Hz ["_law_world_here","_law_cell_here"]
 MA:Ix G.K w_ "Ranks.__init__" JK ["self","one","other"]
 NA:Dx G.K mg "unpaired" L_ ["size","paired"]
 OA:Dx G.K mg "bear_the_same" Jo ["one","other","pair"]
 QA:Dx G.K mg "lead_the_same" Jp ["one","other","pair","further"]
 RA:Dx G.K mg "go_together" LR ["one","other","pair","further"]
 SA:Dx G.K mg "fits_with" KQ ["one","other","pairs","further"]
 UA:Mx G.K w_ "rank_with" "Ranks.rank_with" H_ ["self","pairs","further"]
 VA:Mx G.K w_ "best_rank" "Ranks.best_rank" Fy ["self","pairs","choices"]
 WA:Mx G.K w_ "least_rank" "Ranks.least_rank" Bf ["self","pairs"]
 XA:Mx G.K w_ "rank_of_fitting" "Ranks.rank_of_fitting" Eu ["self","pairs"]
 YA:Dx G.K mg "all_fit" O6 ["one","other","pairs"]
 lB:Mx G.K w_ "rank_of" "Ranks.rank_of" Jq ["self","pairs"]
 MB:Mx G.K w_ "last" "Ranks.last" Ng ["self","pairs","count"]
 OB:Dx G.K mg "first_alike" Iu ["ranks","thing","count"]
 SB:Dx G.K mg "groups" Nh ["world","count"]
 TB:Dx G.K mg "_law_homes" Ni ["_law_found","_law_size"]
 UB:Mx G.K c_ "mark_words" "World.mark_words" Hi ["self"]
 WB:Mx G.K c_ "tie_words" "World.tie_words" IK ["self"]
 XB:Dx G.K mg "refuse_unlike" Jr ["one","other"]
 ZB:Dx G.K mg "refuse_strange_pairs" Fz ["one","other","pairs"]
 MC:Dx G.K mg "lasts" Zh ["one","other","pairs","count"]
 NC:Dx G.K mg "_law_good" KR ["_law_world_here","_law_size","_law_count","_law_cells"]
 OC:Dx G.K mg "law" tL ["_law_script"]
 PC:mg "all"=E2
 SC:mg "bool"=E2
 TC:mg "enumerate"=E2
 UC:mg "int"=E2
 VC:mg "isinstance"=E2
 WC:mg "len"=E2
 MD:mg "list"=E2
 ND:mg "max"=E2
 PD:mg "min"=E2
 SD:mg "range"=E2
 TD:mg "set"=E2
 UD:mg "sorted"=E2
 ME:mg "tuple"=E2
 NE:Sx mg "MOST_LETTERS" (.int 8)
 OE:Sx mg "LETTERS" (.str "abcdefghijklmnopqrstuvwxyz")
 QE:Sx mg "MOST_THINGS" (.int 5)
 RE:Sx mg "MOST_WORDS" (.int 3)
 SE:∀c C,G.cl c=W1 C->NX G.K C/\BP G.K C "size"
 UE:∀c C,G.cl c=W1 C->NX G.K C/\BP G.K C "marked"
 VE:∀c C,G.cl c=W1 C->NX G.K C/\BP G.K C "tied"
 WE:∀c C,G.cl c=W1 C->NX G.K C/\BP G.K C "one"
 XE:∀c C,G.cl c=W1 C->NX G.K C/\BP G.K C "other"
 YE:∀c C,G.cl c=W1 C->NX G.K C/\BP G.K C "reckoned"
 ZE:∀c C,G.cl c=W1 C->NX G.K C/\BP G.K C "endless"
 NF:Kx G mg "KEPT_TEXTS" K43.NF
section
variable {base:Heap}
abbrev P0:List Str:=["_law_script","_law_k"]
def Uu:bc P0 ["_law_script","_law_k"] (Ab Py):=OO
theorem DK(T:Tx G mg):Sk P w base T.y1 1 (Na G Al):=
 SO (k:=0) (N:=P0) (b:=Hw) T.y1 Uu λ_ _ _ _ _ _ z=>Ad (Cr (tLt (vp 1) (pU (Bl (Er rfl) Yb rfl T.WC J0 (vp 0)))) (Ae (Aq (iD (vp 0) (vp 1)))) (CK)) (Ae (Aq (Qs)))
abbrev Nj:List Str:=["_law_cell_here","_law_many","_law_letters","_law_number","_law_long","_law_at","_law_found","_law_k","_law_word","_law_j","_law_place"]
def Az:bc Nj ["_law_cell_here","_law_many"] (Ab Nb):=OO
theorem Ry(T:Tx G mg):Sk P w base T.m4 1 (Na G Gz):=
 SO (k:=0) (N:=Nj) (b:=Je) T.m4 Az λ_ _ _ _ _ _ z=>Ad (sF Az.nd 2 (Tt)) (Ad (sF Az.nd 3 (Nl (vp 0) (iP))) (Ad (sF Az.nd 4 (NR (iP) (pU (Nl (vp 3) (iP))))) (Ad (sF Az.nd 5 (Nl (pU (RY (vp 3) (iP))) (vp 4))) (Ad (sW Az.nd 6 (T8 (Ac))) (Ad (Cq fE rfl (E_ rfl T.SD (vp 1)) (Bq (gN Az.nd 7)) (Ad (sF Az.nd 8 (Tt)) (Ad (Cq fE rfl (E_ rfl T.SD (vp 4)) (Bq (gN Az.nd 9)) (Ad (sF Az.nd 10 (NR (pU (NR (pU (RY (vp 3) (pU (NR (vp 9) (iP))))) (pU (Zl (vp 9) (vp 9))))) (pU (Zl (pU (SM R5 Yc rfl T.UC XS (pU (cEq z (vp 9) (vp 5))))) (vp 7))))) (Ae (sF Az.nd 8 (NR (vp 8) (pU (iX z (vp 2) (pU (Nl (vp 10) (iP)))))))))) (Ad (Cr (tIn z (vp 8) (pU (HF (iS (iS (iS (iS (iS (Ac))))))))) (Ae (sF Az.nd 8 (NR (vp 8) (sP)))) (CK)) (Ae (Mt (pv 6) (vr 8))))))) (Ae (J1 [6] (Aq (vr 6)))))))))
abbrev P_:List Str:=["_law_cell_here","_law_many","_law_found","_law_number","_law_k"]
def F_:bc P_ ["_law_cell_here","_law_many"] (Ab Pz):=OO
theorem Nk(T:Tx G mg):Sk P w base T.x4 1 (Na G Gi):=
 SO (k:=0) (N:=P_) (b:=J_) T.x4 F_ λ_ _ _ _ _ _ z=>Ad (sW F_.nd 2 (T8 (Ac))) (Ad (sF F_.nd 3 (Nl (pU (RY (vp 0) (iP))) (iP))) (Ad (Cq fE rfl (E_ rfl T.SD (vp 1)) (Bq (gN F_.nd 4)) (Ae (Cr (tEq z (pU (Nl (vp 0) (iP))) (iP)) (Ae (Mt (pv 2) (cEq z (pU (Nl (pU (RY (pU (RY (vp 0) (iP))) (pU (Li nA nF (iP) (vp 4))))) (iP))) (iP)))) (Ad (sF F_.nd 3 (Nl (pU (NR (pU (NR (pU (NR (pU (Zl (vp 3) (vp 3))) (pU (Zl (iP) (vp 3))))) (vp 4))) (iP))) (iP))) (Ae (Mt (pv 2) (cEq z (pU (Nl (pU (RY (vp 3) (iP))) (pU (Zl (iP) (pU (Nl (vp 0) (iP))))))) (iP)))))))) (Ae (J1 [2] (Aq (vr 2))))))
abbrev Cg:List Str:=["_law_script","_law_start","_law_cell_here","_law_size","_law_many","_law_words_here","_law_marks","_law_ties","_law_k","_law_bits_here"]
def BV:bc Cg ["_law_script","_law_start"] (Ab G4):=OO
theorem Rz(T:Tx G mg):Sk P w base T.x5 2 (Na G Fg):=
 SO (k:=1) (N:=Cg) (b:=Jf) T.x5 BV λ_ _ _ _ _ _ z=>Ad (sF BV.nd 2 (fX (DK T) z (fy 0 (fy 1 (Ac))))) (Ad (sF BV.nd 3 (iX z (pU (HF (Ah (Nl (pU (RY (vp 2) (iP))) (iP)) (iI (Ac)) Ff))) (pU (SM R5 Yc rfl T.UC XS (pU (cEq z (pU (Nl (pU (RY (vp 2) (iP))) (iP))) (iP))))))) (Ad (sF BV.nd 4 (Nl (vp 2) (iP))) (Ad (sF BV.nd 5 (fX (Ry T) z (Ah (fX (DK T) z (fy 0 (Ah (NR (vp 1) (iP)) (Ac) Ff))) (Ah (NR (vp 4) (pU (Nl (pU (RY (vp 2) (iP))) (iP)))) (Ac) Ff) Kv))) (Ad (sW BV.nd 6 (Mz)) (Ad (sW BV.nd 7 (Mz)) (Ad (Cq fE rfl (E_ rfl T.SD (pU (Bl ((Er rfl).or Ej) HJ rfl T.WC J0 (vp 5)))) (Bq (gN BV.nd 8)) (Ae (Cr (tLt (vp 8) (vp 4)) (Ad (sF BV.nd 9 (fX (Nk T) z (Ah (fX (DK T) z (fy 0 (Ah (NR (pU (NR (vp 1) (iP))) (vp 8)) (Ac) Ff))) (fy 3 (Ac)) Kv))) (Ae (Kr (G_ z) (pv 6) (iX z (vp 5) (vp 8)) (DY (nT Cg "_law_thing") (by show Dd "_law_thing" Cg++(["_law_thing"]:List Str)=_;decide +kernel) (cO (N:=Cg) (sc:=Ab G4) rfl rfl) rfl (E_ rfl T.SD (vp 3)) (λ_ _ _=>HH (Dq (pU (iX z (vp 9) (vp 10))) rfl)) (λ_ _ _=>vr 10))))) (Ad (sF BV.nd 9 (fX (Nk T) z (Ah (fX (DK T) z (fy 0 (Ah (bSub (pU (NR (pU (NR (vp 1) (iP))) (vp 8))) (vp 4)) (Ac) Ff))) (Ah (Zl (vp 3) (vp 3)) (Ac) Ff) Kv))) (Ae (Kr (G_ z) (pv 7) (iX z (vp 5) (vp 8)) (DY (nT Cg "_law_at") (by show Dd "_law_at" Cg++(["_law_at"]:List Str)=_;decide +kernel) (cO (N:=Cg) (sc:=Ab G4) rfl rfl) rfl (E_ rfl T.SD (pU (Zl (vp 3) (vp 3)))) (λ_ _ _=>HH (Dq (pU (iX z (vp 9) (vp 10))) rfl)) (λ_ _ _=>Ob (Ah (RY (vp 10) (vp 3)) (Ah (Nl (vp 10) (vp 3)) (Ac) Ff) Ff))))))))) (Ae (J1 [6,7] (Aq (HF (fy 3 (fy 6 (fy 7 (Ac))))))))))))))
abbrev KY:List Str:=["number","most"]
def QF:bc KY ["number","most"] (Ab KN):=OO
theorem Gw(T:Tx G mg):Sk P w base T.x6 1 (Na G Ba):=
 SO (k:=0) (N:=KY) (b:=Ha) T.x6 QF λ_ _ _ _ _ _ z=>Ae (Cr (tGt (vp 0) (vp 1)) (Ae (JC)) (CK))
abbrev IV:List Str:=["size","thing"]
def MF:bc IV ["size","thing"] (Ab Hy):=OO
theorem CG(T:Tx G mg):Sk P w base T.h7 1 (Na G A_):=
 SO (k:=0) (N:=IV) (b:=Fi) T.h7 MF λ_ _ _ _ _ _ z=>Ae (Cr (VY.pt (HD (tLt (vp 1) (iP)) (Ep (tGe (vp 1) (vp 0))))) (Ae (JC)) (CK))
abbrev La:List Str:=["size","things","kept","thing"]
def Hj:bc La ["size","things"] (Ab LQ):=OO
theorem Rb(T:Tx G mg):Sk P w base T.z7 2 (Na G DW):=
 SO (k:=1) (N:=La) (b:=Ij) T.z7 Hj λ_ _ _ _ _ _ z=>Ad (sW Hj.nd 2 (Mz)) (Ad (Cq fE rfl (BL rfl (vr 1)) (Bq (gN Hj.nd 3)) (Ad (D_ (fX (CG T) z (fy 0 (fy 3 (Ac))))) (Ae (Kr (G_ z) (pv 2) (vr 3) (Jz))))) (Ae (J1 [2] (Aq (vr 2)))))
abbrev Nm:List Str:=["size","pairs","kept","one","other"]
def Gf:bc Nm ["size","pairs"] (Ab Nf):=OO
theorem R1(T:Tx G mg):Sk P w base T.h8 2 (Na G Du):=
 SO (k:=1) (N:=Nm) (b:=Jg) T.h8 Gf λ_ _ _ _ _ _ z=>Ad (sW Gf.nd 2 (yV)) (Ad (Cq fE rfl (BL rfl (vr 1)) (Ks rfl rfl (Bm (gN Gf.nd 3) (Bm (gN Gf.nd 4) (JF)))) (Ad (D_ (fX (CG T) z (fy 0 (fy 3 (Ac))))) (Ad (D_ (fX (CG T) z (fy 0 (fy 4 (Ac))))) (Ae (gW (G_ z) (pv 2) (fy 3 (fy 4 (Ac))) (Jz)))))) (Ae (J1 [2] (Aq (vr 2)))))
abbrev JL:List Str:=["text"]
def Xw:bc JL ["text"] (Ab O5):=OO
theorem Rc(T:Tx G mg):Sk P w base T.x8 1 (Na G Dv):=
 SO (k:=0) (N:=JL) (b:=O3) T.x8 Xw λ_ _ _ _ _ _ z=>Ad (Cr (VY.pt (HD (tIn z (vp 0) (pU (JZ (Kg (v:=.ref T.NF.a) rfl T.NF.m rfl) T.NF.r))) (HD (tEq z (pU (Bl ((Er rfl).or Ej) HJ rfl T.WC J0 (vp 0))) (iP)) (Ep (tGt (pU (Bl ((Er rfl).or Ej) HJ rfl T.WC J0 (vp 0))) (pU (JZ (Kg (v:=(.int 8)) rfl T.NE.m ⟨_,rfl⟩) (.int _)))))))) (Ae (Aq (Jz))) (CK)) (Ae (Aq (Bl (Ou rfl) Ua rfl T.PC Xe (pU (DY (nT JL "letter") (by show Dd "letter" JL++(["letter"]:List Str)=_;decide +kernel) (cO (N:=JL) (sc:=Ab O5) rfl rfl) rfl (RI.top (BL rfl (vr 0))) (λ_ _ _=>FJ) (λ_ _ _=>cIn z (vp 1) (pU (JZ (Kg (v:=(.str "abcdefghijklmnopqrstuvwxyz")) rfl T.OE.m ⟨_,rfl⟩) (.str _)))))))))
abbrev JM:List Str:=["self","size","marks","ties","word","things","pairs"]
def Ci:bc JM ["self","size","marks","ties"] (Ab JH):=OO
theorem Np(T:Tx G mg):im P w G.K mg base CX0 3 T.h9.f T.h9.fd ["self","size","marks","ties"] (spI G "World" Bt):=
 fn_I (c:="World") (k:=2) (N:=JM) (b:=GK) T.h9.F Ci (by decide) λJ A I s H E z=>DQ (Q8 (D_ (fX (Gw T) z (fy 1 (Ah (JZ (Kg (v:=(.int 5)) rfl T.QE.m ⟨_,rfl⟩) (.int _)) (Ac) QS)))) Uc) (DQ (Q8 (D_ (fX (Gw T) z (Ah (Bl ((Er rfl).or Ej) HJ rfl T.WC J0 (vp 2)) (Ah (JZ (Kg (v:=(.int 3)) rfl T.RE.m ⟨_,rfl⟩) (.int _)) (Ac) QS) Kv))) Uc) (DQ (Q8 (D_ (fX (Gw T) z (Ah (Bl ((Er rfl).or Ej) HJ rfl T.WC J0 (vp 3)) (Ah (JZ (Kg (v:=(.int 3)) rfl T.RE.m ⟨_,rfl⟩) (.int _)) (Ac) QS) Kv))) Uc) (DQ (J5 T.SE (pv 0) (vr 1)) (DQ (Vw T.UE (pv 0) Mz) (DQ (Vw T.VE (pv 0) Mz) (DQ (Y8 fE rfl (Sg (top:=ZA) (vr 2)) (Ks rfl rfl (Bm (gN Ci.nd 4) (Bm (gN Ci.nd 5) (JF)))) (gk (QM (by decide) (QM (by decide) (gj)))) (Vu (gf (Vv (Hs (Dq (pU (fX (Rc T) z (fy 4 (Ac)))) rfl))) (Ae JC)) (Y7 (Vx (G_ z) T.UE (pv 0) (vr 4) (fX (Rb T) z (fy 1 (fy 5 (Ac)))))))) (DQ (Y8 fE rfl (Sg (top:=ZA) (vr 3)) (Ks rfl rfl (Bm (gN Ci.nd 4) (Bm (gN Ci.nd 6) (JF)))) (gk (QM (by decide) (QM (by decide) (gj)))) (Vu (gf (PWE.pt (vO (Vv (Hs (Dq (pU (fX (Rc T) z (fy 4 (Ac)))) rfl))) (oW (vP (G_ z) T.UE (pv 0) (vr 4))))) (Ae JC)) (Y7 (Vx (G_ z) T.VE (pv 0) (vr 4) (fX (R1 T) z (fy 1 (fy 6 (Ac)))))))) (Y9))))))))
abbrev Cz:List Str:=["_law_world_here","_law_cell_here","_law_marks","_law_ties","_law_word"]
def GC:bc Cz ["_law_world_here","_law_cell_here"] (Ab Hz):=OO
theorem Uv(T:Tx G mg):Sk P w base T.x9 1 (Na G CZ):=
 SO (k:=0) (N:=Cz) (b:=KD) T.x9 GC λ_ _ _ _ _ _ z=>Ad (sW GC.nd 2 (Mz)) (Ad (sW GC.nd 3 (Mz)) (Ad (Cq fE rfl (BL rfl (iX z (vp 0) (iP))) (Bq (gN GC.nd 4)) (Ae (Kr (G_ z) (pv 2) (vr 4) (DY (nT Cz "_law_thing") (by show Dd "_law_thing" Cz++(["_law_thing"]:List Str)=_;decide +kernel) (cO (N:=Cz) (sc:=Ab Hz) rfl rfl) rfl (RI.top (BL rfl (iX z (pU (iX z (vp 0) (iP))) (vp 4)))) (λ_ _ _=>HH (tGe (vp 5) (pU (Nl (vp 1) (iP))))) (λ_ _ _=>vr 5))))) (Ad (Cq fE rfl (BL rfl (iX z (vp 0) (iP))) (Bq (gN GC.nd 4)) (Ae (Kr (G_ z) (pv 3) (vr 4) (DY (nT Cz "_law_row") (by show Dd "_law_row" Cz++(["_law_row"]:List Str)=_;decide +kernel) (cO (N:=Cz) (sc:=Ab Hz) rfl rfl) rfl (RI.top (BL rfl (iX z (pU (iX z (vp 0) (iP))) (vp 4)))) (λ_ _ _=>HH (VY.pt (YX (tGe (pU (iX z (vp 5) (iP))) (pU (Nl (vp 1) (iP)))) (Qu (tGe (pU (iX z (vp 5) (iP))) (pU (Nl (vp 1) (iP)))))))) (λ_ _ _=>vr 5))))) (Ae (J1 [2,3] (Aq (HF (Ah (iX z (vp 0) (iP)) (fy 2 (fy 3 (Ac))) Dt))))))))
abbrev JN:List Str:=["self","one","other"]
def Nq:bc JN ["self","one","other"] (Ab JK):=OO
theorem IW(T:Tx G mg):im P w G.K mg base CX0 1 T.MA.f T.MA.fd ["self","one","other"] (spI G "Ranks" Bu):=
 fn_I (c:="Ranks") (k:=0) (N:=JN) (b:=GP) T.MA.F Nq (by decide) λJ A z s H E I=>DQ (J5 T.WE (pv 0) (vr 1)) (DQ (J5 T.XE (pv 0) (vr 2)) (DQ (J5 T.YE (pv 0) (vm rfl)) (DQ (J5 T.ZE (pv 0) (NR (pU (Vg (aQ rfl) dh rfl T.ND eE (pU (Bo T.SE (vp 1))) (pU (Bo T.SE (vp 2))))) (iP))) (Y9))))
abbrev Hk:List Str:=["size","paired"]
def Wa:bc Hk ["size","paired"] (Ab L_):=OO
theorem QB(T:Tx G mg):Sk P w base T.NA 1 (Na G Hh):=
 SO (k:=0) (N:=Hk) (b:=Lx) T.NA Wa λ_ _ _ _ _ _ z=>Ae (Aq (DY (nT Hk "thing") (by show Dd "thing" Hk++(["thing"]:List Str)=_;decide +kernel) (cO (N:=Hk) (sc:=Ab L_) rfl rfl) rfl (E_ rfl T.SD (vp 0)) (λ_ _ _=>HH (tNi z (vp 2) (vp 1))) (λ_ _ _=>vr 2)))
abbrev Js:List Str:=["one","other","pair","word"]
def JP:bc Js ["one","other","pair"] (Ab Jo):=OO
theorem O7(T:Tx G mg):Sk P w base T.OA 1 (Na G Eg):=
 SO (k:=0) (N:=Js) (b:=Gq) T.OA JP λ_ _ _ _ _ _ z=>Ad (Cq fE rfl (BL rfl (Bo T.UE (vp 0))) (Bq (gN JP.nd 3)) (Ae (Cr (tNe z (pU (cIn z (pU (iX z (vp 2) (iP))) (pU (iX z (pU (Bo T.UE (vp 0))) (vp 3))))) (pU (cIn z (pU (iX z (vp 2) (iP))) (pU (iX z (pU (Bo T.UE (vp 1))) (vp 3)))))) (Ae (Aq (Jz))) (CK)))) (Ae (Aq (Jz)))
abbrev Jt:List Str:=["one","other","pair","further","word"]
def JQ:bc Jt ["one","other","pair","further"] (Ab Jp):=OO
theorem GQ(T:Tx G mg):Sk P w base T.QA 1 (Na G CQ):=
 SO (k:=0) (N:=Jt) (b:=Gr) T.QA JQ λ_ _ _ _ _ _ z=>Ad (Cq fE rfl (BL rfl (Bo T.VE (vp 0))) (Bq (gN JQ.nd 4)) (Ae (Cr (tNe z (pU (iB z (Ah (iX z (vp 2) (iP)) (Ah (iX z (vp 3) (iP)) (Ac) Dt) Dt) (pU (iX z (pU (Bo T.VE (vp 0))) (vp 4))))) (pU (iB z (Ah (iX z (vp 2) (iP)) (Ah (iX z (vp 3) (iP)) (Ac) Dt) Dt) (pU (iX z (pU (Bo T.VE (vp 1))) (vp 4)))))) (Ae (Aq (Jz))) (CK)))) (Ae (Aq (Jz)))
abbrev Ld:List Str:=["one","other","pair","further"]
def Rf:bc Ld ["one","other","pair","further"] (Ab LR):=OO
theorem Rg(T:Tx G mg):Sk P w base T.RA 2 (Na G Gd):=
 SO (k:=1) (N:=Ld) (b:=Io) T.RA Rf λ_ _ _ _ _ _ z=>Ad (Cr (tNe z (pU (cEq z (pU (iX z (vp 2) (iP))) (pU (iX z (vp 3) (iP))))) (pU (cEq z (pU (iX z (vp 2) (iP))) (pU (iX z (vp 3) (iP)))))) (Ae (Aq (Jz))) (CK)) (Ae (Aq (dU (fX (GQ T) z (fy 0 (fy 1 (fy 2 (fy 3 (Ac)))))) (XM (fX (GQ T) z (fy 0 (fy 1 (fy 3 (fy 2 (Ac))))))))))
abbrev Gm:List Str:=["one","other","pairs","further"]
def Uw:bc Gm ["one","other","pairs","further"] (Ab KQ):=OO
theorem Nr(T:Tx G mg):Sk P w base T.SA 3 (Na G Gk):=
 SO (k:=2) (N:=Gm) (b:=KH) T.SA Uw λ_ _ _ _ _ _ z=>Ad (Cr (VY.pt (HD (Hs (Dq (pU (fX (O7 T) z (fy 0 (fy 1 (fy 3 (Ac)))))) rfl)) (Ep (Hs (Dq (pU (fX (GQ T) z (fy 0 (fy 1 (fy 3 (fy 3 (Ac))))))) rfl))))) (Ae (Aq (Jz))) (CK)) (Ae (Aq (Bl (Ou rfl) Ua rfl T.PC Xe (pU (DY (nT Gm "pair") (by show Dd "pair" Gm++(["pair"]:List Str)=_;decide +kernel) (cO (N:=Gm) (sc:=Ab KQ) rfl rfl) rfl (RI.top (BL rfl (vr 2))) (λ_ _ _=>FJ) (λ_ _ _=>fX (Rg T) z (fy 0 (fy 1 (fy 4 (fy 3 (Ac)))))))))))
abbrev Ia:List Str:=["self","pairs","further"]
def MJ:bc Ia ["self","pairs","further"] (Ab H_):=OO
theorem MK(T:Tx G mg){m:Nat}{z:List D->Option D}(L:3<=m)(I:im P w G.K mg base CX0 m T.XA.f T.XA.fd ["self","pairs"] (Na G z)):im P w G.K mg base CX0 (m+1) T.UA.f T.UA.fd ["self","pairs","further"] (Na G (Bb z)):=
 Xs (k:=m+0) (N:=Ia) (b:=Fp z) T.UA.F MJ (by decide) λ_ _ _ _ _ _ J=>Ad (Cr (Hs (Dq (pU (fX (Nr T) J (Ah (Bo T.WE (vp 0)) (Ah (Bo T.XE (vp 0)) (fy 1 (fy 2 (Ac))) CW) CW))) rfl)) (Ae (Aq (Qs))) (CK)) (Ae (Aq (mA T.z_ T.q0 (I) J (vr 0) (Ah (v4 rfl rfl rfl T.ME Vt rfl T.UD Es (pU (Li pM jE (vp 1) (pU (Ob (fy 2 (Ac))))))) (Ac) Kv))))
abbrev Cj:List Str:=["self","pairs","choices"]
def MN:bc Cj ["self","pairs","choices"] (Ab Fy):=OO
theorem Hl(T:Tx G mg){m:Nat}{z:List D->Option D}(L:3<=m)(I:im P w G.K mg base CX0 m T.XA.f T.XA.fd ["self","pairs"] (Na G z)):im P w G.K mg base CX0 (m+2) T.VA.f T.VA.fd ["self","pairs","choices"] (Na G (Ar z)):=
 Xs (k:=m+1) (N:=Cj) (b:=Fq z) T.VA.F MN (by decide) λ_ _ _ _ _ _ J=>Ae (Aq (nZ rfl rfl rfl T.ND eE (pU (DY (nT Cj "further") (by show Dd "further" Cj++(["further"]:List Str)=_;decide +kernel) (cO (N:=Cj) (sc:=Ab Fy) rfl rfl) rfl (RI.top (BL rfl (vr 2))) (λ_ _ _=>FJ) (λ_ _ _=>mA T.z_ T.q0 (MK T (by omega) (I)) J (vr 0) (fy 1 (fy 3 (Ac)))))) (Qs)))
abbrev An:List Str:=["self","pairs","firsts","seconds","reached","first","second"]
def Bc:bc An ["self","pairs"] (Ab Bf):=OO
theorem K5(T:Tx G mg){m:Nat}{z:List D->Option D}(L:3<=m)(I:im P w G.K mg base CX0 m T.XA.f T.XA.fd ["self","pairs"] (Na G z)):im P w G.K mg base CX0 (m+3) T.WA.f T.WA.fd ["self","pairs"] (Na G (By z)):=
 Xs (k:=m+2) (N:=An) (b:=Ek z) T.WA.F Bc (by decide) λ_ _ _ _ _ _ J=>Ad (sF Bc.nd 2 (fX (QB T) J (Ah (Bo T.SE (pU (Bo T.WE (vp 0)))) (Ah (DY (nT An "pair") (by show Dd "pair" An++(["pair"]:List Str)=_;decide +kernel) (cO (N:=An) (sc:=Ab Bf) rfl rfl) rfl (RI.top (BL rfl (vr 1))) (λ_ _ _=>FJ) (λ_ _ _=>iX J (vp 7) (iP))) (Ac) Hv) CW))) (Ad (sF Bc.nd 3 (fX (QB T) J (Ah (Bo T.SE (pU (Bo T.XE (vp 0)))) (Ah (DY (nT An "pair") (by show Dd "pair" An++(["pair"]:List Str)=_;decide +kernel) (cO (N:=An) (sc:=Ab Bf) rfl rfl) rfl (RI.top (BL rfl (vr 1))) (λ_ _ _=>FJ) (λ_ _ _=>iX J (vp 7) (iP))) (Ac) Hv) CW))) (Ad (sW Bc.nd 4 (T8 (Ac))) (Ad (Cq fE rfl (BL rfl (vr 2)) (Bq (gN Bc.nd 5)) (Ae (Mt (pv 4) (mA T.z_ T.q0 (Hl T (by omega) (I)) J (vr 0) (fy 1 (Ah (DY ["self","pairs","firsts","seconds","reached","first","","second"] (by show Dd "second" An++(["second"]:List Str)=_;decide +kernel) (cO (N:=An) (sc:=Ab Bf) rfl rfl) rfl (RI.top (BL rfl (vr 3))) (λ_ _ _=>FJ) (λ_ _ _=>Ob (fy 5 (fy 7 (Ac))))) (Ac) Hv)))))) (Ad (Cq fE rfl (BL rfl (vr 3)) (Bq (gN Bc.nd 6)) (Ae (Mt (pv 4) (mA T.z_ T.q0 (Hl T (by omega) (I)) J (vr 0) (fy 1 (Ah (DY ["self","pairs","firsts","seconds","reached","","second","first"] (by show Dd "first" An++(["first"]:List Str)=_;decide +kernel) (cO (N:=An) (sc:=Ab Bf) rfl rfl) rfl (RI.top (BL rfl (vr 2))) (λ_ _ _=>FJ) (λ_ _ _=>Ob (fy 7 (fy 6 (Ac))))) (Ac) Hv)))))) (Ae (Aq (Vg (aR rfl) di rfl T.PD XR (pU (Bo T.ZE (vp 0))) (pU (NR (iP) (pU (pK rfl rfl rfl T.PD XR (vq 4) (Bo T.ZE (vp 0)))))))))))))
abbrev Cu:List Str:=["self","pairs"]
def Ea:bc Cu ["self","pairs"] (Ab Eu):=OO
theorem Eb(T:Tx G mg):∀n:Nat,im P w G.K mg base CX0 (n*4+3) T.XA.f T.XA.fd ["self","pairs"] (Na G (Af n))
 |0=>n_
 |n+1=>(Xs (k:=n*4+6) (N:=Cu) (b:=BR (Af n)) T.XA.F Ea (by decide) λ_ _ _ _ _ _ z=>ir z.units rfl T.YE rfl (by first | exact dE rfl | exact cS (dE rfl) | exact cS (cS rfl)) rfl (by first | exact dE rfl | exact cS (dE rfl) | exact cS (cS rfl)) (mA T.z_ T.q0 (K5 T (by omega) (Eb T n)) z (vr 0) (fy 1 (Ac)))).mono (by omega)
theorem Hr(T:Tx G mg):im P w G.K mg base CX0 1 T.XA.f T.XA.fd ["self","pairs"] (spP P w G.K "reckoned"):=
 fn_P (k:=0) (N:=Cu) T.XA.F Ea rfl λ_ _ _ _ _ _ z=>pP z.units rfl (by first | exact dE rfl | exact cS (dE rfl) | exact cS (cS rfl)) rfl (by first | exact dE rfl | exact cS (dE rfl) | exact cS (cS rfl))
abbrev K1:List Str:=["one","other","pairs"]
def Xy:bc K1 ["one","other","pairs"] (Ab O6):=OO
theorem Xz(T:Tx G mg):Sk P w base T.YA 4 (Na G G7):=
 SO (k:=3) (N:=K1) (b:=O4) T.YA Xy λ_ _ _ _ _ _ z=>Ae (Aq (Bl (Ou rfl) Ua rfl T.PC Xe (pU (PN.pf (iQ ["one","other","pairs","at","pair"] (by show Bg ["at","pair"] K1++(["at","pair"]:List Str)=_;decide +kernel) (cO2 (N:=K1) (sc:=Ab O6) rfl rfl) rfl rfl (RI.top (bW rfl rfl T.TC (vr 2))) (λ_ _ _=>FJ) (λ_ _ _=>fX (Nr T) z (fy 0 (fy 1 (Ah (Vd rfl (vp 2) (dX) (Qv (vp 3))) (fy 4 (Ac)) Dt)))))))))
abbrev Ju:List Str:=["self","pairs","known"]
def JR:bc Ju ["self","pairs"] (Ab Jq):=OO
theorem O8(T:Tx G mg):im P w G.K mg base CX0 36 T.lB.f T.lB.fd ["self","pairs"] (Na G CT):=
 Xs (k:=35) (N:=Ju) (b:=Eh) T.lB.F JR (by decide) λ_ _ _ _ _ _ z=>Ad (sF JR.nd 2 (vz z.units rfl rfl rfl T.ME Vt rfl T.UD Es rfl T.TD eF (vp 1))) (jJ (d:=T.XA) z.units rfl T.YE T.z_ rfl (by first | exact dE rfl | exact cS (dE rfl) | exact cS (cS rfl)) rfl (by first | exact dE rfl | exact cS (dE rfl) | exact cS (cS rfl)) (Dq (pU (fX (Xz T) z (Ah (Bo T.WE (vp 0)) (Ah (Bo T.XE (vp 0)) (fy 2 (Ac)) CW) CW))) rfl) (Hr T) (z.mono (by omega)) (Aq (mA T.z_ T.q0 (Eb T 8) z (vr 0) (fy 2 (Ac)))))
abbrev Nu:List Str:=["self","pairs","count","reached"]
def Le:bc Nu ["self","pairs","count"] (Ab Ng):=OO
theorem Lf(T:Tx G mg):im P w G.K mg base CX0 37 T.MB.f T.MB.fd ["self","pairs","count"] (Na G Br):=
 Xs (k:=36) (N:=Nu) (b:=G3) T.MB.F Le (by decide) λ_ _ _ _ _ _ z=>Ad (sF Le.nd 3 (mA T.z_ T.q0 (O8 T) z (vr 0) (fy 1 (Ac)))) (Ae (Aq (yN (cEq z (vp 3) (pU (Bo T.ZE (vp 0)))) (XM (XJ qw dR (vp 2) (vp 3) (Jw _))))))
abbrev Ec:List Str:=["ranks","thing","count"]
def Rh:bc Ec ["ranks","thing","count"] (Ab Iu):=OO
theorem Ri(T:Tx G mg):Sk P w base T.OB 38 (Na G Ge):=
 SO (k:=37) (N:=Ec) (b:=Ir) T.OB Rh λ_ _ _ _ _ _ z=>Ae (Aq (Bl (bY rfl rfl) jP rfl T.PD XR (pU (DY (nT Ec "earlier") (by show Dd "earlier" Ec++(["earlier"]:List Str)=_;decide +kernel) (cO (N:=Ec) (sc:=Ab Iu) rfl rfl) rfl (E_ rfl T.SD (pU (NR (vp 1) (iP)))) (λ_ _ _=>HH (Dq (pU (mA T.z_ T.q0 (Lf T) z (vr 0) (Ah (HF (Ah (Ob (fy 3 (fy 1 (Ac)))) (Ac) V0)) (fy 2 (Ac)) Ug))) rfl)) (λ_ _ _=>vr 3)))))
abbrev Gn:List Str:=["world","count","ranks","firsts","told","first"]
def JS:bc Gn ["world","count"] (Ab Nh):=OO
theorem Sw(T:Tx G mg):Sk P w base T.SB 39 (spM G NT):=
 fnM (k:=38) (N:=Gn) (b:=WX) T.SB JS λ_ _ _ _ _ _ z=>Dh (J7 (sF JS.nd 2 (Xf T.z_ T.MA.mM (IW T) (z.mono (by omega)) rfl T.z0 T.MA.B (fy 0 (fy 0 (Ac)))))) (Dh (J7 (sF JS.nd 3 (DY (nT Gn "thing") (by show Dd "thing" Gn++(["thing"]:List Str)=_;decide +kernel) (cO (N:=Gn) (sc:=Ab Nh) rfl rfl) rfl (E_ rfl T.SD (pU (Bo T.SE (vp 0)))) (λ_ _ _=>FJ) (λ_ _ _=>fX (Ri T) z (fy 2 (fy 6 (fy 1 (Ac)))))))) (Dh (sXM JS.nd 4 (o9 (T8 (Ac)))) (Dh (o8 fE rfl (BL rfl (wF rfl rfl rfl T.UD Es rfl T.TD eF (vp 3))) (Bq (gN JS.nd 5)) (M9 (RD (yq (pv 4) (iR [] (o_ (nT Gn "thing") (by show Dd "thing" Gn++(["thing"]:List Str)=_;decide +kernel) (cO (N:=Gn) (sc:=Ab Nh) rfl rfl) rfl (E_ rfl T.SD (pU (Bo T.SE (vp 0)))) (λ_ _ _=>HH (tEq z (pU (iX z (vp 3) (vp 6))) (vp 5))) (λ_ _ _=>vr 6))))))) (M9 (J7 (Aq (vr 4)))))))
abbrev Nv:List Str:=["_law_found","_law_size","_law_homes_here","_law_k","_law_thing"]
def Gg:bc Nv ["_law_found","_law_size"] (Ab Ni):=OO
theorem R3(T:Tx G mg):Sk P w base T.TB 1 (Na G Fw):=
 SO (k:=0) (N:=Nv) (b:=Jk) T.TB Gg λ_ _ _ _ _ _ z=>Ad (sW Gg.nd 2 (Mz)) (Ad (Cr (Hs (Dq (pU (T7 Vm rfl rfl T.VC GR rfl T.MD QJ (vp 0))) rfl)) (Ae (J1 [2] (Aq (vr 2)))) (CK)) (Ad (Cq fE rfl (E_ rfl T.SD (pU (Bl ((Er rfl).or Ej) HJ rfl T.WC J0 (vp 0)))) (Bq (gN Gg.nd 3)) (Ad (Cr (VY.pt (HD (Hs (Dq (pU (T7 Vm rfl rfl T.VC GR rfl T.MD QJ (pU (iX z (vp 0) (vp 3))))) rfl)) (HD (tNe z (pU (iX z (vp 0) (vp 3))) (pU (Bl Ur (jU rfl) rfl T.UD Es (pU (iX z (vp 0) (vp 3)))))) (Ep (tEq z (pU (iX z (vp 0) (vp 3))) (pU (HF (Ac)))))))) (Ae (Aq (gM))) (CK)) (Ae (Cq fE rfl (BL rfl (iX z (vp 0) (vp 3))) (Bq (gN Gg.nd 4)) (Ad (Cr (VY.pt (HD (Hs (Dq (pU (T7 nu rfl rfl T.VC GR rfl T.UC XS (vp 4))) rfl)) (HD (Dq (pU (T7 d_ rfl rfl T.VC GR rfl T.SC n6 (vp 4))) rfl) (Ep (tIn z (vp 4) (vq 2)))))) (Ae (Aq (gM))) (CK)) (Ae (Kr (G_ z) (pv 2) (vr 4) (vr 3)))))))) (Ad (Cr (VY.pt (HD (tNe z (vp 0) (pU (Bl (Rv (kx (HZ (by decide) _) z.units)) (jY rfl) rfl T.UD Es (vp 0)))) (Ep (tNe z (pU (Bl (Rw rfl) qD rfl T.UD Es (vq 2))) (pU (ou rfl T.MD rfl T.SD (vp 1))))))) (Ae (Aq (gM))) (CK)) (Ae (J1 [2] (Aq (vr 2)))))))
abbrev Hm:List Str:=["self"]
def K6:bc Hm ["self"] (Ab Hi):=OO
theorem Gy(T:Tx G mg):im P w G.K mg base CX0 1 T.UB.f T.UB.fd ["self"] (Na G B_):=
 Xs (k:=0) (N:=Hm) (b:=El) T.UB.F K6 (by decide) λ_ _ _ _ _ _ z=>Ae (Aq (Bl (LC rfl) ZG rfl T.UD Es (pU (Bo T.UE (vp 0)))))
abbrev Ib:List Str:=["self"]
def MP:bc Ib ["self"] (Ab IK):=OO
theorem Hn(T:Tx G mg):im P w G.K mg base CX0 1 T.WB.f T.WB.fd ["self"] (Na G Ce):=
 Xs (k:=0) (N:=Ib) (b:=Fx) T.WB.F MP (by decide) λ_ _ _ _ _ _ z=>Ae (Aq (Bl (LC rfl) ZG rfl T.UD Es (pU (Bo T.VE (vp 0)))))
abbrev Jv:List Str:=["one","other"]
def O9:bc Jv ["one","other"] (Ab Jr):=OO
theorem O_(T:Tx G mg):Sk P w base T.XB 2 (Na G Ei):=
 SO (k:=1) (N:=Jv) (b:=Gv) T.XB O9 λ_ _ _ _ _ _ z=>Ae (Cr (VY.pt (HD (tNe z (pU (mO T.f_ T.r_ (Gy T) z (vr 0))) (pU (mO T.f_ T.r_ (Gy T) z (vr 1)))) (Ep (tNe z (pU (mO T.f_ T.r_ (Hn T) z (vr 0))) (pU (mO T.f_ T.r_ (Hn T) z (vr 1))))))) (Ae (JC)) (CK))
abbrev GD:List Str:=["one","other","pairs","first","second"]
def Cv:bc GD ["one","other","pairs"] (Ab Fz):=OO
theorem JT(T:Tx G mg):Sk P w base T.ZB 3 (Na G Bs):=
 SO (k:=2) (N:=GD) (b:=DG) T.ZB Cv λ_ _ _ _ _ _ z=>Ad (D_ (fX (O_ T) z (fy 0 (fy 1 (Ac))))) (Ae (Cq fE rfl (BL rfl (vr 2)) (Ks rfl rfl (Bm (gN Cv.nd 3) (Bm (gN Cv.nd 4) (JF)))) (Ad (D_ (fX (CG T) z (Ah (Bo T.SE (vp 0)) (fy 3 (Ac)) CW))) (Ae (D_ (fX (CG T) z (Ah (Bo T.SE (vp 1)) (fy 4 (Ac)) CW)))))))
abbrev Zi:List Str:=["one","other","pairs","count"]
def jf:bc Zi ["one","other","pairs","count"] (Ab Zh):=OO
theorem jg(T:Tx G mg):Sk P w base T.MC 38 (Na G NZ):=
 SO (k:=37) (N:=Zi) (b:=Ut) T.MC jf λ_ _ _ _ _ _ z=>Ad (D_ (fX (JT T) z (fy 0 (fy 1 (fy 2 (Ac)))))) (Ae (Aq (mA T.z_ T.q0 (Lf T) z (Xf T.z_ T.MA.mM (IW T) (z.mono (by omega)) rfl T.z0 T.MA.B (fy 0 (fy 1 (Ac)))) (fy 2 (fy 3 (Ac))))))
abbrev Ie:List Str:=["_law_world_here","_law_size","_law_count","_law_cells","_law_found","_law_homes_here","_law_cell_here","_law_one","_law_other","_law_kept","_law_row"]
def Ck:bc Ie ["_law_world_here","_law_size","_law_count","_law_cells"] (Ab KR):=OO
theorem Nx(T:Tx G mg):Sk P w base T.NC 40 (Na G Cy):=
 fnDM (k:=39) (N:=Ie) (b:=Hx) T.NC Ck λ_ _ _ _ _ _ z=>Dh (sXM Ck.nd 4 (fM (Sw T) z (fy 0 (fy 2 (Ac))))) (Dh (sXM Ck.nd 5 (pR (fX (R3 T) z (fy 4 (fy 1 (Ac)))))) (Dh (pC (VY.pt (HD (tNe z (pU (Bl ((Er rfl).or Ej) HJ rfl T.WC J0 (vp 5))) (vp 1)) (Ep (VY.pt (YX (tEq z (vp 1) (iP)) (Qu (tNe z (vp 4) (pU (HF (Ac)))))))))) (M9 (J7 (Aq (Jz)))) (o7)) (Dh (J7 (Cq fE rfl (BL rfl (vr 3)) (Bq (gN Ck.nd 6)) (Ae (Cr (tGt (vp 1) (iP)) (Ad (sF Ck.nd 7 (Nl (vp 6) (vp 1))) (Ad (sF Ck.nd 8 (Nl (pU (RY (vp 6) (iP))) (vp 1))) (Ae (Cr (tNe z (pU (fX (jg T) z (fy 0 (fy 0 (Ah (HF (Ah (Ob (fy 7 (fy 8 (Ac)))) (Ac) V0)) (fy 2 (Ac)) Ug))))) (pU (cEq z (pU (iX z (vp 5) (vp 7))) (pU (iX z (vp 5) (vp 8)))))) (Ae (Aq (Jz))) (CK))))) (CK))))) (Dh (pX ["_law_world_here","_law_size","_law_count","_law_cells","_law_found","_law_homes_here","_law_cell_here","_law_one","_law_other","_law_kept","","_law_row"] (by show Dd "_law_row" Ie++(["_law_row"]:List Str)=_;decide +kernel) (cO (N:=Ie) (sc:=Ab KR) rfl rfl) rfl Ck.nd rfl (by first | exact dE rfl | exact cS rfl) (pv 4) (λ_ _ _=>pW rfl T.MD QJ (pv 11))) (Dh (jO fE rfl rfl (pv 4) (Bq (gN Ck.nd 10)) (M9 (RD (mClr (pv 10))))) (Dh (RD (mClr (pv 4))) (M9 (iH (pZ rfl z.unitsW (fM (Sw T) z (fy 0 (fy 2 (Ac)))) (vr 9) (Jw _))))))))))
abbrev tO:List Str:=["_law_script","_law_size","_law_marks","_law_ties","_law_world_here","_law_cells","_law_count"]
def Iv:bc tO ["_law_script"] (Ab tL):=OO
theorem wG(T:Tx G mg):Sk P w base T.OC 41 (Na G WY):=
 SO (k:=40) (N:=tO) (b:=je) T.OC Iv λ_ _ _ _ _ _ z=>Ad (Y4 (Ks rfl rfl (Bm (gN Iv.nd 1) (Bm (gN Iv.nd 2) (Bm (gN Iv.nd 3) (JF))))) (fX (Rz T) z (fy 0 (iI (Ac))))) (Ad (Cr (tEq z (pU (Nl (pU (fX (DK T) z (fy 0 (iI (Ac))))) (iP))) (iP)) (Ae (Y4 (Ks rfl rfl (Bm (gN Iv.nd 1) (Bm (gN Iv.nd 2) (Bm (gN Iv.nd 3) (JF))))) (fX (Uv T) z (Ah (HF (fy 1 (fy 2 (fy 3 (Ac))))) (Ah (RY (pU (fX (DK T) z (fy 0 (iI (Ac))))) (iP)) (Ac) Ff) Ug)))) (CK)) (Ad (sF Iv.nd 4 (Xf T.f_ T.h9.mM (Np T) (z.mono (by omega)) rfl T.s_ T.h9.B (fy 1 (fy 2 (fy 3 (Ac)))))) (Ad (sF Iv.nd 5 (NR (pU (HF (iI (iI (iI (iI (Ac))))))) (pU (Vd rfl (vp 0) (Qv (iP)) (Qv (iP)))))) (Ad (sF Iv.nd 6 (iX z (pU (HF (iI (iI (iI (iI (iI (iI (iI (iI (Ac))))))))))) (pU (Nl (pU (fX (DK T) z (fy 0 (iI (Ac))))) (iP))))) (Ae (Aq (dU (fX (Nx T) z (fy 4 (fy 1 (iI (fy 5 (Ac)))))) (XM (fX (Nx T) z (fy 4 (fy 1 (fy 6 (fy 5 (Ac))))))))))))))
end
abbrev gx (K:aI) (c_ w_:Addr):Gx:=gxL K [("World",c_),("Ranks",w_)]
def tQ(K:aI):Sp:=λvs H Q _=>∃(a:Addr) (ns:List Int),vs=[.ref a]/\MR K H a (ns.map V.int)/\ns.length<=63/\∀z,Q (.bl E3) z
theorem wH(T:∀ns:List Int,ns.length<=63->WY [.lst (ns.map .int)]=W1 (.bl E3)){K:aI}{I J:Addr}(vs:List V)(H:Hp)(Q:VK)(E:XK)(h:tQ K vs H Q E):Na (gx K I J) WY vs H Q E:=by
 obtain⟨a,ns,rfl,hs,Y,k⟩:=h;refine⟨[],[.lst (ns.map .int)],.bl E3,(λ_ z=>nomatch z),be.cons ?_ be.nil,T ns Y,λv U _ r=>?_⟩
 .have e:bm [] H=H:=by funext b;exact Ax (λz=>nomatch z)
  rw[e];refine .lst hs (by simp) λi x d L O=>?_;rw[cb] at L O;cases S:ns[i]? with
  |none=>rw[S] at L;cases L
  |some z=>rw[S] at L O;cases L;cases O;exact .int z
 .cases r;exact k U
end K43
namespace K43
open PySem L2 PV
def Ux(ns:List Int)(k:Nat):Al [.lst (ns.map .int),.int (k:Int)]=W1 (.int (ns.getD k 0)):=by
 by_cases h:k<ns.length
 .have z:ns.getD k 0=ns[k]:=by simp[h]
  rw[z];have e:atI (ns.map D.int) (k:Int)=W1 (.int ns[k]):=by
   rw[eU (by omega) (by simpa using h)];simp[h]
  simp[Al,lu,Hw,dq,PY,MW,bF,vF,uF,CP,UQ,SQ,h,jn,ixD,e]
 .have z:ns.getD k 0=0:=by simp[kP.mp h]
  rw[z];simp[Al,lu,Hw,dq,PY,MW,bF,vF,uF,CP,UQ,SQ,h,jn,Sn,kF]
def QW(ns:List Int)(k:Nat):∃i,Al [.lst (ns.map .int),.int (k:Int)]=W1 (.int i):=⟨_,Ux ns k⟩
def Uy(x y:Str):cs (x++y)=cs x++cs y:=by show (x.cps++y.cps).toList=_;simp[cs]
def X3(x:Str):(cs x).length=x.length:=by simp[cs,o0]
def jh(h:cs x=cs y):x=y:=by
 cases x with | mk a=>cases y with | mk b=>simp[cs] at h;rw[h]
def Uz:Oy.length=26:=by decide +kernel
def Zj(h:IsL x)(k:IsL y):IsL (x++y):=λc I=>by
 rw[Uy] at I
 rcases dQ.mp I with q | q
 .exact h c q
 .exact k c q
def bj:IsL "":=by
 have e:cs ("":Str)=[]:=by decide +kernel
 intro c I;rw[e] at I;cases I
def yw(i:Int)(J:0<=i)(h1:i<26):∃c,(cs Oy)[i.toNat]?=W1 c/\c∈cs Oy/\ixD (.str Oy) (.int i)=W1 (.str ⟨#[c]⟩):=by
 have Y:(cs Oy).length=26:=by rw[X3];exact Uz
 have z:i.toNat<(cs Oy).length:=by omega
 refine⟨(cs Oy)[i.toNat],by simp[z],eW z,?_⟩;show (if Oy.length<=sizeLine then (atI (cs Oy) i).map (λc=>D.str ⟨#[c]⟩) else E2)=_;rw[OF (Ja (by rw[Uz];decide)),eU J (by rw[Y];omega)];simp[z]
def plc(n z:Int)(k j:Nat):Int:=n/((j:Int)+3)+(j:Int)*j+(if (j:Int)=z then 1 else 0)*(k:Int)
def chr(n z:Int)(k j:Nat):Nat:=(cs Oy).getD (plc n z k j%26).toNat 0
def SV(n z:Int)(k:Nat)(m:Nat):Str:=⟨((bb m).map (chr n z k)).toArray⟩
def Wb(n z:Int)(k m:Nat):SV n z k (m+1)=SV n z k m++⟨#[chr n z k m]⟩:=by
 apply jh;rw[Uy];simp[SV,cs,t5]
def K3(n z:Int)(k m:Nat):(SV n z k m).length=m:=by simp[SV,o0]
def Wc(n z:Int)(k j:Nat):chr n z k j∈cs Oy/\ixD (.str Oy) (.int (plc n z k j%26))=W1 (.str ⟨#[chr n z k j]⟩):=by
 obtain⟨c,J,I,S⟩:=yw (plc n z k j%26) (md _ (by decide)) (qV _ (by decide));have e:chr n z k j=c:=by unfold chr;rw[uu,J];rfl
 rw[e];exact⟨I,S⟩
theorem Zk(n z:Int)(k:Nat):∀m,IsL (SV n z k m)
 |0=>bj
 |m+1=>by
  rw[Wb];refine Zj (Zk n z k m) λc I=>?_;simp[cs] at I;subst I;exact (Wc n z k m).1
def wI:(cs Oy).Nodup:=by decide +kernel
def wJ(n:Int)(at_:Nat){k I:Nat}(U:k<7)(O:I<7)(h:k≠I):chr n at_ k at_≠chr n at_ I at_:=by
 have Y:(cs Oy).length=26:=by rw[X3];exact Uz
 intro e;have b:∀k:Nat,(plc n at_ k at_%26).toNat<(cs Oy).length:=λk=>by
  have T:0<=plc n at_ k at_%26:=md _ (by decide);have W:plc n at_ k at_%26<26:=qV _ (by decide);rw[Y];omega
 have L:∀k:Nat,chr n at_ k at_=(cs Oy)[(plc n at_ k at_%26).toNat]'(b k):=λk=>by
  unfold chr;rw[uu,cr (b k)];rfl
 rw[L,L] at e;have J:=(FL wI).mp e;have p:∀k:Nat,plc n at_ k at_=n/((at_:Int)+3)+(at_:Int)*at_+k:=λk=>by unfold plc;rw[OF rfl,Int.one_mul]
 rw[p,p] at J;generalize n/((at_:Int)+3)+(at_:Int)*at_=z at J;have T:0<=(z+(k:Int))%26:=md _ (by decide);have S:0<=(z+(I:Int))%26:=md _ (by decide);omega
def wK(n:Int)(z m:Nat)(T:z<m){k I:Nat}(S:k<7)(J:I<7)(h:k≠I):SV n z k m≠SV n z I m:=by
 intro e;have O:cs (SV n z k m)=cs (SV n z I m):=by rw[e]
 simp only[SV,cs] at O;have L:=NG (λl=>l[z]?) O;simp[T] at L;exact wJ n z S J h L
def fix(x:Str):Str:=if x∈Se then x++"x" else x
def ot(n z:Int)(m:Nat)(k:Nat):Str:=fix (SV n z k m)
def wL:∀y∈Se,(y++("x":Str)).length<=5/\(y++("x":Str))∉Se/\y.length<=4:=by decide +kernel
def wM(h1:1<=x.length)(L:x.length<=8)(z:IsL x):Wd (fix x):=by
 unfold fix;split
 .rename_i h;obtain⟨O,J,_⟩:=wL x h;refine⟨by rw[Lk];omega,by omega,Zj z ?_,J⟩;intro c I;have e:cs ("x":Str)=[120]:=by decide +kernel
  rw[e] at I;simp at I;subst I;decide +kernel
 .rename_i h;exact⟨h1,L,z,h⟩
def qF(Y:x.length=y.length)(h:fix x=fix y):x=y:=by
 have Z:o0 "x"=1:=by decide +kernel
 unfold fix at h;split at h<;>split at h
 .have:=NG cs h;rw[Uy,Uy] at this;exact jh (List.append_cancel_right this)
 .have:=NG o0 h;rw[Lk] at this;omega
 .have:=NG o0 h;rw[Lk] at this;omega
 .exact h
def qG(x:Str):RU ZA (.str x) (.lst [.str "not",.str "and",.str "or",.str "some",.str "all"])=W1 (.bl (decide (x∈Se))):=by
 have e:=Yv x Se;have:(Se.any λy=>y==x)=decide (x∈Se):=by
  rw[ib];simp only[qr,SG,hH];exact⟨(by rintro ⟨y,I,z⟩;exact z▸I),λh=>⟨x,h,rfl⟩⟩
 rw[this] at e;exact e
end K43
section
open PySem L2 PV
local macro_rules | `(tactic| w_up) => `(tactic| (rw [List.map_cons, Dr, Qb, Ii, JD]; simp only [List.set_cons_zero, List.set_cons_succ]))
local macro_rules | `(tactic| simp only [cK, $ls,*] $[$l:location]?) => `(tactic| simp only [Ph, Ta, e_rt, rH, e_if, rJ, rK, rM, eY, rN, eZ, e_, Yl, e_b, e_bs, e_u, e_us, fB, Ym, fC, Yn, rT, rU, rW, fD, fG, fH, fJ, fK, fL, fO, fP, e_bl, rY, fQ, Yo, Yp, rZ, fU, fV, fW, fY, Yq, sE, fZ, fj, e_sl, sG, sH, Yr, Vo, e_v, SZ, e_vU, sI, e_k, Oi, Ys, T_, fu, gA, gB, Yu, gC, Mv, Yt, e_tr, gD, Yw, sS, gF, Oj, Dr, Ds, Ii, Qb, JD, List.length_cons, List.length_nil, List.map_cons, List.map_nil, List.cons_append, List.nil_append, List.replicate_succ, List.replicate_zero, List.getElem?_cons_zero, List.getElem?_cons_succ, List.set_cons_zero, List.set_cons_succ, Nat.reduceAdd, Nat.reduceSub, Nat.reduceEqDiff, Nat.zero_add, truB, Bool.not_true, Bool.not_false, decide_true, decide_false, List.append_nil, Int.reduceLT, Int.reduceLE, Int.reduceNeg, Int.reduceEq, Int.reduceToNat, Nat.reduceLeDiff, $ls,*] $[$l:location]?)
local macro_rules | `(tactic| simp only [cK]) => `(tactic| simp only [cK, Ta])
local macro_rules | `(tactic| simp only [kC, $ls,*] $[$l:location]?) => `(tactic| simp only [$ls,*, Ph, Ta, e_rt, rH, e_if, rJ, rK, rM, eY, rN, eZ, e_, Yl, e_b, e_bs, e_u, e_us, fB, Ym, fC, Yn, rT, rU, rW, fD, fG, fH, fJ, fK, fL, fO, fP, e_bl, rY, fQ, Yo, Yp, rZ, fU, fV, fW, fY, Yq, sE, fZ, fj, e_sl, sG, sH, Yr, Vo, e_v, SZ, e_vU, sI, e_k, Oi, Ys, T_, fu, gA, gB, Yu, gC, Mv, Yt, e_tr, gD, Yw, sS, gF, Oj, Dr, Ds, Ii, Qb, JD, List.length_cons, List.length_nil, List.map_cons, List.map_nil, List.cons_append, List.nil_append, List.replicate_succ, List.replicate_zero, List.getElem?_cons_zero, List.getElem?_cons_succ, List.set_cons_zero, List.set_cons_succ, Nat.reduceAdd, Nat.reduceSub, Nat.reduceEqDiff, Nat.zero_add, truB, Bool.not_true, Bool.not_false, decide_true, decide_false, List.append_nil, Int.reduceLT, Int.reduceLE, Int.reduceNeg, Int.reduceEq, Int.reduceToNat, Nat.reduceLeDiff] $[$l:location]?)
local macro_rules | `(tactic| simp only [kiC, $ls,*] $[$l:location]?) => `(tactic| simp only [kC, $ls,*, Gp, GX, Oh, XX, SQ, Yi, Yj, Q4, Yk] $[$l:location]?)
local macro_rules | `(tactic| simp only [dK, $ls,*] $[$l:location]?) => `(tactic| simp only [cK, vQ, M5, Y_, ZC, Ud, DX, Fd, QQ, M6, Vy, Q_, vR, oZ, ye, yf, vV, M7, RB, $ls,*] $[$l:location]?)
local macro_rules | `(tactic| simp only [ciK, $ls,*] $[$l:location]?) => `(tactic| simp only [cK, Gp, GX, Oh, XX, SQ, Yi, Yj, Q4, Yk, $ls,*] $[$l:location]?)
local macro_rules | `(tactic| simp only [diK, $ls,*] $[$l:location]?) => `(tactic| simp only [dK, Gp, GX, Oh, XX, SQ, Yi, Yj, Q4, Yk, $ls,*] $[$l:location]?)
namespace K43
open PySem L2 PV
def tR(b:Bool):intD (.bl b)=W1 (.int (if b then 1 else 0)):=fx _
def sml(h:j<8):(j:Int)<8/\0<=(j:Int):=by omega
theorem qH(i S n l z:Int)(O:Slot)(k m:Nat)(hk:k<7)(hm:m<=8)(U J:Slot):∃L I:Slot,
  vb (SL (Bh 9) Dj) (wh m) [.fz (.int i),.fz (.int S),.fz (.str Oy),.fz (.int n),.fz (.int l),.fz (.int z),O,.fz (.int (k:Int)),.fz (.str ""),U,J]
   = W1 (.nx [.fz (.int i),.fz (.int S),.fz (.str Oy),.fz (.int n),.fz (.int l),.fz (.int z),O,.fz (.int (k:Int)),.fz (.str (SV n z k m)),L,I]):=by
 obtain⟨Z,e,L,I,rfl⟩:=J3 (b:=SL (Bh 9) Dj) (ds:=wh m) (ρ:=[.fz (.int i),.fz (.int S),.fz (.str Oy),.fz (.int n),.fz (.int l),.fz (.int z),O,.fz (.int (k:Int)),.fz (.str ""),U,J])
  (P:=λj T=>∃L I:Slot,T=[.fz (.int i),.fz (.int S),.fz (.str Oy),.fz (.int n),.fz (.int l),.fz (.int z),O,.fz (.int (k:Int)),.fz (.str (SV n z k j)),L,I]) 0 ⟨U,J,rfl⟩ (by
   rintro j d T W ⟨L,I,rfl⟩;have hj:j<m:=by
    have:=(fF.mp W).1;rw[FN] at this;exact this
   have ed:d=.int (j:Int):=by
    have:=W;simp[wh,hj] at this;exact this.symm
   subst ed;have N0:=sml (show j<8 by omega);have e1:=GX n ((j:Int)+3) (by omega) (by omega);have e2:=QK (j:Int) (j:Int) (by omega);have e3:=QK (if decide ((j:Int)=z) then (1:Int) else 0) (k:Int) (by omega);have pe:n/((j:Int)+3)+(j:Int)*j+(if decide ((j:Int)=z)=E3 then (1:Int) else 0)*(k:Int)=plc n z k j:=by unfold plc;simp
   have ex:=(Wc n z k j).2;have Y:=eV (i:=SV n z k j) (j:=⟨#[chr n z k j]⟩) (by rw[K3];show j+1<=_;omega);rw[<-Wb] at Y;refine⟨_,?_,.fz (.int (j:Int)),.fz (.int (plc n z k j)),by rw[lS]⟩;rw[lS];show Dj [.fz (.int i),.fz (.int S),.fz (.str Oy),.fz (.int n),.fz (.int l),.fz (.int z),O,.fz (.int (k:Int)),.fz (.str (SV n z k j)),.fz (.int (j:Int)),I]=_;simp only[diK,Dj,tR,e1,e2,e3,pe,ex,Y])
 rw[FN,lS] at *;exact⟨L,I,e⟩
def yz:o0 "x"=1:=by decide +kernel
def Sy(L:List D)(x:D)(h:L.length<=1000):VI (.lst L) x=W1 (.lst (L++[x])):=by
 unfold VI;show (if L.length<sizeLine then W1 (D.lst (L++[x])) else E2)=_;rw[OF (kx h (by decide))]
theorem ji(i S n:Int)(l z k:Nat)(hk:k<7)(O:l<=8)(fs:List D)(hf:fs.length<=1000)(z8 Z I:Slot):∃U J:Slot,Dk [.fz (.int i),.fz (.int S),.fz (.str Oy),.fz (.int n),.fz (.int (l:Int)),.fz (.int (z:Int)),.ow (.lst fs),.fz (.int (k:Int)),z8,Z,I]
  = W1 (.nx [.fz (.int i),.fz (.int S),.fz (.str Oy),.fz (.int n),.fz (.int (l:Int)),.fz (.int (z:Int)),.ow (.lst (fs++[.str (ot n z l k)])),.fz (.int (k:Int)),.fz (.str (ot n z l k)),U,J]):=by
 obtain⟨U,J,Y⟩:=qH i S n l z (.ow (.lst fs)) k l hk O Z I;have e2:=Ih (l:Int) (by omega);have L:=qG (SV n z k l);have e4:=eV (i:=SV n z k l) (j:="x") (by rw[K3,yz];omega);have e5:=Sy fs (.str (ot n z l k)) hf;refine⟨U,J,?_⟩
 by_cases T:SV n z k l∈Se
 .have W:SV n z k l++"x"=ot n z l k:=by unfold ot fix;rw[OF T]
  rw[MG T] at L;rw[W] at e4;simp only[diK,Dk,e2,eD,Y,L,e4,e5]
 .have W:SV n z k l=ot n z l k:=by unfold ot fix;rw[RF T]
  rw[UF T] at L;rw[W] at Y L;simp only[diK,Dk,e2,eD,Y,L,e5]
theorem jk(i:Int)(mm:Nat)(hm:mm<=6):∃T:List Str,Gz [.int i,.int (mm:Int)]=W1 (.lst (T.map .str))/\T.length=mm/\(∀x∈T,Wd x)/\T.Nodup:=by
 have n0:0<=i%2147483629:=md _ (by decide);generalize en:i%2147483629=n at n0;have l0:0<=n%8:=md _ (by decide);have l8:n%8<8:=qV _ (by decide);obtain⟨l,el⟩:∃l:Nat,(l:Int)=1+n%8:=⟨(1+n%8).toNat,by omega⟩;have Z:1<=l:=by omega
 have O:l<=8:=by omega
 have a0:0<=n/8%(l:Int):=md _ (by omega);have al:n/8%(l:Int)<l:=qV _ (by omega);obtain⟨I,ea⟩:∃a:Nat,(a:Int)=n/8%(l:Int):=⟨(n/8%(l:Int)).toNat,by omega⟩;have N0:I<l:=by omega
 refine⟨(bb mm).map (ot n I l),?_,by simp,λx hx=>?_,?_⟩
 .have hL:(eB "abcdefghijklmnopqrstuvwxyz")=Oy:=rfl;obtain⟨O0,e,W,S,L,J,rfl⟩:=J3 (b:=SL (Bh 7) Dk) (ds:=wh mm) (ρ:=[.fz (.int i),.fz (.int (mm:Int)),.fz (.str Oy),.fz (.int n),.fz (.int (l:Int)),.fz (.int (I:Int)),.ow (.lst []),.un,.un,.un,.un])
   (P:=λk U=>∃W S L J:Slot,U=[.fz (.int i),.fz (.int (mm:Int)),.fz (.str Oy),.fz (.int n),.fz (.int (l:Int)),.fz (.int (I:Int)),.ow (.lst (((bb k).map (ot n I l)).map .str)),W,S,L,J]) 0 ⟨.un,.un,.un,.un,rfl⟩ (by
    rintro k d U hd ⟨W,S,L,J,rfl⟩;have hk:k<mm:=by
     have:=(fF.mp hd).1;rw[FN] at this;exact this
    have ed:d=.int (k:Int):=by
     have:=hd;simp[wh,hk] at this;exact this.symm
    subst ed;obtain⟨y9,Y,st⟩:=ji i mm n l I k (by omega) O (((bb k).map (ot n I l)).map .str) (by simp;omega) S L J;rw[lS];have er:((bb k).map (ot n I l)).map D.str++[.str (ot n I l k)]=((bb (k+1)).map (ot n I l)).map .str:=by simp[t5]
    rw[er] at st;refine⟨_,?_,.fz (.int (k:Int)),.fz (.str (ot n I l k)),y9,Y,rfl⟩;rw[Qb,Ii,JD];exact st)
  rw[FN,lS] at *;have e6:=Ih (mm:Int) (by omega);have e7:(1:Int)+n%8=(l:Int):=el.symm;have e8:=GX n 8 (by decide) (by decide);have e9:=Gp (n/8) (l:Int) (by omega);rw[<-ea] at e9;simp only[diK,Gz,Je,hL,en,e7,e8,e9,e6,eD,e,uS,Int.reduceMod]
 .obtain⟨k,hk,rfl⟩:=aT.mp hx;exact wM (by rw[K3];exact Z) (by rw[K3];exact O) (Zk _ _ _ _)
 .rw[LO,hJ];refine B1 (R:=λa b=>a≠b) (λ{a b} ha hb h=>?_) sk;have ha:=da.mp ha;have hb:=da.mp hb;intro z;exact wK n I l N0 (by omega) (by omega) h (qF (by rw[K3,K3]) z)
def KZ(n:Nat)(t:Nat)(h:t<n):A_ [.int (n:Int),.int (t:Int)]=W1 .non:=by
 have J:¬ ((t:Int)<0):=by omega
 have U:¬ ((n:Int)<=t):=by omega
 simp only[ciK,A_,Fi,J,U]
def jl{t:Nat}(h:t∉l):(.inl (t:Int):Key)∉(l.map λ(t:Nat)=>((.inl (t:Int):Key),D.bl E3)).map (·.1):=by
 intro z;rw[bS] at z;obtain⟨u,S,e⟩:=aT.mp z;simp at e;have O:u=t:=by omega
 exact h (O▸S)
theorem S5(n:Nat)(x L:Slot):∀(r p:List Nat) (z:Slot),(p++r).Nodup->(∀t∈r,t<n)->(p++r).length<=100 ->
  ∃S,vb (SL (Bh 3) Ed) (r.map iN) [.fz (.int (n:Int)),x,.ow (kM p),z]=W1 (.nx [.fz (.int (n:Int)),x,.ow (kM (p++r)),S])
 |[],p,z,_,_,_=>⟨z,by rw[g9];rfl⟩
 |t::r,p,z,J,Y,I=>by
  have O:t∉p:=by
   intro q;rw[gE] at J;exact J.2.2 t q t (by simp) rfl
  have Z:=KZ n t (Y t (by simp));have W:DP (kM p) (.int (t:Int)) (.bl E3)=W1 (kM (p++[t])):=by
   show DP (.dk _) _ _=_;rw[gw _ _ _ (by simp at I ⊢;omega),uj (jl O)];simp[kM]
  have b:Ed [.fz (.int (n:Int)),x,.ow (kM p),.fz (iN t)]=W1 (.nx [.fz (.int (n:Int)),x,.ow (kM (p++[t])),.fz (iN t)]):=by
   simp only[dK,Ed,Z,W]
  obtain⟨S,T⟩:=S5 n x L r (p++[t]) (.fz (iN t)) (by simpa using J) (λu U=>Y u (by simp[U])) (by simpa using I);refine⟨S,?_⟩
  w_up
  rw[b,Ds,T];simp
def qI(n:Nat)(l:List Nat)(I:l.Nodup)(Y:∀t∈l,t<n)(z:l.length<=100):DW [.int (n:Int),lM l]=W1 (kM l):=by
 obtain⟨S,e⟩:=S5 n (.fz (lM l)) .un l [] .un (by simpa using I) Y (by simpa using z);rw[oy] at e;have J:(D.dk [])=kM []:=rfl;simp only[dK,DW,Ij,J,lM,e] at e ⊢
def jo{t:Nat×Nat}{l:List (Nat×Nat)}(h:t∉l):[(.inl (t.1:Int):Key),.inl (t.2:Int)]∉(l.map λ(q:Nat×Nat)=>([(.inl (q.1:Int):Key),.inl (q.2:Int)],D.bl E3)).map (·.1):=by
 intro z;rw[bS] at z;obtain⟨u,S,e⟩:=aT.mp z;simp at e;have O:u=t:=by
  obtain⟨a,b⟩:=u;obtain⟨c,d⟩:=t;simp at e ⊢;omega
 exact h (O▸S)
theorem Rj(n:Nat)(x:Slot):∀(r p:List (Nat×Nat)) (z Y:Slot),(p++r).Nodup->(∀t∈r,t.1<n/\t.2<n)->(p++r).length<=100 ->
  ∃S J,vb (SL (MS 2 (Aw 3 (Aw 4 MV))) Fj) (r.map pN) [.fz (.int (n:Int)),x,.ow (kT p),z,Y]=W1 (.nx [.fz (.int (n:Int)),x,.ow (kT (p++r)),S,J])
 |[],p,z,Y,_,_,_=>⟨z,Y,by rw[g9];rfl⟩
 |t::r,p,z,Y,L,O,I=>by
  have U:t∉p:=by
   intro q;rw[gE] at L;exact L.2.2 t q t (by simp) rfl
  have e1:=KZ n t.1 (O t (by simp)).1;have T:=KZ n t.2 (O t (by simp)).2;have e2:M4 (kT p) [.int (t.1:Int),.int (t.2:Int)] (.bl E3)=W1 (kT (p++[t])):=by
   show M4 (.dt _) _ _=_;rw[vW _ _ _ _ (by simp at I ⊢;omega),uj (jo U)];simp[kT]
  have b:Fj [.fz (.int (n:Int)),x,.ow (kT p),.fz (.int (t.1:Int)),.fz (.int (t.2:Int))]=W1 (.nx [.fz (.int (n:Int)),x,.ow (kT (p++[t])),.fz (.int (t.1:Int)),.fz (.int (t.2:Int))]):=by
   simp only[dK,Fj,e1,T,e2]
  obtain⟨S,J,W⟩:=Rj n x r (p++[t]) (.fz (.int (t.1:Int))) (.fz (.int (t.2:Int))) (by simpa using L) (λu Z=>O u (by simp[Z])) (by simpa using I);refine⟨S,J,?_⟩;rw[bn,Dr,Qb,M7,JD];simp only[oB,oC];rw[b,Ds,W];simp
def jq(n:Nat)(l:List (Nat×Nat))(I:l.Nodup)(Y:∀t∈l,t.1<n/\t.2<n)(z:l.length<=100):Du [.int (n:Int),lT l]=W1 (kT l):=by
 obtain⟨S,J,e⟩:=Rj n (.fz (lT l)) l [] .un .un (by simpa using I) Y (by simpa using z);rw[oy] at e;have L:(D.dt [])=kT []:=rfl;simp only[dK,Du,Jg,L,lT,e] at e ⊢
def wN(c:Nat):inD ZA (.str ⟨#[c]⟩) (.str Oy)=W1 (.bl (!(pc Oy ⟨#[c]⟩ 0 Oy.length 1).isEmpty)):=fx _
def wO:∀c∈cs Oy,(!(pc Oy ⟨#[c]⟩ 0 Oy.length 1).isEmpty)=E3:=by decide +kernel
def qJ(h:x∉Se):RU ZA (.str x) NF=W1 (.bl ZA):=by
 have e:RU ZA (.str x) NF=inD ZA (.str x) (.lst (Se.map .str)):=rfl;rw[e,Yv];have:(Se.any λy=>y==x)=ZA:=by
  rw[GA];intro y z O;have:=beq_iff_eq.mp O;exact h (this▸z)
 rw[this]
def wQ(x:Str)(h:x.length<=10000000):NN (.str x)=W1 (.int x.length):=yU x h
theorem Zm(h:Wd x):Dv [.str x]=W1 (.bl E3):=by
 have k:=qJ h.kept;have W:=h.lo;have U:=h.hi;have l:=wQ x (by omega);have T:¬ ((x.length:Int)=0):=by omega
 have O:¬ ((8:Int)<x.length):=by omega
 have L:∀l:List Nat,(∀c∈l,c∈cs Oy)->I_ [.fz (.str x)] xq Gj (l.map λc=>.str ⟨#[c]⟩)=W1 (l.map λ_=>.bl E3):=by
  intro l
  induction l with
  |nil=>intro _;rfl
  |cons c r z=>
   intro Y;have v:Gj ([.fz (.str x)]++[.fz (.str ⟨#[c]⟩)])=W1 (.bl E3):=by
    have e:RU ZA (.str ⟨#[c]⟩) (.str Oy)=W1 (.bl E3):=by
     show inD ZA (.str ⟨#[c]⟩) (.str Oy)=_;rw[wN,wO c (Y c (by simp))]
    have J:(eB "abcdefghijklmnopqrstuvwxyz")=Oy:=rfl;simp only[cK,Gj,J,e]
   rw[bn,Jb,fu,v,z λd I=>Y d (by simp[I])];rfl
 have S:BZ (pq (vF 0)) xq Gj [.fz (.str x)]=W1 (.lst ((cs x).map λ_=>.bl E3)):=by
  refine QL (ds:=(cs x).map λc=>.str ⟨#[c]⟩) (by rfl) (by rw[aw,X3];omega) (L (cs x) h.isL)
 have al:∀l:List Nat,Zs (.lst (l.map λ_=>.bl E3))=W1 (.bl E3):=by
  intro l;have q:∀l:List Nat,Po (l.map λ_=>D.bl E3)=W1 (l.map λ_=>E3):=by
   intro l
   induction l with
   |nil=>rfl
   |cons c r z=>simp[Po,z]
  show (Po (l.map λ_=>D.bl E3)).map _=_;rw[q];simp
 simp only[ciK,Dv,O3,k,l,T,O,S,al]
def Rk(i j:Int)(h:i<=j):Ba [.int i,.int j]=W1 .non:=by
 have c:¬ (j<i):=by omega
 simp only[ciK,Ba,Ha,c]
abbrev fS (n:Nat):Str×Bool×D:=("size",ZA,.int (n:Int))
abbrev fM (ms:List (Str×List Nat)):Str×Bool×D:=("marked",E3,.dk (oM ms))
abbrev fT (ts:List (Str×List (Nat×Nat))):Str×Bool×D:=("tied",E3,.dk (oT ts))
def q1:(("marked":Str)=="size")=ZA:=by decide +kernel
def q2:(("tied":Str)=="size")=ZA:=by decide +kernel
def q3:(("tied":Str)=="marked")=ZA:=by decide +kernel
def n1:¬ (("size":Str)="marked"):=by decide +kernel
def n2:¬ (("size":Str)="tied"):=by decide +kernel
def n3:¬ (("marked":Str)="tied"):=by decide +kernel
def lkM(n:Nat)(d e:D):cf ("marked":Str) [fS n,("marked",E3,d),("tied",E3,e)]=W1 (E3,d):=by
 rw[ck,q1];show cf ("marked":Str) [("marked",E3,d),("tied",E3,e)]=_;rw[ck,show (("marked":Str)=="marked")=E3 by decide +kernel]
def lkT(n:Nat)(d e:D):cf ("tied":Str) [fS n,("marked",E3,d),("tied",E3,e)]=W1 (E3,e):=by
 rw[ck,q2];show cf ("tied":Str) [("marked",E3,d),("tied",E3,e)]=_;rw[ck,q3];show cf ("tied":Str) [("tied",E3,e)]=_;rw[ck,show (("tied":Str)=="tied")=E3 by decide +kernel]
def rpM(n:Nat)(d e d':D):OI "marked" d' [fS n,("marked",E3,d),("tied",E3,e)]=[fS n,("marked",E3,d'),("tied",E3,e)]:=by
 unfold OI OI;rw[RF n1,OF rfl]
def rpT(n:Nat)(d e O:D):OI "tied" O [fS n,("marked",E3,d),("tied",E3,e)]=[fS n,("marked",E3,d),("tied",E3,O)]:=by
 unfold OI OI OI;rw[RF n2,RF n3,OF rfl]
def Ho{I:Type}{w:Str}(f:I->D){l:List (Str×I)}(h:w∉l.map (·.1)):(.inr w:Key)∉(l.map λp=>((.inr p.1:Key),f p.2)).map (·.1):=by
 intro z;rw[bS] at z;obtain⟨u,S,e⟩:=aT.mp z;simp at e;exact h (aT.mpr ⟨u,S,e⟩)
theorem Rm(n:Nat)(hn:n<=5)(x:Addr)(a b:D)(e:D)(z:Slot):∀(r p:List (Str×List Nat)) (S O:Slot),((p++r).map (·.1)).Nodup->(∀q∈r,Wd q.1/\q.2.Nodup/\q.2.length<=100/\∀t∈q.2,t<n)->(p++r).length<=3->(∀d,S≠.ow d)->(∀d,O≠.ow d)->(∀d,z≠.ow d) ->
  ∃J I,(∀d,J≠.ow d)/\(∀d,I≠.ow d)/\Hu (MS 2 (Aw 4 (Aw 5 MV))) Bw (r.map λq=>.tup [.str q.1,lM q.2]) [.fz (.adr x),.fz (.int (n:Int)),.fz a,.fz b,S,O,z] [fS n,fM p,("tied",E3,e)]=W1 ([.fz (.adr x),.fz (.int (n:Int)),.fz a,.fz b,J,I,z],[fS n,fM (p++r),("tied",E3,e)])
 |[],p,S,O,_,_,_,Z,W,_=>⟨S,O,Z,W,by rw[g9];rfl⟩
 |t::r,p,S,O,T,Y,L,Z,W,U=>by
  obtain⟨w,l⟩:=t;obtain⟨hw,l1,l2,l3⟩:=Y (w,l) (by simp);have nt:w∉p.map (·.1):=by
   intro q;rw[dc,gE] at T;exact T.2.2 w q w (by simp) rfl
  have e1:=Zm hw;have e2:=qI n l l1 l3 l2;have e3:DP (.dk (oM p)) (.str w) (kM l)=W1 (.dk (oM (p++[(w,l)]))):=by
   rw[Ow _ _ _ (by simp[oM] at L ⊢;omega)];have:(.inr w:Key)∉(oM p).map (·.1):=Ho kM nt;rw[uj this];simp[oM]
  have b0:Bw [.fz (.adr x),.fz (.int (n:Int)),.fz a,.fz b,.fz (.str w),.fz (lM l),z] [fS n,fM p,("tied",E3,e)]=W1 ([.fz (.adr x),.fz (.int (n:Int)),.fz a,.fz b,.fz (.str w),.fz (lM l),z],[fS n,fM (p++[(w,l)]),("tied",E3,e)]):=by
   have t0:ifE (Q6 (OZ (Ts (Aj (Dv) (Aa (vF 4) (af)))))) [.fz (.adr x),.fz (.int (n:Int)),.fz a,.fz b,.fz (.str w),.fz (lM l),z] [fS n,fM p,("tied",E3,e)]=W1 ([.fz (.adr x),.fz (.int (n:Int)),.fz a,.fz b,.fz (.str w),.fz (lM l),z],[fS n,fM p,("tied",E3,e)]):=by
    have:OZ (Ts (Aj (Dv) (Aa (vF 4) (af)))) [.fz (.adr x),.fz (.int (n:Int)),.fz a,.fz b,.fz (.str w),.fz (lM l),z]=W1 ZA:=by simp only[cK,e1]
    unfold ifE Q6;rw[this]
   have t1:Pk "marked" (vF 4) (Aj (DW) (Aa (vF 1) (Aa (vF 5) (af)))) [.fz (.adr x),.fz (.int (n:Int)),.fz a,.fz b,.fz (.str w),.fz (lM l),z] [fS n,fM p,("tied",E3,e)]=W1 ([.fz (.adr x),.fz (.int (n:Int)),.fz a,.fz b,.fz (.str w),.fz (lM l),z],[fS n,fM (p++[(w,l)]),("tied",E3,e)]):=by
    have v1:Aj (DW) (Aa (vF 1) (Aa (vF 5) (af))) [.fz (.adr x),.fz (.int (n:Int)),.fz a,.fz b,.fz (.str w),.fz (lM l),z]=W1 (kM l):=by simp only[cK,e2]
    have v2:vF 4 [.fz (.adr x),.fz (.int (n:Int)),.fz a,.fz b,.fz (.str w),.fz (lM l),z]=W1 (.str w):=rfl;unfold Pk;rw[v1,v2];show (match cf ("marked":Str) [fS n,fM p,("tied",E3,e)] with | some (E3,d)=>(DP d (.str w) (kM l)).map λd'=>(_,OI "marked" d' [fS n,fM p,("tied",E3,e)]) | _=>E2)=_;rw[lkM];show (DP (.dk (oM p)) (.str w) (kM l)).map _=_;rw[e3];show W1 (_,OI "marked" _ [fS n,fM p,("tied",E3,e)])=_;rw[rpM]
   unfold Bw;rw[Fe,t0,Dc,t1]
  obtain⟨J,I,g4,g5,ih⟩:=Rm n hn x a b e z r (p++[(w,l)]) (.fz (.str w)) (.fz (lM l)) (by simpa using T) (λu hu=>Y u (by simp[hu])) (by simpa using L) (λd=>by simp) (λd=>by simp) U;refine⟨J,I,g4,g5,?_⟩;rw[bn];unfold Hu;rw[M7];have no:OL [.fz (.adr x),.fz (.int (n:Int)),.fz a,.fz b,.fz (.str w),.fz (lM l),z]=E3:=by
   unfold OL;cases z with
   |ow d=>exact SF rfl (U d)
   |un=>rfl
   |fz d=>rfl
  show (if OL [.fz (.adr x),.fz (.int (n:Int)),.fz a,.fz b,.fz (.str w),.fz (lM l),z]=E3 then (Bw [.fz (.adr x),.fz (.int (n:Int)),.fz a,.fz b,.fz (.str w),.fz (lM l),z] _).bind _ else E2)=_;rw[OF no,b0];show Hu _ _ _ _ _=_;rw[ih];simp
theorem S6(n:Nat)(hn:n<=5)(x:Addr)(a b:D)(I:List (Str×List Nat))(O:Slot)(h5:∀d,O≠.ow d):∀(r p:List (Str×List (Nat×Nat))) (T S:Slot),((p++r).map (·.1)).Nodup->(∀q∈r,Wd q.1/\q.1∉I.map (·.1)/\q.2.Nodup/\q.2.length<=100/\∀t∈q.2,t.1<n/\t.2<n)->(p++r).length<=3->(∀d,T≠.ow d)->(∀d,S≠.ow d) ->
  ∃L J,Hu (MS 2 (Aw 4 (Aw 6 MV))) Bx (r.map λq=>.tup [.str q.1,lT q.2]) [.fz (.adr x),.fz (.int (n:Int)),.fz a,.fz b,T,O,S] [fS n,fM I,fT p]=W1 ([.fz (.adr x),.fz (.int (n:Int)),.fz a,.fz b,L,O,J],[fS n,fM I,fT (p++r)])
 |[],p,T,S,_,_,_,h4,h6=>⟨T,S,by rw[g9];rfl⟩
 |t::r,p,T,S,W,Z,z,h4,h6=>by
  obtain⟨w,l⟩:=t;obtain⟨hw,nm,l1,l2,l3⟩:=Z (w,l) (by simp);have nt:w∉p.map (·.1):=by
   intro q;rw[dc,gE] at W;exact W.2.2 w q w (by simp) rfl
  have e1:=Zm hw;have e2:=jq n l l1 l3 l2;have e3:DP (.dk (oT p)) (.str w) (kT l)=W1 (.dk (oT (p++[(w,l)]))):=by
   rw[Ow _ _ _ (by simp[oT] at z ⊢;omega)];have:(.inr w:Key)∉(oT p).map (·.1):=Ho kT nt;rw[uj this];simp[oT]
  have e4:ui (.inr w:Key) (oM I)=E2:=Ku (Ho kM nm);have b0:Bx [.fz (.adr x),.fz (.int (n:Int)),.fz a,.fz b,.fz (.str w),O,.fz (lT l)] [fS n,fM I,fT p]=W1 ([.fz (.adr x),.fz (.int (n:Int)),.fz a,.fz b,.fz (.str w),O,.fz (lT l)],[fS n,fM I,fT (p++[(w,l)])]):=by
   have t0:ifE (orTE (Q6 (OZ (Ts (Aj (Dv) (Aa (vF 4) (af)))))) (YO "marked" (vF 4))) [.fz (.adr x),.fz (.int (n:Int)),.fz a,.fz b,.fz (.str w),O,.fz (lT l)] [fS n,fM I,fT p]=W1 ([.fz (.adr x),.fz (.int (n:Int)),.fz a,.fz b,.fz (.str w),O,.fz (lT l)],[fS n,fM I,fT p]):=by
    have u1:OZ (Ts (Aj (Dv) (Aa (vF 4) (af)))) [.fz (.adr x),.fz (.int (n:Int)),.fz a,.fz b,.fz (.str w),O,.fz (lT l)]=W1 ZA:=by simp only[cK,e1]
    have U:vF 4 [.fz (.adr x),.fz (.int (n:Int)),.fz a,.fz b,.fz (.str w),O,.fz (lT l)]=W1 (.str w):=rfl;have u2:YO "marked" (vF 4) [.fz (.adr x),.fz (.int (n:Int)),.fz a,.fz b,.fz (.str w),O,.fz (lT l)] [fS n,fM I,fT p]=W1 ZA:=by
     unfold YO;rw[U];show (match cf ("marked":Str) [fS n,fM I,fT p] with | some (E3,.dk Y)=>(Pl (.str w)).map λq=>(ui q Y).isSome | _=>E2)=_;rw[lkM];show W1 ((ui (.inr w:Key) (oM I)).isSome)=_;rw[e4];rfl
    unfold ifE orTE Q6;rw[u1];show (match YO "marked" (vF 4) _ _ with | some ZA=>W1 _ | _=>E2)=_;rw[u2]
   have t1:Pk "tied" (vF 4) (Aj (Du) (Aa (vF 1) (Aa (vF 6) (af)))) [.fz (.adr x),.fz (.int (n:Int)),.fz a,.fz b,.fz (.str w),O,.fz (lT l)] [fS n,fM I,fT p]=W1 ([.fz (.adr x),.fz (.int (n:Int)),.fz a,.fz b,.fz (.str w),O,.fz (lT l)],[fS n,fM I,fT (p++[(w,l)])]):=by
    have v1:Aj (Du) (Aa (vF 1) (Aa (vF 6) (af))) [.fz (.adr x),.fz (.int (n:Int)),.fz a,.fz b,.fz (.str w),O,.fz (lT l)]=W1 (kT l):=by simp only[cK,e2]
    have U:vF 4 [.fz (.adr x),.fz (.int (n:Int)),.fz a,.fz b,.fz (.str w),O,.fz (lT l)]=W1 (.str w):=rfl;unfold Pk;rw[v1,U];show (match cf ("tied":Str) [fS n,fM I,fT p] with | some (E3,d)=>(DP d (.str w) (kT l)).map λd'=>(_,OI "tied" d' [fS n,fM I,fT p]) | _=>E2)=_;rw[lkT];show (DP (.dk (oT p)) (.str w) (kT l)).map _=_;rw[e3];show W1 (_,OI "tied" _ [fS n,fM I,fT p])=_;rw[rpT]
   unfold Bx;rw[Fe,t0,Dc,t1]
  obtain⟨L,J,ih⟩:=S6 n hn x a b I O h5 r (p++[(w,l)]) (.fz (.str w)) (.fz (lT l)) (by simpa using W) (λu hu=>Z u (by simp[hu])) (by simpa using z) (λd=>by simp) (λd=>by simp);refine⟨L,J,?_⟩;rw[bn];unfold Hu;have tg:MS 2 (Aw 4 (Aw 6 MV)) (.tup [.str w,lT l]) [.fz (.adr x),.fz (.int (n:Int)),.fz a,.fz b,T,O,S]=W1 [.fz (.adr x),.fz (.int (n:Int)),.fz a,.fz b,.fz (.str w),O,.fz (lT l)]:=by rw[M7];rfl
  rw[tg];have no:OL [.fz (.adr x),.fz (.int (n:Int)),.fz a,.fz b,.fz (.str w),O,.fz (lT l)]=E3:=by
   unfold OL;cases O with
   |ow d=>exact SF rfl (h5 d)
   |un=>rfl
   |fz d=>rfl
  show (if OL [.fz (.adr x),.fz (.int (n:Int)),.fz a,.fz b,.fz (.str w),O,.fz (lT l)]=E3 then (Bx [.fz (.adr x),.fz (.int (n:Int)),.fz a,.fz b,.fz (.str w),O,.fz (lT l)] _).bind _ else E2)=_;rw[OF no,b0];show Hu _ _ _ _ _=_;rw[ih];simp
def Zn(W:Wl)(h:mf W)(x:Addr):Bt x [.int (W.n:Int),.dk (eM W.ms),.dk (eT W.ts)]=W1 [fS W.n,fM W.ms,fT W.ts]:=by
 have L:(W.ms.map (·.1)).Nodup:=(gE.mp h.nd).1;have J:(W.ts.map (·.1)).Nodup:=(gE.mp h.nd).2.1;obtain⟨S,O,g4,g5,m⟩:=Rm W.n h.n5 x (.dk (eM W.ms)) (.dk (eT W.ts)) (.dk []) .un W.ms [] .un .un (by simpa using L) (λq T=>⟨h.mw q T,h.ml q T⟩) (by simpa using h.m3) (λd=>by simp) (λd=>by simp) (λd=>by simp);obtain⟨Y,U,t⟩:=S6 W.n h.n5 x (.dk (eM W.ms)) (.dk (eT W.ts)) W.ms O g5 W.ts [] S .un (by simpa using J) (λq T=>⟨h.tw q T,λz=>(gE.mp h.nd).2.2 q.1 z q.1 (aT.mpr ⟨q,T,rfl⟩) rfl,h.tl q T⟩) (by simpa using h.t3) g4 (λd=>by simp);rw[oy] at m t;change Hu _ _ _ _ [fS W.n,fM [],fT []]=W1 (_,[fS W.n,fM W.ms,fT []]) at m;have r1:=Rk (W.n:Int) 5 (by have:=h.n5;omega);have r2:=Rk ((eM W.ms).length:Int) 3 (by have:=h.m3;simp[eM];omega);have r3:=Rk ((eT W.ts).length:Int) 3 (by have:=h.t3;simp[eT];omega);have I:OL [.fz (.adr x),.fz (.int (W.n:Int)),.fz (.dk (eM W.ms)),.fz (.dk (eT W.ts)),.un,.un,.un]=E3:=rfl;have p1:OX (GJ (Aj (Ba) (Aa (vF 1) (Aa (kF (.int 5)) (af))))) [.fz (.adr x),.fz (.int (W.n:Int)),.fz (.dk (eM W.ms)),.fz (.dk (eT W.ts)),.un,.un,.un] []=W1 ([.fz (.adr x),.fz (.int (W.n:Int)),.fz (.dk (eM W.ms)),.fz (.dk (eT W.ts)),.un,.un,.un],[]):=Ue (by simp only[cK,r1]) I;have p2:OX (GJ (Aj (Ba) (Aa (uF NN (vF 2)) (Aa (kF (.int 3)) (af))))) [.fz (.adr x),.fz (.int (W.n:Int)),.fz (.dk (eM W.ms)),.fz (.dk (eT W.ts)),.un,.un,.un] []=W1 ([.fz (.adr x),.fz (.int (W.n:Int)),.fz (.dk (eM W.ms)),.fz (.dk (eT W.ts)),.un,.un,.un],[]):=Ue (by simp only[dK,r2]) I;have p3:OX (GJ (Aj (Ba) (Aa (uF NN (vF 3)) (Aa (kF (.int 3)) (af))))) [.fz (.adr x),.fz (.int (W.n:Int)),.fz (.dk (eM W.ms)),.fz (.dk (eT W.ts)),.un,.un,.un] []=W1 ([.fz (.adr x),.fz (.int (W.n:Int)),.fz (.dk (eM W.ms)),.fz (.dk (eT W.ts)),.un,.un,.un],[]):=Ue (by simp only[dK,r3]) I;have s1:HN "size" (vF 1) [.fz (.adr x),.fz (.int (W.n:Int)),.fz (.dk (eM W.ms)),.fz (.dk (eT W.ts)),.un,.un,.un] []=W1 ([.fz (.adr x),.fz (.int (W.n:Int)),.fz (.dk (eM W.ms)),.fz (.dk (eT W.ts)),.un,.un,.un],[fS W.n]):=rfl;have s2:Pj "marked" (kF (.dk [])) [.fz (.adr x),.fz (.int (W.n:Int)),.fz (.dk (eM W.ms)),.fz (.dk (eT W.ts)),.un,.un,.un] [fS W.n]=W1 ([.fz (.adr x),.fz (.int (W.n:Int)),.fz (.dk (eM W.ms)),.fz (.dk (eT W.ts)),.un,.un,.un],[fS W.n,fM []]):=by
  have l:cf ("marked":Str) [fS W.n]=E2:=by
   rw[ck,q1];rfl
  unfold Pj;show (if (cf ("marked":Str) [fS W.n]).isNone=E3/\[fS W.n].length<1000 then W1 (_,[fS W.n]++[(("marked":Str),E3,D.dk [])]) else E2)=_;rw[l,OF ⟨rfl,(by show 1<1000;decide)⟩];rfl
 have s3:Pj "tied" (kF (.dk [])) [.fz (.adr x),.fz (.int (W.n:Int)),.fz (.dk (eM W.ms)),.fz (.dk (eT W.ts)),.un,.un,.un] [fS W.n,fM []]=W1 ([.fz (.adr x),.fz (.int (W.n:Int)),.fz (.dk (eM W.ms)),.fz (.dk (eT W.ts)),.un,.un,.un],[fS W.n,fM [],fT []]):=by
  have l:cf ("tied":Str) [fS W.n,fM []]=E2:=by
   rw[ck,q2];show cf ("tied":Str) [fM []]=E2;rw[ck,q3];rfl
  unfold Pj;show (if (cf ("tied":Str) [fS W.n,fM []]).isNone=E3/\[fS W.n,fM []].length<1000 then W1 (_,[fS W.n,fM []]++[(("tied":Str),E3,D.dk [])]) else E2)=_;rw[l,OF ⟨rfl,(by show 2<1000;decide)⟩];rfl
 have i1:Oq (vF 2) [.fz (.adr x),.fz (.int (W.n:Int)),.fz (.dk (eM W.ms)),.fz (.dk (eT W.ts)),.un,.un,.un]=W1 (W.ms.map λq=>.tup [.str q.1,lM q.2]):=by
  show W1 ((eM W.ms).map λp=>D.tup [Sj p.1,p.2])=_;simp only[eM,bS,kz,RB]
 have i2:Oq (vF 3) [.fz (.adr x),.fz (.int (W.n:Int)),.fz (.dk (eM W.ms)),.fz (.dk (eT W.ts)),S,O,.un]=W1 (W.ts.map λq=>.tup [.str q.1,lT q.2]):=by
  show W1 ((eT W.ts).map λp=>D.tup [Sj p.1,p.2])=_;simp only[eT,bS,kz,RB]
 have Z:Q7 7 x [.int (W.n:Int),.dk (eM W.ms),.dk (eT W.ts)]=[.fz (.adr x),.fz (.int (W.n:Int)),.fz (.dk (eM W.ms)),.fz (.dk (eT W.ts)),.un,.un,.un]:=rfl;unfold Bt XZ;rw[OF (show [D.int (W.n:Int),.dk (eM W.ms),.dk (eT W.ts)].length+1=4 from rfl),Z];unfold GK;rw[Fe,p1,Dc,Fe,p2,Dc,Fe,p3,Dc,Fe,s1,Dc,Fe,s2,Dc,Fe,s3,Dc,Fe,g_ i1,m,Dc,Fe,g_ i2,t,Dc,g8];rfl
def y_(W:Wl)(h:mf W)(fs:FA)(ρ:Rho)(z:fs ρ=W1 [.int (W.n:Int),.dk (eM W.ms),.dk (eT W.ts)]):mkI "World" Bt fs ρ=W1 (fc W):=by
 unfold mkI;rw[z];simp only[eI,Zn W h 0];rw[OF (λx=>Zn W h x)];rfl
def G8(f:Nat->Bool)(h:Nat->D)(src:FI)(hs:src ρ=W1 (wh n))(O:n<=1000)(h1:∀k,k<n->ga (ρ++[.fz (.int k)])=W1 (f k))(L:∀k,k<n->fe (ρ++[.fz (.int k)])=W1 (h k)):BZ src ga fe ρ=W1 (.lst (((bb n).filter f).map h)):=by
 have c:∀l:List Nat,(∀k∈l,k<n)->I_ ρ ga fe (l.map λ(k:Nat)=>D.int k)=W1 ((l.filter f).map h):=by
  intro l
  induction l with
  |nil=>intro _;rfl
  |cons k r z=>
   intro Y;rw[bn,Jb,h1 k (Y k (by simp)),L k (Y k (by simp)),z λd J=>Y d (by simp[J]),List.filter_cons];cases f k<;>rfl
 exact QL hs (by rw[FN];omega) (c (bb n) λk I=>da.mp I)
def S7{l:List Str}(J:l.Nodup){i j:Nat}(I:i<l.length)(U:j<l.length)(e:l[i]=l[j]):i=j:=by
 have h:=sj.mp J
 rcases AZ i j with z | z | z
 .exact SF e (h i j I U z)
 .exact z
 .exact SF e.symm (h j i U I z)
def Hq(n:Nat)(f:Nat->Bool):((bb n).filter f).Nodup:=F4 F5 sk
def jr(n:Nat)(I:n<=100)(ρ:Rho)(i:Nat)(h:ρ[i]?=W1 (.fz (.int (n:Int)))):MU (vF i) ρ=W1 (wh n):=by
 have z:=Ih (n:Int) (by omega);simp only[Oi,e_v,h,SZ,z,eD]
def shl1(k:Nat)(I:k<30):shlD (.int 1) (.int (k:Int))=W1 (.int (2^k)):=by
 show (if CShl 1 (k:Int) then W1 (D.int (1*2^(k:Int).toNat)) else E2)=_;rw[OF ⟨by omega,by omega,by decide +kernel⟩];simp
def bu(k:Nat)(I:k<26):(0:Int)<2^k/\(2:Int)^k<1073741824:=by
 have:∀k<26,(0:Int)<2^k/\(2:Int)^k<1073741824:=by decide +kernel
 exact this k I
def three(i:Int):i%3=0∨i%3=1∨i%3=2:=by omega
def jt(i S:Int)(k:Nat)(hk:k<26)(fs:List D)(J:fs.length<=1000)(n:Int)(T:0<=n/\n<2147483629):∃(b:Bool) (z:Int),0<=z/\z<2147483629 ∧
  DR [.fz (.int i),.fz (.int S),.ow (.lst fs),.fz (.int n),.fz (.int (k:Int))]=W1 (.nx [.fz (.int i),.fz (.int S),.ow (.lst (fs++[.bl b])),.fz (.int z),.fz (.int (k:Int))]):=by
 obtain⟨p0,p1⟩:=bu k hk;have Z:=shl1 k (by omega)
 rcases three i with h | h | h
 .have d1:=GX i 3 (by decide) (by decide);have d2:=GX (i/3) (2^k) p0 p1;refine⟨decide (i/3/2^k%2=1),n,T.1,T.2,?_⟩;have a:=Sy fs (.bl (decide (i/3/2^k%2=1))) J;have I:=Gp i 3 (by decide);rw[h] at I;simp only[ciK,DR,I,Z,d1,d2,a,uS]
 all_goals
  have I:=Gp i 3 (by decide);rw[h] at I;have Y:=QK n n (by omega);have W:=oH 48271 n (by decide);have U:=Gp (n*n+48271*n+(k:Int)+1) 2147483629 (by decide);have O:0<=(n*n+48271*n+(k:Int)+1)%2147483629:=md _ (by decide);have b1:(n*n+48271*n+(k:Int)+1)%2147483629<2147483629:=qV _ (by decide);generalize (n*n+48271*n+(k:Int)+1)%2147483629=z at U O b1
 .have L:Pc (.int 2) (.int 1)=W1 (.int 2):=by rfl
  have a:=Sy fs (.bl (decide (z/7%2=0))) J;refine⟨decide (z/7%2=0),z,O,b1,?_⟩;simp only[ciK,DR,I,Y,W,L,U,a,uS]
 .have L:Pc (.int 2) (.int 2)=W1 (.int 4):=by rfl
  have a:=Sy fs (.bl (decide (z/7%4=0))) J;refine⟨decide (z/7%4=0),z,O,b1,?_⟩;simp only[ciK,DR,I,Y,W,L,U,a,uS]
theorem Zo(i:Int)(mm:Nat)(hm:mm<=25):∃bs:List Bool,Gi [.int i,.int (mm:Int)]=W1 (.lst (bs.map .bl))/\bs.length=mm:=by
 have n0:0<=i/3%2147483629:=md _ (by decide);have n1:i/3%2147483629<2147483629:=qV _ (by decide);obtain⟨T,e,bs,I,z4,rfl,L,_⟩:=J3 (b:=SL (Bh 4) DR) (ds:=wh mm) (ρ:=[.fz (.int i),.fz (.int (mm:Int)),.ow (.lst []),.fz (.int (i/3%2147483629)),.un])
  (P:=λk J=>∃(bs:List Bool) (I:Int) (z:Slot),J=[.fz (.int i),.fz (.int (mm:Int)),.ow (.lst (bs.map .bl)),.fz (.int I),z]/\bs.length=k/\0<=I/\I<2147483629) 0 ⟨[],_,.un,rfl,rfl,n0,n1⟩ (by
   rintro k d J O ⟨bs,I,z,rfl,L,S,Y⟩;have W:k<mm:=by
    have:=(fF.mp O).1
    rwa [FN] at this
   have ed:d=.int (k:Int):=by
    have:=O;simp[wh,W] at this;exact this.symm
   subst ed;obtain⟨b,n2,h1,Z,U⟩:=jt i mm k (by omega) (bs.map .bl) (by simp;omega) I ⟨S,Y⟩;refine⟨_,?_,bs++[b],n2,.fz (.int (k:Int)),rfl,by simp;omega,h1,Z⟩;rw[Qb,Ii,JD];rw[dc];exact U)
 rw[FN,lS] at L;refine⟨bs,?_,L⟩;have e6:=Ih (mm:Int) (by omega);simp only[diK,Gi,J_,e6,eD,e,uS]
def Ti{z:List Str}{k:Nat}(h:k<z.length):oo (.lst (z.map .str)) (.int (k:Int))=W1 (.str z[k]):=by
 show atI (z.map D.str) (k:Int)=_;rw[UG,cb];simp[h]
def tU{bs:List Bool}{k:Nat}(h:k<bs.length):oo (.lst (bs.map .bl)) (.int (k:Int))=W1 (.bl bs[k]):=by
 show atI (bs.map D.bl) (k:Int)=_;rw[UG,cb];simp[h]
structure Mk (n:Nat) (ms:List (Str×List Nat)):Prop where
 ok:∀p∈ms,p.2.Nodup/\p.2.length<=100/\∀t∈p.2,t<n
structure Tk (n:Nat) (ts:List (Str×List (Nat×Nat))):Prop where
 ok:∀p∈ts,p.2.Nodup/\p.2.length<=100/\∀q∈p.2,q.1<n/\q.2<n
def bw(ns:List Int)(c:D)(n m:Nat)(hn:n<=5)(I:List Str)(k:Nat)(hk:k<m)(S:k<I.length)(J:List (Str×List Nat))(hl:J.length<=50)(W:I[k]∉J.map (·.1))(Z:Mk n J)(L T:Slot):
  ∃l z,Bv [.fz (.lst (ns.map .int)),.fz (.int 0),.fz c,.fz (.int (n:Int)),.fz (.int (m:Int)),.fz (.lst (I.map .str)),.ow (.dk (eM J)),L,.fz (.int (k:Int)),T]
   = W1 (.nx [.fz (.lst (ns.map .int)),.fz (.int 0),.fz c,.fz (.int (n:Int)),.fz (.int (m:Int)),.fz (.lst (I.map .str)),.ow (.dk (eM (J++[(I[k],l)]))),L,.fz (.int (k:Int)),z])/\Mk n (J++[(I[k],l)]):=by
 obtain⟨i,ci⟩:=QW ns (2+k);obtain⟨bs,hb,N0⟩:=Zo i n (by omega);have ce:(0:Int)+2+(k:Int)=((2+k:Nat):Int):=by omega
 have lt:decide ((k:Int)<(m:Int))=E3:=by simp;omega
 have cm:BZ (MU (vF 3)) HW KC [.fz (.lst (ns.map .int)),.fz (.int 0),.fz c,.fz (.int (n:Int)),.fz (.int (m:Int)),.fz (.lst (I.map .str)),.ow (.dk (eM J)),L,.fz (.int (k:Int)),.fz (.lst (bs.map .bl))]=W1 (lM ((bb n).filter λt=>bs.getD t ZA)):=
  G8 (λt=>bs.getD t ZA) iN _ (jr n (by omega) _ 3 rfl) (by omega) (λt O=>by
   have ix:=tU (bs:=bs) (k:=t) (by omega);have eg:bs.getD t ZA=bs[t]'(by omega):=by rw[uu,cr (by omega)];rfl
   simp only[cK,HW,ix,eg]) λt O=>rfl
 have U:DP (.dk (eM J)) (.str I[k]) (lM ((bb n).filter λt=>bs.getD t ZA))=W1 (.dk (eM (J++[(I[k],(bb n).filter λt=>bs.getD t ZA)]))):=by
  rw[Ow _ _ _ (by simp[eM];omega)];have:(.inr I[k]:Key)∉(eM J).map (·.1):=Ho lM W;rw[uj this];simp[eM]
 have ix:=Ti S;refine⟨(bb n).filter λt=>bs.getD t ZA,.fz (.lst (bs.map .bl)),?_,⟨λp Y=>?_⟩⟩
 .simp only[ciK,Bv,lt,ce,ci,hb,Vy,Oj,ix,cm,Q_,U]
 .rcases dQ.mp Y with q | q
  .exact Z.ok p q
  .obtain rfl:=fR.mp q;refine⟨Hq n _,?_,λt O=>da.mp (d4.mp O).1⟩;have:=ng (λt=>bs.getD t ZA) (bb n);rw[mN] at this;show ((bb n).filter _).length<=100;omega
def ju(ns:List Int)(c:D)(n m:Nat)(W:n<=5)(I:List Str)(k:Nat)(hk:m<=k)(T:k<I.length)(ts:List (Str×List (Nat×Nat)))(hl:ts.length<=50)(nt:I[k]∉ts.map (·.1))(hm:Tk n ts)(J z9:Slot):
  ∃l z,Bv [.fz (.lst (ns.map .int)),.fz (.int 0),.fz c,.fz (.int (n:Int)),.fz (.int (m:Int)),.fz (.lst (I.map .str)),J,.ow (.dk (eT ts)),.fz (.int (k:Int)),z9]
   = W1 (.nx [.fz (.lst (ns.map .int)),.fz (.int 0),.fz c,.fz (.int (n:Int)),.fz (.int (m:Int)),.fz (.lst (I.map .str)),J,.ow (.dk (eT (ts++[(I[k],l)]))),.fz (.int (k:Int)),z])/\Tk n (ts++[(I[k],l)]):=by
 have S:n*n<=25:=Nat.mul_le_mul W W;obtain⟨i,ci⟩:=QW ns (5+k-m);obtain⟨bs,hb,N0⟩:=Zo i (n*n) S;have ce:(0:Int)+5+(k:Int)-(m:Int)=((5+k-m:Nat):Int):=by omega
 have lt:decide ((k:Int)<(m:Int))=ZA:=by simp;omega
 have L:=QK (n:Int) (n:Int) (by omega);have mc:(n:Int)*(n:Int)=((n*n:Nat):Int):=by simp
 rw[mc] at L;have rg:MU (bF Pc (vF 3) (vF 3)) [.fz (.lst (ns.map .int)),.fz (.int 0),.fz c,.fz (.int (n:Int)),.fz (.int (m:Int)),.fz (.lst (I.map .str)),J,.ow (.dk (eT ts)),.fz (.int (k:Int)),.fz (.lst (bs.map .bl))]=W1 (wh (n*n)):=by
  have Z:=Ih ((n*n:Nat):Int) (by omega);rw[eD] at Z;simp only[cK,L,Z]
 have cm:BZ (MU (bF Pc (vF 3) (vF 3))) HX HY [.fz (.lst (ns.map .int)),.fz (.int 0),.fz c,.fz (.int (n:Int)),.fz (.int (m:Int)),.fz (.lst (I.map .str)),J,.ow (.dk (eT ts)),.fz (.int (k:Int)),.fz (.lst (bs.map .bl))]=W1 (.lst (((bb (n*n)).filter λt=>bs.getD t ZA).map λt=>pN (t/n,t%n))):=
  G8 (λt=>bs.getD t ZA) (λt=>pN (t/n,t%n)) _ rg (by omega) (λt O=>by
   have ix:=tU (bs:=bs) (k:=t) (by omega);have eg:bs.getD t ZA=bs[t]'(by omega):=by rw[uu,cr (by omega)];rfl
   simp only[cK,HX,ix,eg]) λt O=>by
   have n0:0<n:=by
    rcases LP n with z | z
    .subst z;simp at O
    .exact z
   have d1:=GX (t:Int) (n:Int) (by omega) (by omega);have d2:=Gp (t:Int) (n:Int) (by omega);have q1:(t:Int)/(n:Int)=((t/n:Nat):Int):=by simp
   have q2:(t:Int)%(n:Int)=((t%n:Nat):Int):=by simp
   rw[q1] at d1;rw[q2] at d2;simp only[cK,HY,d1,d2]
 have el:(.lst (((bb (n*n)).filter λt=>bs.getD t ZA).map λt=>pN (t/n,t%n)):D)=lT (((bb (n*n)).filter λt=>bs.getD t ZA).map λt=>(t/n,t%n)):=by simp[lT]
 rw[el] at cm;have pk:DP (.dk (eT ts)) (.str I[k]) (lT (((bb (n*n)).filter λt=>bs.getD t ZA).map λt=>(t/n,t%n)))=W1 (.dk (eT (ts++[(I[k],((bb (n*n)).filter λt=>bs.getD t ZA).map λt=>(t/n,t%n))]))):=by
  rw[Ow _ _ _ (by simp[eT];omega)];have:(.inr I[k]:Key)∉(eT ts).map (·.1):=Ho lT nt;rw[uj this];simp[eT]
 have ix:=Ti T;refine⟨((bb (n*n)).filter λt=>bs.getD t ZA).map λt=>(t/n,t%n),.fz (.lst (bs.map .bl)),?_,⟨λp hp=>?_⟩⟩
 .simp only[ciK,Bv,lt,ce,ci,L,hb,Vy,Oj,ix,cm,Q_,pk]
 .rcases dQ.mp hp with q | q
  .exact hm.ok p q
  .obtain rfl:=fR.mp q;refine⟨?_,?_,λq hq=>?_⟩
   .rw[tJ,hJ];refine F6 (λ{a b} U e=>U ?_) (Hq (n*n) _);simp only[sA] at e;have Y:=LS a n;have h2:=LS b n;rw[e.1,e.2] at Y;exact Y.symm.trans h2
   .have:=ng (λt=>bs.getD t ZA) (bb (n*n));rw[mN] at this;show (((bb (n*n)).filter _).map _).length<=100;rw[aw];omega
   .obtain⟨t,O,rfl⟩:=aT.mp hq;have O:=da.mp (d4.mp O).1;have n0:0<n:=by
     rcases LP n with z | z
     .subst z;simp at O
     .exact z
    exact⟨Nat.div_lt_of_lt_mul O,AS _ n0⟩
def bx(a:Int)(b:Bool):oo (.lst [.int a,.int 5]) (.int (if b then 1 else 0))=W1 (.int (if b then 5 else a)):=by cases b<;>rfl
def wR(l:List D):NN (.lst l)=W1 (.int l.length):=sJ l
def Eqn(a b:Int):Prop:=a=b
def nums(c:Int):∃n m t:Nat,Eqn (n:Int) (if decide (c/45%12=11) then 5 else c/9%5)/\n<=5/\Eqn (m:Int) (c%4)/\m<=3/\Eqn (t:Int) (c/4%4)/\t<=3:=by
 have O:∀(x:Int) (k:Nat),0<=x->x<=k->∃n:Nat,(n:Int)=x/\n<=k:=λx k W U=>⟨x.toNat,by omega,by omega⟩;obtain⟨n,S,I⟩:=O (if decide (c/45%12=11) then 5 else c/9%5) 5 (by split<;>omega) (by split<;>omega);obtain⟨m,T,J⟩:=O (c%4) 3 (by omega) (by omega);obtain⟨t,L,z⟩:=O (c/4%4) 3 (by omega) (by omega);exact⟨n,m,t,S,I,T,J,L,z⟩
theorem jw(ns:List Int):∃W:Wl,mf W/\Fg [.lst (ns.map .int),.int 0]=W1 (.lst [.int (W.n:Int),.dk (eM W.ms),.dk (eT W.ts)]):=by
 obtain⟨c,hc⟩:=QW ns 0;obtain⟨c1,T0⟩:=QW ns 1;obtain⟨n,m,t,en,hn,em,S1,et,P1⟩:=nums c;obtain⟨I,N0,O0,Y,hnd⟩:=jk c1 (m+t) (by omega);obtain⟨N1,e,J,ts,z8,U,rfl,T,O,a3,a4⟩:=J3 (b:=SL (Bh 8) Bv) (ds:=wh (m+t)) (ρ:=[.fz (.lst (ns.map .int)),.fz (.int 0),.fz (.int c),.fz (.int (n:Int)),.fz (.int (m:Int)),.fz (.lst (I.map .str)),.ow (.dk (eM [])),.ow (.dk (eT [])),.un,.un])
  (P:=λk ρ=>∃(J:List (Str×List Nat)) (ts:List (Str×List (Nat×Nat))) (z8 U:Slot),ρ=[.fz (.lst (ns.map .int)),.fz (.int 0),.fz (.int c),.fz (.int (n:Int)),.fz (.int (m:Int)),.fz (.lst (I.map .str)),.ow (.dk (eM J)),.ow (.dk (eT ts)),z8,U]/\J.map (·.1)=(I.take m).take k/\ts.map (·.1)=(I.drop m).take (k-m)/\Mk n J/\Tk n ts) 0 ⟨[],[],.un,.un,rfl,by simp,by simp,⟨by simp⟩,⟨by simp⟩⟩ (by
   rintro k d ρ hd ⟨J,ts,z8,U,rfl,T,O,a3,a4⟩;have hk:k<m+t:=by
    have:=(fF.mp hd).1
    rwa [FN] at this
   have ed:d=.int (k:Int):=by
    have:=hd;simp[wh,hk] at this;exact this.symm
   subst ed;rw[lS] at *;have S:k<I.length:=by omega
   by_cases S0:k<m
   .have nt:I[k]∉J.map (·.1):=by
     rw[T,v3];intro q;obtain⟨j,hj,ej⟩:=xD q;rw[iO] at hj;rw[EM] at ej;have:=S7 hnd (by omega) S ej;omega
    have l1:=NG eS T;simp at l1;obtain⟨l,z,st,L⟩:=bw ns (.int c) n m hn I k S0 S J (by omega) nt a3 (.ow (.dk (eT ts))) U;refine⟨_,?_,J++[(I[k],l)],ts,.fz (.int (k:Int)),z,rfl,?_,?_,L,a4⟩
    .rw[Qb,Ii,JD];exact st
    .rw[dc,T,v3,v3,show min k m=k by omega,show min (k+1) m=k+1 by omega,zk,cr S];rfl
    .rw[O,show k-m=0 by omega,show k+1-m=0 by omega]
   .have nt:I[k]∉ts.map (·.1):=by
     rw[O];intro q;obtain⟨j,hj,ej⟩:=xD q;rw[iO,mE] at hj;rw[EM,K0] at ej;have:=S7 hnd (by omega) S ej;omega
    have l1:=NG eS O;simp at l1;obtain⟨l,z,st,L⟩:=ju ns (.int c) n m hn I k (by omega) S ts (by omega) nt a4 (.ow (.dk (eM J))) U;refine⟨_,?_,J,ts++[(I[k],l)],.fz (.int (k:Int)),z,rfl,?_,?_,a3,L⟩
    .rw[Qb,Ii,JD];exact st
    .rw[T,v3,v3,show min k m=m by omega,show min (k+1) m=m by omega]
    .rw[dc,O,show k+1-m=(k-m)+1 by omega,zk,AA,show m+(k-m)=k by omega,cr S];rfl)
 rw[FN,lS] at *;have b1:J.map (·.1)=I.take m:=by rw[T,v3,show min (m+t) m=m by omega]
 have b2:ts.map (·.1)=I.drop m:=by rw[O,xo (by rw[mE];omega)]
 refine⟨⟨n,J,ts⟩,⟨hn,?_,?_,λp hp=>?_,λp hp=>?_,?_,a3.ok,a4.ok⟩,?_⟩
 .have:=NG eS b1;simp at this;show J.length<=3;omega
 .have:=NG eS b2;simp at this;show ts.length<=3;omega
 .refine Y _ (EN (i:=m) ?_);rw[<-b1];exact aT.mpr ⟨p,hp,rfl⟩
 .refine Y _ (B0 (i:=m) ?_);rw[<-b2];exact aT.mpr ⟨p,hp,rfl⟩
 .show (J.map (·.1)++ts.map (·.1)).Nodup;rw[b1,b2,zd];exact hnd
 .have e6:=Ih ((m+t:Nat):Int) (by omega);unfold Eqn at en em et;rw[eD] at e6;have i1:(0:Int)+1=((1:Nat):Int):=rfl;have i0:(0:Int)=((0:Nat):Int):=rfl;have X0:Al [.lst (ns.map .int),.int 0]=W1 (.int c):=hc;have Z:Al [.lst (ns.map .int),.int 1]=W1 (.int c1):=T0;have sp:=bx (c/9%5) (decide (c/45%12=11));rw[<-en] at sp;have mt:(m:Int)+(t:Int)=((m+t:Nat):Int):=by simp
  have lw:NN (.lst (I.map .str))=W1 (.int ((m+t:Nat):Int)):=by rw[wR,aw,O0]
  have w0:(.dk []:D)=.dk (eM []):=rfl;have w1:(.dk []:D)=.dk (eT []):=rfl;have e':vb (SL (Bh 8) Bv) (wh (m+t)) [.fz (.lst (ns.map .int)),.fz (.int 0),.fz (.int c),.fz (.int (n:Int)),.fz (.int (m:Int)),.fz (.lst (I.map .str)),.ow (.dk []),.ow (.dk []),.un,.un]=_:=e;simp only[diK,Fg,Jf,tR,X0,uS,Int.reduceAdd,Z,sp,<-em,<-et,mt,N0,lw,e6,e']
theorem X4{I:Type}(f:I->D)(w:Str):∀(l:List (Str×I)),ui (.inr w:Key) (l.map λp=>((.inr p.1:Key),f p.2))=(l.find? (λp=>p.1=w)).map λp=>f p.2
 |[]=>rfl
 |p::r=>by
  rw[bn,rS];show (if (.inr p.1:Key)=.inr w then W1 (f p.2) else ui (.inr w:Key) (r.map λp=>((.inr p.1:Key),f p.2)))=_
  by_cases h:p.1=w
  .simp[h]
  .have:¬ ((.inr p.1:Key)=.inr w):=λz=>h (BY z);rw[RF this,X4 f w r];simp[h]
def Ka(W:Wl):gn "size" (fc W)=W1 (.int (W.n:Int)):=by
 show cf ("size":Str) _=_;rfl
theorem Rn(W:Wl):gn "marked" (fc W)=W1 (.dk (oM W.ms)):=by
 show cf ("marked":Str) [(("size":Str),D.int (W.n:Int)),("marked",.dk (oM W.ms)),("tied",.dk (oT W.ts))]=_;simp only[cf,q1];rfl
theorem X5(W:Wl):gn "tied" (fc W)=W1 (.dk (oT W.ts)):=by
 show cf ("tied":Str) [(("size":Str),D.int (W.n:Int)),("marked",.dk (oM W.ms)),("tied",.dk (oT W.ts))]=_;simp only[cf,q2,q3];rfl
def qK(x:Nat)(l:List Nat):RU ZA (.int (x:Int)) (lM l)=W1 (.bl (l.any λt=>decide (t=x))):=by
 have h:∀I:List Nat,On (I.map iN)=W1 (I.map λ(t:Nat)=>V.int t):=λI=>by
  induction I with
  |nil=>rfl
  |cons y r L=>simp[On,SR,L]
 show ((SR (.int (x:Int))).bind λv=>(On (l.map iN)).map λJ=>D.bl (VX v J))=_;rw[h];show W1 (D.bl (VX (.int (x:Int)) (l.map λ(t:Nat)=>V.int t)))=_;have e:∀t:Nat,UY (.int (t:Int)) (.int (x:Int))=decide (t=x):=λt=>by
  by_cases z:t=x
  .subst z;simp[UY]
  .have:¬ ((t:Int)=(x:Int)):=by omega
   simp[UY,z,this]
 simp only[VX,IR,kz,e]
def zA(x:Nat)(l:List Nat):RU ZA (.int (x:Int)) (kM l)=W1 (.bl (l.any λt=>decide (t=x))):=by
 have h:∀l:List Nat,(ui (.inl (x:Int):Key) (l.map λ(t:Nat)=>((.inl (t:Int):Key),D.bl E3))).isSome=l.any λt=>decide (t=x):=λl=>by
  induction l with
  |nil=>rfl
  |cons t r I=>
   rw[bn,rL,<-I];show (if (.inl (t:Int):Key)=.inl (x:Int) then _ else _:Option D).isSome=_
   by_cases z:t=x
   .subst z;simp
   .have:¬ ((.inl (t:Int):Key)=.inl (x:Int)):=λq=>z (by have:=rf q;omega);rw[RF this];simp[z]
 show RU ZA (.int (x:Int)) (.dk _)=_;rw[Ud];simp only[dP,XG,h]
def G9{z:Type}(l:List z)(e g:z->D)(hs:src ρ=W1 (l.map e))(L:l.length<=1000)(h:∀x∈l,fe (ρ++[.fz (e x)])=W1 (g x)):BZ src xq fe ρ=W1 (.lst (l.map g)):=by
 have c:∀l:List z,(∀x∈l,fe (ρ++[.fz (e x)])=W1 (g x))->I_ ρ xq fe (l.map e)=W1 (l.map g):=by
  intro l
  induction l with
  |nil=>intro _;rfl
  |cons x r I=>
   intro Y;rw[bn,Jb,Y x (by simp),I λd J=>Y d (by simp[J])];rfl
 exact QL hs (by rw[aw];omega) (c l h)
def wU(z:List Nat)(t:Nat)(h:t<z.length):oo (lN z) (.int (t:Int))=W1 (iN (z.getD t 0)):=by
 show atI (z.map iN) (t:Int)=_;rw[UG,cb];simp[h]
def jz{z:Type}(f:z->D){l:List (Str×z)}(h:(l.map (·.1)).Nodup):((l.map λp=>((.inr p.1:Key),f p.2)).map (·.1)).Nodup:=by
 unfold tJ at h ⊢;rw[hJ] at h;rw[bS,hJ];exact h.imp λL e=>L (BY e)
def at_M(W:Wl)(h:mf W){p:Str×List Nat}(z:p∈W.ms):oo (.dk (eM W.ms)) (.str p.1)=W1 (lM p.2):=by
 rw[M5];exact QR (jz lM (gE.mp h.nd).1) (aT.mpr ⟨p,z,rfl⟩)
def at_T(W:Wl)(h:mf W){p:Str×List (Nat×Nat)}(z:p∈W.ts):oo (.dk (eT W.ts)) (.str p.1)=W1 (lT p.2):=by
 rw[M5];exact QR (jz lT (gE.mp h.nd).2.1) (aT.mpr ⟨p,z,rfl⟩)
def in_i(t:Nat)(l:List Nat):RU ZA (iN t) (.lst (l.map iN))=W1 (.bl (decide (t∈l))):=by
 have:=qK t l;unfold lM at this;rw[this];congr 2;rw[ib];simp
theorem We:∀{l m:List Nat},l.Nodup->(∀x∈l,x∈m)->l.length<=m.length
 |[],_,_,_=>eA _
 |x::r,m,h,hs=>by
  obtain⟨L,J⟩:=kK.mp h;have I:x∈m:=hs x dn;have:=We (l:=r) (m:=m.erase x) J λy z=>(AQ (λe=>by subst e;exact L z)).mpr (hs y (cE _ z));rw[AR I] at this;have O:0<m.length:=tm I;simp;omega
def Ma{J:Type}{l:List J}(L:l.Nodup){i j:Nat}(I:i<l.length)(U:j<l.length)(e:l[i]=l[j]):i=j:=by
 have h:=sj.mp L
 rcases AZ i j with z | z | z
 .exact SF e (h i j I U z)
 .exact z
 .exact SF e.symm (h j i U I z)
def Zq(z:l.Nodup)(h:∀t∈l,t<n):l.length<=n:=by
 have:=We z λt O=>da.mpr (h t O);simpa using this
def zB(x y:Nat)(l:List (Nat×Nat)):YN (W1 [.int (x:Int),.int (y:Int)]) (W1 (kT l))=W1 (.bl (l.any λq=>decide (q.1=x)&&decide (q.2=y))):=by
 have h:∀l:List (Nat×Nat),(ui [(.inl (x:Int):Key),.inl (y:Int)] (l.map λ(q:Nat×Nat)=>([(.inl (q.1:Int):Key),.inl (q.2:Int)],D.bl E3))).isSome=l.any λq=>decide (q.1=x)&&decide (q.2=y):=λl=>by
  induction l with
  |nil=>rfl
  |cons t r I=>
   rw[bn,rL,<-I];show (if [(.inl (t.1:Int):Key),.inl (t.2:Int)]=[.inl (x:Int),.inl (y:Int)] then _ else _:Option D).isSome=_
   by_cases z:t.1=x/\t.2=y
   .obtain⟨Z,Y⟩:=z;subst Z Y;simp
   .have:¬ ([(.inl (t.1:Int):Key),.inl (t.2:Int)]=[.inl (x:Int),.inl (y:Int)]):=λq=>by
     simp only[zr,Sum.inl.injEq,and_true] at q;exact z ⟨by omega,by omega⟩
    rw[RF this];have:(decide (t.1=x)&&decide (t.2=y))=ZA:=by
     rw[Bool.and_eq_false_iff]
     by_cases Z:t.1=x
     .right;exact UF λY=>z ⟨Z,Y⟩
     .left;exact UF Z
    rw[this,DF]
 have e:YN (W1 [.int (x:Int),.int (y:Int)]) (W1 (kT l))=W1 (.bl ((ui [(.inl (x:Int):Key),.inl (y:Int)] (l.map λ(q:Nat×Nat)=>([(.inl (q.1:Int):Key),.inl (q.2:Int)],D.bl E3))).isSome)):=by
  unfold kT YN;simp only[eI];rw[OF (Ja (by show 2<=10000000;decide))];rfl
 rw[e,h]
def zE(fs:FA)(z:FE)(ρ:Rho):inTF fs z ρ=YN (fs ρ) (z ρ):=fx _
def Wf(I:List (Str×List Nat)):(oM I).map (λp=>Sj p.1)=(I.map (·.1)).map .str:=by simp[oM,RB]
def Wg(ts:List (Str×List (Nat×Nat))):(oT ts).map (λp=>Sj p.1)=(ts.map (·.1)).map .str:=by simp[oT,RB]
def j5{k:List (Key×D)}{z:List Str}(h:k.map (λp=>Sj p.1)=z.map .str)(I:z.Nodup)(Y:z.length<=60):sdkD (.dk k)=W1 (.lst ((Ez z).map .str)):=by
 show sdkL k=_;unfold sdkL;rw[h,bC,eI,OF ⟨I,Y⟩]
def qL(i:Nat)(l:List Nat):(l.any λt=>decide (t=i))=decide (i∈l):=by
 rw[ib];simp
def j6(i j:Nat)(l:List (Nat×Nat)):(l.any λq=>decide (q.1=i)&&decide (q.2=j))=decide ((i,j)∈l):=by
 rw[ib];simp
def Zr{z:Type}{w:Str}{l:List (Str×z)}(h:w∈l.map (·.1)):∃q,q∈l/\l.find? (λp=>p.1=w)=W1 q:=by
 obtain⟨p,I,e⟩:=aT.mp h;cases q:l.find? (λp=>p.1=w) with
 |none=>exact SF (by simpa using e) (by simpa using LU.mp q p I)
 |some x=>exact⟨x,EQ q,rfl⟩
def tV(W:Wl){w:Str}(h:w∈mw W)(i:Nat):∃d,oo (.dk (oM W.ms)) (.str w)=W1 d/\RU ZA (.int (i:Int)) d=W1 (.bl (mk W w i)):=by
 obtain⟨q,_,e⟩:=Zr h;refine⟨kM q.2,?_,?_⟩
 .rw[M5];unfold oM;rw[X4 kM w,e];rfl
 .rw[zA,qL,mk,e]
def tW(W:Wl){w:Str}(h:w∈tw W)(i j:Nat):∃d,oo (.dk (oT W.ts)) (.str w)=W1 d/\YN (W1 [.int (i:Int),.int (j:Int)]) (W1 d)=W1 (.bl (tk W w i j)):=by
 obtain⟨q,_,e⟩:=Zr h;refine⟨kT q.2,?_,?_⟩
 .rw[M5];unfold oT;rw[X4 kT w,e];rfl
 .rw[zB,j6,tk,e]
theorem Ro{I:Type}{tg:FG}{b:FS}(J:PV.Slot->Rho)(e:I->D)(P:I->Bool)(r:D)(O:∀d z,tg d (J z)=W1 (J (.fz d))):∀(l:List I) (z:PV.Slot),(∀x∈l,b (J (.fz (e x)))=W1 (if P x=E3 then .nx (J (.fz (e x))) else .rt r (J (.fz (e x))))) ->
  ∃S,vb (SL tg b) (l.map e) (J z)=W1 (if l.all P=E3 then .nx (J S) else .rt r (J S))
 |[],z,_=>⟨z,rfl⟩
 |x::l,z,h=>by
  rw[bn,Dr,Qb,O,JD,h x (by simp),xa];cases U:P x with
  |false=>exact⟨_,rfl⟩
  |true=>
   obtain⟨S,L⟩:=Ro J e P r O l (.fz (e x)) λy T=>h y (by simp[T]);exact⟨S,by rw[OF rfl,Ds,L,ve]⟩
def Zt(a b:Bool):MQ E3 (.bl a) (.bl b)=W1 (.bl (!(a==b))):=by cases a<;>cases b<;>rfl
structure Sp (W V:Wl):Prop where
 mm:∀w∈mw W,w∈mw V
 tt:∀w∈tw W,w∈tw V
def ixp0(q:Pr):oo (pN q) (.int 0)=W1 (.int (q.1:Int)):=rfl
def ixp1(q:Pr):oo (pN q) (.int 1)=W1 (.int (q.2:Int)):=rfl
theorem qM(W V:Wl)(h:Sp W V)(q:Pr):Eg [fc W,fc V,pN q]=W1 (.bl (HS W V q)):=by
 have I:=Rn W;have L:=Rn V;have S:=ixp0 q;have O:=ixp1 q;have n1:=Wf W.ms;obtain⟨Y,e⟩:=Ro (tg:=Bh 3) (b:=Fl) (λz=>[.fz (fc W),.fz (fc V),.fz (pN q),z]) D.str (λw=>mk W w q.1==mk V w q.2) (.bl ZA) (λd z=>rfl) (mw W) .un λw J=>by
  obtain⟨d1,U,T⟩:=tV W J q.1;obtain⟨Z,b1,b2⟩:=tV V (h.mm w J) q.2;simp only[cK,Fl,I,L,S,O,U,T,b1,b2,Zt];cases (mk W w q.1==mk V w q.2)<;>rfl
 have q1:J6 (W1 (D.dk (oM W.ms)))=W1 ((mw W).map .str):=by rw[M6,n1]
 simp only[cK,Eg,Gq,DX,I,q1,e];show _=W1 (D.bl ((mw W).all λw=>mk W w q.1==mk V w q.2));cases (mw W).all (λw=>mk W w q.1==mk V w q.2)<;>rfl
theorem U0(W V:Wl)(h:Sp W V)(p q:Pr):CQ [fc W,fc V,pN p,pN q]=W1 (.bl (Di W V p q)):=by
 have I:=X5 W;have L:=X5 V;have U:=ixp0 p;have T:=ixp1 p;have O:=ixp0 q;have S:=ixp1 q;have n1:=Wg W.ts;obtain⟨z',e⟩:=Ro (tg:=Bh 4) (b:=Fo) (λz=>[.fz (fc W),.fz (fc V),.fz (pN p),.fz (pN q),z]) D.str (λw=>tk W w p.1 q.1==tk V w p.2 q.2) (.bl ZA) (λd z=>rfl) (tw W) .un λw J=>by
  obtain⟨d1,Z,Y⟩:=tW W J p.1 q.1;obtain⟨d2,b1,b2⟩:=tW V (h.tt w J) p.2 q.2;simp only[cK,Fo,zE,I,L,U,T,O,S,Z,Y,b1,b2,Zt];cases (tk W w p.1 q.1==tk V w p.2 q.2)<;>rfl
 have q1:J6 (W1 (D.dk (oT W.ts)))=W1 ((tw W).map .str):=by rw[M6,n1]
 simp only[cK,CQ,Gr,DX,I,q1,e];show _=W1 (D.bl ((tw W).all λw=>tk W w p.1 q.1==tk V w p.2 q.2));cases (tw W).all (λw=>tk W w p.1 q.1==tk V w p.2 q.2)<;>rfl
def Zu(a b:Nat):decide ((a:Int)=(b:Int))=decide (a=b):=by
 by_cases z:a=b
 .subst z;simp
 .rw[UF z,UF (by omega)]
def zF(W V:Wl)(h:Sp W V)(p q:Pr):Gd [fc W,fc V,pN p,pN q]=W1 (.bl (SY W V p q)):=by
 have I:=ixp0 p;have z:=ixp1 p;have O:=ixp0 q;have S:=ixp1 q;have Z:=U0 W V h p q;have Y:=U0 W V h q p;simp only[ciK,Gd,Io,I,z,O,S,Zu,Zt];unfold SY;cases J:(decide (p.1=q.1)==decide (p.2=q.2)) with
 |false=>rfl
 |true=>
  simp only[cK,Z,Y];cases Di W V p q with
  |false=>rfl
  |true=>simp only[cK,Y,ve]
def j7{z:Type}(f:z->Bool)(l:List z):Zs (.lst (l.map λx=>.bl (f x)))=W1 (.bl (l.all f)):=by
 show (Po _).map _=_;rw[ZD];simp[kz]
def mzO(c m:Str)(g:List D->Option D)(o:Option D)(ds:Option (List D)):Option D:=o.bind λo=>if Dg c m o=E3 then ds.bind λds=>g (o::ds) else E2
def GF(c m:Str)(g:List D->Option D)(z:FE)(fs:FA)(ρ:Rho):Et c m g z fs ρ=mzO c m g (z ρ) (fs ρ):=fx _
def Wh{c:Str}{o:D}(h:Dg c m o=E3):mzO c m g (W1 o) (W1 ds)=g (o::ds):=by
 show (if Dg c m o=E3 then _ else _)=_;rw[OF h];rfl
def tX(W:Wl):Dg "World" "mark_words" (fc W)=E3:=rfl
def tY(W:Wl):Dg "World" "tie_words" (fc W)=E3:=rfl
def S8{l m:List Str}(h:l.Perm m):Ez l=Ez m:=Xa (Mw l) (Mw m) λx=>by rw[Ko,Ko,h.mem_iff]
structure Spk (W V:Wl):Prop where
 mm:(mw V).Perm (mw W)
 tt:(tw V).Perm (tw W)
def Spk.sp{W V:Wl}(h:Spk W V):Sp W V:=⟨λw z=>h.mm.mem_iff.mpr z,λw z=>h.tt.mem_iff.mpr z⟩
def j8(a b:Nat):MQ ZA (.int (a:Int)) (.int (b:Int))=W1 (.bl (decide (a=b))):=by rw[Q4,Zu]
def zG(a:Nat):gtD (.int (a:Int)) (.int 0)=W1 (.bl (decide (0<a))):=by
 rw[Yi];congr 2
 by_cases z:0<a
 .rw[MG z,MG (by omega)]
 .rw[UF z,UF (by omega)]
def Zv(I:List Str):MQ E3 (.lst (I.map .str)) (.lst (I.map .str))=W1 (.bl ZA):=by
 have h:∀I:List Str,OU (RH 180) (I.map .str) (I.map .str)=W1 E3:=λI=>by
  induction I with
  |nil=>rfl
  |cons z r J=>
   show (match RH 180 (.str z) (.str z),OU (RH 180) (r.map .str) (r.map .str) with | some a,W1 b=>W1 (a&&b) | _,_=>E2)=_;rw[J];have:RH 180 (.str z) (.str z)=W1 E3:=by show W1 (UY (.str z) (.str z))=_;simp[UY]
   rw[this];rfl
 unfold MQ;have:UX (.lst (I.map .str)) (.lst (I.map .str))=W1 E3:=by
  show (if (I.map D.str).length=(I.map D.str).length then OU (RH 180) (I.map .str) (I.map .str) else W1 ZA)=_;rw[OF rfl,h]
 rw[this];rfl
def S9(W:Wl)(h:mf W):B_ [fc W]=W1 (.lst ((Ez (mw W)).map .str))/\Ce [fc W]=W1 (.lst ((Ez (tw W)).map .str)):=by
 have z:=gE.mp h.nd;have T:=h.m3;have O:=h.t3;have I:=j5 (Wf W.ms) z.1 (by simp;omega);have S:=j5 (Wg W.ts) z.2.1 (by simp;omega);have J:=Rn W;have L:=X5 W;constructor
 .simp only[cK,B_,El,J,I]
 .simp only[cK,Ce,Fx,L,S]
def bz(W V:Wl)(h:mf W)(L:mf V)(hs:Spk W V):Ei [fc W,fc V]=W1 .non:=by
 obtain⟨U,T⟩:=S9 W h;obtain⟨b1,b2⟩:=S9 V L;rw[S8 hs.mm] at b1;rw[S8 hs.tt] at b2;have J:=tX W;have I:=tX V;have Z:=tY W;have z:=tY V;have S:=Zv (Ez (mw W));have O:=Zv (Ez (tw W));simp only[cK,Ei,Gv,GF,Wh J,Wh I,Wh Z,Wh z,U,T,b1,b2,S,O]
theorem Ny(W V:Wl)(I:PV.Slot):∀(z:List Pr) (L J:PV.Slot),(∀r∈z,r.1<W.n/\r.2<V.n)->∃S O,vb (SL (MS 2 (Aw 3 (Aw 4 MV))) Bk) (z.map pN) [.fz (fc W),.fz (fc V),I,L,J]=W1 (.nx [.fz (fc W),.fz (fc V),I,S,O])
 |[],L,J,_=>⟨L,J,rfl⟩
 |r::z,L,J,h=>by
  have s1:=Ka W;have Z:=Ka V;have U:=KZ W.n r.1 (h r (by simp)).1;have T:=KZ V.n r.2 (h r (by simp)).2;obtain⟨S,O,e⟩:=Ny W V I z (.fz (.int (r.1:Int))) (.fz (.int (r.2:Int))) λx hx=>h x (by simp[hx]);refine⟨S,O,?_⟩;have Y:Bk [.fz (fc W),.fz (fc V),I,.fz (.int (r.1:Int)),.fz (.int (r.2:Int))]=W1 (.nx [.fz (fc W),.fz (fc V),I,.fz (.int (r.1:Int)),.fz (.int (r.2:Int))]):=by
   simp only[cK,Bk,s1,Z,U,T]
  rw[bn,Dr,Qb,M7,JD];simp only[oB,oC];rw[Y,Ds,e]
def X6(W V:Wl)(h:mf W)(I:mf V)(hs:Spk W V)(z:List Pr)(J:∀r∈z,r.1<W.n/\r.2<V.n):Bs [fc W,fc V,.lst (z.map pN)]=W1 .non:=by
 have u:=bz W V h I hs;obtain⟨S,O,e⟩:=Ny W V (.fz (.lst (z.map pN))) z .un .un J;simp only[cK,Bs,DG,u,DX,Fd,e]
def qN{z L:Type}(f:z->L)(l:List z)(I J:Option Int):OM (l.map f) I J=(OM l I J).map f:=by
 unfold OM;rw[aw,zg,B4]
def qO{z:Type}(l:List z)(I J:Option Int):(OM l I J).length<=l.length:=by
 unfold OM;rw[iO,mE];omega
def Ln{z:Type}(xs:List z)(j:Nat)(h:j<xs.length):(xs[j]::xs.eraseIdx j).Perm xs:=by
 rw[List.eraseIdx_eq_take_drop_succ];have e:xs.take j++xs[j]::xs.drop (j+1)=xs:=by rw[<-sh h,zd]
 exact (KF.symm).trans (by rw[e])
def wV(n:Nat)(h:n<=100):Vz (.int (n:Int))=W1 (lN (bb n)):=by
 show (if 0<=(n:Int)/\(n:Int)<=1000000 then W1 (D.lst (wh (n:Int).toNat)) else E2)=_;rw[OF ⟨by omega,by omega⟩,eD];rfl
def qP(I:List (Str×List Nat)):(eM I).map (λp=>Sj p.1)=(I.map (·.1)).map .str:=by simp[eM,RB]
def qQ(ts:List (Str×List (Nat×Nat))):(eT ts).map (λp=>Sj p.1)=(ts.map (·.1)).map .str:=by simp[eT,RB]
def ixw0(W:Wl):oo (wd W) (.int 0)=W1 (.int (W.n:Int)):=rfl
def ixw1(W:Wl):oo (wd W) (.int 1)=W1 (.dk (eM W.ms)):=rfl
def ixw2(W:Wl):oo (wd W) (.int 2)=W1 (.dk (eT W.ts)):=rfl
def qR(W V:Wl)(p q:Pr):SY W V p q=SY W V q p:=by
 unfold SY;rw[LV (Di W V p q),show decide (p.1=q.1)=decide (q.1=p.1) by simp[eq_comm],show decide (p.2=q.2)=decide (q.2=p.2) by simp[eq_comm]]
def j9(W V:Wl)(p:Pr):SY W V p p=Di W V p p:=by simp[SY]
def K4(W V:Wl)(ps:List Pr):NV W V ps=E3↔∀p∈ps,(HS W V p=E3/\Di W V p p=E3)/\∀q∈ps,SY W V p q=E3:=by
 simp only[NV,dL,fh]
def qT(W V:Wl)(ps:List Pr)(q:Pr):TL W V ps q=E3↔(HS W V q=E3/\Di W V q q=E3)/\∀p∈ps,SY W V p q=E3:=by
 simp only[TL,dL,fh]
def Zw{W V:Wl}{ps qs:List Pr}(h:∀x∈qs,x∈ps)(a:NV W V ps=E3):NV W V qs=E3:=by
 rw[K4] at a ⊢;exact λp z=>⟨(a p (h p z)).1,λq T=>(a p (h p z)).2 q (h q T)⟩
def QX{W V:Wl}{ps:List Pr}{q:Pr}:NV W V (ps++[q])=E3↔NV W V ps=E3/\TL W V ps q=E3:=by
 rw[K4,K4,qT];constructor
 .intro h;refine⟨λp I=>⟨(h p (by simp[I])).1,λr z=>(h p (by simp[I])).2 r (by simp[z])⟩,(h q (by simp)).1,λp I=>(h p (by simp[I])).2 q (by simp)⟩
 .rintro⟨L,J,S⟩ p I
  rcases dQ.mp I with I | I
  .refine⟨(L p I).1,λr z=>?_⟩
   rcases dQ.mp z with z | z
   .exact (L p I).2 r z
   .have:r=q:=by simpa using z
    exact this▸S p I
  .have:p=q:=by simpa using I
   subst this;refine⟨J,λr z=>?_⟩
   rcases dQ.mp z with z | z
   .rw[qR];exact S r z
   .have:r=p:=by simpa using z
    rw[this,j9];exact J.2
def qU(W V:Wl):∀(ps:List Pr),((bb ps.length).all λk=>TL W V (ps.take k) (ps.getD k (0,0)))=NV W V ps:=by
 intro ps;rw[ib];have:∀n,n<=ps.length->(((bb n).all λk=>TL W V (ps.take k) (ps.getD k (0,0)))=E3↔NV W V (ps.take n)=E3):=by
  intro n
  induction n with
  |zero=>intro _;simp[NV]
  |succ n z=>
   intro h;rw[t5,List.all_append,fh,z (by omega)];have e:ps.take (n+1)=ps.take n++[ps.getD n (0,0)]:=by
    rw[zk,cr (by omega),uu,cr (by omega)];rfl
   rw[e,QX];simp
 have h:=this ps.length (aE _);rw[LD] at h;exact h
def Pe(W V:Wl)(ps:List Pr):Prop:=∀p∈ps,p.1<W.n/\p.2<V.n
def in5{W V:Wl}(z:mf W)(I:mf V){ps:List Pr}(h:Pe W V ps):∀p∈ps,Re p:=λp J=>by
 have:=h p J;have:=z.n5;have:=I.n5;exact⟨by omega,by omega⟩
def Cw{W V:Wl}(z:mf W)(I:mf V){ps:List Pr}(h:Pe W V ps)(x:Pr):x∈Am ps↔x∈ps:=(NQ (in5 z I h)).2 x
def Kc{W V:Wl}(z:mf W)(I:mf V){ps:List Pr}(h:Pe W V ps):Pe W V (Am ps):=λp J=>h p ((Cw z I h p).mp J)
def Gh{W V:Wl}{ps:List Pr}{q:Pr}(h:Pe W V ps)(T:q.1<W.n/\q.2<V.n):Pe W V (ps++[q]):=λp z=>by
 rcases dQ.mp z with z | z
 .exact h p z
 .have:p=q:=by simpa using z
  exact this▸T
def Kd{W V:Wl}(I:mf W)(J:mf V){ps:List Pr}(h:Pe W V ps):NV W V (Am ps)=NV W V ps:=by
 rw[ib];exact⟨Zw λx z=>(Cw I J h x).mpr z,Zw λx z=>(Cw I J h x).mp z⟩
def j_:∀{l:List Pr},OV l->l.Nodup:=λ{l} h=>by
 have:(l.map Pt).Nodup:=F6 (λ{a b} h e=>SF h (by rw[e];exact iE _)) h;rw[tJ,hJ] at this;exact F6 (λ{a b} h (e:a=b)=>h (by rw[e])) this
def Ke{W V:Wl}(z:mf W)(I:mf V){ps:List Pr}(h:Pe W V ps):OV (Am ps):=(NQ (in5 z I h)).1
def b_{W V:Wl}(z:mf W)(I:mf V){ps qs:List Pr}(h:Pe W V ps)(k:Pe W V qs)(e:∀x,x∈ps↔x∈qs):Am ps=Am qs:=Uo (Ke z I h) (Ke z I k) λx=>by rw[Cw z I h,Cw z I k,e]
theorem Wi:∀{l m:List Pr},l.Nodup->(∀x∈l,x∈m)->l.length<=m.length
 |[],_,_,_=>eA _
 |x::l,m,J,h=>by
  have I:=h x (by simp);have W:=kK.mp J;have:=Wi (m:=m.erase x) W.2 λy z=>(AQ (λe=>W.1 (by rw[<-e];exact z))).mpr (h y (by simp[z]));rw[AR I] at this;have:=tm I;simp only[db];omega
def cA{W V:Wl}(z:mf W)(I:mf V){ps:List Pr}(h:Pe W V ps):(Am ps).length<=ps.length:=Wi (j_ (Ke z I h)) λx J=>(Cw z I h x).mp J
def qW{W V:Wl}{ps:List Pr}(I:ps.Nodup)(h:Pe W V ps)(a:NV W V ps=E3):ps.length<=W.n:=by
 rw[K4] at a;have z:(ps.map (·.1)).Nodup:=by
  rw[tJ,hJ];refine B1 (λ{x y} L J ne e=>?_) I;have g:=(a x L).2 y J;unfold SY at g;rw[fh] at g;have U:=g.1;rw[MG e] at U;have:x.2=y.2:=by simpa using U
  exact ne (wt e this)
 have:=Zq z λt O=>by
  obtain⟨p,S,rfl⟩:=aT.mp O;exact (h p S).1
 rwa [aw] at this
def Cm{t:Nat}{xs:List Nat}:t∈MX n xs↔t<n/\t∉xs:=by simp[MX]
def kE{xs ys:List Nat}(h:∀x∈xs,x∈ys){t:Nat}(O:t∈MX n xs)(J:t∈ys):(MX n ys).length<(MX n xs).length:=by
 have e:MX n ys=(MX n xs).filter λt=>decide (t∉ys):=by
  unfold MX;rw[List.filter_filter];refine F3 λx _=>?_
  by_cases I:x∈ys
  .simp[I]
  .have:x∉xs:=λz=>I (h x z);simp[I,this]
 rw[e];exact List.length_filter_lt_length_iff_exists.mpr ⟨t,O,by simp[J]⟩
def PB(n:Nat)(xs:List Nat):(MX n xs).length<=n:=by
 have:=ng (λt=>decide (t∉xs)) (bb n)
 rwa [mN] at this
theorem PJ{W V:Wl}{R I:List Pr->Nat}{ps:List Pr}(h:∀f∈MX W.n (ps.map (·.1)),∀s∈MX V.n (ps.map (·.2)),TL W V ps (f,s)=E3->R (Am (ps++[(f,s)]))=I (Am (ps++[(f,s)]))):stp W V R ps=stp W V I ps:=by
 have k:∀f∈MX W.n (ps.map (·.1)),∀s∈MX V.n (ps.map (·.2)),(if TL W V ps (f,s)=E3 then R (Am (ps++[(f,s)])) else 0)=(if TL W V ps (f,s)=E3 then I (Am (ps++[(f,s)])) else 0):=λf z s hs=>by
  split
  .rename_i e;exact h f z s hs e
  .rfl
 unfold stp;simp only;rw[jv (g:=λf=>Nd ((MX V.n (ps.map (·.2))).map λs=>if TL W V ps (f,s)=E3 then I (Am (ps++[(f,s)])) else 0)) λf z=>by rw[jv λs hs=>k f z s hs],
  jv (l:=MX V.n (ps.map (·.2))) (g:=λs=>Nd ((MX W.n (ps.map (·.1))).map λf=>if TL W V ps (f,s)=E3 then I (Am (ps++[(f,s)])) else 0)) λs hs=>by rw[jv λf z=>k f z s hs]]
theorem Nz{W V:Wl}(z:mf W)(I:mf V){ps:List Pr}(h:Pe W V ps){f s:Nat}(J:f∈MX W.n (ps.map (·.1)))(hs:s∈MX V.n (ps.map (·.2))):(MX W.n ((Am (ps++[(f,s)])).map (·.1))).length<(MX W.n (ps.map (·.1))).length:=by
 have k:=Gh h (q:=(f,s)) ⟨(Cm.mp J).1,(Cm.mp hs).1⟩;refine kE (λx L=>?_) J (aT.mpr ⟨(f,s),(Cw z I k _).mpr (by simp),rfl⟩);obtain⟨p,O,rfl⟩:=aT.mp L;exact aT.mpr ⟨p,(Cw z I k _).mpr (by simp[O]),rfl⟩
def JV{W V:Wl}(z:mf W)(I:mf V){ps:List Pr}(h:Pe W V ps){f s:Nat}(J:f∈MX W.n (ps.map (·.1)))(hs:s∈MX V.n (ps.map (·.2))):Pe W V (Am (ps++[(f,s)])):=Kc z I (Gh h ⟨(Cm.mp J).1,(Cm.mp hs).1⟩)
def qX{W V:Wl}(I:mf W)(J:mf V):∀(u k j:Nat) (ps:List Pr),Pe W V ps->(MX W.n (ps.map (·.1))).length<=u->u<=k->u<=j->rkN W V (k+1) ps=rkN W V (j+1) ps:=by
 intro u
 induction u with
 |zero=>
  intro k j ps h S _ _;refine PJ λf z=>?_;rw[qf.mp (B5.mp S)] at z;cases z
 |succ u T=>
  intro k j ps h S U Y;refine PJ λf z s hs _=>?_;obtain⟨L,rfl⟩:=LW (show k≠0 by omega);obtain⟨O,rfl⟩:=LW (show j≠0 by omega);exact T L O _ (JV I J h z hs) (qE (eK (Nz I J h z hs) S)) (by omega) (by omega)
theorem U3{W V:Wl}(z:mf W)(I:mf V){ps:List Pr}(h:Pe W V ps)(a:NV W V ps=E3):OP W V ps=stp W V (OP W V) ps:=by
 have e:OP W V ps=stp W V (rkN W V 5) ps:=by unfold OP;rw[OF a];rfl
 rw[e];refine PJ λf L s hs J=>?_;have T:=Gh h (q:=(f,s)) ⟨(Cm.mp L).1,(Cm.mp hs).1⟩;have O:NV W V (Am (ps++[(f,s)]))=E3:=by rw[Kd z I T];exact QX.mpr ⟨a,J⟩
 unfold OP;rw[OF O];refine qX z I 4 4 5 _ (JV z I h L hs) ?_ (by omega) (by omega);exact qE (eK (Nz z I h L hs) (cy (PB W.n (ps.map (·.1))) z.n5))
def MT{W V:Wl}{ps:List Pr}(a:NV W V ps=ZA):OP W V ps=0:=by unfold OP;rw[a];rfl
def X7{x:Nat}(h:x∈l):x<=Nd l:=by
 induction l with
 |nil=>cases h
 |cons y l z=>
  have e:Nd (y::l)=max y (Nd l):=rfl;rw[e]
  rcases bP.mp h with rfl | h
  .omega
  .have:=z h;omega
def kI{m:Nat}(J:0<m)(h:∀x∈l,x<m):Nd l<m:=by
 induction l with
 |nil=>exact J
 |cons y l z=>
  have e:Nd (y::l)=max y (Nd l):=rfl;rw[e];have:=z λx I=>h x (by simp[I]);have:=h y (by simp);omega
def Zx{e x:Nat}(h:x∈l):l.foldr min e<=x:=by
 induction l with
 |nil=>cases h
 |cons y l z=>
  rw[AO]
  rcases bP.mp h with rfl | h
  .omega
  .have:=z h;omega
def kJ(l:List Nat)(e:Nat):l.foldr min e<=e:=by
 induction l with
 |nil=>exact aE _
 |cons y l z=>rw[AO];omega
def Rp(l:List Nat)(e:Nat):l.foldr min e=e∨l.foldr min e∈l:=by
 induction l with
 |nil=>exact .inl rfl
 |cons y l z=>
  rw[AO]
  rcases LX y (l.foldr min e) with h | h
  .exact .inr (by rw[Nat.min_eq_left h];simp)
  .rw[Nat.min_eq_right h]
   rcases z with z | z
   .exact .inl z
   .exact .inr (by simp[z])
def zH{W V:Wl}(z:mf W)(I:mf V){ps:List Pr}(h:Pe W V ps):OP W V ps<=il W V:=by
 cases a:NV W V ps with
 |false=>rw[MT a];exact eA _
 |true=>
  rw[U3 z I h a];unfold stp;simp only;exact Nat.min_le_left ..
def wW{m:List Nat}(h:kM l=kM m):l=m:=by
 unfold kM at h;have h:=D.dk.inj h;have:=NG (BH λx:Key×D=>match x.1 with | .inl i=>i.toNat | _=>0) h;simpa [bS,kz] using this
def wX{l m:List (Nat×Nat)}(h:kT l=kT m):l=m:=by
 unfold kT at h;have h:=D.dt.inj h;have:=NG (BH λx:List Key×D=>unk1 x.1) h;simpa [bS,kz,unk1] using this
theorem Rq{z J:Type}{f:z->J}(I:∀x y,f x=f y->x=y):∀{l m:List z},l.map f=m.map f->l=m
 |[],[],_=>rfl
 |[],_::_,h=>by cases h
 |_::_,[],h=>by cases h
 |x::l,y::m,h=>by
  rw[bn,bn] at h;obtain⟨O,L⟩:=List.cons.inj h;rw[I x y O,Rq I L]
def Zy{W V:Wl}(h:fc W=fc V):W=V:=by
 obtain⟨n,O,L⟩:=W;obtain⟨n',ms',ts'⟩:=V;unfold fc at h;simp only[D.ob.injEq,zr,sA,true_and,and_true,D.int.injEq,D.dk.injEq] at h;obtain⟨h1,T,S⟩:=h;have e1:n=n':=by omega
 have Y:O=ms':=Rq (λx y e=>by
  obtain⟨J,I⟩:=x;obtain⟨z,Z⟩:=y;simp only[sA,LY] at e;rw[e.1,wW e.2]) T
 have U:L=ts':=Rq (λx y e=>by
  obtain⟨J,I⟩:=x;obtain⟨z,Z⟩:=y;simp only[sA,LY] at e;rw[e.1,wX e.2]) S
 rw[e1,Y,U]
def zJ(W V:Wl):FF (fc W) (fc V)=FW W V:=by
 have h:∃x:Wl×Wl,fc W=fc x.1/\fc V=fc x.2:=⟨(W,V),rfl,rfl⟩;unfold FF;rw[dif_pos h];have:=EJ h;rw[<-Zy this.1,<-Zy this.2]
theorem qY(ps:List Pr):(RS ps).map unk1=ps:=by
 unfold RS;rw[bS];have:(unk1 ∘ kk)=id:=by funext p;simp[unk1,kk]
 rw[this,List.map_id]
def tZ(W V:Wl)(ps:List Pr):FW W V (RS ps)=(OP W V ps:Nat):=by unfold FW;rw[qY]
def fw_t(W V:Wl)(h:Sp W V)(ps:List Pr)(Y:ps.length<=1000)(q:Pr):Gk [fc W,fc V,.tup (ps.map pN),pN q]=W1 (.bl (TL W V ps q)):=by
 have b1:=qM W V h q;have Z:=U0 W V h q q;have z:BZ (pq (vF 2)) xq Ip [.fz (fc W),.fz (fc V),.fz (.tup (ps.map pN)),.fz (pN q)]=W1 (.lst (ps.map λp=>.bl (SY W V p q))):=
  G9 ps pN (λp=>.bl (SY W V p q)) (by simp only[cK,DX,QQ]) Y λp _=>by
   have g:=zF W V h p q;simp only[cK,Ip,g]
 have al:=j7 (λp=>SY W V p q) ps;unfold TL;simp only[cK,Gk,KH,b1];cases HS W V q with
 |false=>simp only[cK,zD]
 |true=>
  simp only[cK,Z];cases Di W V q q with
  |false=>simp only[cK,ve,zD]
  |true=>simp only[cK,z,al,ve]
def kO{J:Type}(l:List J)(I z g:J->D)(hs:src ρ=W1 (l.map λx=>.tup [I x,z x]))(S:l.length<=1000)(h:∀x∈l,fe (ρ++[.fz (I x),.fz (z x)])=W1 (g x)):V3 src xq fe ρ=W1 (.lst (l.map g)):=by
 have c:∀l:List J,(∀x∈l,fe (ρ++[.fz (I x),.fz (z x)])=W1 (g x))->Dy bd2 ρ xq fe (l.map λx=>.tup [I x,z x])=W1 (l.map g):=by
  intro l
  induction l with
  |nil=>intro _;rfl
  |cons x r L=>
   intro Y;rw[bn];show (fe (ρ++[PV.Slot.fz (I x),PV.Slot.fz (z x)])).bind (λy=>(Dy bd2 ρ xq fe (r.map λx=>.tup [I x,z x])).map (y::·))=_;rw[Y x (by simp),L λd O=>Y d (by simp[O])];rfl
 unfold V3 Ig;rw[hs];show (if (l.map λx=>D.tup [I x,z x]).length<=sizeLine then (Dy bd2 ρ xq fe (l.map λx=>D.tup [I x,z x])).map D.lst else E2)=_;rw[OF (Ja (by rw[aw];omega)),c l h];rfl
theorem kW:∀(ps:List Pr) (i:Nat),enD i (ps.map pN)=(bb ps.length).map λk=>D.tup [.int ((i+k:Nat):Int),pN (ps.getD k (0,0))]
 |[],i=>rfl
 |p::r,i=>by
  rw[bn,db,IB,bn,bS];show D.tup [.int (i:Int),pN p]::enD (i+1) (r.map pN)=_;rw[kW r (i+1)];congr 1;refine jv λk _=>?_;simp only[kz,List.getD_cons_succ];rw[show i+1+k=i+(k+1) by omega]
def sl_t(ds:List D)(k:Nat)(h:k<ds.length):slD (.tup ds) E2 (W1 (k:Int))=W1 (.tup (ds.take k)):=by
 show (if HT.sIx ds.length 0 E2=0/\HT.sIx ds.length ds.length (W1 (k:Int))=ds.length then E2 else W1 (D.tup (OM ds E2 (W1 (k:Int)))))=_;rw[RF (by rw[HT.mU];omega),vI]
def zK(f:FE)(ρ:Rho)(ds:List D)(h:f ρ=W1 (.tup ds)):enIT f ρ=W1 (enD 0 ds):=by unfold enIT;rw[h]
def af_t(W V:Wl)(h:Sp W V)(ps:List Pr)(Y:ps.length<=1000):G7 [fc W,fc V,.tup (ps.map pN)]=W1 (.bl (NV W V ps)):=by
 have z:V3 (enIT (vF 2)) xq KJ [.fz (fc W),.fz (fc V),.fz (.tup (ps.map pN))]=W1 (.lst ((bb ps.length).map λk=>.bl (TL W V (ps.take k) (ps.getD k (0,0))))):=
  kO (bb ps.length) (λk=>.int ((0+k:Nat):Int)) (λk=>pN (ps.getD k (0,0))) _ (by rw[zK _ _ (ps.map pN) rfl,kW]) (by simpa using Y) λk I=>by
   have f:=fw_t W V h (ps.take k) (by rw[iO];omega) (ps.getD k (0,0));have s:=sl_t (ps.map pN) k (by rw[aw];exact da.mp I);rw[lS];rw[<-zg] at s;simp only[cK,KJ,s,f]
 have al:=j7 (λk=>TL W V (ps.take k) (ps.getD k (0,0))) (bb ps.length);rw[qU] at al;simp only[cK,G7,O4,z,al]
def zL(t:Nat)(l:List Nat):RU E3 (.int (t:Int)) (.lst (l.map iN))=W1 (.bl (decide (t∉l))):=by
 have h:∀z:List Nat,On (z.map iN)=W1 (z.map λ(t:Nat)=>V.int t):=λz=>by
  induction z with
  |nil=>rfl
  |cons y r J=>simp[On,SR,J]
 have i:=in_i t l;change ((SR (.int (t:Int))).bind λv=>(On (l.map iN)).map λI=>D.bl (VX v I))=_ at i;show ((SR (.int (t:Int))).bind λv=>(On (l.map iN)).map λI=>D.bl (!VX v I))=_;rw[h] at i ⊢;have i:W1 (D.bl (VX (.int (t:Int)) (l.map λ(t:Nat)=>V.int t)))=W1 (D.bl (decide (t∈l))):=i;show W1 (D.bl (!VX (.int (t:Int)) (l.map λ(t:Nat)=>V.int t)))=_;injection i with i
 injection i with i
 rw[i];simp
def kZ(n:Nat)(z:n<=100)(xs:List Nat):Hh [.int (n:Int),.lst (xs.map iN)]=W1 (.lst ((MX n xs).map iN)):=by
 have J:BZ (MU (vF 0)) Jh Ji [.fz (.int (n:Int)),.fz (.lst (xs.map iN))]=W1 (.lst ((MX n xs).map iN)):=
  G8 (λt=>decide (t∉xs)) iN (MU (vF 0)) (jr n z _ 0 rfl) (by omega) (λk I=>by
   have s:=zL k xs;simp only[cK,Jh,s]) (λk I=>by simp only[cK,Ji])
 simp only[cK,Hh,Lx,J]
def U4(l:List Nat):Ey (l.map iN)=W1 (l.map λ(t:Nat)=>(t:Int)):=by
 induction l with
 |nil=>rfl
 |cons y r z=>
  show (Ey (r.map iN)).map (_::·)=_;rw[z];rfl
theorem kh(f:Nat->Int):∀k,(∃i,i<=k/\XW f k=f i)/\∀i,i<=k->f i<=XW f k
 |0=>⟨⟨0,aE _,rfl⟩,λi I=>by rw[B5.mp I];exact BI _⟩
 |k+1=>by
  obtain⟨⟨i,I,e⟩,h⟩:=kh f k;have u:XW f (k+1)=if f (k+1) > XW f k then f (k+1) else XW f k:=rfl
  rw[u];split
  .rename_i c;refine⟨⟨k+1,aE _,rfl⟩,λj U=>?_⟩
   rcases qh k j with z | z
   .have:j=k+1:=by omega
    rw[this];exact BI _
   .have:=h j z;omega
  .rename_i c;refine⟨⟨i,by omega,e⟩,λj U=>?_⟩
   rcases qh k j with z | z
   .have:j=k+1:=by omega
    rw[this];omega
   .exact h j z
theorem X8(f:Nat->Int):∀k,(∃i,i<=k/\VW f k=f i)/\∀i,i<=k->VW f k<=f i
 |0=>⟨⟨0,aE _,rfl⟩,λi I=>by rw[B5.mp I];exact BI _⟩
 |k+1=>by
  obtain⟨⟨i,I,e⟩,h⟩:=X8 f k;have u:VW f (k+1)=if f (k+1)<VW f k then f (k+1) else VW f k:=rfl
  rw[u];split
  .rename_i c;refine⟨⟨k+1,aE _,rfl⟩,λj U=>?_⟩
   rcases qh k j with z | z
   .have:j=k+1:=by omega
    rw[this];exact BI _
   .have:=h j z;omega
  .rename_i c;refine⟨⟨i,by omega,e⟩,λj U=>?_⟩
   rcases qh k j with z | z
   .have:j=k+1:=by omega
    rw[this];omega
   .exact h j z
def Jl(l:List Nat)(i:Nat)(h:i<l.length):(l.map λ(t:Nat)=>(t:Int)).getD i 0=(l[i]:Int):=by
 rw[uu,cb,cr h];rfl
theorem wZ(l:List Nat):YW (.lst (l.map iN)) (.int 0)=W1 (.int ((Nd l:Nat):Int)):=by
 show (Ey (l.map iN)).map _=_;rw[U4];show W1 (if (l.map λ(t:Nat)=>(t:Int))=[] then D.int 0 else .int (XW (λi=>(l.map λ(t:Nat)=>(t:Int)).getD i 0) ((l.map λ(t:Nat)=>(t:Int)).length-1)))=_;cases l with
 |nil=>rfl
 |cons x r=>
  rw[RF (by simp)];congr 2;have ⟨⟨i,hi,e⟩,h⟩:=kh (λi=>((x::r).map λ(t:Nat)=>(t:Int)).getD i 0) (((x::r).map λ(t:Nat)=>(t:Int)).length-1);rw[aw,db] at hi e h;have Y:i<(x::r).length:=by rw[db];omega
  rw[aw,db,e];show ((x::r).map λ(t:Nat)=>(t:Int)).getD i 0=_;rw[Jl _ _ Y];have O:=X7 (eW Y);have L:Nd (x::r)<=(x::r)[i]:=by
   have:Nd (x::r)<(x::r)[i]+1:=kI (by omega) λy I=>by
    obtain⟨j,U,J⟩:=ol.mp I;have z:=h j (by rw[db] at U;omega);rw[e] at z;change ((x::r).map λ(t:Nat)=>(t:Int)).getD j 0<=((x::r).map λ(t:Nat)=>(t:Int)).getD i 0 at z;rw[Jl _ _ Y,Jl _ _ U,J] at z;omega
   omega
  omega
theorem wg(l:List Nat)(e:Nat):∃m:Nat,Zc (.lst (l.map iN)) (.int (e:Int))=W1 (.int (m:Int))/\min e (1+m)=min e (1+l.foldr min e):=by
 have u:Zc (.lst (l.map iN)) (.int (e:Int))=W1 (if (l.map λ(t:Nat)=>(t:Int))=[] then D.int (e:Int) else .int (VW (λi=>(l.map λ(t:Nat)=>(t:Int)).getD i 0) ((l.map λ(t:Nat)=>(t:Int)).length-1))):=by
  show (Ey (l.map iN)).map _=_;rw[U4];rfl
 rw[u];cases l with
 |nil=>exact⟨e,rfl,rfl⟩
 |cons x r=>
  rw[RF (by simp)];have ⟨⟨i,hi,ee⟩,h⟩:=X8 (λi=>((x::r).map λ(t:Nat)=>(t:Int)).getD i 0) (((x::r).map λ(t:Nat)=>(t:Int)).length-1);rw[aw,db] at hi ee h;have Y:i<(x::r).length:=by rw[db];omega
  refine⟨(x::r)[i],?_,?_⟩
  .rw[aw,db,ee];show W1 (D.int (((x::r).map λ(t:Nat)=>(t:Int)).getD i 0))=_;rw[Jl _ _ Y]
  .have L:=Zx (e:=e) (eW Y);have O:=kJ (x::r) e
   rcases Rp (x::r) e with z | z
   .rw[z] at L ⊢;omega
   .obtain⟨j,U,J⟩:=ol.mp z;have I:=h j (by rw[db] at U;omega);rw[ee] at I;change ((x::r).map λ(t:Nat)=>(t:Int)).getD i 0<=((x::r).map λ(t:Nat)=>(t:Int)).getD j 0 at I;rw[Jl _ _ Y,Jl _ _ U,J] at I;omega
def MI(W V:Wl):D:=.ob "Ranks" [("one",fc W),("other",fc V),("reckoned",.mem (FW W V)),("endless",.int (il W V:Nat))]
def u1:(("other":Str)=="one")=ZA:=by decide +kernel
def u2:(("reckoned":Str)=="one")=ZA:=by decide +kernel
def u3:(("reckoned":Str)=="other")=ZA:=by decide +kernel
def u4:(("endless":Str)=="one")=ZA:=by decide +kernel
def u5:(("endless":Str)=="other")=ZA:=by decide +kernel
def u6:(("endless":Str)=="reckoned")=ZA:=by decide +kernel
def kj(W V:Wl):gn "one" (MI W V)=W1 (fc W):=by
 show cf ("one":Str) _=_;rfl
def U5(W V:Wl):gn "other" (MI W V)=W1 (fc V):=by
 show cf ("other":Str) [(("one":Str),fc W),("other",fc V),("reckoned",.mem (FW W V)),("endless",.int (il W V:Nat))]=_;simp only[cf,u1];rfl
def k_(W V:Wl):gn "reckoned" (MI W V)=W1 (.mem (FW W V)):=by
 show cf ("reckoned":Str) [(("one":Str),fc W),("other",fc V),("reckoned",.mem (FW W V)),("endless",.int (il W V:Nat))]=_;simp only[cf,u2,u3];rfl
def lC(W V:Wl):gn "endless" (MI W V)=W1 (.int (il W V:Nat)):=by
 show cf ("endless":Str) [(("one":Str),fc W),("other",fc V),("reckoned",.mem (FW W V)),("endless",.int (il W V:Nat))]=_;simp only[cf,u4,u5,u6];rfl
def N5{W V:Wl}(h:Dg "Ranks" m (MI W V)=E3):mzO "Ranks" m g (W1 (MI W V)) (W1 ds)=g (MI W V::ds):=Wh h
def ob1(W V:Wl):Dg "Ranks" "rank_of_fitting" (MI W V)=E3:=rfl
def ob2(W V:Wl):Dg "Ranks" "rank_with" (MI W V)=E3:=rfl
def ob3(W V:Wl):Dg "Ranks" "best_rank" (MI W V)=E3:=rfl
def ob4(W V:Wl):Dg "Ranks" "least_rank" (MI W V)=E3:=rfl
def ob5(W V:Wl):Dg "Ranks" "rank_of" (MI W V)=E3:=rfl
def zM{p:Pr}(h:Re p):prD (pN p)=W1 p:=by
 obtain⟨a,b⟩:=p;obtain⟨I,z⟩:=h;show (if 0<=(a:Int)/\(a:Int)<5/\0<=(b:Int)/\(b:Int)<5 then W1 ((a:Int).toNat,(b:Int).toNat) else E2)=_;have I:a<5:=I;have z:b<5:=z;rw[OF (by omega),eD,eD]
def X_{ps:List Pr}(h:∀p∈ps,Re p):PM (ps.map pN)=W1 ps:=by
 induction ps with
 |nil=>rfl
 |cons p r z=>
  show (prD (pN p)).bind (λp=>(PM (r.map pN)).map (p::·))=_;rw[zM (h p (by simp)),z λq T=>h q (by simp[T])];rfl
def lD{ps:List Pr}(h:∀p∈ps,Re p)(Y:ps.length<=5):PR (.tup (ps.map pN))=W1 ps:=by
 show (PM (ps.map pN)).bind (λps=>if ps.length<=5 then W1 ps else E2)=_;rw[X_ h];show (if ps.length<=5 then W1 ps else E2)=_;rw[OF Y]
def wj{ps:List Pr}(h:∀p∈ps,Re p)(Y:(ps.foldl NS []).length<=4):tssD (.lst (ps.map pN))=W1 (.tup ((Am ps).map pN)):=by
 show (PM (ps.map pN)).bind (λps=>if (ps.foldl NS []).length<=4 then W1 (D.tup ((Am ps).map prT)) else E2)=_;rw[X_ h];show (if (ps.foldl NS []).length<=4 then W1 (D.tup ((Am ps).map prT)) else E2)=_;rw[OF Y]
def wk{ps:List Pr}(h:∀p∈ps,Re p)(Y:ps.length<=17)(z:ps.Nodup):tslD (.tup (ps.map pN))=W1 (.tup ((Am ps).map pN)):=by
 show (PM (ps.map pN)).bind (λps=>if ps.length<=17/\ps.Nodup then W1 (D.tup ((Am ps).map prT)) else E2)=_;rw[X_ h];show (if ps.length<=17/\ps.Nodup then W1 (D.tup ((Am ps).map prT)) else E2)=_;rw[OF ⟨Y,z⟩]
def wu(ps:List Pr)(q:Pr)(Y:ps.length<=100):catU (.tup (ps.map pN)) (.tup [pN q])=W1 (.tup ((ps++[q]).map pN)):=by
 show (if [pN q]≠[]/\(ps.map pN).length+[pN q].length<=1000 then W1 (D.tup (ps.map pN++[pN q])) else E2)=_;rw[OF ⟨by simp,by simp;omega⟩,dc];rfl
def ww{z:FE}{ps:List Pr}{v:Int}(h1:uF (gn f) (vF i) ρ=W1 (.mem F))(J:(vF j ρ).bind PR=W1 ps)(S:z ρ=W1 (.int v))(I:v=F (RS ps)):memR i f j z ρ=W1 (.rt (.int v) ρ):=by
 unfold memR;rw[h1,J,S];exact OF I
def qZ{c:Str}{fr:FE}{ps:List Pr}(h1:uF (gn f) (vF i) ρ=W1 (.mem F))(z:(vF j ρ).bind PR=W1 ps)(S:ft ρ=W1 E3):Yf i f j ft c m fr ρ=jn fr ρ:=by
 unfold Yf;rw[h1,z,S]
def qb{c:Str}{fr:FE}{ps:List Pr}(h1:uF (gn f) (vF i) ρ=W1 (.mem F))(I:(vF j ρ).bind PR=W1 ps)(S:ft ρ=W1 ZA)(z:F (RS ps)=0)(O:(vF i ρ).map (Dg c m)=W1 E3):Yf i f j ft c m fr ρ=W1 (.rt (.int 0) ρ):=by
 unfold Yf;rw[h1,I,S];exact OF ⟨z,O⟩
abbrev Pw (W V:Wl) (ps:List Pr) (q:Pr):Nat:=if TL W V ps q=E3 then OP W V (Am (ps++[q])) else 0
section
theorem qd{W V:Wl}(L:mf W)(O:mf V)(h:Sp W V){g:List D->Option D}{ps:List Pr}{q:Pr}(S:Pe W V ps)(I:ps.Nodup)(hl:ps.length<=5)(T:q.1<W.n/\q.2<V.n)(Z:q∉ps)(U:TL W V ps q=E3->g [MI W V,.tup ((Am (ps++[q])).map pN)]=W1 (.int (OP W V (Am (ps++[q])):Nat))):Bb g [MI W V,.tup (ps.map pN),pN q]=W1 (.int (Pw W V ps q:Nat)):=by
 have f:=fw_t W V h ps (by omega) q;have a1:=kj W V;have Y:=U5 W V;simp only[cK,Bb,Fp,a1,Y,f];cases e:TL W V ps q with
 |false=>
  simp only[cK,Pw,e];rfl
 |true=>
  have c:=wu ps q (by omega);have t:=wk (in5 L O (Gh S T)) (by simp;omega) (gE.mpr ⟨I,by simp,λx J y z e=>Z (by simp at z;rw[<-z,<-e];exact J)⟩);have m:=N5 (g:=g) (ds:=[.tup ((Am (ps++[q])).map pN)]) (ob1 W V);simp only[cK,c,t,GF,m,U e,Pw,e,WG]
theorem Zz{W V:Wl}{ps:List Pr}(qs:List Pr)(Y:qs.length<=1000)(U:∀q∈qs,Bb g [MI W V,.tup (ps.map pN),pN q]=W1 (.int (Pw W V ps q:Nat))):Ar g [MI W V,.tup (ps.map pN),.lst (qs.map pN)]=W1 (.int (Nd (qs.map (Pw W V ps)):Nat)):=by
 have z:BZ (pq (vF 2)) xq (Dz g) [.fz (MI W V),.fz (.tup (ps.map pN)),.fz (.lst (qs.map pN))]=W1 (.lst (qs.map λq=>iN (Pw W V ps q))):=
  G9 qs pN _ (by simp only[cK,DX,Fd]) Y λq T=>by
   have m:=N5 (g:=Bb g) (ds:=[.tup (ps.map pN),pN q]) (ob2 W V);simp only[cK,Dz,GF,m,U q T]
 have mx:=wZ (qs.map (Pw W V ps));rw[bS] at mx;change YW (.lst (qs.map λq=>iN (Pw W V ps q))) (.int 0)=_ at mx;simp only[cK,Ar,Fq,z,mx]
theorem t6{W V:Wl}{g:List D->Option D}{ps:List Pr}(fs Y:List Nat)(hs:Y.length<=100)(U:∀f∈fs,Ar g [MI W V,.tup (ps.map pN),.lst ((Y.map λs=>(f,s)).map pN)]=W1 (.int (Nd ((Y.map λs=>(f,s)).map (Pw W V ps)):Nat)))(J I:Slot):
  ∀(r:List Nat) (l:List Nat) (z:Slot),(∀f∈r,f∈fs)->l.length+r.length<=900->∃S,vb (SL (Bh 5) (Ca g)) (r.map iN) [.fz (MI W V),.fz (.tup (ps.map pN)),J,.fz (.lst (Y.map iN)),.ow (.lst (l.map iN)),z,I]=W1 (.nx [.fz (MI W V),.fz (.tup (ps.map pN)),J,.fz (.lst (Y.map iN)),.ow (.lst ((l++r.map λf=>Nd ((Y.map λs=>(f,s)).map (Pw W V ps))).map iN)),S,I])
 |[],l,z,_,_=>⟨z,by rw[ja,ja,g9];rfl⟩
 |f::r,l,z,L,Z=>by
  rw[db] at Z;have b:=U f (L f (by simp));have cm:BZ (pq (vF 3)) xq (Dn g) [.fz (MI W V),.fz (.tup (ps.map pN)),J,.fz (.lst (Y.map iN)),.ow (.lst (l.map iN)),.fz (iN f),I]=W1 (.lst ((Y.map λs=>(f,s)).map pN)):=by
   rw[bS];exact G9 Y iN _ (by simp only[cK,DX,Fd]) (by omega) λs _=>by simp only[cK,Dn,kz]
  have m:=N5 (g:=Ar g) (ds:=[.tup (ps.map pN),.lst ((Y.map λs=>(f,s)).map pN)]) (ob3 W V);have ap:=Sy (l.map iN) (iN (Nd ((Y.map λs=>(f,s)).map (Pw W V ps)))) (by simp;omega);have bd:Ca g [.fz (MI W V),.fz (.tup (ps.map pN)),J,.fz (.lst (Y.map iN)),.ow (.lst (l.map iN)),.fz (iN f),I]=W1 (.nx [.fz (MI W V),.fz (.tup (ps.map pN)),J,.fz (.lst (Y.map iN)),.ow (.lst ((l++[Nd ((Y.map λs=>(f,s)).map (Pw W V ps))]).map iN)),.fz (iN f),I]):=by
   simp only[cK,Ca,GF,cm,m,b,ap,dc]
  obtain⟨S,O⟩:=t6 fs Y hs U J I r (l++[Nd ((Y.map λs=>(f,s)).map (Pw W V ps))]) (.fz (iN f)) (λy T=>L y (by simp[T])) (by simp;omega);refine⟨S,?_⟩
  w_up
  rw[bd,Ds,O];simp
theorem t8{W V:Wl}{g:List D->Option D}{ps:List Pr}(fs Y:List Nat)(hs:fs.length<=100)(U:∀s∈Y,Ar g [MI W V,.tup (ps.map pN),.lst ((fs.map λf=>(f,s)).map pN)]=W1 (.int (Nd ((fs.map λf=>(f,s)).map (Pw W V ps)):Nat)))(I O:Slot):
  ∀(r:List Nat) (l:List Nat) (z:Slot),(∀f∈r,f∈Y)->l.length+r.length<=900->∃S,vb (SL (Bh 6) (Cd g)) (r.map iN) [.fz (MI W V),.fz (.tup (ps.map pN)),.fz (.lst (fs.map iN)),I,.ow (.lst (l.map iN)),O,z]=W1 (.nx [.fz (MI W V),.fz (.tup (ps.map pN)),.fz (.lst (fs.map iN)),I,.ow (.lst ((l++r.map λs=>Nd ((fs.map λf=>(f,s)).map (Pw W V ps))).map iN)),O,S])
 |[],l,z,_,_=>⟨z,by rw[ja,ja,g9];rfl⟩
 |s::r,l,z,J,Z=>by
  rw[db] at Z;have b:=U s (J s (by simp));have cm:BZ (pq (vF 2)) xq (Do g) [.fz (MI W V),.fz (.tup (ps.map pN)),.fz (.lst (fs.map iN)),I,.ow (.lst (l.map iN)),O,.fz (iN s)]=W1 (.lst ((fs.map λf=>(f,s)).map pN)):=by
   rw[bS];exact G9 fs iN _ (by simp only[cK,DX,Fd]) (by omega) λf _=>by simp only[cK,Do,kz]
  have m:=N5 (g:=Ar g) (ds:=[.tup (ps.map pN),.lst ((fs.map λf=>(f,s)).map pN)]) (ob3 W V);have ap:=Sy (l.map iN) (iN (Nd ((fs.map λf=>(f,s)).map (Pw W V ps)))) (by simp;omega);have bd:Cd g [.fz (MI W V),.fz (.tup (ps.map pN)),.fz (.lst (fs.map iN)),I,.ow (.lst (l.map iN)),O,.fz (iN s)]=W1 (.nx [.fz (MI W V),.fz (.tup (ps.map pN)),.fz (.lst (fs.map iN)),I,.ow (.lst ((l++[Nd ((fs.map λf=>(f,s)).map (Pw W V ps))]).map iN)),O,.fz (iN s)]):=by
   simp only[cK,Cd,GF,cm,m,b,ap,dc]
  obtain⟨S,L⟩:=t8 fs Y hs U I O r (l++[Nd ((fs.map λf=>(f,s)).map (Pw W V ps))]) (.fz (iN s)) (λy T=>J y (by simp[T])) (by simp;omega);refine⟨S,?_⟩
  w_up
  rw[bd,Ds,L];simp
end
def wy(a b:Nat):minD (.int (a:Int)) (.int (b:Int))=W1 (.int ((min a b:Nat):Int)):=by
 show W1 (D.int (if (b:Int)<a then (b:Int) else a))=_;congr 2;split<;>omega
def wz(a b:Nat):maxD (.int (a:Int)) (.int (b:Int))=W1 (.int ((max a b:Nat):Int)):=by
 show W1 (D.int (if (b:Int) > a then (b:Int) else a))=_;congr 2;split<;>omega
def lE{W V:Wl}(hw:mf W)(hv:mf V)(h:Sp W V){g:List D->Option D}{ps:List Pr}(hi:Pe W V ps)(nd:ps.Nodup)(hl:ps.length<=5)(U:∀f∈MX W.n (ps.map (·.1)),∀s∈MX V.n (ps.map (·.2)),TL W V ps (f,s)=E3->g [MI W V,.tup ((Am (ps++[(f,s)])).map pN)]=W1 (.int (OP W V (Am (ps++[(f,s)])):Nat))):By g [MI W V,.tup (ps.map pN)]=W1 (.int (stp W V (OP W V) ps:Nat)):=by
 have hn:=hw.n5;have hm:=hv.n5;generalize O:MX W.n (ps.map (·.1))=fs at U;generalize L:MX V.n (ps.map (·.2))=ss at U;have lf:fs.length<=5:=by rw[<-O];exact cy (PB _ _) hn
 have ls:ss.length<=5:=by rw[<-L];exact cy (PB _ _) hm
 have J:∀f∈fs,∀s∈ss,Bb g [MI W V,.tup (ps.map pN),pN (f,s)]=W1 (.int (Pw W V ps (f,s):Nat)):=λf I s hs=>by
  have S:=I;have Y:=hs;rw[<-O] at S;rw[<-L] at Y;exact qd hw hv h hi nd hl ⟨(Cm.mp S).1,(Cm.mp Y).1⟩ (λz=>(Cm.mp S).2 (aT.mpr ⟨_,z,rfl⟩)) (U f I s hs)
 have b1:∀f∈fs,Ar g [MI W V,.tup (ps.map pN),.lst ((ss.map λs=>(f,s)).map pN)]=W1 (.int (Nd ((ss.map λs=>(f,s)).map (Pw W V ps)):Nat)):=λf I=>
  Zz _ (by simp;omega) λq T=>by
   obtain⟨s,hs,rfl⟩:=aT.mp T;exact J f I s hs
 have b2:∀s∈ss,Ar g [MI W V,.tup (ps.map pN),.lst ((fs.map λf=>(f,s)).map pN)]=W1 (.int (Nd ((fs.map λf=>(f,s)).map (Pw W V ps)):Nat)):=λs hs=>
  Zz _ (by simp;omega) λq T=>by
   obtain⟨f,I,rfl⟩:=aT.mp T;exact J f I s hs
 obtain⟨z5,Z⟩:=t6 fs ss (by omega) b1 (.fz (.lst (fs.map iN))) .un fs [] .un (λ_ z=>z) (by simp;omega);simp only[oy,ja] at Z;obtain⟨z6,l2⟩:=t8 fs ss (by omega) b2 (.fz (.lst (ss.map iN))) z5 ss (fs.map λf=>Nd ((ss.map λs=>(f,s)).map (Pw W V ps))) .un (λ_ z=>z) (by simp;omega);have a1:=kj W V;have a2:=U5 W V;have a3:=lC W V;have s1:=Ka W;have s2:=Ka V;have c1:BZ (pq (vF 1)) xq (Dl g) [.fz (MI W V),.fz (.tup (ps.map pN)),.un,.un,.un,.un,.un]=W1 (.lst ((ps.map (·.1)).map iN)):=by
  rw[bS];exact G9 ps pN _ (by simp only[cK,DX,QQ]) (by omega) λp _=>by
   have:=ixp0 p;simp only[cK,Dl,this,kz]
 have c2:BZ (pq (vF 1)) xq (Dm g) [.fz (MI W V),.fz (.tup (ps.map pN)),.fz (.lst (fs.map iN)),.un,.un,.un,.un]=W1 (.lst ((ps.map (·.2)).map iN)):=by
  rw[bS];exact G9 ps pN _ (by simp only[cK,DX,QQ]) (by omega) λp _=>by
   have:=ixp1 p;simp only[cK,Dm,this,kz]
 have u1:=kZ W.n (by omega) (ps.map (·.1));have u2:=kZ V.n (by omega) (ps.map (·.2));rw[O] at u1;rw[L] at u2;obtain⟨m,mi,me⟩:=wg ((fs.map λf=>Nd ((ss.map λs=>(f,s)).map (Pw W V ps)))++(ss.map λs=>Nd ((fs.map λf=>(f,s)).map (Pw W V ps)))) (il W V);have ad:rc (.int 1) (.int (m:Int))=W1 (.int ((1+m:Nat):Int)):=by
  rw[Oh];congr 2
 have mn:=wy (il W V) (1+m);simp only[cK,By,Ek,DX,Fd,a1,a2,s1,s2,c1,u1,c2,u2,Z,l2,a3,mi,ad,mn];rw[me];have ot:min (il W V) (1+((fs.map λf=>Nd ((ss.map λs=>(f,s)).map (Pw W V ps)))++(ss.map λs=>Nd ((fs.map λf=>(f,s)).map (Pw W V ps)))).foldr min (il W V))=stp W V (OP W V) ps:=by
  unfold stp;simp only[O,L,bS,kz,Pw]
 rw[ot]
def Z0(d:D):(W1 d:Option D).bind PR=PR d:=rfl
theorem lF{W V:Wl}(z:mf W)(I:mf V)(h:Sp W V):∀(n:Nat) (ps:List Pr),Pe W V ps->OV ps->NV W V ps=E3->(MX W.n (ps.map (·.1))).length<n->Af n [MI W V,.tup (ps.map pN)]=W1 (.int (OP W V ps:Nat))
 |0,ps,_,_,_,U=>by omega
 |n+1,ps,J,hs,S,U=>by
  have T:=j_ hs;have Z:ps.length<=5:=cy (qW T J S) z.n5;have lt:=lE (g:=Af n) z I h J T Z λf O s hs L=>by
   have Y:=Gh J (q:=(f,s)) ⟨(Cm.mp O).1,(Cm.mp hs).1⟩;exact lF z I h n _ (JV z I J O hs) (Ke z I Y) (by rw[Kd z I Y];exact QX.mpr ⟨S,L⟩) (eK (Nz z I J O hs) (qE U))
  rw[<-U3 z I J S] at lt;have a:=k_ W V;have m:=N5 (g:=By (Af n)) (ds:=[.tup (ps.map pN)]) (ob4 W V);have k:=lD (in5 z I J) Z;have r:BR (Af n) [.fz (MI W V),.fz (.tup (ps.map pN))]=W1 (.rt (.int (OP W V ps:Nat)) [.fz (MI W V),.fz (.tup (ps.map pN))]):=by
   unfold BR;refine ww (F:=FW W V) (ps:=ps) ?_ ?_ ?_ (tZ W V ps).symm
   .simp only[cK,a]
   .simp only[e_v,SZ,si,so,Z0,k]
   .simp only[cK,GF,m,lt]
  show lu 2 2 (BR (Af n)) [MI W V,.tup (ps.map pN)]=_;simp only[cK,r]
theorem of_ok{W V:Wl}(I:mf W)(J:mf V)(h:Sp W V)(z:List Pr)(L:Pe W V z)(hl:z.length<=5)(hq:(z.foldl NS []).length<=4):CT [MI W V,.lst (z.map pN)]=W1 (.int (OP W V (Am z):Nat)):=by
 have Y:=Kc I J L;have O:(Am z).length<=5:=cy (cA I J L) hl;have t:=wj (in5 I J L) hq;have k:=lD (in5 I J Y) O;have a:=k_ W V;have a1:=kj W V;have a2:=U5 W V;have Z:=af_t W V h (Am z) (by omega);have U:uF (gn "reckoned") (vF 0) [.fz (MI W V),.fz (.lst (z.map pN)),.fz (.tup ((Am z).map pN))]=W1 (.mem (FW W V)):=by simp only[cK,a]
 have T:(vF 2 [.fz (MI W V),.fz (.lst (z.map pN)),.fz (.tup ((Am z).map pN))]).bind PR=W1 (Am z):=by simp only[e_v,SZ,si,so,Z0,k]
 cases e:NV W V (Am z) with
 |true=>
  have S:=lF I J h 8 (Am z) Y (Ke I J L) e (kx (cy (PB _ _) I.n5) (by decide));have m:=N5 (g:=Af 8) (ds:=[.tup ((Am z).map pN)]) (ob1 W V);have b:=qZ (c:="Ranks") (m:="rank_of_fitting") (ft:=Ts (Aj (G7) (Aa (uF (gn "one") (vF 0)) (Aa (uF (gn "other") (vF 0)) (Aa (vF 2) (af)))))) (fr:=Et "Ranks" "rank_of_fitting" (Af 8) (vF 0) (Aa (vF 2) (af))) U T (by simp only[cK,a1,a2,Z,e]);simp only[cK,CT,Eh,t];rw[b];simp only[cK,GF,m,S]
 |false=>
  have b:=qb (c:="Ranks") (m:="rank_of_fitting") (ft:=Ts (Aj (G7) (Aa (uF (gn "one") (vF 0)) (Aa (uF (gn "other") (vF 0)) (Aa (vF 2) (af)))))) (fr:=Et "Ranks" "rank_of_fitting" (Af 8) (vF 0) (Aa (vF 2) (af))) U T (by simp only[cK,a1,a2,Z,e]) (by rw[tZ,MT e];rfl) (by simp only[e_v,SZ,so];rw[<-ob1 W V];rfl);simp only[cK,CT,Eh,t];rw[b,MT e];simp only[cK];rfl
abbrev rO (W:Wl):Str×Bool×D:=("one",ZA,fc W)
abbrev rV (V:Wl):Str×Bool×D:=("other",ZA,fc V)
abbrev rR (W V:Wl):Str×Bool×D:=("reckoned",ZA,.mem (FW W V))
abbrev rE (W V:Wl):Str×Bool×D:=("endless",ZA,.int (il W V:Nat))
theorem Wj(W V:Wl)(x:Addr):Bu x [fc W,fc V]=W1 [rO W,rV V,rR W V,rE W V]:=by
 have z:=Ka W;have S:=Ka V;have mx:=wz W.n V.n;have Z:rc (.int ((max W.n V.n:Nat):Int)) (.int 1)=W1 (.int (il W V:Nat)):=by
  rw[Oh];congr 2
 have J:bF rc (bF maxD (uF (gn "size") (vF 1)) (uF (gn "size") (vF 2))) (kF (.int 1)) [.fz (.adr x),.fz (fc W),.fz (fc V)]=W1 (.int (il W V:Nat)):=by simp only[cK,z,S,mx,Z]
 have T:memE Phi [.fz (.adr x),.fz (fc W),.fz (fc V)]=W1 (.mem (FW W V)):=by
  show W1 (D.mem (FF (fc W) (fc V)))=_;rw[zJ]
 have U:Q7 3 x [fc W,fc V]=[.fz (.adr x),.fz (fc W),.fz (fc V)]:=rfl;unfold Bu XZ;rw[OF (show [fc W,fc V].length+1=3 from rfl),U];unfold GP;have O:HN "one" (vF 1) [.fz (.adr x),.fz (fc W),.fz (fc V)] []=W1 ([.fz (.adr x),.fz (fc W),.fz (fc V)],[rO W]):=rfl;have L:HN "other" (vF 2) [.fz (.adr x),.fz (fc W),.fz (fc V)] [rO W]=W1 ([.fz (.adr x),.fz (fc W),.fz (fc V)],[rO W,rV V]):=by
  have l:cf ("other":Str) [rO W]=E2:=by rw[ck,u1];rfl
  unfold HN;show (if (cf ("other":Str) [rO W]).isNone=E3/\1<1000 then W1 (_,[rO W]++[rV V]) else E2)=_;rw[l,OF ⟨rfl,by decide⟩];rfl
 have Y:HN "reckoned" (memE Phi) [.fz (.adr x),.fz (fc W),.fz (fc V)] [rO W,rV V]=W1 ([.fz (.adr x),.fz (fc W),.fz (fc V)],[rO W,rV V,rR W V]):=by
  have l:cf ("reckoned":Str) [rO W,rV V]=E2:=by
   rw[ck,u2];show cf ("reckoned":Str) [rV V]=E2;rw[ck,u3];rfl
  unfold HN;rw[T];show (if (cf ("reckoned":Str) [rO W,rV V]).isNone=E3/\2<1000 then W1 (_,[rO W,rV V]++[rR W V]) else E2)=_;rw[l,OF ⟨rfl,by decide⟩];rfl
 have I:HN "endless" (bF rc (bF maxD (uF (gn "size") (vF 1)) (uF (gn "size") (vF 2))) (kF (.int 1))) [.fz (.adr x),.fz (fc W),.fz (fc V)] [rO W,rV V,rR W V]=W1 ([.fz (.adr x),.fz (fc W),.fz (fc V)],[rO W,rV V,rR W V,rE W V]):=by
  have l:cf ("endless":Str) [rO W,rV V,rR W V]=E2:=by
   rw[ck,u4];show cf ("endless":Str) [rV V,rR W V]=E2;rw[ck,u5];show cf ("endless":Str) [rR W V]=E2;rw[ck,u6];rfl
  unfold HN;rw[J];show (if (cf ("endless":Str) [rO W,rV V,rR W V]).isNone=E3/\3<1000 then W1 (_,[rO W,rV V,rR W V]++[rE W V]) else E2)=_;rw[l,OF ⟨rfl,by decide⟩];rfl
 rw[Fe,O,Dc,Fe,L,Dc,Fe,Y,Dc,Fe,I,Dc,g8];rfl
def lG(W V:Wl)(fs:FA)(ρ:Rho)(z:fs ρ=W1 [fc W,fc V]):mkI "Ranks" Bu fs ρ=W1 (MI W V):=by
 unfold mkI;rw[z];simp only[eI,Wj W V 0];rw[OF (λx=>Wj W V x)];rfl
theorem QZ:∀{l:List Nat},l≠[]->Nd l∈l
 |[x],_=>by simp[Nd]
 |x::y::l,_=>by
  have z:=QZ (l:=y::l) (by simp);show max x (Nd (y::l))∈_
  rcases LX x (Nd (y::l)) with h | h
  .rw[Nat.max_eq_right h];exact cE _ z
  .rw[Nat.max_eq_left h];exact dn ..
abbrev NO (W:Wl) (ps:List Pr):List Nat:=MX W.n (ps.map (·.1))
abbrev NU (V:Wl) (ps:List Pr):List Nat:=MX V.n (ps.map (·.2))
abbrev rr (W V:Wl) (ps:List Pr) (f s:Nat):Nat:=OP W V (Am (ps++[(f,s)]))
def bsO(W V:Wl)(ps:List Pr):List Nat:=((NO W ps).map λf=>Nd ((NU V ps).map λs=>rr W V ps f s))++(NU V ps).map λs=>Nd ((NO W ps).map λf=>rr W V ps f s)
def mO(W V:Wl)(ps:List Pr):Nat:=(bsO W V ps).foldr min (il W V)
def rr_w{W V:Wl}(I:mf W)(J:mf V){ps:List Pr}(h:Pe W V ps){f s:Nat}(L:f∈NO W ps)(hs:s∈NU V ps):(if TL W V ps (f,s)=E3 then OP W V (Am (ps++[(f,s)])) else 0)=rr W V ps f s:=by
 split
 .rfl
 .rename_i z
  symm
  refine MT ?_;rw[Kd I J (Gh h ⟨(Cm.mp L).1,(Cm.mp hs).1⟩)];cases e:NV W V (ps++[(f,s)]) with
  |false=>rfl
  |true=>exact SF (QX.mp e).2 z
theorem rk_m{W V:Wl}(z:mf W)(I:mf V){ps:List Pr}(h:Pe W V ps)(a:NV W V ps=E3):OP W V ps=min (il W V) (1+mO W V ps):=by
 rw[U3 z I h a];unfold stp mO bsO;simp only;rw[jv (g:=λf=>Nd ((NU V ps).map λs=>rr W V ps f s)) λf J=>by rw[jv λs hs=>rr_w z I h J hs],
  jv (l:=NU V ps) (g:=λs=>Nd ((NO W ps).map λf=>rr W V ps f s)) λs hs=>by rw[jv λf J=>rr_w z I h J hs]]
theorem Wk{W V:Wl}(z:mf W)(I:mf V){ps:List Pr}(h:Pe W V ps){f s:Nat}(O:f∈NO W ps)(hs:s∈NU V ps):(NU V (Am (ps++[(f,s)]))).length<(NU V ps).length:=by
 have k:=Gh h (q:=(f,s)) ⟨(Cm.mp O).1,(Cm.mp hs).1⟩;refine kE (λx J=>?_) hs (aT.mpr ⟨(f,s),(Cw z I k _).mpr (by simp),rfl⟩);obtain⟨p,L,rfl⟩:=aT.mp J;exact aT.mpr ⟨p,(Cw z I k _).mpr (by simp[L]),rfl⟩
abbrev mx (W V:Wl) (ps:List Pr):Nat:=max (NO W ps).length (NU V ps).length
def U6{W V:Wl}{ps:List Pr}{b:Nat}(h:b∈bsO W V ps):(∃f∈NO W ps,b=Nd ((NU V ps).map λs=>rr W V ps f s))∨∃s∈NU V ps,b=Nd ((NO W ps).map λf=>rr W V ps f s):=by
 unfold bsO at h
 rcases dQ.mp h with h | h
 .obtain⟨f,z,rfl⟩:=aT.mp h;exact .inl ⟨f,z,rfl⟩
 .obtain⟨s,hs,rfl⟩:=aT.mp h;exact .inr ⟨s,hs,rfl⟩
def t_{W V:Wl}{ps:List Pr}(k:∀f∈NO W ps,∀s∈NU V ps,rr W V ps f s=il W V∨rr W V ps f s<mx W V ps):mO W V ps=il W V∨mO W V ps<mx W V ps:=by
 have O:mO W V ps<=il W V:=kJ _ _
 rcases Rp (bsO W V ps) (il W V) with e | e
 .exact .inl e
 .have one:∀(l:List Nat),0<mx W V ps->(∀x∈l,x=il W V∨x<mx W V ps)->mO W V ps=Nd l->mO W V ps=il W V∨mO W V ps<mx W V ps:=λl L Y e=>by
   by_cases c:∃x∈l,x=il W V
   .obtain⟨x,I,S⟩:=c;have:=X7 I;exact .inl (by omega)
   .right;rw[e];exact kI L λx I=>(Y x I).elim (λz=>SF ⟨x,I,z⟩ c) id
  rcases U6 (show mO W V ps∈bsO W V ps from e) with ⟨f,J,e⟩ | ⟨s,hs,e⟩
  .have:=tm J;exact one _ (by unfold mx;omega) (λx I=>by obtain⟨s,hs,rfl⟩:=aT.mp I;exact k f J s hs) e
  .have:=tm hs;exact one _ (by unfold mx;omega) (λx I=>by obtain⟨f,J,rfl⟩:=aT.mp I;exact k f J s hs) e
theorem rk_u{W V:Wl}(I:mf W)(J:mf V):∀(n:Nat) (ps:List Pr),Pe W V ps->(NO W ps).length<n->OP W V ps=il W V∨OP W V ps<=mx W V ps
 |0,_,_,h=>by omega
 |n+1,ps,L,S=>by
  cases a:NV W V ps with
  |false=>exact .inr (by rw[MT a];exact eA _)
  |true=>
   have g:=t_ (W:=W) (V:=V) (ps:=ps) λf O s hs=>by
    have u1:(NO W (Am (ps++[(f,s)]))).length<(NO W ps).length:=Nz I J L O hs;have u2:=Wk I J L O hs
    rcases rk_u I J n _ (JV I J L O hs) (by omega) with z | z
    .exact .inl z
    .right;show OP W V (Am (ps++[(f,s)]))<_;unfold mx at z ⊢;omega
   rw[rk_m I J L a];omega
def Qr(W V:Wl)(c r:Nat):Prop:=r=il W V∨c<r
theorem gap2{W V:Wl}(I:mf W)(J:mf V){ps:List Pr}(L:Pe W V ps):mO W V ps=il W V∨mO W V ps+2<=il W V:=by
 have Z:(NO W ps).length<=W.n:=PB _ _;have Y:(NU V ps).length<=V.n:=PB _ _;have g:=t_ (W:=W) (V:=V) (ps:=ps) λf O s hs=>by
  have u1:(NO W (Am (ps++[(f,s)]))).length<(NO W ps).length:=Nz I J L O hs;have u2:=Wk I J L O hs
  rcases rk_u I J _ _ (JV I J L O hs) (pw _) with z | z
  .exact .inl z
  .right;show OP W V (Am (ps++[(f,s)]))<_;unfold mx at z ⊢;omega
 unfold mx at g;unfold il at g ⊢;omega
def Z1{W V:Wl}{x y:Nat}(h:x<=y)(z:y<=il W V)(q:Qr W V c x):Qr W V c y:=by
 unfold Qr at *;omega
def U7{W V:Wl}(Y:∀x∈l,x<=il W V):Qr W V c (Nd l)↔∃x∈l,Qr W V c x:=by
 constructor
 .intro h;cases l with
  |nil=>
   have:il W V≠0:=by unfold il;omega
   have z:Nd []=0:=rfl;rw[z] at h;unfold Qr at h;omega
  |cons y r=>exact⟨_,QZ (by simp),h⟩
 .rintro⟨x,I,h⟩;refine Z1 (X7 I) ?_ h;cases l with
  |nil=>cases I
  |cons y r=>exact Y _ (QZ (by simp))
def w5{W V:Wl}(Y:∀x∈l,x<=il W V):Qr W V c (l.foldr min (il W V))↔∀x∈l,Qr W V c x:=by
 constructor
 .intro h x z;exact Z1 (Zx z) (Y x z) h
 .intro h
  rcases Rp l (il W V) with e | e
  .exact .inl e
  .exact h _ e
def qe{W V:Wl}(J:mf W)(L:mf V){ps:List Pr}(O:Pe W V ps)(a:NV W V ps=E3)(c:Nat):Qr W V (c+1) (OP W V ps) ↔
  (∀f∈NO W ps,∃s∈NU V ps,Qr W V c (rr W V ps f s))/\∀s∈NU V ps,∃f∈NO W ps,Qr W V c (rr W V ps f s):=by
 have S:∀f∈NO W ps,∀s∈NU V ps,rr W V ps f s<=il W V:=λf z s hs=>zH J L (JV J L O z hs);have Z:∀f∈NO W ps,∀x∈(NU V ps).map (λs=>rr W V ps f s),x<=il W V:=λf z x I=>by
  obtain⟨s,hs,rfl⟩:=aT.mp I;exact S f z s hs
 have Y:∀s∈NU V ps,∀x∈(NO W ps).map (λf=>rr W V ps f s),x<=il W V:=λs hs x I=>by
  obtain⟨f,z,rfl⟩:=aT.mp I;exact S f z s hs
 have bl:∀l:List Nat,(∀x∈l,x<=il W V)->Nd l<=il W V:=λl hl=>by
  cases l with
  |nil=>exact eA _
  |cons y r=>exact hl _ (QZ (by simp))
 have U:∀x∈bsO W V ps,x<=il W V:=λx I=>by
  rcases U6 I with ⟨f,z,rfl⟩ | ⟨s,hs,rfl⟩
  .exact bl _ (Z f z)
  .exact bl _ (Y s hs)
 have T:Qr W V (c+1) (OP W V ps)↔Qr W V c (mO W V ps):=by
  have g:=gap2 J L O;rw[rk_m J L O a];unfold Qr;omega
 rw[T];unfold mO;rw[w5 U];constructor
 .intro h;refine⟨λf z=>?_,λs hs=>?_⟩
  .have:=(U7 (Z f z)).mp (h _ (kG _ (aT.mpr ⟨f,z,rfl⟩)));obtain⟨x,I,q⟩:=this;obtain⟨s,hs,rfl⟩:=aT.mp I;exact⟨s,hs,q⟩
  .have:=(U7 (Y s hs)).mp (h _ (gX _ (aT.mpr ⟨s,hs,rfl⟩)));obtain⟨x,I,q⟩:=this;obtain⟨f,z,rfl⟩:=aT.mp I;exact⟨f,z,q⟩
 .rintro⟨h1,h2⟩ x I
  rcases U6 I with ⟨f,z,rfl⟩ | ⟨s,hs,rfl⟩
  .obtain⟨s,hs,q⟩:=h1 f z;exact (U7 (Z f z)).mpr ⟨_,aT.mpr ⟨s,hs,rfl⟩,q⟩
  .obtain⟨f,z,q⟩:=h2 s hs;exact (U7 (Y s hs)).mpr ⟨_,aT.mpr ⟨f,z,rfl⟩,q⟩
def Lb(W V:Wl):Nat->List Pr->Bool
 |0,z=>NV W V z
 |c+1,z=>NV W V z&&(((NO W z).all λf=>(NU V z).any λs=>Lb W V c (z++[(f,s)]))&&(NU V z).all λs=>(NO W z).any λf=>Lb W V c (z++[(f,s)]))
def Wm{xs ys:List Nat}(h:∀x,x∈xs↔x∈ys):MX n xs=MX n ys:=by
 unfold MX;exact F3 λt _=>by rw[decide_eq_decide,h]
theorem uA{W V:Wl}(I:mf W)(J:mf V):∀(c:Nat) (rows:List Pr),Pe W V rows->(Lb W V c rows=E3↔Qr W V c (OP W V (Am rows)))
 |0,rows,L=>by
  have O:=Kd I J L;cases a:NV W V rows with
  |false=>
   rw[a] at O;rw[MT O];unfold Lb Qr il;rw[a];simp
  |true=>
   rw[a] at O;rw[rk_m I J (Kc I J L) O];unfold Lb Qr;rw[a];have:1<=il W V:=by unfold il;omega
   simp only[true_iff];omega
 |c+1,rows,L=>by
  have O:=Kd I J L;cases a:NV W V rows with
  |false=>
   rw[a] at O;rw[MT O];unfold Lb Qr il;rw[a];simp
  |true=>
   rw[a] at O;rw[qe I J (Kc I J L) O c];have e1:NO W (Am rows)=NO W rows:=Wm λx=>by simp only[aT,Cw I J L]
   have Z:NU V (Am rows)=NU V rows:=Wm λx=>by simp only[aT,Cw I J L]
   have S:∀f∈NO W rows,∀s∈NU V rows,(Qr W V c (rr W V (Am rows) f s)↔Lb W V c (rows++[(f,s)])=E3):=λf z s hs=>by
    have T:(f,s).1<W.n/\(f,s).2<V.n:=⟨(Cm.mp z).1,(Cm.mp hs).1⟩;rw[uA I J c _ (Gh L T)];have:Am (Am rows++[(f,s)])=Am (rows++[(f,s)]):=b_ I J (Gh (Kc I J L) T) (Gh L T) λx=>by simp[Cw I J L]
    unfold rr;rw[this]
   rw[e1,Z];unfold Lb;rw[a,ve,fh,dL,dL];constructor
   .rintro⟨Y,U⟩;refine⟨λf z=>?_,λs hs=>?_⟩
    .obtain⟨s,hs,q⟩:=qr.mp (Y f z);exact⟨s,hs,(S f z s hs).mpr q⟩
    .obtain⟨f,z,q⟩:=qr.mp (U s hs);exact⟨f,z,(S f z s hs).mpr q⟩
   .rintro⟨Y,U⟩;refine⟨λf z=>?_,λs hs=>?_⟩
    .obtain⟨s,hs,q⟩:=Y f z;exact qr.mpr ⟨s,hs,(S f z s hs).mp q⟩
    .obtain⟨f,z,q⟩:=U s hs;exact qr.mpr ⟨f,z,(S f z s hs).mp q⟩
abbrev Tr:=Nat×Nat×Nat
abbrev VU (ts:List Tr):List Pr:=ts.map λt=>(t.1,t.2.1)
abbrev p23 (ts:List Tr):List Pr:=ts.map λt=>(t.2.1,t.2.2)
abbrev TK (ts:List Tr):List Pr:=ts.map λt=>(t.1,t.2.2)
def U8(W V:Wl)(p q:Pr):SY W V p q=E3↔(decide (p.1=q.1)=decide (p.2=q.2)/\Di W V p q=E3/\Di W V q p=E3):=by
 unfold SY;rw[fh,fh,SG]
def qg{W:Wl}{a b:Nat}(h:HS W W (a,b)=E3)(k:HS W W (b,c)=E3):HS W W (a,c)=E3:=by
 unfold HS at *;rw[dL] at *;intro w z;have:=h w z;have:=k w z;simp only[SG] at *;exact (h w z).trans (k w z)
def U9{W:Wl}{a b d e f:Nat}(h:Di W W (a,b) (d,e)=E3)(k:Di W W (b,c) (e,f)=E3):Di W W (a,c) (d,f)=E3:=by
 unfold Di at *;rw[dL] at *;intro w z;simp only[SG] at *;exact (h w z).trans (k w z)
def uB{W:Wl}{ts:List Tr}(h:NV W W (VU ts)=E3)(k:NV W W (p23 ts)=E3):NV W W (TK ts)=E3:=by
 rw[K4] at *;intro p I;obtain⟨t,O,rfl⟩:=aT.mp I;have z:=h _ (aT.mpr ⟨t,O,rfl⟩);have L:=k _ (aT.mpr ⟨t,O,rfl⟩);refine⟨⟨qg z.1.1 L.1.1,U9 z.1.2 L.1.2⟩,λq T=>?_⟩;obtain⟨u,S,rfl⟩:=aT.mp T;obtain⟨Z,U,Y⟩:=(U8 _ _ _ _).mp (z.2 _ (aT.mpr ⟨u,S,rfl⟩));obtain⟨b1,b2,J⟩:=(U8 _ _ _ _).mp (L.2 _ (aT.mpr ⟨u,S,rfl⟩));exact (U8 _ _ _ _).mpr ⟨Z.trans b1,U9 U b2,U9 Y J⟩
def Qa{W V:Wl}{z:List Pr}:Lb W V (c+1) z=E3↔NV W V z=E3/\(∀f∈NO W z,∃s∈NU V z,Lb W V c (z++[(f,s)])=E3)/\∀s∈NU V z,∃f∈NO W z,Lb W V c (z++[(f,s)])=E3:=by
 show (NV W V z&&(((NO W z).all λf=>(NU V z).any λs=>Lb W V c (z++[(f,s)]))&&(NU V z).all λs=>(NO W z).any λf=>Lb W V c (z++[(f,s)])))=E3↔_;simp only[fh,dL,qr]
theorem uC{W:Wl}:∀{c:Nat}{ts:List Tr},Lb W W c (VU ts)=E3->Lb W W c (p23 ts)=E3->Lb W W c (TK ts)=E3
 |0,ts,h,k=>uB h k
 |c+1,ts,h,k=>by
  obtain⟨h0,h1,h2⟩:=Qa.mp h;obtain⟨k0,k1,Y⟩:=Qa.mp k;have Z:∀f s u,Lb W W c (VU ts++[(f,s)])=E3->Lb W W c (p23 ts++[(s,u)])=E3->Lb W W c (TK ts++[(f,u)])=E3:=λf s u a b=>by
   have U:VU (ts++[(f,s,u)])=VU ts++[(f,s)]:=dc;have T:p23 (ts++[(f,s,u)])=p23 ts++[(s,u)]:=dc;have O:TK (ts++[(f,s,u)])=TK ts++[(f,u)]:=dc;rw[<-O];exact uC (by rw[U];exact a) (by rw[T];exact b)
  have L:NO W (TK ts)=NO W (VU ts):=by show MX _ _=MX _ _;rw[bS,bS];rfl
  have J:NU W (VU ts)=NO W (p23 ts):=by show MX _ _=MX _ _;rw[bS,bS];rfl
  have I:NU W (TK ts)=NU W (p23 ts):=by show MX _ _=MX _ _;rw[bS,bS];rfl
  refine Qa.mpr ⟨uB h0 k0,λf z=>?_,λu S=>?_⟩
  .rw[L] at z;obtain⟨s,hs,a⟩:=h1 f z;rw[J] at hs;obtain⟨u,S,b⟩:=k1 s hs;exact⟨u,by rw[I];exact S,Z f s u a b⟩
  .rw[I] at S;obtain⟨s,hs,b⟩:=Y u S;rw[<-J] at hs;obtain⟨f,z,a⟩:=h2 s hs;exact⟨f,by rw[L];exact z,Z f s u a b⟩
theorem Z2{W:Wl}:∀{c:Nat}{xs:List Nat},Lb W W c (xs.map λx=>(x,x))=E3
 |0,xs=>by
  refine (K4 _ _ _).mpr λp J=>?_;obtain⟨x,S,rfl⟩:=aT.mp J;have l:∀y z:Nat,Di W W (y,y) (z,z)=E3:=λy z=>by unfold Di;rw[dL];intro w _;simp
  refine⟨⟨by unfold HS;rw[dL];intro w _;simp,l x x⟩,λq T=>?_⟩;obtain⟨y,O,rfl⟩:=aT.mp T;exact (U8 _ _ _ _).mpr ⟨rfl,l x y,l y x⟩
 |c+1,xs=>by
  have e:∀f,(xs.map λx=>((x,x):Pr))++[(f,f)]=(xs++[f]).map λx=>(x,x):=λf=>by rw[dc];rfl
  have I:NU W (xs.map λx=>(x,x))=NO W (xs.map λx=>(x,x)):=by show MX _ _=MX _ _;rw[bS,bS];rfl
  refine Qa.mpr ⟨Z2 (c:=0),λf L=>⟨f,by rw[I];exact L,by rw[e];exact Z2⟩,λs hs=>⟨s,by rw[<-I];exact hs,by rw[e];exact Z2⟩⟩
def al(W:Wl)(c a b:Nat):Prop:=Lb W W c [(a,b)]=E3
theorem uD(W:Wl)(c a:Nat):al W c a a:=Z2 (xs:=[a])
def uE{W:Wl}{x y z:Nat}(h:al W c x y)(k:al W c y z):al W c x z:=uC (ts:=[(x,y,z)]) h k
abbrev Si (p:Pr):Pr:=(p.2,p.1)
def Wn{I:Type}{l m:List I}(h:l.Perm m)(f:I->Bool):l.all f=m.all f:=by
 rw[ib,dL,dL];exact⟨λk x z=>k x (h.mem_iff.mpr z),λk x z=>k x (h.mem_iff.mp z)⟩
def U_(a b:Bool):(a==b)=(b==a):=by cases a<;>cases b<;>rfl
theorem Z3{W V:Wl}(h:Spk W V)(rows:List Pr):NV V W (rows.map Si)=NV W V rows:=by
 have b:∀p,HS V W (Si p)=HS W V p:=λp=>by
  unfold HS;rw[Wn h.mm];congr 1;funext w;exact U_ _ _
 have l:∀p q,Di V W (Si p) (Si q)=Di W V p q:=λp q=>by
  unfold Di;rw[Wn h.tt];congr 1;funext w;exact U_ _ _
 have g:∀p q,SY V W (Si p) (Si q)=SY W V p q:=λp q=>by
  unfold SY;rw[l,l,U_]
 unfold NV;rw[xp];congr 1;funext p;show (HS V W (Si p)&&Di V W (Si p) (Si p)&&(rows.map Si).all (SY V W (Si p)))=_;rw[xp,b,l];congr 2;funext q;exact g p q
theorem lH{W V:Wl}(h:Spk W V):∀(c:Nat) (rows:List Pr),Lb V W c (rows.map Si)=Lb W V c rows
 |0,rows=>Z3 h rows
 |c+1,rows=>by
  have J:NO V (rows.map Si)=NU V rows:=by show MX V.n ((rows.map Si).map (·.1))=_;rw[bS];rfl
  have I:NU W (rows.map Si)=NO W rows:=by show MX W.n ((rows.map Si).map (·.2))=_;rw[bS];rfl
  have z:∀f s,Lb V W c (rows.map Si++[(s,f)])=Lb W V c (rows++[(f,s)]):=λf s=>by
   rw[<-lH h c (rows++[(f,s)]),dc];rfl
  show (NV V W (rows.map Si)&&(((NO V (rows.map Si)).all λs=>(NU W (rows.map Si)).any λf=>Lb V W c (rows.map Si++[(s,f)]))&&(NU W (rows.map Si)).all λf=>(NO V (rows.map Si)).any λs=>Lb V W c (rows.map Si++[(s,f)])))=(NV W V rows&&(((NO W rows).all λf=>(NU V rows).any λs=>Lb W V c (rows++[(f,s)]))&&(NU V rows).all λs=>(NO W rows).any λf=>Lb W V c (rows++[(f,s)])));rw[Z3 h,J,I,LV ((NU V rows).all _)];simp only[z]
def lJ{W:Wl}{x y:Nat}(h:al W c x y):al W c y x:=by
 have:=lH (W:=W) (V:=W) ⟨lI _,lI _⟩ c [(x,y)];unfold al at *;rw[<-h];exact this
theorem lK:∀(l z:List Pr),(l.foldl NS z).length<=z.length+l.length
 |[],z=>aE _
 |x::l,z=>by
  refine cy (lK l (NS z x)) ?_;rw[db];unfold NS;split<;>simp<;>omega
def fq4{l:List Pr}(h:l.length<=4):(l.foldl NS []).length<=4:=by
 have:=lK l [];simp at this;omega
def zN(a b:Nat):ltD (.int (a:Int)) (.int (b:Int))=W1 (.bl (decide (a<b))):=by
 rw[SQ];congr 2;rw[decide_eq_decide];omega
def qB(W V:Wl)(c r:Nat):Bool:=decide (r=il W V)||decide (c<r)
def obL(W V:Wl):Dg "Ranks" "last" (MI W V)=E3:=rfl
theorem Z4{W V:Wl}(J:mf W)(L:mf V)(h:Sp W V)(I:List Pr)(O:Pe W V I)(Y:I.length<=4)(c:Nat):Br [MI W V,.lst (I.map pN),.int (c:Int)]=W1 (.bl (qB W V c (OP W V (Am I)))):=by
 have o:=of_ok J L h I O (by omega) (fq4 Y);have m:=N5 (g:=CT) (ds:=[.lst (I.map pN)]) (ob5 W V);have a:=lC W V;have lt:=zN c (OP W V (Am I));have e:=j8 (OP W V (Am I)) (il W V);unfold qB
 by_cases z:OP W V (Am I)=il W V
 .rw[MG z] at e ⊢;simp only[cK,Br,G3,GF,m,o,a,e,HG]
 .rw[UF z] at e ⊢;simp only[cK,Br,G3,GF,m,o,a,e,lt,DF]
theorem lL{W V:Wl}(I:mf W)(J:mf V)(h:Spk W V)(z:List Pr)(L:Pe W V z)(Y:z.length<=4)(c:Nat):NZ [fc W,fc V,.lst (z.map pN),.int (c:Int)]=W1 (.bl (qB W V c (OP W V (Am z)))):=by
 have s:=X6 W V I J h z L;have t:=Z4 I J h.sp z L Y c;have m:=N5 (g:=Br) (ds:=[.lst (z.map pN),.int (c:Int)]) (obL W V);have mk:=lG W V (Aa (vF 0) (Aa (vF 1) af)) [.fz (fc W),.fz (fc V),.fz (.lst (z.map pN)),.fz (.int (c:Int))] (by simp only[cK]);simp only[cK,NZ,Ut,s,GF,mk,m,t]
def zO{W:Wl}(h:mf W):(mw W).Nodup:=(gE.mp h.nd).1
def zP{W:Wl}(h:mf W):(tw W).Nodup:=(gE.mp h.nd).2.1
def xF(I:List (Str×List Nat))(w:Str)(l:List Nat)(h:w∉I.map (·.1))(Y:I.length<=100):DP (.dk (eM I)) (.str w) (lM l)=W1 (.dk (eM (I++[(w,l)]))):=by
 rw[Ow _ _ _ (by simp[eM];omega)];have:(.inr w:Key)∉(eM I).map (·.1):=Ho lM h;rw[uj this];simp[eM]
def xG(I:List (Str×List (Nat×Nat)))(w:Str)(l:List (Nat×Nat))(h:w∉I.map (·.1))(Y:I.length<=100):DP (.dk (eT I)) (.str w) (lT l)=W1 (.dk (eT (I++[(w,l)]))):=by
 rw[Ow _ _ _ (by simp[eT];omega)];have:(.inr w:Key)∉(eT I).map (·.1):=Ho lT h;rw[uj this];simp[eT]
def Z5{z:Type}(l:List z)(e:z->D)(P:z->Bool)(hs:src ρ=W1 (l.map e))(T:l.length<=1000)(h1:∀x∈l,ga (ρ++[.fz (e x)])=W1 (P x))(S:∀x∈l,fe (ρ++[.fz (e x)])=W1 (e x)):BZ src ga fe ρ=W1 (.lst ((l.filter P).map e)):=by
 have c:∀l:List z,(∀x∈l,ga (ρ++[.fz (e x)])=W1 (P x))->(∀x∈l,fe (ρ++[.fz (e x)])=W1 (e x))->I_ ρ ga fe (l.map e)=W1 ((l.filter P).map e):=by
  intro l
  induction l with
  |nil=>intro _ _;rfl
  |cons x r O=>
   intro U L;have i:=O (λd I=>U d (by simp[I])) λd I=>L d (by simp[I]);rw[bn,Jb,U x (by simp)];cases J:P x with
   |true=>
    rw[L x (by simp),i,yR,List.filter_cons_of_pos J];rfl
   |false=>
    rw[yS,i,List.filter_cons_of_neg (by simp[J])]
 exact QL hs (by rw[aw];omega) (c l h1 S)
def XY(m:Int)(p:Str×List Nat):Str×List Nat:=(p.1,p.2.filter λt=>decide (m%4<=(t:Int)))
def trT(m:Int)(p:Str×List (Nat×Nat)):Str×List (Nat×Nat):=(p.1,p.2.filter λq=>decide (m%4<=(q.1:Int))&&decide (m%4<=(q.2:Int)))
def trW(m:Int)(W:Wl):Wl:=⟨W.n,W.ms.map (XY m),W.ts.map (trT m)⟩
def xH(m:Int)(W:Wl)(h:mf W):mf (trW m W):=by
 have J:(W.ms.map (XY m)).map (·.1)=W.ms.map (·.1):=by rw[bS];rfl
 have I:(W.ts.map (trT m)).map (·.1)=W.ts.map (·.1):=by rw[bS];rfl
 refine⟨h.n5,by simpa [trW] using h.m3,by simpa [trW] using h.t3,λp z=>?_,λp z=>?_,?_,λp z=>?_,λp z=>?_⟩
 .obtain⟨q,T,rfl⟩:=aT.mp z;exact h.mw q T
 .obtain⟨q,T,rfl⟩:=aT.mp z;exact h.tw q T
 .show ((W.ms.map (XY m)).map (·.1)++(W.ts.map (trT m)).map (·.1)).Nodup;rw[J,I];exact h.nd
 .obtain⟨q,T,rfl⟩:=aT.mp z;have a:=h.ml q T;exact⟨a.1.filter _,cy (ng _ _) a.2.1,λt O=>a.2.2 t (d4.mp O).1⟩
 .obtain⟨q,T,rfl⟩:=aT.mp z;have a:=h.tl q T;exact⟨a.1.filter _,cy (ng _ _) a.2.1,λt O=>a.2.2 t (d4.mp O).1⟩
def ge_n(t:Nat)(c:Int):geD (.int (t:Int)) (.int (c%4))=W1 (.bl (decide (c%4<=(t:Int)))):=Yj _ _
def mod4(c:Int):tx (.int c) (.int 4)=W1 (.int (c%4)):=Gp c 4 (by decide)
theorem lO(m:Int)(W:Wl)(h:mf W)(I:PV.Slot):∀(r p:List (Str×List Nat)) (z:PV.Slot),W.ms=p++r ->
  ∃S,vb (SL (Bh 4) GZ) ((r.map (·.1)).map .str) [.fz (wd W),.fz (.int m),.ow (.dk (eM (p.map (XY m)))),I,z]=W1 (.nx [.fz (wd W),.fz (.int m),.ow (.dk (eM ((p++r).map (XY m)))),I,S])
 |[],p,z,e=>⟨z,by rw[g9];rfl⟩
 |q::r,p,z,e=>by
  have T:q∈W.ms:=by rw[e];simp
  have U:=ixw1 W;have a:=at_M W h T;have ml:=h.ml q T;have Z:q.1∉p.map (·.1):=by
   have:(W.ms.map (·.1)).Nodup:=zO h;rw[e,dc,gE] at this;exact λz=>this.2.2 q.1 z q.1 (by simp) rfl
  have cm:BZ (pq (bF oo (bF oo (vF 0) (kF (.int 1))) (vF 4))) Ik Il [.fz (wd W),.fz (.int m),.ow (.dk (eM (p.map (XY m)))),I,.fz (.str q.1)]=W1 (lM (XY m q).2):=by
   refine Z5 q.2 iN (λt=>decide (m%4<=(t:Int))) ?_ (by omega) (λt Y=>?_) λt Y=>?_
   .simp only[cK,U,a,DX];exact Fd _
   .have:=ge_n t m;have J:=mod4 m;simp only[cK,Ik,J,this]
   .simp only[cK,Il]
  have O:=xF (p.map (XY m)) q.1 (XY m q).2 (by rw[bS];exact Z) (by
   have:=NG eS e;rw[ff,db] at this;have:=h.m3;rw[aw];omega)
  have b:GZ [.fz (wd W),.fz (.int m),.ow (.dk (eM (p.map (XY m)))),I,.fz (.str q.1)]=W1 (.nx [.fz (wd W),.fz (.int m),.ow (.dk (eM ((p++[q]).map (XY m)))),I,.fz (.str q.1)]):=by
   rw[dc];simp only[GZ,Vy,e_v,si,so,SZ,Oj,cm,Q_,O,Yu,oB,oC,bn,ja];rfl
  obtain⟨S,L⟩:=lO m W h I r (p++[q]) (.fz (.str q.1)) (by rw[e];simp);refine⟨S,?_⟩;rw[bn,bn,Dr,Qb,Ii,JD];simp only[oB,oC];rw[b,Ds,L];simp
theorem lQ(m:Int)(W:Wl)(h:mf W)(I:PV.Slot):∀(r p:List (Str×List (Nat×Nat))) (z:PV.Slot),W.ts=p++r ->
  ∃S,vb (SL (Bh 4) Gb) ((r.map (·.1)).map .str) [.fz (wd W),.fz (.int m),I,.ow (.dk (eT (p.map (trT m)))),z]=W1 (.nx [.fz (wd W),.fz (.int m),I,.ow (.dk (eT ((p++r).map (trT m)))),S])
 |[],p,z,e=>⟨z,by rw[g9];rfl⟩
 |q::r,p,z,e=>by
  have T:q∈W.ts:=by rw[e];simp
  have i1:=ixw2 W;have a:=at_T W h T;have ml:=h.tl q T;have Y:q.1∉p.map (·.1):=by
   have:(W.ts.map (·.1)).Nodup:=zP h;rw[e,dc,gE] at this;exact λz=>this.2.2 q.1 z q.1 (by simp) rfl
  have cm:BZ (pq (bF oo (bF oo (vF 0) (kF (.int 2))) (vF 4))) Ga Im [.fz (wd W),.fz (.int m),I,.ow (.dk (eT (p.map (trT m)))),.fz (.str q.1)]=W1 (lT (trT m q).2):=by
   refine Z5 q.2 pN (λq=>decide (m%4<=(q.1:Int))&&decide (m%4<=(q.2:Int))) ?_ (by omega) (λt ht=>?_) λt ht=>?_
   .simp only[cK,i1,a,DX];exact Fd _
   .have Z:=ge_n t.1 m;have J:=mod4 m;have l2:=ge_n t.2 m;have O:oo (pN t) (.int 0)=W1 (.int (t.1:Int)):=rfl;have L:oo (pN t) (.int 1)=W1 (.int (t.2:Int)):=rfl;cases b:decide (m%4<=(t.1:Int)) with
    |true=>
     rw[b] at Z;simp only[cK,Ga,J,O,L,Z,l2,ve]
    |false=>
     rw[b] at Z;simp only[cK,Ga,J,O,L,Z,zD]
   .simp only[cK,Im]
  have U:=xG (p.map (trT m)) q.1 (trT m q).2 (by rw[bS];exact Y) (by
   have:=NG eS e;rw[ff,db] at this;have:=h.t3;rw[aw];omega)
  have b:Gb [.fz (wd W),.fz (.int m),I,.ow (.dk (eT (p.map (trT m)))),.fz (.str q.1)]=W1 (.nx [.fz (wd W),.fz (.int m),I,.ow (.dk (eT ((p++[q]).map (trT m)))),.fz (.str q.1)]):=by
   rw[dc];simp only[Gb,Vy,e_v,si,so,SZ,Oj,cm,Q_,U,Yu,oB,oC,bn,ja];rfl
  obtain⟨S,ih⟩:=lQ m W h I r (p++[q]) (.fz (.str q.1)) (by rw[e];simp);refine⟨S,?_⟩;rw[bn,bn,Dr,Qb,Ii,JD];simp only[oB,oC];rw[b,Ds,ih];simp
def qi(W:Wl)(h:mf W)(m:Int):CZ [wd W,.int m]=W1 (wd (trW m W)):=by
 obtain⟨z,Z⟩:=lO m W h (.ow (.dk [])) W.ms [] .un rfl;obtain⟨U,Y⟩:=lQ m W h (.ow (.dk (eM (W.ms.map (XY m))))) W.ts [] z rfl;rw[oy] at Z Y;have O:=ixw0 W;have L:=ixw1 W;have J:=ixw2 W;have q1:J6 (W1 (.dk (eM W.ms)))=W1 ((W.ms.map (·.1)).map .str):=by rw[M6,qP]
 have q2:J6 (W1 (.dk (eT W.ts)))=W1 ((W.ts.map (·.1)).map .str):=by rw[M6,qQ]
 have I:setW 2 (kF (.dk [])) [.fz (wd W),.fz (.int m),.un,.un,.un]=W1 (.nx [.fz (wd W),.fz (.int m),.ow (.dk (eM (([]:List (Str×List Nat)).map (XY m)))),.un,.un]):=rfl;have S:setW 3 (kF (.dk [])) [.fz (wd W),.fz (.int m),.ow (.dk (eM (([]:List (Str×List Nat)).map (XY m)))),.un,.un]=W1 (.nx [.fz (wd W),.fz (.int m),.ow (.dk (eM (([]:List (Str×List Nat)).map (XY m)))),.ow (.dk []),.un]):=rfl;have T:D.dk []=D.dk (eT (([]:List (Str×List (Nat×Nat))).map (trT m))):=rfl;unfold CZ KD;rw[Yt (show [wd W,D.int m].length=2 from rfl),Mv];simp only[db,A9,bn,ja,LZ,M0,M1,M2,Mb,oy];rw[Ph,I,Ta,Ph,S,Ta,Ph,Ys];simp only[DX,e_b,e_v,si,so,SZ,e_k,e_bs,L,q1,T_];rw[Z,Ta,Ph,Ys];simp only[DX,e_b,e_v,si,so,SZ,e_k,e_bs,J,q2,T_];rw[T,Y,Ta];simp only[dK,O];rfl
abbrev XI (W:Wl) (c a b:Nat):Bool:=Lb W W c [(a,b)]
def uG(W:Wl):Spk W W:=⟨lI _,lI _⟩
def al_q{W:Wl}(z:mf W)(c:Nat){a b:Nat}(L:a<W.n)(J:b<W.n):qB W W c (OP W W (Am [(a,b)]))=XI W c a b:=by
 have:=uA z z c [(a,b)] λp I=>by cases fR.mp I;exact⟨L,J⟩
 unfold Qr at this;unfold qB;rw[ib,IJ,hH,hH,this]
def fa(W:Wl)(c t:Nat):Nat:=((bb (t+1)).find? λe=>XI W c e t).getD 0
def QC(W:Wl)(c t:Nat):fa W c t<=t/\al W c (fa W c t) t/\∀e,e<=t->al W c e t->fa W c t<=e:=by
 unfold fa;cases h:(bb (t+1)).find? λe=>XI W c e t with
 |none=>
  have:=LU.mp h t (da.mpr (pw t));exact SF (uD W c t) this
 |some m=>
  obtain⟨J,I,S⟩:=List.find?_range_eq_some.mp h;refine⟨qE (da.mp I),J,λe L a=>?_⟩
  rcases qh e m with z | z
  .have:=S e z;rw[show XI W c e t=E3 from a] at this;cases this
  .exact z
def uH{W:Wl}{a b:Nat}(h:al W c a b):fa W c a<=fa W c b:=by
 obtain⟨L,I,Y⟩:=QC W c a;obtain⟨b1,b2,J⟩:=QC W c b
 rcases qh a (fa W c b) with z | z
 .omega
 .exact Y _ z (uE b2 (lJ h))
def lR(W:Wl)(c a b:Nat):fa W c a=fa W c b↔al W c a b:=by
 constructor
 .intro h;have I:=(QC W c a).2.1;rw[h] at I;exact uE (lJ I) (QC W c b).2.1
 .exact λh=>Nat.le_antisymm (uH h) (uH (lJ h))
def xJ(h:l≠[]):∃m,Zd (.lst (l.map iN))=W1 (.int (m:Nat))/\m∈l/\∀x∈l,m<=x:=by
 have I:0<l.length:=DZ.mpr h;have n:¬ (l.map λ(t:Nat)=>(t:Int))=[]:=by simpa using h
 obtain⟨⟨i,J,e⟩,k⟩:=X8 (λi=>(l.map λ(t:Nat)=>(t:Int)).getD i 0) (l.length-1);have Y:i<l.length:=by omega
 refine⟨l[i],?_,eW _,λx z=>?_⟩
 .show (Ey (l.map iN)).bind _=_;rw[U4];show (if (l.map λ(t:Nat)=>(t:Int))=[] then E2 else _)=_;rw[RF n,aw,e,Jl l i Y]
 .obtain⟨j,U,rfl⟩:=ol.mp z;have:=k j (by omega);rw[e] at this;simp only[Jl l i Y,Jl l j U] at this;omega
theorem lU{W:Wl}(I:mf W)(c t:Nat)(O:t<W.n):Ge [MI W W,.int (t:Int),.int (c:Int)]=W1 (.int (fa W c t:Nat)):=by
 have n5:=I.n5;have cm:BZ (MU (bF rc (vF 1) (kF (.int 1)))) Gs Gu [.fz (MI W W),.fz (.int (t:Int)),.fz (.int (c:Int))]=W1 (.lst (((bb (t+1)).filter λe=>XI W c e t).map iN)):=by
  refine G8 (n:=t+1) (λe=>XI W c e t) iN _ ?_ (by omega) (λk hk=>?_) λk hk=>?_
  .have a:=Oh (t:Int) 1;have r:=Ih ((t:Int)+1) (by omega);simp only[cK,Oi,a,r];congr 2
  .have l:=Z4 I I (uG W).sp [(k,t)] (λp Y=>by cases fR.mp Y;exact⟨by omega,O⟩) (by simp) c;have m:=N5 (g:=Br) (ds:=[.lst [pN (k,t)],.int (c:Int)]) (obL W W);rw[al_q I c (by omega) O] at l;have T:Br [MI W W,.lst [pN (k,t)],.int (c:Int)]=W1 (.bl (XI W c k t)):=l;simp only[cK,Gs,GF,m,T]
  .simp only[cK,Gu]
 have J:((bb (t+1)).filter λe=>XI W c e t)≠[]:=λz=>by
  have:t∈(bb (t+1)).filter λe=>XI W c e t:=d4.mpr ⟨da.mpr (pw t),uD W c t⟩;rw[z] at this;cases this
 obtain⟨m,e,Z,U⟩:=xJ J;obtain⟨f1,f2,f3⟩:=QC W c t;have em:m=fa W c t:=by
  obtain⟨S,L⟩:=d4.mp Z;have a:=f3 m (qE (da.mp S)) L;have b:=U (fa W c t) (d4.mpr ⟨da.mpr (by omega),f2⟩);omega
 subst em;simp only[cK,Ge,Ir,cm,e]
def UU(W:Wl)(c:Nat):List Nat:=(bb W.n).map (fa W c)
def Nc(W:Wl)(c:Nat):List Nat:=(bb 5).filter λk=>decide (k∈UU W c)
def gr(W:Wl)(c k:Nat):List Nat:=(bb W.n).filter λt=>decide (fa W c t=k)
def gl(W:Wl)(c:Nat):List (List Nat):=(Nc W c).map (gr W c)
structure GS (ls:List (List Nat)) (a:Addr) (ps:List Addr) (μ:Mu):Prop where
 at_:μ.lookup a=W1 (.lst (ps.map .adr))
 len:ps.length=ls.length
 row:∀(j:Nat) p l,ps[j]?=W1 p->ls[j]?=W1 l->μ.lookup p=W1 (lN l)
 ne:∀p∈ps,p≠a
def Z6{μ:Mu}{c:D}(h:μ.lookup a=W1 c):a∈mu μ:=HQ (kc h)
def Z7(p:Addr)(c:D)(z:Mu):cf p ((p,c)::z)=W1 c:=by rw[ck];simp
def Z8{x:Addr}(c:D)(z:Mu)(h:x≠p):cf x ((p,c)::z)=z.lookup x:=by
 rw[ck,show (x==p)=ZA from by simpa using h]
theorem Kf(a:Addr)(c:D):∀(I:Mu) (b:Addr),(UM a c I).lookup b=if b=a then (I.lookup b).map λ_=>c else I.lookup b
 |[],b=>by simp[UM]
 | (x,e)::r,b=>by
  have J:=Kf a c r b;unfold UM at J ⊢;rw[bn]
  by_cases L:x=a
  .subst L;rw[OF rfl,ck,ck,J]
   by_cases z:b=x
   .subst z;simp
   .have:(b==x)=ZA:=beq_eq_false_iff_ne.mpr z;simp[this,z]
  .rw[RF L,ck,ck,J]
   by_cases z:b=x
   .subst z;simp[L]
   .have:(b==x)=ZA:=beq_eq_false_iff_ne.mpr z;simp[this]
def GS.add{O:List (List Nat)}{ps:List Addr}{L:Mu}(g:GS O a ps L){p:Addr}(S:p∉mu L)(l:List Nat):GS (O++[l]) a (ps++[p]) (UM a (.lst ((ps++[p]).map .adr)) ((p,lN l)::L)):=by
 have W:p≠a:=λz=>S (z▸Z6 g.at_);refine⟨?_,by simp[g.len],λj q m I J=>?_,λq U=>?_⟩
 .rw[Kf,OF rfl,Z8 _ _ (cq W),g.at_];rfl
 .have T:q≠a:=by
   rcases dQ.mp (pT I) with z | z
   .exact g.ne q z
   .cases fR.mp z;exact W
  rw[Kf,RF T]
  rcases qh j ps.length with z | z
  .rw[kt z] at I;rw[kt (by rw[<-g.len];exact z)] at J;have:=g.row j q m I J;have qp:q≠p:=λe=>S (by rw[<-e];exact Z6 this);rw[Z8 _ _ qp];exact this
  .rw[ii z] at I;rw[ii (by rw[<-g.len];exact z),<-g.len] at J;cases e:j-ps.length with
   |zero=>
    rw[e] at I J;cases I;cases J;exact Z7 _ _ _
   |succ n=>
    rw[e] at I;cases I
 .rcases dQ.mp U with z | z
  .exact g.ne q z
  .cases fR.mp z;exact W
theorem qj{W:Wl}(J:mf W)(c k:Nat)(Z I z:PV.Slot):BZ (MU (uF (gn "size") (vF 0))) Ly Lz [.fz (fc W),Z,I,.fz (lN (UU W c)),z,.fz (.int (k:Int))]=W1 (lN (gr W c k)):=by
 have Y:=J.n5;have L:=Ka W;refine G8 (n:=W.n) (λt=>decide (fa W c t=k)) iN _ ?_ (by omega) (λt O=>?_) λt O=>?_
 .have r:=Ih (W.n:Int) (by omega);simp only[cK,Oi,L,r,eD]
 .have ix:=wU (UU W c) t (by simpa [UU] using O);rw[show (UU W c).getD t 0=fa W c t by simp[UU,O]] at ix;have e:=j8 (fa W c t) k;simp only[cK,Ly,ix,e]
 .simp only[cK,Lz]
def vw0{I:Type}(f:Rho->Option I)(ρ:Rho)(z:Mu):vwM [] f ρ z=f ρ:=rfl
theorem Z9{W:Wl}(T:mf W)(c:Nat)(Z O:PV.Slot)(a:Addr)(K:KM):∀(r p:List Nat) (ps:List Addr) (L:Mu) (z:PV.Slot),(p++r).length<=100->GS (p.map (gr W c)) a ps L->(∀J I S,GS ((p++r).map (gr W c)) a J I->K (.nx [.fz (fc W),Z,O,.fz (lN (UU W c)),.fz (.adr a),S]) I) ->
  V1 (Bh 5) Ra (r.map iN) [.fz (fc W),Z,O,.fz (lN (UU W c)),.fz (.adr a),z] L K
 |[],p,ps,L,z,_,g,k=>k ps L z (by rw[g9];exact g)
 |q::r,p,ps,L,z,Y,g,k=>by
  have cm:=qj T c q Z O (.fz (.adr a));have lp:ps.length<=100:=by rw[g.len,aw];rw[ff] at Y;omega
  have am:∀x,Zp (.lst (ps.map .adr)) [x]=W1 (.non,.lst (ps.map .adr++[x])):=λx=>by
   show (if (ps.map D.adr).length<sizeLine then _ else _)=_;rw[OF (by rw[aw];exact kx lp (by decide))]
  refine⟨[.fz (fc W),Z,O,.fz (lN (UU W c)),.fz (.adr a),.fz (.int (q:Int))],rfl,a,.lst (ps.map .adr),[],lN (gr W c q),rfl,g.at_,⟨[.non],_,am _⟩,rfl,(vw0 _ _ _).trans cm,λb hb=>⟨.non,_,am _,?_⟩⟩;have g2:=g.add hb (gr W c q);rw[dc] at g2;refine Z9 T c Z O a K r (p++[q]) (ps++[b]) _ (.fz (.int (q:Int))) (by rw[AG];exact Y) (by rw[dc];exact g2) λJ I S U=>k J I S (by rw[AG] at U;exact U)
theorem Z_:∀{l:List Nat},(∀x∈l,x<5)->RZ (l.map iN)=W1 l
 |[],_=>rfl
 |x::l,h=>by
  have J:=h x (by simp);show (if 0<=(x:Int)/\(x:Int)<5 then (RZ (l.map iN)).map ((x:Int).toNat::·) else E2)=_;rw[OF (by omega),Z_ λy z=>h y (by simp[z]),eD];rfl
def uI{W:Wl}(I:mf W)(c:Nat):∀x∈UU W c,x<W.n:=λx z=>by
 obtain⟨t,O,rfl⟩:=aT.mp z;exact kx (QC W c t).1 (da.mp O)
theorem S_{W:Wl}(J:mf W)(c:Nat)(O:Mu)(K:D->Mu->Prop)(k:∀a ps z,GS (gl W c) a ps z->K (.adr a) z):NT [fc W,.int (c:Int)] O K:=by
 have S:=J.n5;have fz:=Ka W;have mk:=lG W W (Aa (vF 0) (Aa (vF 0) af)) [.fz (fc W),.fz (.int (c:Int)),.un,.un,.un,.un] (by simp only[cK]);have cm:BZ (MU (uF (gn "size") (vF 0))) xq Jj [.fz (fc W),.fz (.int (c:Int)),.fz (MI W W),.un,.un,.un]=W1 (lN (UU W c)):=by
  have:=G8 (n:=W.n) (λ_=>E3) (λt=>iN (fa W c t)) (src:=MU (uF (gn "size") (vF 0))) (ga:=xq) (fe:=Jj) (ρ:=[.fz (fc W),.fz (.int (c:Int)),.fz (MI W W),.un,.un,.un]) ?_ (by omega) (λ_ _=>rfl) λt U=>?_
  .rw[List.filter_eq_self.mpr λ_ _=>rfl] at this;rw[this];unfold lN UU;rw[bS];rfl
  .have r:=Ih (W.n:Int) (by omega);simp only[cK,Oi,fz,r,eD]
  .have f:=lU J c t U;simp only[cK,Jj,f]
 have Y:ssN (lN (UU W c))=W1 (lN (Nc W c)):=by
  show (RZ ((UU W c).map iN)).map _=_;rw[Z_ λx T=>eK (uI J c x T) S];rfl
 have I:pq (uF ssN (vF 3)) [.fz (fc W),.fz (.int (c:Int)),.fz (MI W W),.fz (lN (UU W c)),.un,.un]=W1 ((Nc W c).map iN):=by
  simp only[cK,DX,Y];exact Fd _
 refine⟨rfl,.nx [.fz (fc W),.fz (.int (c:Int)),.fz (MI W W),.un,.un,.un],?_,.nx [.fz (fc W),.fz (.int (c:Int)),.fz (MI W W),.fz (lN (UU W c)),.un,.un],?_,.lst [],rfl,λa ha=>?_⟩
 .show nq 2 _ [.fz (fc W),.fz (.int (c:Int)),.un,.un,.un,.un]=_;simp only[cK,mk]
 .show nq 3 _ [.fz (fc W),.fz (.int (c:Int)),.fz (MI W W),.un,.un,.un]=_;simp only[cK,cm]
 .refine⟨(Nc W c).map iN,I,?_⟩;have kl:(Nc W c).length<=5:=cy (ng _ _) (by simp);refine Z9 J c _ _ a _ (Nc W c) [] [] _ _ (by rw[oy];omega) ⟨Z7 _ _ _,rfl,λj p l h=>by simp at h,λp Z=>by simp at Z⟩ λL z z' g=>?_;exact⟨.rt (.adr a) _,rfl,k a L z g⟩
theorem Rr{f:D->D->Option Bool}:∀{l:List D},(∀x∈l,f x x=W1 E3)->OU f l l=W1 E3
 |[],_=>rfl
 |x::l,h=>by
  show (match f x x,OU f l l with | some a,W1 b=>W1 (a&&b) | _,_=>E2)=_;rw[h x (by simp),Rr λy z=>h y (by simp[z])];rfl
def aA(n t:Nat):RH (n+1) (iN t) (iN t)=W1 E3:=by
 show W1 (UY (.int (t:Int)) (.int (t:Int)))=_;simp[UY]
def zQ(n:Nat)(l:List Nat):RH (n+2) (lN l) (lN l)=W1 E3:=by
 show (if (l.map iN).length=(l.map iN).length then OU (RH (n+1)) (l.map iN) (l.map iN) else W1 ZA)=_;rw[OF rfl];exact Rr λx z=>by obtain⟨t,_,rfl⟩:=aT.mp z;exact aA n t
def TF{z:Bool}{l:List D}(h:∀x∈l,RH 180 x x=W1 E3):MQ z (.lst l) (.lst l)=W1 (.bl (!z)):=by
 unfold MQ;have:UX (.lst l) (.lst l)=W1 E3:=by
  show (if l.length=l.length then OU (RH 180) l l else W1 ZA)=_;rw[OF rfl];exact Rr h
 rw[this];cases z<;>rfl
def uJ(z:Bool)(l:List Nat):MQ z (lN l) (lN l)=W1 (.bl (!z)):=TF λx I=>by obtain⟨t,_,rfl⟩:=aT.mp I;exact aA 179 t
def uK(z:Bool)(I:List (List Nat)):MQ z (.lst (I.map lN)) (.lst (I.map lN))=W1 (.bl (!z)):=TF λx J=>by obtain⟨t,_,rfl⟩:=aT.mp J;exact zQ 178 t
def xK(h:l≠[]):MQ ZA (lN l) (.lst [])=W1 (.bl ZA):=by
 cases l with
 |nil=>exact SF rfl h
 |cons x l=>rfl
def xM(h:l.Pairwise (·<·))(Y:l.length<=60):srtI (lN l)=W1 (lN l):=by
 have e:l.map iN=(l.map λt:Nat=>(t:Int)).map D.int:=by rw[bS];rfl
 show (JG (l.map iN)).bind _=_;rw[e,Sv];show (if (l.map λt:Nat=>(t:Int)).length<=60 then _ else _)=_;rw[OF (by rw[aw];exact Y),WT (hJ.mpr (h.imp λq=>by omega)),bS];rfl
def ent(E:Nat->Nat)(t:Nat):Key×D:=(.inl (t:Int),.int (E t:Nat))
def ql{E:Nat->Nat}{t:Nat}:(.inl (t:Int):Key)∈(l.map (ent E)).map (·.1)↔t∈l:=by
 rw[bS];constructor
 .intro z;obtain⟨u,S,e⟩:=aT.mp z;have:(u:Int)=t:=rf e;have:u=t:=by omega
  exact this▸S
 .exact λh=>aT.mpr ⟨t,h,rfl⟩
def xN{E:Nat->Nat}(h:l.Nodup):((l.map (ent E)).map (·.1)).Nodup:=by
 rw[bS];refine hJ.mpr (h.imp λq e=>q ?_);have:((_:Nat):Int)=_:=rf e;omega
theorem Wo(E:Nat->Nat)(J Z:PV.Slot)(k:Nat):∀(r p:List Nat) (z:PV.Slot),(p++r).Nodup->(p++r).length<=100->(∀t∈r,E t=k) ->
  ∃S,vb (SL (Bh 4) Ft) (r.map iN) [J,Z,.ow (.dk (p.map (ent E))),.fz (.int (k:Int)),z]=W1 (.nx [J,Z,.ow (.dk ((p++r).map (ent E))),.fz (.int (k:Int)),S])
 |[],p,z,_,_,_=>⟨z,by rw[g9];rfl⟩
 |t::r,p,z,I,Y,L=>by
  have O:t∉p:=λq=>by
   rw[gE] at I;exact I.2.2 t q t (by simp) rfl
  have W:(.inl (t:Int):Key)∉(p.map (ent E)).map (·.1):=λz=>O (ql.mp z);have a1:So "int" (iN t)=W1 (.bl E3):=rfl;have a2:So "bool" (iN t)=W1 (.bl ZA):=rfl;have a3:RU ZA (iN t) (.dk (p.map (ent E)))=W1 (.bl ZA):=by
   show RU ZA (.int (t:Int)) (.dk _)=_;rw[Ud,Ku W];rfl
  have e2:DP (.dk (p.map (ent E))) (iN t) (.int (k:Int))=W1 (.dk ((p++[t]).map (ent E))):=by
   show DP (.dk _) (.int (t:Int)) _=_;rw[gw _ _ _ (by simp at Y ⊢;omega),uj W,dc];rw[show [t].map (ent E)=[(.inl (t:Int),.int (k:Int))] by show [ent E t]=_;unfold ent;rw[L t (by simp)]]
  have b:Ft [J,Z,.ow (.dk (p.map (ent E))),.fz (.int (k:Int)),.fz (iN t)]=W1 (.nx [J,Z,.ow (.dk ((p++[t]).map (ent E))),.fz (.int (k:Int)),.fz (iN t)]):=by
   simp only[dK,Ft,a1,a2,a3,e2]
  obtain⟨S,T⟩:=Wo E J Z k r (p++[t]) (.fz (iN t)) (by simpa using I) (by simpa using Y) λu U=>L u (by simp[U]);refine⟨S,?_⟩
  w_up
  rw[b,Ds,T];simp
def uL(W:Wl)(c k:Nat):(gr W c k).Pairwise (·<·):=Mc _ F7
def PZ{W:Wl}{k t:Nat}:t∈gr W c k↔t<W.n/\fa W c t=k:=by
 unfold gr;rw[d4,da,hH]
def zR(W:Wl)(c k:Nat):(gr W c k).Nodup:=F4 F5 sk
def xO(W:Wl)(c k:Nat):(gr W c k).length<=W.n:=cy (ng _ _) (by simp)
def th(W:Wl)(c:Nat)(p:List Nat):List Nat:=p.flatMap (gr W c)
def VB{W:Wl}{t:Nat}{p:List Nat}:t∈th W c p↔t<W.n/\fa W c t∈p:=by
 unfold th;rw[List.mem_flatMap];constructor
 .rintro⟨k,J,O⟩;obtain⟨I,z⟩:=PZ.mp O;exact⟨I,z▸J⟩
 .rintro ⟨I,z⟩;exact ⟨_,z,PZ.mpr ⟨I,rfl⟩⟩
def xP(W:Wl)(c:Nat)(p q:List Nat):th W c (p++q)=th W c p++th W c q:=List.flatMap_append ..
theorem Wq(W:Wl)(c:Nat):∀{p:List Nat},p.Nodup->(th W c p).Nodup
 |[],_=>DH
 |k::p,h=>by
  obtain⟨I,z⟩:=kK.mp h;show (gr W c k++th W c p).Nodup;refine gE.mpr ⟨zR W c k,Wq W c z,λt O u S e=>I ?_⟩;subst e;rw[<-(PZ.mp O).2];exact (VB.mp S).2
def xQ{W:Wl}{p:List Nat}(h:p.Nodup):(th W c p).length<=W.n:=Zq (Wq W c h) λt O=>(VB.mp O).1
def Wr(W:Wl)(c:Nat):(Nc W c).Nodup:=F4 F5 sk
def zT(W:Wl)(c:Nat):(Nc W c).Pairwise (·<·):=Mc _ F7
def qm{W:Wl}{k:Nat}(h:k∈Nc W c):∃t,t<W.n/\fa W c t=k:=by
 have:=(d4.mp h).2;rw[hH] at this;obtain⟨t,O,e⟩:=aT.mp this;exact⟨t,da.mp O,e⟩
def VD{W:Wl}(z:mf W){c t:Nat}(O:t<W.n):fa W c t∈Nc W c:=by
 have m:fa W c t∈UU W c:=aT.mpr ⟨t,da.mpr O,rfl⟩;exact d4.mpr ⟨da.mpr (eK (uI z c _ m) z.n5),MG m⟩
def aB{W:Wl}{k:Nat}(h:k∈Nc W c):∃r,gr W c k=k::r:=by
 obtain⟨t,S,e⟩:=qm h;obtain⟨Y,L,T⟩:=QC W c t;have kk:fa W c k=k:=by rw[<-e];exact (lR W c _ _).mpr L
 have I:k∈gr W c k:=PZ.mpr ⟨by omega,kk⟩;have O:=uL W c k;cases U:gr W c k with
 |nil=>rw[U] at I;cases I
 |cons x r=>
  rw[U] at I O
  rcases bP.mp I with z | z
  .exact⟨r,by rw[z]⟩
  .have lt:=(kA.mp O).1 k z;have J:x∈gr W c k:=by rw[U];simp
   have:=(QC W c x).1;rw[(PZ.mp J).2] at this;omega
def xR{l:List D}{k:Nat}(h:l[k]?=W1 d):oo (.lst l) (.int (k:Int))=W1 d:=by
 show atI l (k:Int)=_;rw[UG,h]
def uM(l:List D):So "list" (.lst l)=W1 (.bl E3):=rfl
def ZU(W:Wl)(c t:Nat):Nat:=(Nc W c).idxOf (fa W c t)
def xT(z:l.Nodup){k:Nat}(I:k<l.length):l.idxOf l[k]=k:=Ma z (F8.mpr (eW I)) I (F9 _)
theorem TJ{W:Wl}(hw:mf W)(c:Nat)(Z:PV.Slot):∀(n k:Nat) (I J:PV.Slot),k+n=(Nc W c).length ->
  ∃T S,vb (SL (Bh 3) Fv) ((Md k n).map iN) [.fz (.lst ((gl W c).map lN)),Z,.ow (.dk ((th W c ((Nc W c).take k)).map (ent (ZU W c)))),I,J]=W1 (.nx [.fz (.lst ((gl W c).map lN)),Z,.ow (.dk ((th W c (Nc W c)).map (ent (ZU W c)))),T,S])
 |0,k,I,J,h=>⟨I,J,by rw[xo (by omega)];rfl⟩
 |n+1,k,I,J,h=>by
  have L:k<(Nc W c).length:=by omega
  have n5:=hw.n5;obtain⟨q,O⟩:∃q,q=(Nc W c)[k]:=⟨_,rfl⟩;have hq:q∈Nc W c:=by rw[O];exact eW L
  obtain⟨r,hr⟩:=aB hq;have ix:oo (.lst ((gl W c).map lN)) (.int (k:Int))=W1 (lN (gr W c q)):=by
   have hg:((gl W c).map lN)[k]?=W1 (lN (gr W c q)):=by simp[gl,L,O]
   exact xR hg
  have s1:=xM (uL W c q) (by have:=xO W c q;omega);have s2:=uJ E3 (gr W c q);have s3:MQ ZA (lN (gr W c q)) (.lst [])=W1 (.bl ZA):=xK (by rw[hr];simp);have s4:So "list" (lN (gr W c q))=W1 (.bl E3):=uM _;have sq:J6 (W1 (lN (gr W c q)))=W1 ((gr W c q).map iN):=Fd _;have et:(Nc W c).take (k+1)=(Nc W c).take k++[q]:=by rw[zk,cr L,O];rfl
  have U:(th W c ((Nc W c).take (k+1))).Nodup:=Wq W c ((Wr W c).sublist (D2 _ _));have tl:=xQ (W:=W) (c:=c) ((Wr W c).sublist (D2 (k+1) _));have ea:th W c ((Nc W c).take (k+1))=th W c ((Nc W c).take k)++gr W c q:=by
   rw[et,xP];congr 1;show gr W c q++[]=_;rw[g9]
  rw[ea] at U tl;obtain⟨z,Y⟩:=Wo (ZU W c) (.fz (.lst ((gl W c).map lN))) Z k (gr W c q) (th W c ((Nc W c).take k)) J U (by omega) λt ht=>by
   show (Nc W c).idxOf (fa W c t)=k;rw[(PZ.mp ht).2,O];exact xT (Wr W c) L
  rw[<-ea] at Y;have b:Fv [.fz (.lst ((gl W c).map lN)),Z,.ow (.dk ((th W c ((Nc W c).take k)).map (ent (ZU W c)))),.fz (.int (k:Int)),J]=W1 (.nx [.fz (.lst ((gl W c).map lN)),Z,.ow (.dk ((th W c ((Nc W c).take (k+1))).map (ent (ZU W c)))),.fz (.int (k:Int)),z]):=by
   simp only[cK,Fv,ix,s1,s2,s3,s4,DX,sq,Y]
  obtain⟨T,S,ih⟩:=TJ hw c Z n (k+1) (.fz (.int (k:Int))) z (by omega);refine⟨T,S,?_⟩;rw[List.range'_succ,bn,Dr,Qb,Ii,JD];simp only[oB,oC];rw[b,Ds,ih]
theorem lV{W:Wl}{c:Nat}:∀{ks:List Nat},(∀k∈ks,∃r,gr W c k=k::r)->lsA ((ks.map (gr W c)).map lN)=W1 ks
 |[],_=>rfl
 |k::ks,h=>by
  obtain⟨r,e⟩:=h k (by simp);show (lsN (lN (gr W c k))).bind (λk=>(lsA ((ks.map (gr W c)).map lN)).map (k::·))=_;rw[lV λq T=>h q (by simp[T]),e];have:lsN (lN (k::r))=W1 k:=by
   show (Ey ((k::r).map iN)).bind _=_;rw[U4];show (if 0<=(k:Int) then W1 (k:Int).toNat else E2)=_;rw[OF (by omega),eD]
  rw[this];rfl
def xU{W:Wl}(c:Nat):srtL (.lst ((gl W c).map lN))=W1 (.lst ((gl W c).map lN)):=by
 show (lsA ((gl W c).map lN)).bind _=_;unfold gl;rw[lV λk I=>aB I];show (if (Nc W c).Pairwise (·<·)/\(Nc W c).length<=60 then _ else _)=_;rw[OF ⟨zT W c,cy (ng _ _) (by simp)⟩]
def aC{W:Wl}(z:mf W)(c:Nat):(bb W.n).Perm (th W c (Nc W c)):=
 (List.perm_ext_iff_of_nodup sk (Wq W c (Wr W c))).mpr λt=>by
  rw[da,VB];exact⟨λh=>⟨h,VD z h⟩,λh=>h.1⟩
def xV{W:Wl}(z:mf W)(c:Nat)(E:Nat->Nat):sdI (.dk ((th W c (Nc W c)).map (ent E)))=W1 (lN (bb W.n)):=by
 have Y:=z.n5;have p:=aC z c;have e:((th W c (Nc W c)).map (ent E)).map (λp=>Sj p.1)=((th W c (Nc W c)).map λt:Nat=>(t:Int)).map D.int:=by
  rw[bS,bS];rfl
 have s:kB ((th W c (Nc W c)).map λt:Nat=>(t:Int))=(bb W.n).map λt:Nat=>(t:Int):=
  (BF (p.map λt:Nat=>(t:Int)) (hJ.mpr (F7.imp λh=>by omega))).symm
 show (JG (((th W c (Nc W c)).map (ent E)).map λp=>Sj p.1)).bind _=_;rw[e,Sv];show (if ((th W c (Nc W c)).map λt:Nat=>(t:Int)).length<=60 then _ else _)=_;rw[OF (by rw[aw,<-p.length_eq,mN];omega),s,bS];rfl
def YR(W:Wl)(c:Nat):D:=.dk ((th W c (Nc W c)).map (ent (ZU W c)))
def lW{W:Wl}(z:mf W)(c:Nat):Fw [.lst ((gl W c).map lN),.int (W.n:Int)]=W1 (YR W c):=by
 have n5:=z.n5;obtain⟨y3,y4,J⟩:=TJ z c (.fz (.int (W.n:Int))) (Nc W c).length 0 .un .un (by omega);have kl:(Nc W c).length<=5:=cy (ng _ _) (by simp);have i1:So "list" (.lst ((gl W c).map lN))=W1 (.bl E3):=uM _;have Z:NN (.lst ((gl W c).map lN))=W1 (.int ((Nc W c).length:Int)):=by
  show UQ (.lst _)=_;rw[sJ];simp[gl]
 have I:=Ih ((Nc W c).length:Int) (by omega);rw[eD,show wh (Nc W c).length=(Md 0 (Nc W c).length).map iN by rw[<-List.range_eq_range'];rfl] at I;have L:th W c ((Nc W c).take 0)=[]:=rfl;rw[L,ja] at J;have Y:=xU (W:=W) c;have T:=uK E3 (gl W c);have U:=xV z c (ZU W c);have S:=wV W.n (by omega);have O:=uJ E3 (bb W.n);unfold YR;simp only[dK,Fw,Jk,i1,Z,I,J,Y,T,U,S,O]
def aD{W:Wl}(z:mf W)(c:Nat){t:Nat}(O:t<W.n):oo (YR W c) (.int (t:Int))=W1 (.int (ZU W c t:Nat)):=by
 show oo (.dk _) _=_;rw[Y_];exact QR (xN (Wq W c (Wr W c))) (aT.mpr ⟨t,VB.mpr ⟨O,VD z O⟩,rfl⟩)
def zU{W:Wl}(z:mf W)(c:Nat){a b:Nat}(J:a<W.n)(I:b<W.n):decide (ZU W c a=ZU W c b)=XI W c a b:=by
 rw[ib,hH,<-show (fa W c a=fa W c b↔XI W c a b=E3) from lR W c a b];unfold ZU;constructor
 .intro h;have O:=F9 (F8.mpr (VD z (c:=c) J));have L:=F9 (F8.mpr (VD z (c:=c) I));rw[<-O,<-L];simp only[h]
 .intro h;rw[h]
def GS.see{I:List (List Nat)}{ps:List Addr}{z:Mu}(g:GS I a ps z):seeW z (.adr a)=.lst (I.map lN):=by
 show (match z.lookup a with | some (.lst J)=>D.lst (J.map (WH z)) | _=>.adr a)=_;rw[g.at_];show D.lst ((ps.map D.adr).map (WH z))=_;congr 1;rw[bS];apply DO;intro j;rw[cb,cb];cases h:ps[j]? with
 |none=>
  rw[oe (by rw[<-g.len];exact List.getElem?_eq_none_iff.mp h)];rfl
 |some p=>
  have U:j<I.length:=by rw[<-g.len];exact (fF.mp h).1
  have r:=g.row j p I[j] h (cr U);rw[cr U];show W1 (match z.lookup p with | some (.lst J)=>D.lst J | _=>.adr p)=_;rw[r];rfl
theorem Ws(x0 Z Y W U T S O L:PV.Slot)(a:Addr)(ds:List D)(K:KM):∀(r:List Addr) (I:Mu) (z:PV.Slot),I.lookup a=W1 (.lst ds)->(∀p∈r,p≠a/\∃l,I.lookup p=W1 (.lst l))->(∀J z',J.lookup a=W1 (.lst ds)->K (.nx [x0,Z,Y,W,.fz (.adr a),U,T,S,O,L,z']) J) ->
  WP a ds (Bh 10) LK (r.map .adr) [x0,Z,Y,W,.fz (.adr a),U,T,S,O,L,z] I K
 |[],I,z,h,_,k=>⟨h,k I z h⟩
 |p::r,I,z,h,hr,k=>by
  obtain⟨pa,l,hp⟩:=hr p (by simp);refine⟨h,[x0,Z,Y,W,.fz (.adr a),U,T,S,O,L,.fz (.adr p)],rfl,[],p,.lst l,.non,.lst [],rfl,rfl,hp,rfl,?_⟩;refine Ws x0 Z Y W U T S O L a ds K r _ (.fz (.adr p)) (by rw[Kf,RF (cq pa)];exact h) (λq hq=>?_) k;obtain⟨qa,m,hm⟩:=hr q (by simp[hq]);refine⟨qa,?_⟩;rw[Kf];split
  .exact⟨[],by rw[hm];rfl⟩
  .exact⟨m,hm⟩
def lX(i:Int){n:Nat}(z:0<n):∃x:Nat,x<n/\tx (.int i) (.int (n:Int))=W1 (.int (x:Int)):=by
 have J:=md i (show (n:Int)≠0 by omega);have I:=qV i (show (0:Int)<(n:Int) by omega);refine⟨(i%(n:Int)).toNat,by omega,?_⟩;rw[Gp i (n:Int) (by omega),show (((i%(n:Int)).toNat:Nat):Int)=i%(n:Int) by omega]
theorem Wt{W:Wl}(I:mf W)(c:Nat)(Y U T z:PV.Slot):∀(r:List Int) (Z J S:PV.Slot),∃y6 O L,vb (SL (Bh 6) EY) (r.map .int) [.fz (fc W),.fz (.int (W.n:Int)),.fz (.int (c:Int)),Y,U,.fz (YR W c),Z,J,S,T,z] =
  W1 (.nx [.fz (fc W),.fz (.int (W.n:Int)),.fz (.int (c:Int)),Y,U,.fz (YR W c),y6,O,L,T,z])
 |[],Z,J,S=>⟨Z,J,S,rfl⟩
 |i::r,Z,J,S=>by
  have gt:=zG W.n;have b:∃O L,EY [.fz (fc W),.fz (.int (W.n:Int)),.fz (.int (c:Int)),Y,U,.fz (YR W c),.fz (.int i),J,S,T,z]=W1 (.nx [.fz (fc W),.fz (.int (W.n:Int)),.fz (.int (c:Int)),Y,U,.fz (YR W c),.fz (.int i),O,L,T,z]):=by
   by_cases h:0<W.n
   .rw[MG h] at gt;obtain⟨x,hx,e1⟩:=lX i h;obtain⟨y,hy,e2⟩:=lX (i/5) h;have f5:=GX i 5 (by decide);have l:=lL I I (uG W) [(x,y)] (λp hp=>by cases fR.mp hp;exact⟨hx,hy⟩) (by simp) c;rw[al_q I c hx hy] at l;have l':NZ [fc W,fc W,.lst [.tup [.int (x:Int),.int (y:Int)]],.int (c:Int)]=W1 (.bl (XI W c x y)):=l;have h1:=aD I c hx;have h2:=aD I c hy;have eq:=j8 (ZU W c x) (ZU W c y);rw[zU I c hx hy] at eq;have ne:=Zt (XI W c x y) (XI W c x y);rw[show (!(XI W c x y==XI W c x y))=ZA by cases XI W c x y<;>rfl] at ne;exact⟨.fz (.int (x:Int)),.fz (.int (y:Int)),by simp only[cK,EY,gt,e1,f5,e2,l',h1,h2,eq,ne]⟩
   .rw[UF h] at gt;exact⟨J,S,by simp only[cK,EY,gt]⟩
  obtain⟨O,L,b⟩:=b;obtain⟨w6,w7,w8,ih⟩:=Wt I c Y U T z r (.fz (.int i)) O L;refine⟨w6,w7,w8,?_⟩
  w_up
  rw[b,Ds,ih]
def xW{W:Wl}(h:W.n=0)(c:Nat):gl W c=[]:=by
 have:UU W c=[]:=by unfold UU;rw[h];rfl
 unfold gl Nc;rw[this];rfl
def xX{W:Wl}(z:mf W)(c:Nat):NN (YR W c)=W1 (.int (W.n:Int)):=by
 show NN (.dk _)=_;rw[ZC,aw,<-(aC z c).length_eq,mN]
def zV(W:Wl)(c:Nat):dkD (YR W c)=E3:=by
 show (((th W c (Nc W c)).map (ent (ZU W c))).all λp=>scD p.2)=E3;rw[xp];exact dL.mpr λt _=>rfl
def lY{W:Wl}(L:mf W)(c:Nat)(cs:List Int):WI 11 4 Hx [fc W,.int (W.n:Int),.int (c:Int),.lst (cs.map .int)] [] λd _=>d=.bl E3:=by
 refine⟨rfl,[fc W,.int (c:Int)],rfl,S_ L c [] _ λa J I U=>?_⟩;have ho:=lW L c;have sw:=U.see;refine⟨YR W c,?_,zV W c,?_⟩
 .show Aj Fw (Aa (vF 4) (Aa (vF 1) af)) [.fz (fc W),.fz (.int (W.n:Int)),.fz (.int (c:Int)),.fz (.lst (cs.map .int)),.fz (seeW I (.adr a)),.un,.un,.un,.un,.un,.un]=_;rw[sw];simp only[cK,ho]
 have sm:WH I (.adr a)=.lst (J.map .adr):=by
  show (match I.lookup a with | some (.lst ds)=>D.lst ds | _=>.adr a)=_;rw[U.at_]
 have T:Ya (MW (bF (MQ E3) (uF NN (vF 5)) (vF 1))) (andT (MW (bF (MQ ZA) (vF 1) (kF (.int 0)))) (MW (bF (MQ E3) (vF 4) (ML af)))) [.fz (fc W),.fz (.int (W.n:Int)),.fz (.int (c:Int)),.fz (.lst (cs.map .int)),.fz (.lst (J.map .adr)),.fz (YR W c),.un,.un,.un,.un,.un]=W1 ZA:=by
  have ln:=xX L c;have ne:MQ E3 (.int (W.n:Int)) (.int (W.n:Int))=W1 (.bl ZA):=by rw[Yk];simp
  by_cases z:W.n=0
  .have Z:MQ ZA (.int (W.n:Int)) (.int 0)=W1 (.bl E3):=by rw[Q4,z];rfl
   have pe:J=[]:=qf.mp (by rw[U.len,xW z];rfl);have nn:MQ E3 (.lst ([]:List D)) (.lst [])=W1 (.bl ZA):=rfl;subst pe;simp only[cK,ln,ne,Z,nn]
  .have Z:MQ ZA (.int (W.n:Int)) (.int 0)=W1 (.bl ZA):=by rw[Q4,UF (by omega)]
   simp only[cK,ln,ne,Z]
 show ifL _ _ _ [.fz (fc W),.fz (.int (W.n:Int)),.fz (.int (c:Int)),.fz (.lst (cs.map .int)),.fz (.adr a),.fz (YR W c),.un,.un,.un,.un,.un] I _;unfold ifL;rw[show ([.fz (fc W),.fz (.int (W.n:Int)),.fz (.int (c:Int)),.fz (.lst (cs.map .int)),.fz (.adr a),.fz (YR W c),.un,.un,.un,.un,.un]:Rho).map (V4 I)=[.fz (fc W),.fz (.int (W.n:Int)),.fz (.int (c:Int)),.fz (.lst (cs.map .int)),.fz (WH I (.adr a)),.fz (YR W c),.un,.un,.un,.un,.un] from rfl,sm,T];obtain⟨y6,y7,y8,lp⟩:=Wt L c (.fz (.lst (cs.map .int))) (.fz (.adr a)) .un .un cs .un .un .un;refine⟨.nx [.fz (fc W),.fz (.int (W.n:Int)),.fz (.int (c:Int)),.fz (.lst (cs.map .int)),.fz (.adr a),.fz (YR W c),y6,y7,y8,.un,.un],?_,?_⟩
 .have sq:J6 (W1 (D.lst (cs.map .int)))=W1 (cs.map .int):=Fd _;simp only[cK,DX,sq,lp]
 refine⟨a,J.map .adr,(gl W c).map λl=>l.map iN,rfl,U.at_,by rw[aw,aw,U.len],?_,λj d cs h1 S=>?_,?_⟩
 .rw[aw];unfold gl;rw[aw];exact kx (cy (ng _ _) (zX mN)) (by decide)
 .rw[cb] at h1 S;obtain⟨p,O,rfl⟩:=iA.mp h1;obtain⟨l,Y,rfl⟩:=iA.mp S;refine⟨p,rfl,U.row j p l O Y,λx hx=>?_⟩;obtain⟨t,_,rfl⟩:=aT.mp hx;rfl
 have kept:((gl W c).map λl=>l.map iN).map D.lst=(gl W c).map lN:=by rw[bS];rfl
 rw[kept];refine⟨a,J.map .adr,rfl,Ws _ _ _ _ _ _ _ _ _ a _ _ J I _ U.at_ (λp O=>⟨U.ne p O,?_⟩) λO0 S0 S=>?_⟩
 .obtain⟨j,hj,rfl⟩:=ol.mp O;have Y:j<(gl W c).length:=by rw[<-U.len];exact hj
  exact⟨_,U.row j _ _ (cr hj) (cr Y)⟩
 refine⟨[],a,.lst (J.map .adr),.non,.lst [],rfl,rfl,S,rfl,?_⟩;refine⟨[fc W,.int (c:Int)],rfl,S_ L c _ _ λb qs N0 g3=>?_⟩;refine⟨.lst ((gl W c).map lN),E3,rfl,?_,rfl⟩;rw[g3.see,uK];rfl
theorem aF{W:Wl}(z:mf W)(c:Nat)(cs:List Int):Cy [fc W,.int (W.n:Int),.int (c:Int),.lst (cs.map .int)]=W1 (.bl E3):=by
 have h:=lY z c cs;obtain⟨e,J,I⟩:=pB (g:=WI 11 4 Hx) (P:=tK) (d:=.bl E3) h rfl;rw[show Cy [fc W,.int (W.n:Int),.int (c:Int),.lst (cs.map .int)]=W1 e from J,show e=.bl E3 from I]
theorem xZ(i:Int):∃c:Nat,oo (.lst [.int 0,.int 1,.int 2,.int 3,.int 4,.int 5,.int 6,.int 60]) (.int (i%8))=W1 (.int (c:Int)):=by
 have I:=md i (show (8:Int)≠0 by decide);have z:=qV i (show (0:Int)<8 by decide);generalize i%8=j at I z;have:j=0∨j=1∨j=2∨j=3∨j=4∨j=5∨j=6∨j=7:=by omega
 rcases this with rfl | rfl | rfl | rfl | rfl | rfl | rfl | rfl
 .exact⟨0,rfl⟩
 .exact⟨1,rfl⟩
 .exact⟨2,rfl⟩
 .exact⟨3,rfl⟩
 .exact⟨4,rfl⟩
 .exact⟨5,rfl⟩
 .exact⟨6,rfl⟩
 .exact⟨60,rfl⟩
theorem lZ:∀ns:List Int,ns.length<=63->WY [.lst (ns.map .int)]=W1 (.bl E3):=by
  intro ns hl;obtain⟨W,hw,we⟩:=jw ns;have c8:=Ux ns 8;have c9:=Ux ns 9;have J:Al [.lst (ns.map .int),.int 8]=W1 (.int (ns.getD 8 0)):=c8;have T:Al [.lst (ns.map .int),.int 9]=W1 (.int (ns.getD 9 0)):=c9;generalize ns.getD 8 0=i8 at J;generalize ns.getD 9 0=i9 at T;obtain⟨c,ce⟩:=xZ i9;have m9:=Gp i9 8 (by decide);have m8:=Gp i8 2 (by decide);have d8:=GX i8 2 (by decide) (by decide);have Y:=Q4 (i8%2) 1;have U:∀(W:Wl) (L:Rho),MS 3 (Aw 1 (Aw 2 (Aw 3 MV))) (.lst [.int (W.n:Int),.dk (eM W.ms),.dk (eT W.ts)]) L=W1 (((L.set 1 (.fz (.int (W.n:Int)))).set 2 (.fz (.dk (eM W.ms)))).set 3 (.fz (.dk (eT W.ts)))):=λW L=>rfl;have I:∀(f:FE) (g:FG) (L:Rho) (d:D),f L=W1 d->UZ f g L=(g d L).map .nx:=λf g L d e=>by unfold UZ;rw[e];rfl
  have sc:slD (.lst (ns.map .int)) (W1 10) (W1 14)=W1 (.lst ((OM ns (W1 10) (W1 14)).map .int)):=by
    show W1 (D.lst (OM (ns.map D.int) (W1 10) (W1 14)))=_;rw[qN]
  have sl:=qO ns (W1 10) (W1 14);generalize OM ns (W1 10) (W1 14)=ms at sc sl;have ad:rc (.lst [.int 1,.int 5,.int 7,.int 11]) (.lst (ms.map .int))=W1 (.lst (([1,5,7,11]++ms).map .int)):=by
    rw[vJ (by simp;omega)];simp
  have O:∀V:Wl,mf V->V.n=W.n->(dq (nq 4 (mkI "World" (Bt) (Aa (vF 1) (Aa (vF 2) (Aa (vF 3) (af)))))) (dq (nq 5 (bF rc (ML (Aa (kF (.int 1)) (Aa (kF (.int 5)) (Aa (kF (.int 7)) (Aa (kF (.int 11)) (af)))))) (slF (vF 0) (Rl (kF (.int 10))) (Rl (kF (.int 14)))))) (dq (nq 6 (bF oo (ML (Aa (kF (.int 0)) (Aa (kF (.int 1)) (Aa (kF (.int 2)) (Aa (kF (.int 3)) (Aa (kF (.int 4)) (Aa (kF (.int 5)) (Aa (kF (.int 6)) (Aa (kF (.int 60)) (af)))))))))) (bF tx (Aj (Al) (Aa (vF 0) (Aa (kF (.int 9)) (af)))) (kF (.int 8))))) (jn (andF (Aj (Cy) (Aa (vF 4) (Aa (vF 1) (Aa (kF (.int 1)) (Aa (vF 5) (af)))))) (Aj (Cy) (Aa (vF 4) (Aa (vF 1) (Aa (vF 6) (Aa (vF 5) (af)))))))))))
      [.fz (.lst (ns.map .int)),.fz (.int (V.n:Int)),.fz (.dk (eM V.ms)),.fz (.dk (eT V.ts)),.un,.un,.un]=W1 (.rt (.bl E3) [.fz (.lst (ns.map .int)),.fz (.int (V.n:Int)),.fz (.dk (eM V.ms)),.fz (.dk (eT V.ts)),.fz (fc V),.fz (.lst (([1,5,7,11]++ms).map .int)),.fz (.int (c:Int))]):=λV hv _=>by
    have mk:=y_ V hv (Aa (vF 1) (Aa (vF 2) (Aa (vF 3) af))) [.fz (.lst (ns.map .int)),.fz (.int (V.n:Int)),.fz (.dk (eM V.ms)),.fz (.dk (eT V.ts)),.un,.un,.un] (by simp only[cK]);have g1:=aF hv 1 ([1,5,7,11]++ms);have S:Cy [fc V,.int (V.n:Int),.int 1,.lst (([1,5,7,11]++ms).map .int)]=W1 (.bl E3):=g1;have g2:=aF hv c ([1,5,7,11]++ms);generalize ([1,5,7,11]++ms).map D.int=cd at ad S g2;have l8:WS (W1 [D.int 0,D.int 1,D.int 2,D.int 3,D.int 4,D.int 5,D.int 6,D.int 60])=W1 (.lst [D.int 0,D.int 1,D.int 2,D.int 3,D.int 4,D.int 5,D.int 6,D.int 60]):=rfl;simp only[cK,mk,sc,ad,T,m9,l8,ce,S,g2]
  have t1:Aj (Fg) (Aa (vF 0) (Aa (kF (.int 0)) (af))) [.fz (.lst (ns.map .int)),.un,.un,.un,.un,.un,.un]=W1 (.lst [.int (W.n:Int),.dk (eM W.ms),.dk (eT W.ts)]):=by simp only[cK,we]
  have a1:=I _ (MS 3 (Aw 1 (Aw 2 (Aw 3 MV)))) _ _ t1;rw[U W] at a1;unfold WY je;rw[Yt (show [D.lst (ns.map .int)].length=1 from rfl),Mv];simp only[db,A9,bn,ja,LZ,M0,M1,M2,Mb,oy];rw[Ph,a1];simp only[i7,Ta,oB,oC];rw[Ph]
  by_cases z:i8%2=1
  . rw[MG z] at Y
    have bo:=qi W hw (i8/2);have t2:Aj (CZ) (Aa (ML (Aa (vF 1) (Aa (vF 2) (Aa (vF 3) (af))))) (Aa (bF Ex (Aj (Al) (Aa (vF 0) (Aa (kF (.int 8)) (af)))) (kF (.int 2))) (af))) [.fz (.lst (ns.map .int)),.fz (.int (W.n:Int)),.fz (.dk (eM W.ms)),.fz (.dk (eT W.ts)),.un,.un,.un]=W1 (wd (trW (i8/2) W)):=by
      have N0:CZ [.lst [.int (W.n:Int),.dk (eM W.ms),.dk (eT W.ts)],.int (i8/2)]=W1 (wd (trW (i8/2) W)):=bo;simp only[cK,J,d8,N0]
    have a2:=I _ (MS 3 (Aw 1 (Aw 2 (Aw 3 MV)))) _ _ t2;rw[show MS 3 (Aw 1 (Aw 2 (Aw 3 MV))) (wd (trW (i8/2) W))=MS 3 (Aw 1 (Aw 2 (Aw 3 MV))) (.lst [.int ((trW (i8/2) W).n:Int),.dk (eM (trW (i8/2) W).ms),.dk (eT (trW (i8/2) W).ts)]) from rfl,U (trW (i8/2) W)] at a2;have Z:=O (trW (i8/2) W) (xH _ W hw) rfl;have br:PY (MW (bF (MQ ZA) (bF tx (Aj (Al) (Aa (vF 0) (Aa (kF (.int 8)) (af)))) (kF (.int 2))) (kF (.int 1)))) (UZ (Aj (CZ) (Aa (ML (Aa (vF 1) (Aa (vF 2) (Aa (vF 3) (af))))) (Aa (bF Ex (Aj (Al) (Aa (vF 0) (Aa (kF (.int 8)) (af)))) (kF (.int 2))) (af)))) (MS 3 (Aw 1 (Aw 2 (Aw 3 (MV)))))) Sn [.fz (.lst (ns.map .int)),.fz (.int (W.n:Int)),.fz (.dk (eM W.ms)),.fz (.dk (eT W.ts)),.un,.un,.un]=UZ (Aj (CZ) (Aa (ML (Aa (vF 1) (Aa (vF 2) (Aa (vF 3) (af))))) (Aa (bF Ex (Aj (Al) (Aa (vF 0) (Aa (kF (.int 8)) (af)))) (kF (.int 2))) (af)))) (MS 3 (Aw 1 (Aw 2 (Aw 3 (MV))))) [.fz (.lst (ns.map .int)),.fz (.int (W.n:Int)),.fz (.dk (eM W.ms)),.fz (.dk (eT W.ts)),.un,.un,.un]:=by
      simp only[cK,J,m8,Y]
    rw[br,a2];simp only[i7,Ta,oB,oC];rw[Z];rfl
  . rw[UF z] at Y
    have Z:=O W hw rfl;have br:PY (MW (bF (MQ ZA) (bF tx (Aj (Al) (Aa (vF 0) (Aa (kF (.int 8)) (af)))) (kF (.int 2))) (kF (.int 1)))) (UZ (Aj (CZ) (Aa (ML (Aa (vF 1) (Aa (vF 2) (Aa (vF 3) (af))))) (Aa (bF Ex (Aj (Al) (Aa (vF 0) (Aa (kF (.int 8)) (af)))) (kF (.int 2))) (af)))) (MS 3 (Aw 1 (Aw 2 (Aw 3 (MV)))))) Sn [.fz (.lst (ns.map .int)),.fz (.int (W.n:Int)),.fz (.dk (eM W.ms)),.fz (.dk (eT W.ts)),.un,.un,.un]=W1 (.nx [.fz (.lst (ns.map .int)),.fz (.int (W.n:Int)),.fz (.dk (eM W.ms)),.fz (.dk (eT W.ts)),.un,.un,.un]):=by
      simp only[cK,J,m8,Y]
    rw[br,Ta,Z];rfl
end K43
end
open PySem PySem.W PyProof.Rows
def L2.head_at{r:OpenRow}{q:d3}{d:DefRec}{z:List (Str×Expr)}{N:Nat}(H:Hook)(Z:LeftO r.prog q loose (λs=>xlAt q [] s&&recOk r.records s) H.obs H.val N)(W:defOf q r.name=W1 (d,z))(T:r.prog.theDef r.name=W1 (d.params,d.body,d.scope))(S:kwWritten? d.params.kwonlyargs d.params.kw_defaults=W1 z)(U:(!r.writes||r.records.isEmpty)=E3)(O:r.wellSaid=E3)(L:(chainsOk q&&opensWell r.prog&&(frees r.toRowW&&r.within.isEmpty))=E3)(J:r.prog.bare)(Y:r.toRowW.promised)(I:WalkO q loose (XL q []) H.says r.toRowW d z λf vs=>DJ f vs):r.Holds:=
 holds_open (XP:=XL q []) Z H.of H.keeps (λs e=>xl_of s (Me.mp e).1) XL.keeps W T S (λ_ e=>recFacts_of (Me.mp e).2) U O L J Y I
set_option maxHeartbeats 0 in
theorem PySem.Challenge.cw_twinrounds_k43_groups_holds : PySem.Challenge.rw_twinrounds_k43_groups.Holds := by
 w_on;o_law;refine L2.head_at (q:=K43.vw) (loose:=[]) (N:=6000) K43.hook K43.look (by rfl) (by rfl) (by rfl) (by rfl) (by assumption) (by decide +kernel) ⟨rfl,rfl,rfl,rfl,rfl,by decide +kernel⟩ ?_ ?_
 .w_witness2
 unfold K43.hook
 k_fill
 refine L2.mz (l:=Mo) (n:=63) (k:=41) (x:="_law_script") (CX:=λ_=>L2.CX0) (sp:=λw=>K43.tQ _) rfl (by decide) rfl ⟨rfl,by decide,by decide⟩ (λw h Y=>PySem.W.kIn_of Y) ?F (λ_ _ a ns hl _ hS=>⟨a,ns,rfl,hS,hl,λ_=>rfl⟩) λ_ _ _ _ _ z=>z
 case F=>
  intro w mg fa h KX G hmg;have TT:∃c_:Addr,∃w_:Addr,∃T:K43.Tx (K43.gx (L2.KOf KX) c_ w_) mg,∀(s:ah) (u:ac),wf s T.OC.fd ⟨[u],[]⟩ [("_law_script",u)]:=by
   dsimp only [L2.KOf];refine' ⟨_,_,{ c_:=_,f_:=PV.jK,r_:=(PV.cls KX ?pg_World ?hd_World ?po_World ?sa_World :),s_:=tz KX G ?aC_World,w_:=_,z_:=(PV.v7 (by decide) PV.jK),q0:=(PV.cls KX ?pg_Ranks ?hd_Ranks ?po_Ranks ?sa_Ranks :),z0:=tz KX G ?aC_Ranks,y1:=(PV.dx KX G ?a0 ?l0 ?c0 ?k0 ?b0 :),m4:=(PV.dx KX G ?a1 ?l1 ?c1 ?k1 ?b1 :),x4:=(PV.dx KX G ?a2 ?l2 ?c2 ?k2 ?b2 :),x5:=(PV.dx KX G ?a3 ?l3 ?c3 ?k3 ?b3 :),x6:=(PV.dx KX G ?a4 ?l4 ?c4 ?k4 ?b4 :),h7:=(PV.dx KX G ?a5 ?l5 ?c5 ?k5 ?b5 :),z7:=(PV.dx KX G ?a6 ?l6 ?c6 ?k6 ?b6 :),h8:=(PV.dx KX G ?a7 ?l7 ?c7 ?k7 ?b7 :),x8:=(PV.dx KX G ?a8 ?l8 ?c8 ?k8 ?b8 :),h9:=(PV.ix KX ?mk_World ?kc_World ?a9 ?i9 ?l9 ?c9 ?k9 ?b9 :),x9:=(PV.dx KX G ?a10 ?l10 ?c10 ?k10 ?b10 :),MA:=(PV.ix KX ?mk_Ranks ?kc_Ranks ?a11 ?i11 ?l11 ?c11 ?k11 ?b11 :),NA:=(PV.dx KX G ?a12 ?l12 ?c12 ?k12 ?b12 :),OA:=(PV.dx KX G ?a13 ?l13 ?c13 ?k13 ?b13 :),QA:=(PV.dx KX G ?a14 ?l14 ?c14 ?k14 ?b14 :),RA:=(PV.dx KX G ?a15 ?l15 ?c15 ?k15 ?b15 :),SA:=(PV.dx KX G ?a16 ?l16 ?c16 ?k16 ?b16 :),UA:=(PV.mx KX ?a17 ?i17 ?l17 ?c17 ?k17 ?b17 :),VA:=(PV.mx KX ?a18 ?i18 ?l18 ?c18 ?k18 ?b18 :),WA:=(PV.mx KX ?a19 ?i19 ?l19 ?c19 ?k19 ?b19 :),XA:=(PV.mx KX ?a20 ?i20 ?l20 ?c20 ?k20 ?b20 :),YA:=(PV.dx KX G ?a21 ?l21 ?c21 ?k21 ?b21 :),lB:=(PV.mx KX ?a22 ?i22 ?l22 ?c22 ?k22 ?b22 :),MB:=(PV.mx KX ?a23 ?i23 ?l23 ?c23 ?k23 ?b23 :),OB:=(PV.dx KX G ?a24 ?l24 ?c24 ?k24 ?b24 :),SB:=(PV.dx KX G ?a25 ?l25 ?c25 ?k25 ?b25 :),TB:=(PV.dx KX G ?a26 ?l26 ?c26 ?k26 ?b26 :),UB:=(PV.mx KX ?a27 ?i27 ?l27 ?c27 ?k27 ?b27 :),WB:=(PV.mx KX ?a28 ?i28 ?l28 ?c28 ?k28 ?b28 :),XB:=(PV.dx KX G ?a29 ?l29 ?c29 ?k29 ?b29 :),ZB:=(PV.dx KX G ?a30 ?l30 ?c30 ?k30 ?b30 :),MC:=(PV.dx KX G ?a31 ?l31 ?c31 ?k31 ?b31 :),NC:=(PV.dx KX G ?a32 ?l32 ?c32 ?k32 ?b32 :),OC:=(PV.dx KX G ?a33 ?l33 ?c33 ?k33 ?b33 :),SE:=(PV.Lw KX (PV.fl_c (PV.cls KX ?pg_World ?hd_World ?po_World ?sa_World) ?n_World_size (PV.fl_c (PV.cls KX ?pg_Ranks ?hd_Ranks ?po_Ranks ?sa_Ranks) ?n_Ranks_size (PV.fl_n))) :),UE:=(PV.Lw KX (PV.fl_c (PV.cls KX ?pg_World ?hd_World ?po_World ?sa_World) ?n_World_marked (PV.fl_c (PV.cls KX ?pg_Ranks ?hd_Ranks ?po_Ranks ?sa_Ranks) ?n_Ranks_marked (PV.fl_n))) :),VE:=(PV.Lw KX (PV.fl_c (PV.cls KX ?pg_World ?hd_World ?po_World ?sa_World) ?n_World_tied (PV.fl_c (PV.cls KX ?pg_Ranks ?hd_Ranks ?po_Ranks ?sa_Ranks) ?n_Ranks_tied (PV.fl_n))) :),WE:=(PV.Lw KX (PV.fl_c (PV.cls KX ?pg_World ?hd_World ?po_World ?sa_World) ?n_World_one (PV.fl_c (PV.cls KX ?pg_Ranks ?hd_Ranks ?po_Ranks ?sa_Ranks) ?n_Ranks_one (PV.fl_n))) :),XE:=(PV.Lw KX (PV.fl_c (PV.cls KX ?pg_World ?hd_World ?po_World ?sa_World) ?n_World_other (PV.fl_c (PV.cls KX ?pg_Ranks ?hd_Ranks ?po_Ranks ?sa_Ranks) ?n_Ranks_other (PV.fl_n))) :),YE:=(PV.Lw KX (PV.fl_c (PV.cls KX ?pg_World ?hd_World ?po_World ?sa_World) ?n_World_reckoned (PV.fl_c (PV.cls KX ?pg_Ranks ?hd_Ranks ?po_Ranks ?sa_Ranks) ?n_Ranks_reckoned (PV.fl_n))) :),ZE:=(PV.Lw KX (PV.fl_c (PV.cls KX ?pg_World ?hd_World ?po_World ?sa_World) ?n_World_endless (PV.fl_c (PV.cls KX ?pg_Ranks ?hd_Ranks ?po_Ranks ?sa_Ranks) ?n_Ranks_endless (PV.fl_n))) :),PC:=kD KX G ?PC,SC:=kD KX G ?SC,TC:=kD KX G ?TC,UC:=kD KX G ?UC,VC:=kD KX G ?VC,WC:=kD KX G ?WC,MD:=kD KX G ?MD,ND:=kD KX G ?ND,PD:=kD KX G ?PD,SD:=kD KX G ?SD,TD:=kD KX G ?TD,UD:=kD KX G ?UD,ME:=kD KX G ?ME,NE:=(PV.sx (f:=(.int 8)) KX G ?a_MOST_LETTERS :),OE:=(PV.sx (f:=(.str "abcdefghijklmnopqrstuvwxyz")) KX G ?a_LETTERS :),QE:=(PV.sx (f:=(.int 5)) KX G ?a_MOST_THINGS :),RE:=(PV.sx (f:=(.int 3)) KX G ?a_MOST_WORDS :),NF:=(PV.kxL (xs:=["not","and","or","some","all"]) KX G ?a_KEPT_TEXTS ?l_KEPT_TEXTS ?h_KEPT_TEXTS ?v_KEPT_TEXTS :) },?bt⟩
   case aC_World | pg_World | hd_World | po_World | sa_World | mk_World | kc_World | n_World_size | n_World_marked | n_World_tied | n_World_one | n_World_other | n_World_reckoned | n_World_endless | aC_Ranks | pg_Ranks | hd_Ranks | po_Ranks | sa_Ranks | mk_Ranks | kc_Ranks | n_Ranks_size | n_Ranks_marked | n_Ranks_tied | n_Ranks_one | n_Ranks_other | n_Ranks_reckoned | n_Ranks_endless | a0 | l0 | c0 | k0 | a1 | l1 | c1 | k1 | a2 | l2 | c2 | k2 | a3 | l3 | c3 | k3 | a4 | l4 | c4 | k4 | a5 | l5 | c5 | k5 | a6 | l6 | c6 | k6 | a7 | l7 | c7 | k7 | a8 | l8 | c8 | k8 | a9 | i9 | l9 | c9 | k9 | a10 | l10 | c10 | k10 | a11 | i11 | l11 | c11 | k11 | a12 | l12 | c12 | k12 | a13 | l13 | c13 | k13 | a14 | l14 | c14 | k14 | a15 | l15 | c15 | k15 | a16 | l16 | c16 | k16 | a17 | i17 | l17 | c17 | k17 | a18 | i18 | l18 | c18 | k18 | a19 | i19 | l19 | c19 | k19 | a20 | i20 | l20 | c20 | k20 | a21 | l21 | c21 | k21 | a22 | i22 | l22 | c22 | k22 | a23 | i23 | l23 | c23 | k23 | a24 | l24 | c24 | k24 | a25 | l25 | c25 | k25 | a26 | l26 | c26 | k26 | a27 | i27 | l27 | c27 | k27 | a28 | i28 | l28 | c28 | k28 | a29 | l29 | c29 | k29 | a30 | l30 | c30 | k30 | a31 | l31 | c31 | k31 | a32 | l32 | c32 | k32 | a33 | l33 | c33 | k33 | PC | SC | TC | UC | VC | WC | MD | ND | PD | SD | TD | UD | ME | a_MOST_LETTERS | a_LETTERS | a_MOST_THINGS | a_MOST_WORDS | a_KEPT_TEXTS | l_KEPT_TEXTS=>k_is
   case b8 | b27 | b28 | b33=>exact λ_ _ _ _ _ _ us hl=>by (obtain⟨_,rfl⟩:=PV.sX hl;rfl)
   case b0 | b1 | b2 | b3 | b4 | b5 | b6 | b7 | b10 | b12 | b19 | b20 | b22 | b25 | b26 | b29=>exact λ_ _ _ _ _ _ us hl=>by (obtain⟨_,_,rfl⟩:=PV.sY hl;rfl)
   case b11 | b13 | b17 | b18 | b21 | b23 | b24 | b30=>exact λ_ _ _ _ _ _ us hl=>by (obtain⟨_,_,_,rfl⟩:=PV.sZ hl;rfl)
   case b9 | b14 | b15 | b16 | b31 | b32=>exact λ_ _ _ _ _ _ us hl=>by (obtain⟨_,_,_,_,rfl⟩:=PV.yh hl;rfl)
   case h_KEPT_TEXTS=>decide
   case v_KEPT_TEXTS=>exact .cons ⟨_,rfl⟩ (.cons ⟨_,rfl⟩ (.cons ⟨_,rfl⟩ (.cons ⟨_,rfl⟩ (.cons ⟨_,rfl⟩ (.nil)))))
   case bt=>exact λs u=>.of_eq rfl
  obtain⟨c_,w_,T,e1⟩:=TT;have e0:fa=T.OC.f:=by
   have q:=hmg.symm.trans T.OC.m;cases q;rfl
  subst e0;exact⟨T.OC.fd,e1,λbase kb nb=>(K43.wG (w:=w) (base:=base) T).imp (K43.wH K43.lZ)⟩
