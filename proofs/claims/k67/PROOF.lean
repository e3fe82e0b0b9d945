import PyProof.Rows.All
import Wide.All
import OpenK.AllK
import Wide.FinOn
import Lean
import PyProof.EqAt
import PyProof.EqKinds
import PyProof.TupleCall
import PyProof.TupleKey
import PyProof.DictRoadsH
import PyProof.StationsW
import PyProof.DictWalks
import PyProof.DictItemsLoops
import KE.KPairComp
import KE.KDictList
import PyProof.StrWalks
import PyProof.ConsumeWalk
import PyProof.DictUpdate
import PyProof.ExcClass2
import PyProof.ExcClass3
import PyProof.ExcArgsOwn
import PyProof.ExcAttrAll.ValueError
import PyProof.InstStoreFacts
import PyProof.StrLawsRepr
import PyProof.ReprStr
import PyProof.NsDelKeeps
import PyProof.RulesAs
import KE.KIsAll
import KE.KRevIter
import PyProof.EnumMake
import PyProof.MeetsSeq
import PySem.SetOps
import KE.KSortTup
import PySem.Challenge.RW_twinrounds_k67_whole_second_hand
set_option genInjectivity false
set_option compiler.extract_closed false
set_option genSizeOf false
set_option Elab.async false
set_option linter.all false
set_option maxRecDepth 100000
set_option maxHeartbeats 4000000
open Array renaming length_toList->gy,forIn_toList->vS,replicate->yA,mk->zD,toList->C9,mem_toList_iff->CB,toList_inj->E5,getElem?_eq_some_iff->Fa,getElem?_toList->Fs,getElem?_eq_getElem->FL,toList_map->Kb,perm_iff_toList_perm->LS,getD_eq_getD_getElem?->LU,getElem?_eq_none->LY
open Bool renaming false_ne_true->dc,false_eq_true->dQ,and_eq_true->eD,eq_iff_iff->kg,not_true->kR,true_and->so,false_and->Cc,and_true->DV,not_false->GL,false_or->IL,eq_false_iff->Lm,or_eq_true_iff->Lo,and_eq_true_iff->MS
open Classical renaming byContradiction->B5,choose_spec->F9
open False renaming elim->kf
open ForInStep renaming yield->ub
open Function renaming comp_def->eW
open Int renaming toNat_natCast->gg,emod_nonneg->ze,emod_lt_of_pos->zh,le_refl->BF,toNat_of_nonneg->EQ,fdiv_eq_ediv_of_nonneg->HL,ediv_one->IB
open List renaming length_map->ay,map_cons->ba,mem_map->bb,range->bg,mem_cons->br,lookup->bE,lookup_cons->bX,getElem?_map->ca,map_map->cb,length_cons->ci,mem_cons_of_mem->ck,size_toArray->cr,mem_range->d4,mem_cons_self->da,getElem?_eq_getElem->db,mem_append->dA,map_append->dP,mem_filter->dS,length_append->eA,length->eC,all_eq_true->eS,nodup_append->f6,map_nil->fE,append_nil->fI,getElem_mem->gu,getElem?_set_ne->gX,mem_append_right->hU,set_cons_zero->i7,set_cons_succ->i8,length_take->ic,pairwise_map->iA,getElem?_eq_some_iff->iF,getElem?_append_right->ja,nil_append->jv,getElem?_append_left->kr,getElem?_cons_zero->ku,map_congr_left->kH,pairwise_cons->kL,getElem?_cons_succ->kN,mem_append_left->kU,nodup_cons->lI,Nodup->lS,getElem?_set_self->mo,mem_singleton->mI,length_range->mN,length_nil->nE,mem_of_getElem?->oS,length_eq_zero_iff->pj,getElem?_eq_none->pw,getD_eq_getElem?_getD->qo,length_drop->re,any_cons->rj,find?_cons->rl,length_set->rS,mem_iff_getElem->si,replicate_succ->sA,replicate_zero->sB,cons_append->sC,all_cons->tz,drop_eq_getElem_cons->uk,length_pos_of_mem->ve,pairwise_iff_getElem->vj,map_take->vn,replicate->x8,length_replicate->xb,length_singleton->xk,eq_nil_of_length_eq_zero->xL,getElem?_range->xS,nodup_range->ya,mem_iff_getElem?->yi,getElem?_zip_eq_some->yk,zip_cons_cons->zt,getElem?_replicate->As,drop_length->AJ,foldr_cons->AU,mem_erase_of_ne->AV,length_erase_of_mem->AW,getElem_of_mem->B1,take_append_drop->B6,mem_of_find?_eq_some->B7,map_drop->Bn,filterMap_cons->C4,mem_filterMap->CA,of_mem_zip->D0,getElem?_take_of_lt->D2,take_sublist->D3,filterMap_map->Da,getElem?_drop->DL,take_of_length_le->DO,range_succ->DS,set_append_right->DZ,append_assoc->E1,length_pos_iff->E6,any_map->EE,getD->EK,getElem?_inj->Fc,mem_of_mem_take->Fh,find?_some->Fk,find?_eq_none->Fn,take_succ->FU,take_length->FV,length_filter_le->FY,getElem_map->Gc,any_eq_false->HM,nodup_nil->IT,drop_zero->JA,ext_getElem?->JE,range_succ_eq_map->JI,not_mem_nil->JJ,drop_of_length_le->Kt,not_lt->KA,length_eraseIdx->KG,any_eq_true->KW,getElem_take->L8,mem_of_mem_drop->L9,pairwise_append->Lc,pairwise_lt_range->Lu,ext_getElem->LD,find?_isSome->LL,perm_middle->LN,toArray->LV,idxOf_lt_length_iff->Mo,getElem_idxOf->MB,filter_cons->MC,filter_sublist->MD,eraseIdx_eq_take_drop_succ->ML
open List.Nodup renaming sublist->FR
open List.Pairwise renaming imp_of_mem->qf,nil->AT,imp->FX
open List.Perm renaming refl->xI,cons->AX,swap->KB
open List.cons renaming injEq->zv
open Nat renaming le_refl->aE,ne_of_lt->bS,le_trans->d6,zero_le->eK,lt_of_lt_of_le->eP,lt_irrefl->ka,not_lt->kG,le_succ->lx,lt_succ_of_lt->mE,zero_add->mP,lt_of_le_of_lt->nI,ne_of_gt->ol,sub_self->rL,le_of_lt_succ->sk,reduceAdd->sq,reduceSub->sv,le_of_lt->sQ,lt_succ_self->tm,succ_pos->vk,lt_or_ge->xD,add_assoc->zn,le_succ_of_le->AK,mod_lt->AY,lt_trichotomy->B4,mul_comm->BE,le_of_eq->CI,min_self->DU,le_zero->G0,le_one_iff_eq_zero_or_eq_one->G1,lt_trans->IN,succ_ne_self->IZ,min_eq_left->Kk,min_eq_right->Kn,pos_of_ne_zero->KF,lt_or_eq_of_le->L5,add_zero->Ll,mul_add_div->ME,div_eq_of_lt->MG,mul_add_mod->MH,mod_eq_of_lt->MI,exists_eq_succ_of_ne_zero->MM,le_total->MO,lt_succ_of_le->MR
open Nat.succ renaming inj->y9
open Ne renaming symm->cf
open Option renaming bind_some->dn,map_some->io,map_eq_some_iff->kx,isNone_iff_eq_none->sd,isSome_map->xo,bind_eq_some_iff->yB,getD->Bi,isSome_iff_exists->D1,getD_none->IF,none->IY,bind_eq_bind->Lv
open Option.some renaming inj->cy,injEq->EJ
open Or renaming inr->cq,inl->df
open Prod renaming ext->rd
open Prod.mk renaming injEq->sM,inj->GN
open PyProof.Rows renaming envOfC->g9,AllBare->nc,seqObj->qa,IntsAre->rh,isTrue_and->t5,subscriptTail->AC,StrsAre->AZ,Constant_none->C6,isTrue_and_nil->C7,isTrue_not->C8,callWith_type1->Ct,slot_tuple_getitem->DA,Subscript_->DC,entry_proto_collect'->ER,entry_list_iadd'->ES,kind_sorted->EU,plain_sorted->EV,entry_sorted->EW,args_sorted1->EZ,slot_list_sort->F3,entry_list_sort->F4,args_list_sort->F5,arrOf->F6,sortedHeap_at->F7,sortedHeap_old->F8,listUpdate_at->FH,seqEpoch_at->FK,subscriptTail_builtinR->ID,risingS->KO,wpAny_notIn_heap->LJ,listItems_at->M0
open PyProof.Rows.F renaming plain_set_update_loop->LP
open PyProof.Rows.IsTup renaming new->DD
open PyProof.Rows.SortSt renaming mk'->LW
open PySem renaming Value->ac,wpAny_bind->ae,wpAny->ag,Shared->ah,model->ai,wpAny_pure->av,starEach->aw,Around->aS,cLine->bv,World->bP,Program->cw,bootBuiltins->cE,backTo->cS,compareOp->de,atKey->dE,Builtin->eI,swapsWith->eJ,attributeBase->eR,behindInMarks->fw,rawInt->fN,keywordEach->fR,intItems->gi,mainGlobals->gv,pyNext->gE,codeAny->gI,sysModules->gT,wpAny_mono->hJ,sizeLine_eq->hV,Keyword->hZ,binaryOp->i9,backToKw->ib,argBest->iq,wpAny_call_entry->iE,assignEach->iL,numAt->jp,wpAny_truthy_bool->jS,execs->ke,wpAny_field->kt,CmpOp->kz,wpAny_execs_nil->kA,wpAny_newObj_type->kB,codeAny_builtin->kK,Scope->kS,wpAny_execs_cons->kX,foldedSetIterable->lc,holding->li,FuncData->lj,NameKind->ly,Paired->mh,IsEnum->mS,wpAny_specialOf->mT,wpAny_seqItems->n9,assign->ng,standAt->nh,getItem->nw,relabel->nL,argsOk->nN,Walks->nV,wpAny_setState_of->o0,isTrue->oj,pyIter->om,getMethod->oB,Result->oC,bindL->oP,bindC->oQ,IsPart->pe,plainId_quiet->pE,isSubtype_type->pS,setNext->pT,pickOrder->pV,field->qh,Value->qq,wpAny_forIn_list->qr,wpAny_passesOwn->qE,codeAny_mono->qV,callWith->rb,wpAny_callSpecial?_slot->rf,sliceBounds->ri,valueAt->ro,callerA->rq,collect->sg,Str->sD,wpAny_rule->sK,wpAny_isInstance->sL,wpAny_Name->sR,wpAny_isTrue_Compare1->sT,PassesOwn->ti,wpAny_askSetting->uu,wpAny_newList->vi,Addr->vt,tupleKeyHash->vx,treeTable->vT,tupleKind->wa,wpAny_If->wb,wpAny_load->wc,wpAny_pyIter_tuple->wf,BindsTo->wq,bindArgs->wv,wpAny_Call_Name_kw->wx,mem_of_lookup->xa,wpAny_typeOf->xh,subscripted->xi,storedH->xl,DictEntry->xp,newList->xt,entryFor->xv,seqItems?->xw,wpAny_tryCatch->xy,wpAny_updateSeq->xB,wpAny_letGo->xC,wpAny_setField_rec->zd,IsTupleKey->zi,isInstance->zo,eqIsQuiet->zC,wpAny_Return_some->A4,letOwnedTupleGo->A6,wpAny_pyIter_list->A7,wpAny_standAt->Ap,concat_meets->Au,tupleKind_room_in1->AD,wpAny_Assign_Subscript->AE,lookup_relabel_local->AF,wpAny_getItem_str_slice->AH,post_val_or_str->AI,updateSeq->AL,wpAny_of_eq->AM,Slot->AQ,wpAny_attempt->AR,firstArgMember->AS,wpAny_runValue->B3,ofAClassStatement->B8,hashByValue->B9,setsByText->Bz,Stmt->BG,reduceHash->BH,wpAny_tupleItemsOf->BI,isSubtype_tuple_tuple->BM,carriedByValue->BN,wpAny_eqBool_int->BQ,entryOfKey->BU,Within->BY,builtinsNs->C3,wpAny_Constant_int->C5,wpAny_assign_Name->Cb,wpAny_call->CU,noFill_tuple_add->D4,seq_tuple_add->D5,typeLookup->DB,typeIs_str->DF,PlainAttrs->DI,wpAny_Dict_empty->DJ,sliceRange->DM,intItems_at->E4,wpAny_setField->EC,wpAny_setEntries_of->ED,call->EN,checkCount->F0,setSearchFrom->Fu,unsupported->FB,Shared->GA,Expr->GB,FuncData->GE,wpAny_pyHash_tuple->GH,wpAny_eqBool_tuple->GI,wpAny_loadName_local->GW,wpAny_loadName_cell->GY,wpAny_loadName_free->HA,wpAny_pyNext_list_item->HG,wpAny_pyNext_list_end->HI,slot_list_getitem->IE,wpAny_getItem_heap->IP,wpAny_setItem_heap->IQ,getitemInPython_of_ne->IR,wpAny_letTemporaryGo->IS,wpAny_comprehension_free->Jn,builtinLookup_eq_fast->Kj,wpAny_pyIter_slot->KI,wpAny_Call_method->KP,searchCouldBeSeen->LH,wpAny_eqIsQuiet_tuple->LI,wpAny_pyIter_enum->Mn
open PySem.Around renaming under_plainId->rX,under->CO
open PySem.AutoSeq1 renaming wpAny_loadPart'->BD
open PySem.Builtin renaming bitAnd->tj,max->K0
open PySem.Builtin.Builtins renaming bindParams->K2
open PySem.Builtin.Int renaming intBits->i6
open PySem.Builtin.List renaming listExtendWith->y0,listLengthHint->KL,listSameRef->LZ
open PySem.Builtin.Range renaming rangeSize->HK
open PySem.Builtin.Slice renaming slicePlaces->AA,sliceAdjust->D9,sliceApplied->IC
open PySem.Builtin.SmallTypes renaming nextOf->BA,ownedTupleIsFree->Mb,ownedTupleHandOut->Mc
open PySem.Builtin.Str renaming occurrences->oy
open PySem.Builtin.Tuple renaming tupleHashOf->zk,tupleExact->AB,tupleItemsOf->GG
open PySem.Calls renaming call_function_entry->ET,Name_function_global->HC,spliced_nil->Ic,spliced_cons->Iq,callWith_builtin->II,evalArgs_plain->IJ
open PySem.Challenge renaming pw_twinrounds_k67_whole_second_hand->MU,rw_twinrounds_k67_whole_second_hand->MV
open PySem.CmpOp renaming NotIn->HE
open PySem.Code renaming isFrame->CS,quiet_builtin->E9,frames->HZ
open PySem.Data renaming fields->Cf,cell->Co
open PySem.F renaming slot_tuple_hash->vE,slot_tuple_eq->zw,plainAttrs_list->AO,slot_enumerate_next->BB,slot_tuple_iterator_next->BC,slot_tuple_add->D6,entry_tuple_add->D7,args_tuple_add_2->D8,slot_list_append->E7,type_list_append->E8,slot_dict_getitem->EG,plain_set_new->Ki,slot_dict_items->KS,plain_list_iadd->L1,slot_set_iter->LX,entry_enumerate_next->M1,args_enumerate_next_1->M2,entry_tuple_iterator_next->Md,args_tuple_iterator_next_1->Me,slot_list_index->MA
open PySem.Heap renaming get?_push_of_some->bn,lt_size->bo,get?_push_size->ce,SameBut->fh,size_push->iO,get?_update_other->lP,get?_update_self->nX,ExtBut->B0,get?_push_cases->EI
open PySem.Heap.SameBut renaming update->xE,refl->EH
open PySem.NameKind renaming free->ua
open PySem.Obj renaming mapSeq->kD,data_mapFields->uS,mapFields->Ee,isFreed_of_fields->EA,cls_mapFields->EB
open PySem.Paired renaming length->A3,snoc->IM
open PySem.PassesOwn renaming never->ff
open PySem.SeqAt renaming EqAt->mB,in_listAt->IG,notIn_listAt->IH
open PySem.SeqAt.EqAt renaming same->DH,of_refs->DT,int_str->GT,str_int->GU
open PySem.SeqAt.RcAt renaming lists->JO,lists_lengths->JU,tuples->JY
open PySem.SetTable renaming runEnd->eB,bits->gL,leap->kP,turns->kQ,below->yY,sizeAbove->FC,fresh->FD,slot->L6,has->L7,layClean->LA,laid->LB,fits->LF,fill->LG,grown->LM,tooFull->LO
open PySem.SetTable.layClean renaming free->yn
open PySem.SetTable.probe renaming go->qc
open PySem.Str renaming ofString->dL,empty->nv,length->DE
open PySem.Txt renaming slice->AG
open PySem.Value renaming ref->aT,none->fF,type->md,int->oa,bool->qB,str->sP,float->BS,isInt->GO,isStrOf->GS,bytes->GV
open PySem.W renaming Frag->aI,findIn->fA,keepIn->ia,fnOf->ii,mg_none_of->jI,kia_one->kq,boot_heap->ma,emptyDict->nk,instObj->og,codeIn->pd,isFn->qS,mg_of->se,SharedT->sN,kitOne->tq,plainGet->wl,kas_rev->yT,boot_drawn->zI,boot_toks->zS,lookIn->A8,hasDictIn->A9,nsIn->B2,methodObj->C0,plainGet_of->CC,plainOver->CD,takerIn->CF,makesIn->CH,specialIn->CL,kitx_list->CM,callWith_K->CY,handedIn->HP,kitx_tuple->HU,kitx_dict->HV,methodCall_KW->Iy,cellsFrom_some->IA,kdl_dict->KU,readsIn->L3,findCls->L4
open PySem.W.WData renaming int->tJ,weightAll->EL,weight->EM,layable->L0
open PySem.W.WShape renaming has->IU
open PySem.Walks renaming list->AN
open PySem.pickOrder renaming go->EF
open Sum renaming inl->qv,inr->qA
open Sum.inl renaming inj->w9
open Sum.inr renaming inj->BO,injEq->MQ
open True renaming intro->ko
open Option renaming some->O0,none->W1
open Bool renaming true->O1,false->O2
set_option hygiene false in
local macro_rules
|`(.(0))=>`((by first|assumption|omega))
|`(.(1))=>`((by simp))
|`(.(2))=>`((by decide))
def WH:=@if_pos
def ZH:=@if_neg
def NI:=@absurd
def OI:=@decide_eq_false
def QI:=@decide_eq_true
def RI:=@congrArg
def SI:=@of_decide_eq_true
def UI:=@beq_iff_eq
def VI:=@if_true
def WI:=@if_false
def XI:=@decide_eq_true_eq
def YI:=@beq_self_eq_true
abbrev zFr:=PySem.W.Frag
abbrev zQ0:=PySem.Value->PySem.Shared->Prop
abbrev NY:=List (PySem.Addr×PySem.Obj)
variable {h h':PySem.Heap}{vs us its:List qq}{o:PySem.Obj}{s:GA}{a b it p C q:vt}{Q E:qq->GA->Prop}{u doc pm cdv ct oc:qq}{P prog:PySem.Program}{w:PySem.World}{t' i n j ep x1 k':Nat}{ch A B A0:List vt}{x c y f m qual name:sD}{e tg:GB}{N ps loose ws:List sD}{M:PySem.Model}{pos pos' py spos tp xpos apos p' pos2 p1 p2 p3 p4 p5 p6 p7 p8 p9 p10 p11 p12 p13:PySem.Pos}{π:List (vt×PySem.Obj)}{es:Array (Int×qq)}{body s1 s2:List BG}{l:List Nat}{kw:List (sD×qq)}{env:PySem.Env}{mg:sD->Option qq}{fd:GE}{sc scope:PySem.Scope}{an od:Option vt}{osl:Array (Option qq)}{ns:List Int}{st:BG}{elts:List GB}{ow:Array (Option Nat)}
def gn{g:Sort _}(a:g):a=a:=of_eq_true (eq_self a)
namespace PV
open PySem
section
variable {K:Type} [DecidableEq K] (kd:KeyKind prog w K)
inductive NkI (h:Heap):List (List K)->List ac->Prop
 |nil:NkI h [] []
 |cons {k:List K}{b:Addr}{ks:List (List K)}{vs:List ac}:zi kd h k b->NkI h ks vs->NkI h (k::ks) (.ref b::vs)
def PR(h:Heap)(ks:List (List K))(a:Addr):Prop:=∃o xs n,h.get? a=O0 o/\o.cls=.type "tuple"/\o.data=.seq xs n/\NkI kd h ks xs.toList
variable {kd}
theorem NkI.inj{h:Heap}{x y:List (List K)}{vs:List ac}(p:NkI kd h x vs):NkI kd h y vs->x=y:=by
 induction p generalizing y with
 |nil=>intro q;cases q;rfl
 |cons a _ g=>intro q;cases q with | cons b t=>rw[a.inj b,g t]
def NkI.kept{g:Heap}{d:Addr}{es ep}(v:h.get? d=O0 o)(z:o.data=.dict es ep)(hs:fh d h g){x:List (List K)}{vs:List ac}(p:NkI kd h x vs):NkI kd g x vs:=by
 induction p with
 |nil=>exact .nil
 |cons a _ r=>exact .cons (a.keeps v z hs) r
theorem PR.ty{ks:List (List K)}(x:PR kd s.heap ks a):s.TypeIs (.ref a) "tuple":=let ⟨o,_,_,g,c,_⟩:=x;⟨o,g,c⟩
theorem PR.inj{h:Heap}{a:Addr}{x y:List (List K)}(p:PR kd h x a)(q:PR kd h y a):x=y:=by
 obtain⟨o,G,n,g,_,d,i⟩:=p;obtain⟨H,F,m,v,_,z,r⟩:=q;cases g.symm.trans v;cases d.symm.trans z;exact i.inj r
theorem PR.kept{h g:Heap}{ks:List (List K)}{a d:Addr}{o:Obj}{es ep}(x:PR kd h ks a)(v:h.get? d=O0 o)(r:o.data=.dict es ep)(hs:fh d h g):PR kd g ks a:=by
 obtain⟨I,H,n,F,c,G,i⟩:=x;refine⟨I,H,n,(hs.2 a λz=>?_).trans F,c,G,i.kept v r hs⟩;subst z;cases v.symm.trans F;cases r.symm.trans G
def fu(g:KeyKind prog w K)(ks:List (List K)):Int:=BH (zk (ks.map (vx g)))
def Yp(ks:List (List K)):Nat:=(ks.map λk=>k.length+1).sum+1
variable {A:aS}
theorem dC{ks:List (List K)}{Q:Int->ah->Prop}(S:A.units+1<bv)(I:PR kd s.heap ks a)(k:Q (fu kd ks) { s with toks:=s.toks+Yp ks }):ag (ai prog w) A (pyHash (.ref a)) Q E s:=by
 have ty:=I.ty;obtain⟨o,T,n,g,_,d,i⟩:=I;unfold pyHash pyHashByItsType;refine ae (wpAny_cRoomFor_or (.inr .(0)) ?_);refine ae (mT ty vE.lookup ?_);show ag _ _ (if (O0 (Value.builtin "tuple.__hash__")==O0 fF)=O1 then _ else _) Q E s;rw[ZH (by rw[beq_builtin_none];exact dc)];refine ae (mT ty vE.lookup ?_);show ag _ _ (callSpecialIfBoundUnlessNone? (.ref a) "__hash__" _ >>= _) Q E s;refine ae (wpAny_callSpecialIfBoundUnlessNone?_slot ty vE (iE vE ty F.entry_tuple_hash ?_ (F.args_tuple_hash_1 _)));show ag _ _ (GG (.ref a) >>= _) _ _ s;refine ae (BI g d ?_);refine ae ?_;rw[<-vS];refine qr _ (λr (b:Array Int) z=>∃p q,ks=p++q/\NkI kd s.heap q r/\b.toList=p.map (vx kd)/\z={ s with toks:=s.toks+(p.map λk=>k.length+1).sum }) _ ?_ ?_ _ _ ⟨[],ks,rfl,i,rfl,rfl⟩
 .rintro x r b z ⟨p,q,rfl,G,H,rfl⟩;cases G with
  | @cons m c J _ L v=>
   refine ae (GH (s:={ s with toks:=s.toks+(p.map λk=>k.length+1).sum }) (show A.in1.units<bv from S) L ?_);exact av ⟨p++[m],J,by simp,v,by simp[H],by simp[zn]⟩
 .rintro b z ⟨p,q,rfl,G,H,rfl⟩;cases G;rw[fI] at k;show ag _ _ (retInt (zk b.toList)) _ _ _;rw[H];refine wpAny_ret_mkInt ?_;generalize O:zk (p.map (vx kd))=y;unfold fu BH Yp at k;rw[O] at k;show ag _ _ (if (decide (-(2:Int)^63<=y)&&decide (y<2^63))=O1 then _ else _) Q E _
  by_cases c:(decide (-(2:Int)^63<=y)&&decide (y<2^63))=O1
  .rw[WH c] at k ⊢;exact av (by simpa [zn] using k)
  .rw[ZH c] at k ⊢;exact ae (sK (av (by simpa [zn] using k)))
def pM{x y:List (List K)}{P:Fin->ah->Prop}(hu:A.units<bv)(hx:PR kd s.heap x a)(hy:PR kd s.heap y b)(k:P (.done (.ret (.bool (decide (x=y))))) s):ag (ai prog w) A (eI.«tuple.__eq__» ⟨[.ref a,.ref b],[]⟩) P E s:=by
 have ty:=hy.ty;obtain⟨o,T,n,g,_,d,i⟩:=hx;obtain⟨o2,S,m,g2,_,d2,i2⟩:=hy;show ag _ _ (zo (.ref b) (.type "tuple") >>= _) _ _ s;refine ae (sL ty BM ?_);simp only[kR,dQ,WI];refine ae (BI g d (ae (BI g2 d2 (ae ?_))));refine qr _ (λr q z=>q.1=W1/\z=s/\∃L J G F,r=List.zip G F/\NkI kd s.heap L G/\NkI kd s.heap J F/\decide (L=J)=decide (x=y)/\(G.length==F.length)=(T.size==S.size)) _ ?_ ?_ _ _ ⟨rfl,rfl,x,y,T.toList,S.toList,rfl,i,i2,rfl,by simp⟩
 .rintro⟨u,v⟩ r q z ⟨e,rfl,L,J,G,F,O,I,H,U,Y⟩;cases I with
  |nil=>simp at O
  | @cons k1 b1 x2 X h1 t1=>
   cases H with
   |nil=>simp at O
   | @cons k2 b2 Z W h2 t2=>
    simp only[zt,zv,sM] at O;obtain⟨⟨rfl,rfl⟩,rfl⟩:=O;refine ae (GI hu h1 h2 ?_)
    by_cases c:k1=k2
    .subst c;rw[QI rfl];simp only[kR,dQ,WI];refine av ⟨rfl,rfl,x2,Z,X,W,rfl,t1,t2,?_,by simpa using Y⟩;rw[<-U]
     by_cases c2:x2=Z<;>simp[c2]
    .rw[OI c];simp only[GL,VI];have f:decide (x=y)=O2:=by rw[<-U];simp[c]
     rw[f] at k;exact ae (av (av (av k)))
 .rintro⟨q1,q2⟩ z ⟨e,rfl,L,J,G,F,O,I,H,U,Y⟩;simp only at e;subst e;refine av ?_;have f:(T.size==S.size)=decide (x=y):=by
   rw[<-U,<-Y];cases I with
   |nil=>cases H<;>simp
   |cons _ _=>
    cases H with
    |nil=>simp
    |cons _ _=>simp at O
  show P (.done (.ret (.bool (T.size==S.size)))) z;rw[f];exact k
def pO{x y:List (List K)}{Q:Bool->ah->Prop}(S:A.units+1<bv)(g:PR kd s.heap x a)(r:PR kd s.heap y b)(k:Q (decide (x=y)) s):ag (ai prog w) A (eqBool (.ref a) (.ref b)) Q E s:=by
 unfold eqBool;refine wpAny_holding ?_;show ag _ _ (if (aT a==aT b)=O1 then _ else _) Q E s
 by_cases c:(aT a==aT b)=O1
 .rw[WH c];have e:a=b:=by have:=eq_of_beq c;injection this
  subst e;cases g.inj r;exact ae (sK (av (by simpa using k)))
 .rw[ZH c];exact ae (wpAny_richCompare_same_room (op:=.Eq) g.ty r.ty zw (iE zw g.ty F.entry_tuple_eq (pM (show A.in1.units<bv from S) g r ⟨_,rfl,(λe=>nomatch e),jS k⟩) (F.args_tuple_eq_2 _ _)) .(0))
def gA(n:Nat){ks:List K}{a:Addr}{Q:Bool->ah->Prop}(I:zi kd s.heap ks a)(k:Q O1 s):ag (ai prog w) A (zC (n+1) (.ref a)) Q E s:=by
 have ty:=I.typeIs;obtain⟨o,G,m,g,_,d,i⟩:=I;unfold zC;refine ae (mT ty zw.lookup ?_);show ag _ _ (zo (.ref a) (.type "tuple") >>= _) _ _ s;refine ae (sL ty BM ?_);simp only[kR,dQ,WI];refine ae (n9 g d (ae ?_));show ag _ _ (forIn G _ _) _ _ s;rw[<-vS];refine qr _ (λr q z=>q.1=W1/\z=s/\∀v∈r,BN v=O1) _ ?_ ?_ _ _ ⟨rfl,rfl,i.byValue⟩
 .rintro v r q z ⟨e,rfl,F⟩;rw[eqIsQuiet_byValue _ (F v .(1))];refine ae (av ?_);simp only[kR,dQ,WI];exact av ⟨rfl,rfl,λu S=>F u (by simp[S])⟩
 .rintro⟨q1,q2⟩ z ⟨e,rfl,_⟩;simp only at e;subst e;exact av k
def Yq(n:Nat){ks:List (List K)}{a:Addr}{Q:Bool->ah->Prop}(I:PR kd s.heap ks a)(k:Q O1 s):ag (ai prog w) A (zC (n+2) (.ref a)) Q E s:=by
 have ty:=I.ty;obtain⟨o,H,m,g,_,d,i⟩:=I;unfold zC;refine ae (mT ty zw.lookup ?_);show ag _ _ (zo (.ref a) (.type "tuple") >>= _) _ _ s;refine ae (sL ty BM ?_);simp only[kR,dQ,WI];refine ae (n9 g d (ae ?_));show ag _ _ (forIn H _ _) _ _ s;rw[<-vS];refine qr _ (λr q z=>q.1=W1/\z=s/\∃F,NkI kd s.heap F r) _ ?_ ?_ _ _ ⟨rfl,rfl,_,i⟩
 .rintro v r q z ⟨e,rfl,F,G⟩;cases G with
  |cons L G=>
   refine ae (gA n L ?_);simp only[kR,dQ,WI];exact av ⟨rfl,rfl,_,G⟩
 .rintro⟨q1,q2⟩ z ⟨e,rfl,_⟩;simp only at e;subst e;exact av k
end
def R6{prog:cw}{w:bP}{K:Type}[DecidableEq K](g:KeyKind prog w K):HeapKind prog w (List (List K)) where
 is:=PR g
 hash:=fu g
 draws:=Yp
 room:=λA=>A.units+1<bv
 inj:=λp q=>p.inj q
 keeps:=λx z F hs=>x.kept z F hs
 pyHash:=λS I k=>dC S I k
 eqBool:=λS v r k=>pO S v r k
 quiet:=λI k=>Yq 6 I k
end PV
section
open PySem PySem.W PyProof.Rows
def L2.viewAt(p:cw)(ks:List Nat):cw:={ p with main:={ p.main with body:=ks.filterMap λi=>p.main.body[i]? } }
abbrev K67.R:=PySem.Challenge.rw_twinrounds_k67_whole_second_hand.row
def K67.vw:cw:=L2.viewAt MU [0,2,3,4,5,6,8,9,10,11,12,13,14,15,16,17,18,20,21,22,23,24,25,27,28,30,31,32,33,34,36,37,39,40,41,42,43,44,45,46,47,48,49]
namespace L2T
def runG(st:sN->Thread->Option (sN×Thread))(ok:Thread->Bool):Nat->sN->Thread->Option sN
 |0,_,_=>W1
 |n+1,s,t=>match through t with
  |true=>O0 s
  |false=>match ok t with
   |false=>W1
   |true=>match st s t with
    |some (g,t')=>runG st ok n g t'
    |none=>W1
theorem Zz{v:String->Option eI}{p:cw}{w:bP}{g:Nat}{ann:Option ac}:∀{n:Nat}{s z:sN}{t:Thread},runG (stepT (denote v) p w) (stepOk g ann) n s t=O0 z->topRun v p w g ann n s.abs t=O0 z.abs
 |0,_,_,_,h=>by cases h
 |n+1,s,z,t,h=>by
  unfold runG at h;unfold topRun;cases H:through t with
  |true=>rw[H] at h;cases h;rfl
  |false=>
   rw[H] at h;cases I:stepOk g ann t with
   |false=>rw[I] at h;cases h
   |true=>
    rw[I] at h;cases hs:stepT (denote v) p w s t with
    |none=>rw[hs] at h;cases h
    |some r=>obtain⟨G,F⟩:=r;rw[hs] at h;rw[stepT_spec hs];exact Zz h
def treeOf(l:List Obj):BT:=(l.foldl (λ(a:BT×Nat) o=>(a.1.ins a.2 o,a.2+1)) (BT.nil,0)).1
noncomputable abbrev boot (w:bP) (os:OsState):sN:=⟨treeOf (ma w.params).objs.toList,11,(ma w.params).life,zD [],zI,zS,os⟩
set_option maxHeartbeats 0 in
def boot_abs(w:bP)(g:OsState):(boot w g).abs=⟨ma w.params,zD [],zI,zS,g⟩:=by kernel_rfl
set_option maxHeartbeats 0 in
def dD(w:bP):((ma w.params).isNs gv,(ma w.params).objs.size)=(O1,11):=by kernel_rfl
noncomputable abbrev ann (w:bP):Option ac:=(ma w.params).nsMap gv "__annotations__"
noncomputable def fits(p:cw)(w:bP)(s:ah):Bool:=staticsOk (importedModules p.main.body) (ma w.params) s.heap&&namesBound p s.heap&&gensDone s&&laidKept (ma w.params) s.heap
def left{p:cw}{N:Nat}{F:Type}{f:ah->F}{v:bP->F}(H:opening p=plainProg p.main.scope.names)(G:∀s,fenceModules? p s=O0 s)(I:Nat.ble 600 N=O1)(h:∀(w:bP) (os:OsState),(runG (Fast.tw10156331382660048174 (Fast.tw11892475500146522536 Fast.tw14364793385576792824) p w) (Fast.tw6613529449190102663 11 (ann w)) N (boot w os) (topStub p)).map (λs=>(fits p w s.abs,f s.abs))=O0 (O1,v w))(w:bP):(openEnds vT p w N).map f=O0 (v w):=by
 obtain⟨⟨J,L,d,k,os⟩,e,O⟩:=kx.mp (boot_open H I G w);obtain⟨rfl,rfl,rfl,rfl⟩:J=ma w.params/\L=zD []/\d=zI/\k=zS:=by simpa using O
 have h:=h w os;rw[<-Fast.te10156331382660048174,<-Fast.te11892475500146522536,<-Fast.te14364793385576792824,<-Fast.te6613529449190102663] at h;obtain⟨z,r,q⟩:=kx.mp h;obtain⟨q1,q2⟩:=GN q;have t:=Zz r;rw[boot_abs] at t;obtain⟨b1,b2⟩:=GN (dD w);have g:topFrom vT p w N ⟨ma w.params,zD [],zI,zS,os⟩=O0 z.abs:=by
  unfold topFrom;dsimp only;rw[b1,b2];show (topRun vT p w 11 (ann w) N _ (topStub p)).bind _=_;rw[t];show (match fits p w z.abs with | true=>O0 z.abs | false=>W1)=_;rw[q1]
 unfold openEnds;rw[e];show (topFrom vT p w N _).map f=_;rw[g];exact RI O0 q2
end L2T
section
local macro_rules | `(tactic| o_head $H) => `(tactic| exact ‹∀P : Prop, P› _)
set_option maxHeartbeats 0 in
def K67.side(g:∀P:Prop,P):K67.R.Holds:=by
 k_head
end
def K67.as:List Addr:=[2,3,15,17,18,20,21,22,29,30,31,32,35,42,44,45,47,48,49,50,51,54,61,63,64,66,67,68,69,70,73,80,82,83,85,86,87,88,89,92,99,100,101,104,105,108,109,110,112,113,115,116,117,119,120,122,123,124,126,127,129,130,131,133,134,136,137,145,147,148,150,151,152,154,155,157,158,159,161,162,164,165,166,168,169,171,172,173,175,176,178,179,180,181,182,183,184,187,189,190,192,193,194,196,197,199,200,201,203,204,206,207,208,210,211,213,214,215,218,219,220,223,224,225,228,229,237,239,240,242,243,244,246,247,249,250,251,253,254,256,257,258,260,261,263,264,265,268,269,270,273,274,275,277,278,280,281,282,284,285,287,288,289,290,291,292,293,296,298,299,301,302,303,305,306,308,309,310,313,314,315,318,319,320,322,323,325,326,334,336,337,339,340,341,343,344,346,347,348,350,351,353,354,355,357,358,360,361,362,364,365,367,368,369,371,372,374,375,376,378,379,381,382,383,385,386,388,389,390,391,392,393,394,397,399,400,402,403,404,407,408,409,411,412,414,415,416,419,420,421,424,425,426,428,429,431,432,433,435,436,438,439,440,442,443,445,446,447,449,450,452,453,454,456,457,459,460,461,464,465]
set_option maxHeartbeats 0 in
def K67.as_ok:∀P,K67.as=(K67.side.heap_1 P).map (·.1):=λ_=>by kernel_rfl
noncomputable def K67.hook:Hook:=kHook K67.side.heap_1 K67.as K67.as_ok
set_option maxHeartbeats 0 in
theorem K67.look:LeftO K67.R.prog K67.vw [] (λs=>xlAt K67.vw [] s&&recOk K67.R.records s) K67.hook.obs K67.hook.val 6000:=by
 rw[show LeftO K67.R.prog K67.vw [] (λs=>xlAt K67.vw [] s&&recOk K67.R.records s) K67.hook.obs K67.hook.val 6000=∀w,(openEnds vT K67.R.prog w 6000).map (λs=>(openSeen K67.vw [] (importedModules K67.R.prog.main.body) (λs=>xlAt K67.vw [] s&&recOk K67.R.records s) O1 s,K67.hook.obs s))=O0 (openGood K67.vw [],K67.hook.val w) from rfl,Fast.te4187177175401517315];exact L2T.left (by kernel_rfl) (λ_=>by kernel_rfl) rfl (λw g=>by kernel_rfl)
end
open Lean.Parser.Command in
local macro_rules | `(def $i:declId $s:optDeclSig $v:declVal)=>`(noncomputable def $i:declId $s:optDeclSig $v:declVal) | `(abbrev $i:declId $s:optDeclSig $v:declVal)=>`(noncomputable abbrev $i:declId $s:optDeclSig $v:declVal)
namespace L2
open PySem PySem.Spec PyProof.Rows
abbrev Key:=Sum Int Str
def Q8:Key->ac->Bool
 |.inl k,v=>GO k v
 |.inr x,v=>GS x v
def keyH(w:bP):Key->Int
 |.inl k=>hashInt k
 |.inr x=>hashStr w x
def Bm:∀{k:Key}{v:ac},Q8 k v=O1->(∃i t,k=qv i/\v=oa i t)∨(∃x t,k=qA x/\v=sP x t)
 |.inl i,v,h=>by
  obtain⟨t,e⟩:=Value.isInt_shape (k:=i) (v:=v) h;exact .inl ⟨i,t,rfl,e⟩
 |.inr x,v,h=>by
  obtain⟨t,e⟩:=Value.isStrOf_shape (x:=x) (v:=v) h;exact .inr ⟨x,t,rfl,e⟩
def dF(i:Int)(t:Tok):Q8 (.inl i) (.int i t)=O1:=by simp[Q8,GO]
def dG(x:Str)(t:Tok):Q8 (.inr x) (.str x t)=O1:=by simp[Q8,GS]
def vy(a b:Int):decide ((qv a:Key)=qv b)=(a==b):=by
 by_cases e:a=b
 .subst e;simp
 .have h:¬ (qv a:Key)=qv b:=λq=>e (w9 q);rw[OI h];exact (beq_eq_false_iff_ne.mpr e).symm
def vz(a b:Str):decide ((qA a:Key)=qA b)=decide (a=b):=by
 by_cases e:a=b
 .subst e;simp
 .have h:¬ (qA a:Key)=qA b:=λq=>e (BO q);rw[OI h,OI e]
def v8(a:Int)(b:Str):decide ((qv a:Key)=qA b)=O2:=OI (λq=>nomatch q)
def v9(a:Str)(b:Int):decide ((qA a:Key)=qv b)=O2:=OI (λq=>nomatch q)
def Av(prog:cw)(w:bP):PySem.KeyKind prog w Key where
 is:=Q8
 hash:=keyH w
 inj:=λv a b z H=>by
  rcases Bm z with ⟨i,t,rfl,rfl⟩ | ⟨x,t,rfl,rfl⟩
  .rcases Bm H with ⟨j,u,rfl,e⟩ | ⟨y,u,rfl,e⟩
   .injection e with g _;rw[g]
   .exact nomatch e
  .rcases Bm H with ⟨j,u,rfl,e⟩ | ⟨y,u,rfl,e⟩
   .exact nomatch e
   .injection e with g _;rw[g]
 byValue:=λk v h=>by
  rcases Bm h with ⟨i,t,rfl,rfl⟩ | ⟨x,t,rfl,rfl⟩<;>rfl
 pyHash:=λr h=>by
  rcases Bm r with ⟨i,t,rfl,rfl⟩ | ⟨x,t,rfl,rfl⟩
  .exact wpAny_pyHash_int h
  .exact wpAny_pyHash_str h
 eqBool:=λS r h=>by
  rcases Bm S with ⟨i,t,rfl,rfl⟩ | ⟨x,t,rfl,rfl⟩
  .rcases Bm r with ⟨j,u,rfl,rfl⟩ | ⟨y,u,rfl,rfl⟩
   .rw[vy] at h;exact BQ h
   .rw[v8] at h;exact GT i t y u _ _ _ _ h
  .rcases Bm r with ⟨j,u,rfl,rfl⟩ | ⟨y,u,rfl,rfl⟩
   .rw[v9] at h;exact GU x t j u _ _ _ _ h
   .rw[vz] at h;exact wpAny_eqBool_str h
 «strs»:=λk x t v h=>by
  rcases Bm h with ⟨i,u,rfl,e⟩ | ⟨y,u,rfl,e⟩
  .exact nomatch e
  .injection e with g _
   subst g;cases v<;>rfl
def XJ(prog:cw)(w:bP)(i:Int)(t:Tok):(Av prog w).is (.inl i) (.int i t)=O1:=dF i t
def XM(prog:cw)(w:bP)(x:Str)(t:Tok):(Av prog w).is (.inr x) (.str x t)=O1:=dG x t
set_option genInjectivity true in
inductive V where
 |non | bl (b:Bool) | int (i:Int) | str (x:Str) | byt (b:Array UInt8) | flt (b:UInt64) | ref (a:Addr) | ty (n:String)
 deriving DecidableEq
def cc:V->ac->Prop
 |.non,u=>u=fF
 |.bl b,u=>u=qB b
 |.int i,u=>∃t,u=oa i t
 |.str x,u=>∃t,u=sP x t
 |.byt b,u=>∃t,u=GV b t
 |.flt b,u=>∃t,u=BS b t
 |.ref a,u=>u=aT a
 |.ty n,u=>u=md n
abbrev cx:List V->List ac->Prop:=mh cc
theorem cx.length{xs:List V}{us:List ac}(r:cx xs us):xs.length=us.length:=A3 r
theorem cx.get:∀{xs:List V}{us:List ac}{i:Nat}{x:V},cx xs us->xs[i]?=O0 x->∃u,us[i]?=O0 u/\cc x u
 |_,_,_,_,.nil,e=>by simp at e
 |_,_,0,_,.cons r _,e=>by simp at e;subst e;exact⟨_,rfl,r⟩
 |_,_,i+1,x,.cons _ t,e=>by
  obtain⟨u,v,g⟩:=cx.get (i:=i) (x:=x) t (by simpa using e);exact⟨u,by simpa using v,g⟩
theorem cx.append:∀{xs g:List V}{us ws:List ac},cx xs us->cx g ws->cx (xs++g) (us++ws)
 |_,_,_,_,.nil,s=>s
 |_,_,_,_,.cons r t,s=>.cons r (cx.append t s)
theorem cx.take:∀{xs:List V}{us:List ac}(n:Nat),cx xs us->cx (xs.take n) (us.take n)
 |_,_,0,_=>.nil
 |_,_,_+1,.nil=>.nil
 |_,_,n+1,.cons r t=>.cons r (cx.take n t)
theorem cx.drop:∀{xs:List V}{us:List ac}(n:Nat),cx xs us->cx (xs.drop n) (us.drop n)
 |_,_,0,r=>r
 |_,_,_+1,.nil=>.nil
 |_,_,n+1,.cons _ t=>cx.drop n t
def OV:Option V->Option ac->Prop
 |some v,O0 u=>cc v u
 |none,W1=>True
 |_,_=>False
def KV{g:Type}:List (g×V)->List (g×ac)->Prop:=mh λ(p:g×V) (q:g×ac)=>p.1=q.1/\cc p.2 q.2
def kV:Key->V
 |.inl i=>.int i
 |.inr x=>.str x
set_option genInjectivity true in
inductive HO where
 |lst (xs:List V)
 |tup (xs:List V)
 |dK (kvs:List (Key×V)) | dT (kvs:List (List Key×V))
 |set (S:Int->Bool) (n:Nat)
 |ins (C dx:Addr) (fs:List (Str×V))
 |own (x:Addr)
 |xd (fs:List (Str×V))
 |met (f x:Addr)
 |rng (lo hi:Int)
 |frz (o:Obj) (u:HO)
 |tbl (ps:Array ac)
 |ext (φ:Heap->Prop)
 |mem (F:List (List Key)->Int) (K:aI)
abbrev Hp:=Addr->Option HO
def gq(H:Hp)(a:Addr)(o:HO):Hp:=λb=>if b=a then O0 o else H b
def Aj{H:Hp}{o:HO}:gq H a o a=O0 o:=by unfold gq;rw[WH rfl]
def Al{H:Hp}{o:HO}(h:b≠a):gq H a o b=H b:=by unfold gq;rw[ZH h]
def uU{H:Hp}{o u:HO}(h:H a=O0 o)(h':H b=O0 u)(d:o≠u):a≠b:=by
 intro e;subst e;rw[h] at h';exact d (cy h')
def Df{H:Hp}{o:HO}(h:H a=O0 o)(h':H b=W1):a≠b:=by
 intro e;subst e;rw[h] at h';cases h'
def OL(K:aI)(H:Hp)(a:Addr)(xs:List V):Prop:=(H a=O0 (.tup xs)∨∃o,H a=O0 (.frz o (.tup xs))) ∨
 ∃(o:Obj) (g:Array ac) (n:Nat),K.lookup a=O0 o/\o.cls=.type "tuple"/\o.data=.seq g n/\g.size<=sizeLine/\cx xs g.toList
def NO(K:aI)(H:Hp)(ks:List (List Key))(b:Addr):Prop:=∃bs:List Addr,OL K H b (bs.map V.ref)/\mh (λk c=>OL K H c (k.map kV)) ks bs
def VZ(ks:List (List Key)):Prop:=∃ps:List (Nat×Nat),ks=ps.map (λp=>[.inl (p.1:Int),.inl (p.2:Int)])/\ps.length<=5/\∀p∈ps,p.1<5/\p.2<5
def Tu:HO->Prop
 |.tup _=>True
 |.frz _ (.tup _)=>True
 |_=>False
section
variable (P:cw) (w:bP)
def BX(H:Hp)(h:Heap)(a:Addr):HO->Prop
  |.mem F K=>(a==gT)=O2/\∃xs:List (List (List Key)×Addr×ac),(∀q∈xs,NO K H q.1 q.2.1/\VZ q.1/\cc (.int (F q.1)) q.2.2) ∧
      ∃o es ep,h.get? a=O0 o/\o.ExactDict/\o.data=.dict es ep/\es.toList=xs.map (BU (PV.R6 (Av P w)))/\(xs.map (·.1)).Nodup
  |.lst xs=>xs.length<=sizeLine/\∃(g:List ac) (n:Nat),cx xs g/\h.get? a=O0 { cls:=.type "list",data:=.seq g.toArray n }
  |.tup xs=>xs.length<=sizeLine/\∃g:List ac,cx xs g/\IsTup h a g.toArray
  |.dK kvs=>kvs.length<=sizeLine/\(a==gT)=O2/\∃vs,KV kvs vs/\h.DictOf (Av P w) a vs
  |.dT kvs=>kvs.length<=sizeLine/\(a==gT)=O2/\∃xs:List (List Key×Addr×ac),
      mh (λ(p:List Key×V) (q:List Key×Addr×ac)=>p.1=q.1/\H q.2.1=O0 (.tup (p.1.map kV))/\cc p.2 q.2.2) kvs xs ∧
      ∃o es ep,h.get? a=O0 o/\o.ExactDict/\o.data=.dict es ep/\es.toList=xs.map (BU (wa (Av P w)))/\(xs.map (·.1)).Nodup
  |.set S n=>h.SetOf (intKind P w) a S n
  |.ins C dx fs=>H dx=O0 (.own a)/\fs.length<=1000/\dx≠a/\h.get? a=O0 (og C dx) ∧
      ∃mA,h.Ns1 dx mA/\(∀f,OV (fs.lookup f) (mA f))/\BY mA (fs.map (·.1))
  |.own _=>∃o,h.get? a=O0 o
  |.xd fs=>∃mA,h.Ns1 a mA/\∀f,OV (fs.lookup f) (mA f)
  |.rng z G=>∃t u v,h.get? a=O0 { cls:=.type "range",data:=.fields #[.int z t,.int G u,.int 1 v] }
  |.frz o u=>h.get? a=O0 o/\BX H h a u
  |.tbl ps=>h.get? a=O0 { cls:=.none,data:=.fields ps }
  |.met f x=>h.get? a=O0 (C0 (.ref f) (.ref x))
  |.ext φ=>φ h/\(∃o,h.get? a=O0 o)/\∀h1 r:Heap,φ h1->(∀o,h1.get? a=O0 o->r.get? a=O0 o)->φ r
def QN(H:Hp)(h:Heap):Prop:=∀a o,H a=O0 o->BX P w H h a o
end
section
variable {H H':Hp}{o:HO}
theorem BX.lt(x:BX P w H h a o):a<h.objs.size:=by
 cases o with
 |mem F K=>obtain⟨_,_,_,o,_,_,e,_⟩:=x;exact bo e
 |lst r=>obtain⟨_,_,_,_,e⟩:=x;exact bo e
 |tup r=>obtain⟨_,_,_,p⟩:=x;exact p.lt
 |dK g=>obtain⟨_,_,_,_,o,_,_,e,_⟩:=x;exact bo e
 |dT g=>obtain⟨_,_,_,_,o,_,_,e,_⟩:=x;exact bo e
 |set S n=>obtain⟨o,_,_,_,e,_⟩:=x;exact bo e
 |ins C dx fs=>obtain⟨_,_,_,e,_⟩:=x;exact bo e
 |own y=>obtain⟨_,e⟩:=x;exact bo e
 |xd fs=>obtain⟨_,⟨_,_,_,e,_⟩,_⟩:=x;exact bo e
 |rng z G=>obtain⟨_,_,_,e⟩:=x;exact bo e
 |frz ob u=>obtain⟨e,_⟩:=x;exact bo e
 |tbl v=>exact bo (show h.get? a=O0 _ from x)
 |met f y=>exact bo (show h.get? a=O0 _ from x)
 |ext φ=>obtain⟨_,⟨_,e⟩,_⟩:=x;exact bo e
theorem Paired.mapP{I z:Type}{F G:I->z->Prop}:∀{v:List I}{g:List z},mh F v g->(∀a b,F a b->G a b)->mh G v g
 |_,_,.nil,_=>.nil
 |_,_,.cons r t,f=>.cons (f _ _ r) (Paired.mapP t f)
def BX.stay(x:BX P w H h a o)(k:∀b u,(b=a∨H b=O0 (.own a))->h.get? b=O0 u->h'.get? b=O0 u)(ho:∀b,H b=O0 (.own a)->H' b=O0 (.own a))(O:∀b o,Tu o->H b=O0 o->H' b=O0 o):BX P w H' h' a o:=by
 have T:∀{K:aI}{b:Addr}{xs:List V},OL K H b xs->OL K H' b xs:=λ{K b xs} z=>by
  rcases z with (z | ⟨o,z⟩) | z
  .exact .inl (.inl (O b _ trivial z))
  .exact .inl (.inr ⟨o,O b _ trivial z⟩)
  .exact .inr z
 induction o with
 |mem F K=>
  obtain⟨y,xs,al,ob,g,G,e,c⟩:=x;exact⟨y,xs,λq hq=>by
   obtain⟨⟨bs,Z,Y⟩,X⟩:=al q hq;exact⟨⟨bs,T Z,Paired.mapP Y λ_ _ z=>T z⟩,X⟩,ob,g,G,k _ _ (.inl rfl) e,c⟩
 |lst xs=>obtain⟨z,I,n,r,e⟩:=x;exact⟨z,I,n,r,k _ _ (.inl rfl) e⟩
 |tup xs=>obtain⟨z,I,r,ob,e,c⟩:=x;exact⟨z,I,r,ob,k _ _ (.inl rfl) e,c⟩
 |dK L=>obtain⟨z,y,vs,r,ob,g,G,e,c⟩:=x;exact⟨z,y,vs,r,ob,g,G,k _ _ (.inl rfl) e,c⟩
 |dT L=>
  obtain⟨z,y,xs,r,ob,g,G,e,c⟩:=x;exact⟨z,y,xs,Paired.mapP r λp q z=>⟨z.1,O _ _ trivial z.2.1,z.2.2⟩,ob,g,G,k _ _ (.inl rfl) e,c⟩
 |set S n=>obtain⟨ob,g,G,t,e,c⟩:=x;exact⟨ob,g,G,t,k _ _ (.inl rfl) e,c⟩
 |ins C dx fs=>
  obtain⟨d,z,ne,e,mA,⟨J,g,G,e2,c⟩,r⟩:=x;exact⟨ho _ d,z,ne,k _ _ (.inl rfl) e,mA,⟨J,g,G,k _ _ (.inr d) e2,c⟩,r⟩
 |own y=>obtain⟨ob,e⟩:=x;exact⟨ob,k _ _ (.inl rfl) e⟩
 |xd fs=>obtain⟨mA,⟨J,g,G,e,c⟩,r⟩:=x;exact⟨mA,⟨J,g,G,k _ _ (.inl rfl) e,c⟩,r⟩
 |rng lo hi=>obtain⟨t,u,v,e⟩:=x;exact⟨t,u,v,k _ _ (.inl rfl) e⟩
 |frz ob u ih=>obtain⟨e,q⟩:=x;exact⟨k _ _ (.inl rfl) e,ih q⟩
 |tbl W=>
  have e:h.get? a=O0 { cls:=.none,data:=.fields W }:=x;show h'.get? a=O0 { cls:=.none,data:=.fields W };exact k a _ (.inl rfl) e
 |met f y=>
  have e:h.get? a=O0 (C0 (.ref f) (.ref y)):=x;show h'.get? a=O0 (C0 (.ref f) (.ref y));exact k a _ (.inl rfl) e
 |ext φ=>obtain⟨p,⟨o,e⟩,U⟩:=x;exact⟨U _ _ p λo q=>k _ _ (.inl rfl) q,⟨o,k _ _ (.inl rfl) e⟩,U⟩
theorem QN.lt(x:QN P w H h)(e:H a=O0 o):a<h.objs.size:=(x a o e).lt
def QN.fresh(x:QN P w H h)(e:h.objs.size<=a):H a=W1:=by
 cases q:H a with
 |none=>rfl
 |some u=>exact NI (eP (x.lt q) e) (ka _)
def QN.kept(x:QN P w H h)(k:∀b u,h.get? b=O0 u->h'.get? b=O0 u):QN P w H h':=λa o e=>
 (x a o e).stay (λb u _ q=>k b u q) (λ_ q=>q) λ_ _ _ q=>q
def QN.laid(x:QN P w H h)(k:∀b u,h.get? b=O0 u->h'.get? b=O0 u)(z:h.objs.size<=a)(new:BX P w (gq H a o) h' a o):QN P w (gq H a o) h':=λb u e=>by
 have g:=x.fresh z
 by_cases r:b=a
 .subst r;rw[Aj] at e;cases e;exact new
 .rw[Al r] at e;exact (x b u e).stay (λc v _ q=>k c v q) (λc q=>by rw[Al (Df q g)];exact q) λc F _ q=>by rw[Al (Df q g)];exact q
end
def Rd(H:Hp)(a:Addr)(u:HO):Prop:=H a=O0 u∨∃o,H a=O0 (.frz o u)
def Rd.of{H:Hp}{u:HO}(h:H a=O0 u):Rd H a u:=.inl h
def Rd.ok{H:Hp}{u:HO}(r:Rd H a u)(x:QN P w H h):BX P w H h a u:=by
 rcases r with r | ⟨o,r⟩
 .exact x a u r
 .obtain⟨_,q⟩:=x a _ r;exact q
def Mut:Option HO->Prop
 |some (.lst _)=>True
 |some (.dK _)=>True
 |some (.dT _)=>True
 |some (.set _ _)=>True
 |some (.ins _ _ _)=>True
 |some (.ext _)=>True
 |some (.mem _ _)=>True
 |_=>False
section
variable {H:Hp}{x e:Addr}{o':HO}
def QN.write(ok:QN P w H h)(I:Mut (H x))(W:e=x∨H e=O0 (.own x))(k:∀b u,b≠e->h.get? b=O0 u->h'.get? b=O0 u)(S:∃u,h'.get? e=O0 u)(new:BX P w (gq H x o') h' x o'):QN P w (gq H x o') h':=λb u q=>by
 have F:∀c y,H c=O0 (.own y)->c≠x:=λc y r z=>by subst z;rw[r] at I;exact I
 have G:∀c o,Tu o->H c=O0 o->c≠x:=λc o O r z=>by
  subst z;rw[r] at I;cases o with
  |tup T=>exact I
  |frz p u=>exact I
  |_=>exact O
 by_cases L:b=x
 .subst L;rw[Aj] at q;cases q;exact new
 .rw[Al L] at q
  by_cases g:b=e
  .have U:H b=O0 (.own x):=by
    rcases W with z | z
    .exact NI (g.trans z) L
    .rw[g];exact z
   rw[q] at U;cases U;obtain⟨v,X⟩:=S;exact⟨v,by rw[g];exact X⟩
  .refine (ok b u q).stay (λc v J r=>k c v ?_ r) (λc r=>by rw[Al (F c b r)];exact r) λc T O r=>by rw[Al (G c T O r)];exact r
   rcases J with rfl | J
   .exact g
   .rintro rfl
    rcases W with z | z
    .exact F c b J z
    .rw[J] at z;cases z;exact L rfl
end
structure Un (fs ex:List Addr) (H H':Hp) (h h':Heap):Prop where
 keep:∀b o,h.get? b=O0 o->H b=W1->b∉fs->b∉ex->h'.get? b=O0 o
 slot:∀b o,h.get? b=O0 o->H b=W1->b∈fs->b∉ex->∃sl,h'.get? b=O0 { o with slots:=sl }
 free:∀b o,h.get? b=O0 o->H b=W1->b∉ex->H' b=W1
 there:∀b o,h.get? b=O0 o->b∉ex->∃o',h'.get? b=O0 o'
 tups:∀b xs,H b=O0 (.tup xs)->H' b=O0 (.tup xs)
 frzs:∀b o u,H b=O0 (.frz o u)->H' b=O0 (.frz o u)
 tbls:∀b ps,H b=O0 (.tbl ps)->∃more,H' b=O0 (.tbl (ps++more))
section
variable {fs fs' ex ex':List Addr}{H H1 H2:Hp}{h1 h2:Heap}{x e:Addr}{o:HO}
def Un.any(u:Un fs ex H H1 h h1){b:Addr}{ob:Obj}(q:h.get? b=O0 ob)(n:H b=W1)(g:b∉ex):∃sl,h1.get? b=O0 { ob with slots:=sl }:=by
 by_cases r:b∈fs
 .exact u.slot b ob q n r g
 .exact⟨ob.slots,u.keep b ob q n r g⟩
def Un.kept(k:∀b u,h.get? b=O0 u->h'.get? b=O0 u):Un fs ex H H h h':=
 ⟨λb ob q _ _ _=>k b ob q,λb ob q _ _ _=>⟨ob.slots,k b ob q⟩,λ_ _ _ n _=>n,λb ob q _=>⟨ob,k b ob q⟩,λ_ _ q=>q,λ_ _ _ q=>q,λ_ v q=>⟨#[],by rw[q];simp⟩⟩
def Un.refl:Un fs ex H H h h:=Un.kept λ_ _ q=>q
def Un.laid(k:∀b u,h.get? b=O0 u->h'.get? b=O0 u)(z:h.objs.size<=a)(g:H a=W1):Un fs ex H (gq H a o) h h' where
 keep:=λb u q _ _ _=>k b u q
 slot:=λb u q _ _ _=>⟨u.slots,k b u q⟩
 free:=λb u q n _=>by rw[Al (bS (eP (bo q) z))];exact n
 there:=λb u q _=>⟨u,k b u q⟩
 tups:=λb r q=>by rw[Al (Df q g)];exact q
 frzs:=λb u r q=>by rw[Al (Df q g)];exact q
 tbls:=λb v q=>⟨#[],by rw[Al (Df q g),q];simp⟩
def Un.write(I:Mut (H x))(O:e=x∨H e=O0 (.own x))(k:∀b u,b≠e->h.get? b=O0 u->h'.get? b=O0 u)(S:∃u,h'.get? e=O0 u):Un fs ex H (gq H x o) h h':=by
 have F:∀b,H b=W1->b≠x:=λb n z=>by subst z;rw[n] at I;exact I
 have G:∀b,H b=W1->b≠e:=λb n z=>by
  subst z
  rcases O with r | r
  .exact F b n r
  .rw[n] at r;cases r
 have v:∀b u,H b=O0 u->¬ Mut (O0 u)->b≠x:=λb u q L z=>by subst z;rw[q] at I;exact L I
 refine⟨λb u q n _ _=>k b u (G b n) q,λb u q n _ _=>⟨u.slots,k b u (G b n) q⟩,λb u q n _=>by rw[Al (F b n)];exact n,λb u q _=>?_,
  λb J q=>by rw[Al (v b _ q λz=>z)];exact q,λb u J q=>by rw[Al (v b _ q λz=>z)];exact q,λb T q=>⟨#[],by rw[Al (v b _ q λz=>z),q];simp⟩⟩
 by_cases g:b=e
 .subst g;exact S
 .exact⟨u,k b u g q⟩
end
def trk(h:Heap)(H:Hp):List Addr:=(bg h.objs.size).filter λa=>(H a).isSome
def WZ(h:Heap)(H:Hp):Heap:=PySem.W.hideAll h (trk h H)
def dH(h:Heap)(H:Hp):(WZ h H).objs.size=h.objs.size:=PySem.W.hideAll_size _ _
def gB{H:Hp}(e:h.get? b=O0 o)(n:H b=W1):(WZ h H).get? b=O0 o:=
 PySem.W.hideAll_get _ e λv=>by
  have q:(H b).isSome=O1:=(dS.mp v).2;rw[n] at q;simp at q
def pP{H:Hp}(e:(WZ h H).get? b=O0 o):h.get? b=O0 o/\H b=W1:=by
 have O:h.get? b=O0 o:=PySem.W.of_hideAll (trk h H) e;refine⟨O,?_⟩;cases q:H b with
 |none=>rfl
 |some x=>
  have v:b∈trk h H:=dS.mpr ⟨d4.mpr (bo O),by simp[q]⟩;have z:(WZ h H).get? b=W1:=PySem.W.hideAll_none (trk h H) v;rw[z] at e;cases e
def pQ(g h:Heap)(L:Addr):List (Addr×Obj):=(bg h.objs.size).filterMap λa=>if a=L∨(g.get? a).isSome=O1 then W1 else (h.get? a).map λo=>(a,o)
def il(g h:Heap)(L d:Addr):List (Addr×Obj):=(pQ g h L).filter λp=>decide (p.1≠d)
structure Mod (K:aI) (mg:Str->Option ac) (base:Heap):Prop where
 kin:K.In base
 glob:base.Ns gv mg
 blt:∃mb,base.Ns C3 mb/\∀x:Str,x≠"__name__"->mb x=cE x
 nolimit:base.NoLimit
set_option genInjectivity true in
structure Cx where
 prog:cw
 w:bP
 K:aI
 mg:Str->Option ac
 base:Heap
 A:aS
 N:List Str
 s₀:ah
 H₀:Hp
 env:Env
 outer:List Env
 stack:List Env
 ex:List Addr
 fn:Str->Bool
 calm:Bool
 pn:List (Addr×Obj)
 xe:ac->ah->Prop
def frs(l:List Env):List Addr:=l.filterMap (·.frame)
abbrev Cx.fs (X:Cx):List Addr:=frs X.outer
def Xt(sc:kS)(x:Str):Prop:=sc.names.lookup x=O0 .local ∨sc.names.lookup x=O0 .cell ∨sc.names.lookup x=O0 .free
def Loc(sc:kS)(x:Str):Prop:=sc.names.lookup x=O0 .local ∨sc.names.lookup x=O0 .cell
def Look(env:Env)(h:Heap)(m:Str->Option ac)(x:Str)(u:ac):Prop:=
 (env.kindOf x=O0 .local /\m x=O0 u)∨((env.kindOf x=O0 .cell ∨env.kindOf x=O0 .free)/\∃c,env.cells.lookup x=O0 c/\h.IsCell c (O0 u))
structure Cx.Ok (X:Cx):Prop where
 mod:Mod X.K X.mg X.base
 kind:X.env.scope.kind=.function
 glob:X.env.globals=gv
 blt:X.env.builtins=C3
 above:X.s₀.heap.objs.size<=X.env.locals
 inj:∀x y c,X.env.cells.lookup x=O0 c->X.env.cells.lookup y=O0 c->x=y
 has:∀x,(X.env.kindOf x=O0 .cell ∨X.env.kindOf x=O0 .free)->∃c,X.env.cells.lookup x=O0 c
 cab:∀x c,X.fn x=O1->X.env.cells.lookup x=O0 c->X.s₀.heap.objs.size<=c
 hd:X.calm=O1->X.A.handled=W1
 frames:X.A.frames=O0 X.stack
 stk:X.stack=X.outer∨(X.stack=X.env::X.outer/\X.env.frame=O0 X.env.locals)
 exf:∀b∈X.ex,b≠X.env.locals/\∀x c,X.env.cells.lookup x=O0 c->c≠b
 bs:∀b o,X.base.get? b=O0 o->X.s₀.heap.get? b=O0 o/\X.H₀ b=W1
 bsz:X.base.objs.size<=X.s₀.heap.objs.size
 noex:∀b o,X.base.get? b=O0 o->b∉X.ex
 exfs:∀b∈X.ex,b∉X.fs
 funs:X.s₀.heap.FunFrames X.base X.outer
 frf:∀b∈X.fs,X.H₀ b=W1
structure Inv (X:Cx) (π:NY) (σ:List (Option V)) (H:Hp) (s:ah):Prop where
 ok:X.Ok
 os:s.os=X.s₀.os
 bare:nc s.gens
 base:Un X.fs X.ex X.H₀ H X.s₀.heap s.heap
 loc:∃m,s.heap.Ns X.env.locals m/\∀(i:Nat) (x:Str) (v:V),X.N[i]?=O0 x->σ[i]?=O0 (O0 v)->Xt X.env.scope x->∃u,cc v u/\Look X.env s.heap m x u
 cell:∀x c,X.env.cells.lookup x=O0 c->∃v,s.heap.IsCell c v
 free:H X.env.locals=W1
 freeC:∀x c,X.env.cells.lookup x=O0 c->H c=W1
 pin:∀p∈X.pn++π,s.heap.get? p.1=O0 p.2/\H p.1=W1/\p.1≠X.env.locals/\p.1∉X.fs/\∀v,p.2.data≠.cell v
 hok:QN X.prog X.w H s.heap
 len:σ.length=X.N.length
section
variable {X:Cx}{H H':Hp}
def Cx.Ok.nofr(ok:X.Ok){b:Addr}{o:Obj}(e:X.base.get? b=O0 o):b∉X.fs:=λg=>by
 have:=(ok.funs.mem g).1;rw[e] at this;cases this
theorem Inv.bs(I:Inv X π σ H s):∀b o,X.base.get? b=O0 o->s.heap.get? b=O0 o/\H b=W1:=λb o e=>
 ⟨I.base.keep b o (I.ok.bs b o e).1 (I.ok.bs b o e).2 (I.ok.nofr e) (I.ok.noex b o e),I.base.free b o (I.ok.bs b o e).1 (I.ok.bs b o e).2 (I.ok.noex b o e)⟩
def Inv.bk(I:Inv X π σ H s):∀b o,X.base.get? b=O0 o->s.heap.get? b=O0 o:=λb o e=>(I.bs b o e).1
theorem Inv.mod(I:Inv X π σ H s):Mod X.K X.mg X.base:=I.ok.mod
def Inv.kIn(I:Inv X π σ H s):X.K.In s.heap:=I.ok.mod.kin.keeps I.bk
theorem Inv.lt(I:Inv X π σ H s):X.env.locals<s.heap.objs.size:=let ⟨_,hn,_⟩:=I.loc;hn.lt
def Inv.sz(I:Inv X π σ H s):X.s₀.heap.objs.size<=s.heap.objs.size:=d6 I.ok.above (sQ I.lt)
def Inv.nofs(I:Inv X π σ H s){a:Addr}(h:s.heap.objs.size<=a):a∉X.fs:=λg=>by
 obtain⟨_,o,v,_⟩:=I.ok.funs.mem g;exact NI (eP (bo v) (d6 I.sz h)) (ka _)
def Inv.cne(I:Inv X π σ H s):∀x c,X.env.cells.lookup x=O0 c->c≠X.env.locals:=λx c e z=>by
 obtain⟨v,o,F,G⟩:=I.cell x c e;obtain⟨m,⟨J,L,O,g,r,_⟩,_⟩:=I.loc;rw[z,g] at F;cases F;rw[r] at G;cases G
theorem Inv.funs(I:Inv X π σ H s):s.heap.FunFrames X.base X.outer:=by
 have all:∀(l:List Env),(∀b∈frs l,b∈X.fs)->X.s₀.heap.FunFrames X.base l->s.heap.FunFrames X.base l:=by
  intro l
  induction l with
  |nil=>intro _ _;trivial
  |cons W r F=>
   intro hs Y;obtain⟨T,⟨L,o,G,S,O,U⟩,J⟩:=Y;have v:L∈X.fs:=hs L (by unfold frs;rw[C4,G];exact da);obtain⟨Z,e⟩:=I.base.slot L o O (I.ok.frf L v) v λz=>I.ok.exfs L z v;exact⟨T,⟨L,_,G,S,e,U⟩,F (λb g=>hs b (by unfold frs;rw[C4,G];exact ck _ g)) J⟩
 exact all X.outer (λ_ g=>g) I.ok.funs
theorem Inv.stack(I:Inv X π σ H s):s.heap.FunFrames X.base X.stack:=by
 rcases I.ok.stk with e | ⟨e,G⟩
 .rw[e];exact I.funs
 .rw[e];obtain⟨m,g,_⟩:=I.loc;refine .cons (by rw[I.ok.kind];decide) G g ?_ I.funs;exact Heap.get?_none_of_le (d6 I.ok.bsz I.ok.above)
def Inv.stkSub(I:Inv X π σ H s):∀b∈frs X.stack,b∈X.env.locals::X.fs:=λb g=>by
 rcases I.ok.stk with e | ⟨e,G⟩
 .rw[e] at g;exact ck _ g
 .rw[e] at g;unfold frs at g;rw[C4,G] at g;exact g
def Inv.stkFree(I:Inv X π σ H s):∀b∈frs X.stack,H b=W1:=λb g=>by
 rcases br.mp (I.stkSub b g) with e | g
 .rw[e];exact I.free
 .obtain⟨_,o,v,_⟩:=I.ok.funs.mem g;exact I.base.free b o v (I.ok.frf b g) λz=>I.ok.exfs b z g
def Inv.step{g':Array GenState}{d':Drawn}(I:Inv X π σ H s)(G:∀b∈ch,(b∈X.ex∨X.s₀.heap.objs.size<=b)/\b≠X.env.locals/\(∀x c,X.env.cells.lookup x=O0 c->c≠b)/\∀p∈X.pn++π,p.1≠b)(keep:∀b o,b≠X.env.locals->b∉X.fs->b∉ch->s.heap.get? b=O0 o->H b=W1->h'.get? b=O0 o)(S:∀b o,b≠X.env.locals->b∈X.fs->b∉ch->s.heap.get? b=O0 o->H b=W1->∃sl,h'.get? b=O0 { o with slots:=sl })(free:∀b o,b∉ch->s.heap.get? b=O0 o->H b=W1->H' b=W1)(T:∀b o,b∉ch->s.heap.get? b=O0 o->∃o',h'.get? b=O0 o')(Y:∀b xs,H b=O0 (.tup xs)->H' b=O0 (.tup xs))(T0:∀b o u,H b=O0 (.frz o u)->H' b=O0 (.frz o u))(Z:∀b ps,H b=O0 (.tbl ps)->∃S0,H' b=O0 (.tbl (ps++S0)))(ns:∀m,s.heap.Ns X.env.locals m->h'.Ns X.env.locals m)(N1:QN X.prog X.w H' h')(hg:nc g'):
  Inv X π σ H' { s with heap:=h',gens:=g',drawn:=d',toks:=t' }:=by
 have N0:∀b o,X.s₀.heap.get? b=O0 o->b≠X.env.locals:=λb o e=>bS (eP (bo e) I.ok.above);have L:∀b o,X.s₀.heap.get? b=O0 o->b∉X.ex->b∉ch:=λb o e g U=>by
  rcases (G b U).1 with z | z
  .exact g z
  .exact NI (eP (bo e) z) (ka _)
 have J:∀x c,X.env.cells.lookup x=O0 c->∀v,s.heap.IsCell c v->h'.IsCell c v:=by
  rintro x c e v ⟨o,W,hd⟩
  have F:c∉ch:=λz=>(G c z).2.2.1 x c e rfl
  by_cases hc:c∈X.fs
  .obtain⟨sl,q⟩:=S c o (I.cne x c e) hc F W (I.freeC x c e);exact⟨_,q,hd⟩
  .exact⟨o,keep c o (I.cne x c e) hc F W (I.freeC x c e),hd⟩
 refine⟨I.ok,I.os,hg,⟨λb o e n U g=>?_,λb o e n U g=>?_,λb o e n g=>?_,λb o e g=>?_,λb xs e=>Y b xs (I.base.tups b xs e),λb o xs e=>T0 b o xs (I.base.frzs b o xs e),λb ps e=>?_⟩,?_,λx c e=>?_,?_,λx c e=>?_,λp hp=>?_,N1,I.len⟩
 .exact keep b o (N0 b o e) U (L b o e g) (I.base.keep b o e n U g) (I.base.free b o e n g)
 .obtain⟨sl,O⟩:=I.base.slot b o e n U g;obtain⟨X0,e2⟩:=S b _ (N0 b o e) U (L b o e g) O (I.base.free b o e n g);exact⟨X0,e2⟩
 .obtain⟨o',O⟩:=I.base.there b o e g;exact free b o' (L b o e g) O (I.base.free b o e n g)
 .obtain⟨o',O⟩:=I.base.there b o e g;exact T b o' (L b o e g) O
 .obtain⟨m1,O⟩:=I.base.tbls b ps e;obtain⟨m2,e2⟩:=Z b _ O;exact⟨m1++m2,by rw[e2,Array.append_assoc]⟩
 .obtain⟨m,hn,hl⟩:=I.loc;refine⟨m,ns m hn,λi x v O e2 e3=>?_⟩;obtain⟨u,r,l⟩:=hl i x v O e2 e3;refine⟨u,r,?_⟩
  rcases l with l | ⟨k,c,e,z⟩
  .exact .inl l
  .exact .inr ⟨k,c,e,J x c e _ z⟩
 .obtain⟨v,z⟩:=I.cell x c e;exact⟨v,J x c e v z⟩
 .obtain⟨m,⟨o,_,_,W,_⟩,_⟩:=I.loc;exact free _ o (λz=>(G _ z).2.1 rfl) W I.free
 .obtain⟨v,o,W,hd⟩:=I.cell x c e;exact free c o (λz=>(G c z).2.2.1 x c e rfl) W (I.freeC x c e)
 .obtain⟨e,n,ne,nf,d⟩:=I.pin p hp;have F:p.1∉ch:=λz=>(G p.1 z).2.2.2 p hp rfl;exact⟨keep p.1 p.2 ne nf F e n,free p.1 p.2 F e n,ne,nf,d⟩
theorem Inv.un(I:Inv X π σ H s)(u:Un X.fs [] H H' s.heap h')(v:QN X.prog X.w H' h'):Inv X π σ H' { s with heap:=h',toks:=t' }:=by
 obtain⟨m,⟨o,Y,ep,L,r⟩,_⟩:=id I.loc;obtain⟨Z,T⟩:=u.any L I.free .(1);exact I.step (g':=s.gens) (d':=s.drawn) (ch:=[]) (λ_ z=>nomatch z) (λb o _ F _ e n=>u.keep b o e n F .(1)) (λb o _ F _ e n=>u.slot b o e n F .(1)) (λb o _ e n=>u.free b o e n .(1)) (λb o _ e=>u.there b o e .(1)) u.tups u.frzs u.tbls (λW S=>by
  obtain⟨U,G,J,g,O⟩:=S;rw[L] at g;cases g;exact⟨_,G,J,T,O⟩) v I.bare
def Inv.call{g':Array GenState}{d':Drawn}(I:Inv X π σ H s)(u:Un (frs X.stack) ch H H' s.heap h')(v:QN X.prog X.w H' h')(W:nc g')(G:∀b∈ch,(b∈X.ex∨X.s₀.heap.objs.size<=b)/\b≠X.env.locals/\(∀x c,X.env.cells.lookup x=O0 c->c≠b)/\∀p∈X.pn++π,p.1≠b):
  Inv X π σ H' { s with heap:=h',gens:=g',drawn:=d',toks:=t' }:=by
 obtain⟨m,⟨o,es,ep,S,r⟩,_⟩:=id I.loc;obtain⟨Z,F⟩:=u.any S I.free λz=>(G _ z).2.1 rfl;exact I.step (ch:=ch) G (λb o F Y J e n=>u.keep b o e n (λz=>(br.mp (I.stkSub b z)).elim F Y) J) (λb o _ _ J e n=>u.any e n J) (λb o J e n=>u.free b o e n J) (λb o J e=>u.there b o e J) u.tups u.frzs u.tbls (λm' U=>by
  obtain⟨o',L,O,g,T⟩:=U;rw[S] at g;cases g;exact⟨_,L,O,F,T⟩) v W
theorem Inv.turned(I:Inv X π σ H s)(k:∀b o,b≠it->s.heap.get? b=O0 o->h'.get? b=O0 o)(L:H it=W1)(F:it≠X.env.locals)(h1:it∈X.ex∨X.s₀.heap.objs.size<=it)(U:∀x c,X.env.cells.lookup x=O0 c->c≠it)(T:∀p∈X.pn++π,p.1≠it):Inv X π σ H { s with heap:=h',toks:=t' }:=by
 have g:∀b u,H b=O0 u->b≠it:=λb u e z=>by rw[z,L] at e;cases e
 refine I.step (g':=s.gens) (d':=s.drawn) (ch:=[it]) (λb S=>?_) (λb o _ _ J e _=>k b o (λz=>J (by simp[z])) e) (λb o _ _ J e _=>⟨o.slots,k b o (λz=>J (by simp[z])) e⟩) (λ_ _ _ _ n=>n)
  (λb o J e=>⟨o,k b o (λz=>J (by simp[z])) e⟩) (λ_ _ e=>e) (λ_ _ _ e=>e) (λb Z e=>⟨#[],by rw[e];simp⟩) (λm O=>?_) (λb u e=>?_) I.bare
 .have e:b=it:=by simpa using S
  subst e;exact⟨h1,F,U,T⟩
 .obtain⟨o,W,Y,G,r⟩:=O;exact⟨o,W,Y,k _ o (cf F) G,r⟩
 .refine (I.hok b u e).stay (λc v J q=>k c v ?_ q) (λ_ q=>q) λ_ _ _ q=>q
  rcases J with z | z
  .rw[z];exact g b u e
  .exact g c _ z
theorem Inv.tok(I:Inv X π σ H s)(t:Nat):Inv X π σ H { s with toks:=t }:=I.un (h':=s.heap) (t':=t) Un.refl I.hok
theorem Inv.kept{t':Nat}(I:Inv X π σ H s)(k:∀b u,s.heap.get? b=O0 u->h'.get? b=O0 u):Inv X π σ H { s with heap:=h',toks:=t' }:=I.un (Un.kept k) (I.hok.kept k)
theorem Inv.laid{a:Addr}{o:HO}{t':Nat}(I:Inv X π σ H s)(k:∀b u,s.heap.get? b=O0 u->h'.get? b=O0 u)(z:s.heap.objs.size<=a)(new:BX X.prog X.w (gq H a o) h' a o):
  Inv X π σ (gq H a o) { s with heap:=h',toks:=t' }:=I.un (Un.laid k z (I.hok.fresh z)) (I.hok.laid k z new)
theorem Inv.write{x e:Addr}{o:HO}{t':Nat}(I:Inv X π σ H s)(g:Mut (H x))(r:e=x∨H e=O0 (.own x))(k:∀b u,b≠e->s.heap.get? b=O0 u->h'.get? b=O0 u)(S:∃u,h'.get? e=O0 u)(new:BX X.prog X.w (gq H x o) h' x o):Inv X π σ (gq H x o) { s with heap:=h',toks:=t' }:=I.un (Un.write g r k S) (I.hok.write g r k S new)
def Inv.pins_of{g:NY}(I:Inv X π σ H s)(h:∀p∈g,s.heap.get? p.1=O0 p.2/\H p.1=W1/\p.1≠X.env.locals/\p.1∉X.fs/\∀v,p.2.data≠.cell v):Inv X g σ H s:=
 ⟨I.ok,I.os,I.bare,I.base,I.loc,I.cell,I.free,I.freeC,λp r=>(dA.mp r).elim (λz=>I.pin p (kU _ z)) (h p),I.hok,I.len⟩
def N8(I:N.Nodup){i j:Nat}{x:Str}(a:N[i]?=O0 x)(b:N[j]?=O0 x):i=j:=by
 obtain⟨z,r⟩:=iF.mp a;obtain⟨v,g⟩:=iF.mp b;exact (List.getElem_inj I).mp (r.trans g.symm)
def Uq(N:List Str)(x:Str):Prop:=∀i j:Nat,N[i]?=O0 x->N[j]?=O0 x->i=j
def yr(I:N.Nodup):Uq N x:=λ_ _ a b=>N8 I a b
theorem R7{A:aS}{v:V}{Q:Unit->ah->Prop}(I:Inv X π σ H s)(hN:Uq X.N x)(hi:X.N[i]?=O0 x)(G:Loc X.env.scope x)(r:cc v u)(h:∀s',Inv X π (σ.set i (O0 v)) H s'->(∃a,fh a s.heap s'.heap/\(a=X.env.locals∨X.env.cells.lookup x=O0 a))->Q () s')(hf:X.fn x=O1∨X.env.scope.names.lookup x=O0 .local :=by first | exact .inl rfl | exact .inr rfl | assumption):ag M A (storeName X.env x u) Q E s:=by
 obtain⟨m,hn,hl⟩:=id I.loc;have S0:(X.env.scope.kind==.class||(X.env.scope.kind==.module&&X.env.locals != X.env.globals))=O2:=by rw[I.ok.kind];rfl
 have T:i<σ.length:=by rw[I.len];exact (iF.mp hi).1
 have cne:=I.cne;have g:∀{a:Addr}{h':Heap},(∃o,s.heap.get? a=O0 o/\H a=W1)->fh a s.heap h'->QN X.prog X.w H h':=λ{a h'} ha hs b ob e=>by
  obtain⟨_,_,L⟩:=ha;refine (I.hok b ob e).stay (λc w' J q=>(hs.2 c ?_).trans q) (λ_ q=>q) λ_ _ _ q=>q;rintro rfl
  rcases J with rfl | J
  .rw[L] at e;cases e
  .rw[L] at J;cases J
 rcases G with S | S
 .refine wpAny_storeName_local S hn (λh' P1 hs=>?_) S0;obtain⟨oL,_,_,N1,_⟩:=id hn;refine h _ ⟨I.ok,I.os,I.bare,⟨λb o e n Y G=>?_,λb o e n Y G=>?_,I.base.free,λb o e G=>?_,I.base.tups,I.base.frzs,I.base.tbls⟩,⟨_,P1,λj y v' F O e3=>?_⟩,λy c e=>?_,I.free,I.freeC,λp hp=>?_,g ⟨oL,N1,I.free⟩ hs,by simpa using I.len⟩ ⟨_,hs,.inl rfl⟩
  .exact (hs.2 b (bS (eP (bo e) I.ok.above))).trans (I.base.keep b o e n Y G)
  .obtain⟨sl,F⟩:=I.base.slot b o e n Y G;exact⟨sl,(hs.2 b (bS (eP (bo e) I.ok.above))).trans F⟩
  .obtain⟨o',F⟩:=I.base.there b o e G;exact⟨o',(hs.2 b (bS (eP (bo e) I.ok.above))).trans F⟩
  .by_cases U:j=i
   .subst U;rw[hi] at F;cases F;rw[mo T] at O;cases O;exact⟨u,r,.inl ⟨S,by simp⟩⟩
   .rw[gX (cf U)] at O;obtain⟨u',r',q⟩:=hl j y v' F O e3;refine⟨u',r',?_⟩
    rcases q with ⟨k,e⟩ | ⟨k,c,e,z⟩
    .refine .inl ⟨k,?_⟩;have:y≠x:=λe=>U (hN _ _ (e▸F) hi);simp[this,e]
    .exact .inr ⟨k,c,e,z.sameBut hs (cne y c e)⟩
  .obtain⟨w',z⟩:=I.cell y c e;exact⟨w',z.sameBut hs (cne y c e)⟩
  .obtain⟨e,n,ne,nf,d⟩:=I.pin p hp;exact⟨(hs.2 p.1 ne).trans e,n,ne,nf,d⟩
 .have W:X.fn x=O1:=by
   rcases hf with z | z
   .exact z
   .rw[z] at S;cases S
  obtain⟨c,J⟩:=I.ok.has x (.inl S);obtain⟨w',z⟩:=I.cell x c J;refine wpAny_storeName_cell I.ok.kind S J z (λh' X0 hs=>?_);obtain⟨oc,N0,Z⟩:=id z;refine h { s with heap:=h' } ⟨I.ok,I.os,I.bare,⟨λb o e n Y G=>?_,λb o e n Y G=>?_,I.base.free,λb o e G=>?_,I.base.tups,I.base.frzs,I.base.tbls⟩,⟨m,hn.sameBut hs (cf (cne x c J)),λj y v' F O e3=>?_⟩,λy c' e=>?_,I.free,I.freeC,λp hp=>?_,g ⟨oc,N0,I.freeC x c J⟩ hs,by simpa using I.len⟩ ⟨c,hs,.inr J⟩
  .exact (hs.2 b (bS (eP (bo e) (I.ok.cab x c W J)))).trans (I.base.keep b o e n Y G)
  .obtain⟨sl,F⟩:=I.base.slot b o e n Y G;exact⟨sl,(hs.2 b (bS (eP (bo e) (I.ok.cab x c W J)))).trans F⟩
  .obtain⟨o',F⟩:=I.base.there b o e G;exact⟨o',(hs.2 b (bS (eP (bo e) (I.ok.cab x c W J)))).trans F⟩
  .by_cases U:j=i
   .subst U;rw[hi] at F;cases F;rw[mo T] at O;cases O;exact⟨u,r,.inr ⟨.inl S,c,J,X0⟩⟩
   .rw[gX (cf U)] at O;obtain⟨u',r',q⟩:=hl j y v' F O e3;refine⟨u',r',?_⟩
    rcases q with q | ⟨k,c',e,z'⟩
    .exact .inl q
    .refine .inr ⟨k,c',e,z'.sameBut hs ?_⟩;rintro rfl;exact U (hN _ _ (I.ok.inj _ _ _ e J▸F) hi)
  .by_cases T0:c'=c
   .subst T0;exact⟨_,X0⟩
   .obtain⟨w2,z2⟩:=I.cell y c' e;exact⟨w2,z2.sameBut hs T0⟩
  .obtain⟨e,n,ne,nf,d⟩:=I.pin p hp;refine⟨(hs.2 p.1 ?_).trans e,n,ne,nf,d⟩;intro q;rw[q,N0] at e;have q':oc=p.2:=cy e;exact d w' (by rw[<-q'];exact Z)
def U0{A:aS}{v:V}{Q:Unit->ah->Prop}(I:Inv X π σ H s)(J:X.N.Nodup)(G:X.N[i]?=O0 x)(z:Loc X.env.scope x)(r:cc v u)(h:∀g,Inv X π (σ.set i (O0 v)) H g->(∃a,fh a s.heap g.heap/\(a=X.env.locals∨X.env.cells.lookup x=O0 a))->Q () g)(F:X.fn x=O1∨X.env.scope.names.lookup x=O0 .local :=by first | exact .inl rfl | exact .inr rfl | assumption):ag M A (storeName X.env x u) Q E s:=R7 I (yr J) G z r h F
def XN{A:aS}{v:V}{Q:Unit->ah->Prop}(I:Inv X π σ H s)(J:X.N.Nodup)(G:X.N[i]?=O0 x)(z:Loc X.env.scope x)(r:cc v u)(h:∀g,Inv X π (σ.set i (O0 v)) H g->Q () g)(F:X.fn x=O1∨X.env.scope.names.lookup x=O0 .local :=by first | exact .inl rfl | exact .inr rfl | assumption):ag M A (storeName X.env x u) Q E s:=
 U0 I J G z r (λg L _=>h g L) F
theorem Inv.call'{s':ah}(I:Inv X π σ H s)(F:s'.os=s.os)(u:Un (frs X.stack) ch H H' s.heap s'.heap)(v:QN X.prog X.w H' s'.heap)(W:nc s'.gens)(G:∀b∈ch,(b∈X.ex∨X.s₀.heap.objs.size<=b)/\b≠X.env.locals/\(∀x c,X.env.cells.lookup x=O0 c->c≠b)/\∀p∈X.pn++π,p.1≠b):Inv X π σ H' s':=by
 obtain⟨L,r,z,g,J⟩:=s';have e:J=s.os:=F;subst e;exact I.call (g':=r) (t':=g) (d':=z) u v W G
end
abbrev XK:=ac->Option Addr->Hp->Prop
abbrev St:=List (Option V)
abbrev VK:=V->Hp->Prop
abbrev TE:=St->Hp->VK->Prop
abbrev TT:=St->Hp->(Bool->Hp->Prop)->Prop
abbrev TA:=St->Hp->(List V->Hp->Prop)->Prop
structure SO where
 nx:St->Hp->Prop
 rt:VK
 bk:St->Hp->Prop:=λ_ _=>False
 ct:St->Hp->Prop:=λ_ _=>False
abbrev TS:=SO->St->Hp->Prop
def EP(X:Cx)(z:NY)(r:St)(Q:VK)(u:ac)(F:ah):Prop:=∃v g,Inv X z r g F/\cc v u/\Q v g
def TP(X:Cx)(z:NY)(r:St)(Q:Bool->Hp->Prop)(b:Bool)(v:ah):Prop:=∃g,Inv X z r g v/\Q b g
def AP(X:Cx)(z:NY)(r:St)(Q:List V->Hp->Prop)(us:List ac)(v:ah):Prop:=∃vs g,Inv X z r g v/\cx vs us/\Q vs g
def SP(X:Cx)(z:NY)(D:SO)(f:Flow)(F:ah):Prop:=
 match f with
 |.next=>∃g r,Inv X z g r F/\D.nx g r
 |.brk=>∃g r,Inv X z g r F/\D.bk g r
 |.cont=>∃g r,Inv X z g r F/\D.ct g r
 |.ret u=>∃v g r,Inv X z g r F/\cc v u/\D.rt v r
def PE(X:Cx)(e:Expr)(t:TE):Prop:=
 ∀(z:NY) (s:ah) (r:St) (H:Hp) (Q:VK),Inv X z r H s->t r H Q->ag (ai X.prog X.w) X.A (eval e X.env) (EP X z r Q) X.xe s
def PT(X:Cx)(e:Expr)(t:TT):Prop:=
 ∀(z:NY) (s:ah) (r:St) (H:Hp) (Q:Bool->Hp->Prop),Inv X z r H s->t r H Q->ag (ai X.prog X.w) X.A (oj e X.env (eval e X.env)) (TP X z r Q) X.xe s
def PW(X:Cx)(e:Expr)(t:TT):Prop:=
 ∀(whole:Sem ac) (z:NY) (s:ah) (r:St) (H:Hp) (Q:Bool->Hp->Prop),Inv X z r H s->t r H Q->ag (ai X.prog X.w) X.A (oj e X.env whole) (TP X z r Q) X.xe s
def PW.pt{X:Cx}{t:TT}(h:PW X e t):PT X e t:=h _
def PA(X:Cx)(es:List Expr)(t:TA):Prop:=
 ∀(g:Pos) (z:NY) (s:ah) (r:St) (H:Hp) (Q:List V->Hp->Prop),Inv X z r H s->t r H Q->ag (ai X.prog X.w) X.A (spliced (cS g (aw es X.env))) (AP X z r Q) X.xe s
def PS(X:Cx)(st:Stmt)(t:TS):Prop:=
 ∀(z:NY) (s:ah) (r:St) (H:Hp) (D:SO),Inv X z r H s->t D r H->ag (ai X.prog X.w) X.A (exec st X.env) (SP X z D) X.xe s
def UQ(X:Cx)(st:List Stmt)(t:TS):Prop:=
 ∀(z:NY) (s:ah) (r:St) (H:Hp) (D:SO),Inv X z r H s->t D r H->ag (ai X.prog X.w) X.A (ke st X.env) (SP X z D) X.xe s
def la{g:Type}{t:Sem g}{Q r:g->ah->Prop}{A:aS}(h:ag M A t Q E s)(v:∀a s,Q a s->r a s):ag M A t r E s:=hJ h v λ_ _ x=>x
section
variable {X:Cx}
def Sb(i:Nat):TE:=λr H Q=>∃v,r[i]?=O0 (O0 v)/\Q v H
def tC(v:V):TE:=λ_ H Q=>Q v H
def Yr(Z:X.N[i]?=O0 x)(T:Xt X.env.scope x)(G:(x==("__debug__":Str))=O2:=by decide)(J:(x==("__classdict__":Str))=O2:=by decide):PE X (.Name x pos) (Sb i):=by
 intro S s O H Q I h;obtain⟨v,e,h⟩:=h;obtain⟨m,U,Y⟩:=I.loc;obtain⟨u,r,l⟩:=Y i x v Z e T;have F:EP X S O Q u s:=⟨v,H,I,r,h⟩
 rcases l with ⟨z,W⟩ | ⟨z,c,L,g⟩
 .exact sR (GW I.ok.kind z U W F) G
 .rcases z with z | z
  .exact sR (GY I.ok.kind z L g F) G
  .exact sR (HA I.ok.kind z L g F J) G
def v_{i j pos}:PE X (.Constant (.int i) j pos) (tC (.int i)):=λ_ _ _ H _ I h=>C5 ⟨.int i,H,I.tok _,⟨_,rfl⟩,h⟩
def yt{b j pos}:PE X (.Constant (.bool b) j pos) (tC (.bl b)):=λ_ _ _ H _ I h=>Constant_bool ⟨.bl b,H,I,rfl,h⟩
def wA{j pos}:PE X (.Constant .none j pos) (tC .non):=λ_ _ _ H _ I h=>C6 ⟨.non,H,I,rfl,h⟩
def wB{x j pos}:PE X (.Constant (.str x) j pos) (tC (.str x)):=λ_ _ _ H _ I h=>Calls.Constant_str ⟨.str x,H,I.tok _,⟨_,rfl⟩,h⟩
def Gl(X:Cx)(x:Str):Prop:=X.env.kindOf x=O0 .globalImplicit
def Vk{r:St}{H:Hp}(I:Inv X π r H s)(W:Gl X x)(v:X.mg x=O0 u)(h:Q u s)(z:(x==("__debug__":Str))=O2:=by decide):ag (ai X.prog X.w) X.A (eval (.Name x pos) X.env) Q E s:=
 HC I.ok.kind W (Calls.loadGlobal_global (by rw[I.ok.glob];exact I.mod.glob.keeps I.bk) v h) z
def P_{r:St}{H:Hp}(I:Inv X π r H s)(W:Gl X x)(z:X.mg x=W1)(g:cE x=O0 u)(h:Q u s)(v:x≠"__name__":=by decide)(F:(x==("__debug__":Str))=O2:=by decide):ag (ai X.prog X.w) X.A (eval (.Name x pos) X.env) Q E s:=by
 obtain⟨L,J,G⟩:=I.mod.blt;exact HC I.ok.kind W (Calls.loadGlobal_builtin (by rw[I.ok.glob];exact I.mod.glob.keeps I.bk) z (by rw[I.ok.blt];exact J.keeps I.bk) ((G x v).trans g) h) F
def J5{v:V}(W:Gl X x)(g:X.mg x=O0 u)(r:cc v u)(z:(x==("__debug__":Str))=O2:=by decide):PE X (.Name x pos) (tC v):=
 λ_ _ _ H _ I h=>Vk I W g ⟨v,H,I,r,h⟩ z
def pR{v:V}(W:Gl X x)(F:X.mg x=W1)(g:cE x=O0 u)(r:cc v u)(z:x≠"__name__":=by decide)(G:(x==("__debug__":Str))=O2:=by decide):PE X (.Name x pos) (tC v):=
 λ_ _ _ H _ I h=>P_ I W F g ⟨v,H,I,r,h⟩ z G
def t2I(g v:TE)(k:Int->Int->Hp->Prop):St->Hp->Prop:=λr H=>g r H λx F=>v r F λy z=>∃i j,x=.int i/\y=.int j/\k i j z
variable {a b:Expr}{ta tb:TE}
def PC(X:Cx)(op:kz)(a b:Expr)(t:TE):Prop:=
 ∀(z:NY) (s:ah) (r:St) (H:Hp) (Q:VK),Inv X z r H s->t r H Q ->
  ag (ai X.prog X.w) X.A (eval a X.env) (λv g=>ag (ai X.prog X.w) X.A (eval b X.env) (λu G=>ag (ai X.prog X.w) X.A (de op v u) (EP X z r Q) X.xe G) X.xe g) X.xe s
def XQ(b:Expr){op:kz}(h:op≠.In)(g:op≠.NotIn):fw op b=O2:=by
 have v:(op==CmpOp.In)=O2:=by cases op<;>first | rfl | exact NI rfl h
 have r:(op==HE)=O2:=by cases op<;>first | rfl | exact NI rfl g
 cases b<;>simp[fw,v,r]
def tCmp(p:Int->Int->Bool)(g v:TE):TE:=λr H Q=>t2I g v (λi j z=>Q (.bl (p i j)) z) r H
abbrev tLt:TE->TE->TE:=tCmp λi j=>decide (i<j)
abbrev tGt:TE->TE->TE:=tCmp λi j=>decide (j<i)
abbrev tGe:TE->TE->TE:=tCmp λi j=>decide (j<=i)
def tIsN(g:TE):TE:=λr H Q=>g r H λx F=>Q (.bl (decide (x=.non))) F
def yu(g:TE):TE:=λr H Q=>g r H λx F=>Q (.bl (!decide (x=.non))) F
def cc.none_iff{x:V}{v:ac}(r:cc x v):(v==fF)=decide (x=.non):=by
 cases x with
 |non=>cases r;rfl
 |bl _=>cases r;rfl
 |int _=>obtain⟨t,rfl⟩:=r;rfl
 |str _=>obtain⟨t,rfl⟩:=r;rfl
 |byt _=>obtain⟨t,rfl⟩:=r;rfl
 |flt _=>obtain⟨t,rfl⟩:=r;rfl
 |ref _=>cases r;rfl
 |ty _=>cases r;rfl
def gC{j pos'}(F:PE X a ta):PC X .Is a (.Constant .none j pos') (tIsN ta):=by
 intro z s r H Q I h;refine la (F z s r H _ I h) λv L q0=>?_;obtain⟨x,J,G,g,q1⟩:=q0;exact C6 (is_none_gen ⟨.bl _,J,G,by rw[g.none_iff];rfl,q1⟩)
def Z0{j pos'}(F:PE X a ta):PC X .IsNot a (.Constant .none j pos') (yu ta):=by
 intro z s r H Q I h;refine la (F z s r H _ I h) λv L q9=>?_;obtain⟨x,J,G,g,q1⟩:=q9;exact C6 (isnot_none_gen ⟨.bl _,J,G,by rw[g.none_iff];rfl,q1⟩)
def tB(t:TE):TT:=λr H Q=>t r H λx F=>∃c,x=.bl c/\Q c F
def gD{op:kz}{t:TE}(h:PC X op a b t)(h1:fw op b=O2:=by first | exact XQ _ .(2) .(2) | rfl):PE X (.Compare a [op] [b] pos) t:=λz s r H Q I g=>wpAny_Compare1 (h z s r H Q I g) h1
def gF{op:kz}{t:TE}(h:PC X op a b t)(h1:fw op b=O2:=by first | exact XQ _ .(2) .(2) | rfl):PT X (.Compare a [op] [b] pos) (tB t):=by
 intro z s r H Q I F;refine sT (la (h z s r H _ I F) λv T h1=>la h1 λu S G=>la G λc O p0=>?_) h1;obtain⟨x,L,J,g,q1⟩:=p0;obtain⟨d,rfl,q⟩:=q1;cases g;exact jS ⟨L,J,q⟩
variable {tA tB':TT}{il:List Expr}
def tAnd(t u:TT):TT:=λr H Q=>t r H λc F=>if c=O1 then u r F Q else Q O2 F
def tOr(t u:TT):TT:=λr H Q=>t r H λc F=>if c=O1 then Q O1 F else u r F Q
def tNot(t:TT):TT:=λr H Q=>t r H λc F=>Q (!c) F
def pW(g:PT X a tA):PW X (.BoolOp .And [a] pos) tA:=by
 intro v z s r H Q I h;refine t5 (la (g z s r H Q I h) λc F e=>?_);cases c with
 |true=>exact C7 e
 |false=>exact e
def gG(g:PT X a tA):PW X (.BoolOp .Or [a] pos) tA:=by
 intro v z s r H Q I h;refine isTrue_or (la (g z s r H Q I h) λc F e=>?_);cases c with
 |false=>exact isTrue_or_nil e
 |true=>exact e
def wC(L:PT X a tA)(J:PW X (.BoolOp .And (b::il) pos) tB'):PW X (.BoolOp .And (a::b::il) pos) (tAnd tA tB'):=by
 intro v z s r H Q I h;refine t5 (la (L z s r H _ I h) λc g p9=>?_);obtain⟨F,G,q1⟩:=p9;cases c with
 |true=>exact J v z g r F Q G q1
 |false=>exact⟨F,G,q1⟩
def uV(L:PT X a tA)(J:PW X (.BoolOp .Or (b::il) pos) tB'):PW X (.BoolOp .Or (a::b::il) pos) (tOr tA tB'):=by
 intro v z s r H Q I h;refine isTrue_or (la (L z s r H _ I h) λc g g0=>?_);obtain⟨F,G,q1⟩:=g0;cases c with
 |true=>exact⟨F,G,q1⟩
 |false=>exact J v z g r F Q G q1
def wD(g:PT X a tA):PT X (.UnaryOp .Not a pos) (tNot tA):=by
 intro z s r H Q I h;exact C8 (g z s r H (λc F=>Q (!c) F) I h)
def yw(g v:TE):TE:=λr H Q=>g r H λx F=>∃c,x=.bl c/\if c=O1 then v r F Q else Q (.bl O2) F
def tOrV(g v:TE):TE:=λr H Q=>g r H λx F=>∃c,x=.bl c/\if c=O1 then Q (.bl O1) F else v r F Q
def yz(g:TE):TE:=λr H Q=>g r H λx F=>∃c,x=.bl c/\Q (.bl (!c)) F
def wF{op}{t:TE}(h:PE X a t):PE X (.BoolOp op [a] pos) t:=λz s r H Q I g=>BoolOp_one (h z s r H Q I g)
def wG(O:PE X a ta)(L:PE X (.BoolOp .And (b::il) pos) tb):PE X (.BoolOp .And (a::b::il) pos) (yw ta tb):=by
 intro z s r H Q I h;refine BoolOp_and (la (O z s r H _ I h) λv g g9=>?_);obtain⟨x,F,G,J,q1⟩:=g9;obtain⟨c,rfl,q1⟩:=q1;cases J;refine jS ?_;cases c with
 |true=>exact L z g r F Q G q1
 |false=>exact⟨.bl O2,F,G,rfl,q1⟩
def y_(O:PE X a ta)(L:PE X (.BoolOp .Or (b::il) pos) tb):PE X (.BoolOp .Or (a::b::il) pos) (tOrV ta tb):=by
 intro z s r H Q I h;refine BoolOp_or (la (O z s r H _ I h) λv g u0=>?_);obtain⟨x,F,G,J,q1⟩:=u0;obtain⟨c,rfl,q1⟩:=q1;cases J;refine jS ?_;cases c with
 |false=>exact L z g r F Q G q1
 |true=>exact⟨.bl O1,F,G,rfl,q1⟩
def wH(F:PE X a ta):PE X (.UnaryOp .Not a pos) (yz ta):=by
 intro z s r H Q I h;refine UnaryOp_ (la (F z s r H _ I h) λv L v0=>?_);obtain⟨x,J,G,g,q1⟩:=v0;obtain⟨c,rfl,q1⟩:=q1;cases g;exact not_of (jS ⟨.bl (!c),J,G,rfl,q1⟩)
def tIf(t:TT)(g v:TE):TE:=λr H Q=>t r H λc F=>if c=O1 then g r F Q else v r F Q
def gH{c:Expr}(J:PT X c tA)(L:PE X a ta)(v:PE X b tb):PE X (.IfExp c a b pos) (tIf tA ta tb):=by
 intro z s r H Q I h;refine wpAny_IfExp (la (J z s r H _ I h) λd g w0=>?_);obtain⟨F,G,q1⟩:=w0;cases d with
 |true=>exact L z g r F Q G q1
 |false=>exact v z g r F Q G q1
end
def NS(K:aI)(H:Hp)(a:Addr)(xs:List V):Prop:=
 Rd H a (.lst xs) ∨
  ∃(o:Obj) (g:Array ac) (n:Nat),K.lookup a=O0 o/\o.cls=.type "list"/\o.dict=W1/\o.data=.seq g n/\g.size<=sizeLine/\cx xs g.toList
def NR(K:aI)(H:Hp)(a:Addr)(xs:List V):Prop:=
 Rd H a (.tup xs) ∨
  ∃(o:Obj) (g:Array ac) (n:Nat),K.lookup a=O0 o/\o.cls=.type "tuple"/\o.data=.seq g n/\g.size<=sizeLine/\cx xs g.toList
def absV:ac->Option V
 |.none=>O0 .non
 |.bool b=>O0 (.bl b)
 |.int i _=>O0 (.int i)
 |.str x _=>O0 (.str x)
 |.bytes b _=>O0 (.byt b)
 |.float b _=>O0 (.flt b)
 |.ref a=>O0 (.ref a)
 |.type n=>O0 (.ty n)
 |_=>W1
def cc.abs{x:V}(r:cc x u):absV u=O0 x:=by
 cases x with
 |non=>cases r;rfl
 |bl _=>cases r;rfl
 |int _=>obtain⟨t,rfl⟩:=r;rfl
 |str _=>obtain⟨t,rfl⟩:=r;rfl
 |byt _=>obtain⟨t,rfl⟩:=r;rfl
 |flt _=>obtain⟨t,rfl⟩:=r;rfl
 |ref _=>cases r;rfl
 |ty _=>cases r;rfl
def cc.inj{x y:V}{u:ac}(r:cc x u)(q:cc y u):x=y:=cy (r.abs.symm.trans q.abs)
theorem cx.inj:∀{xs g:List V}{us:List ac},cx xs us->cx g us->xs=g
 |_,_,_,.nil,.nil=>rfl
 |_,_,_,.cons r t,.cons O v=>by rw[r.inj O,cx.inj t v]
section
variable {X:Cx}{H:Hp}{xs ys:List V}
def NS.of{K:aI}(h:H a=O0 (.lst xs)):NS K H a xs:=.inl (.inl h)
def NR.of{K:aI}(h:H a=O0 (.tup xs)):NR K H a xs:=.inl (.inl h)
def Inv.list(I:Inv X π σ H s)(h:NS X.K H a xs):∃its:List ac,cx xs its/\PlainL s.heap a its.toArray/\xs.length<=sizeLine:=by
 rcases h with h | ⟨o,its,n,g,J,v,hs,O,r⟩
 .obtain⟨z,its,n,r,e⟩:=h.ok I.hok;exact⟨its,r,⟨_,n,e,rfl,rfl,rfl⟩,z⟩
 .refine⟨its.toList,r,⟨o,n,I.kIn a o g,J,v,by simpa using hs⟩,?_⟩;have e:=r.length;simp only[gy] at e;omega
def Inv.tuple(I:Inv X π σ H s)(h:NR X.K H a xs):∃its:List ac,cx xs its/\IsTup s.heap a its.toArray/\xs.length<=sizeLine:=by
 rcases h with h | ⟨o,its,n,g,J,hs,O,r⟩
 .obtain⟨z,its,r,p⟩:=h.ok I.hok;exact⟨its,r,p,z⟩
 .refine⟨its.toList,r,⟨o,I.kIn a o g,J,n,by simpa using hs⟩,?_⟩;have e:=r.length;simp only[gy] at e;omega
def Inv.list_inj(I:Inv X π σ H s)(h:NS X.K H a xs)(h':NS X.K H a ys):xs=ys:=by
 obtain⟨g,r,⟨o,n,e,_,_,d⟩,_⟩:=I.list h;obtain⟨its',v,⟨J,G,O,_,_,z⟩,_⟩:=I.list h';rw[e] at O;cases O;rw[d] at z;injection z with F _
 have:g=its':=by simpa using RI C9 F
 subst this;exact r.inj v
def Inv.tuple_inj(I:Inv X π σ H s)(h:NR X.K H a xs)(h':NR X.K H a ys):xs=ys:=by
 obtain⟨g,r,⟨o,e,_,n,d⟩,_⟩:=I.tuple h;obtain⟨its',v,⟨J,O,_,G,z⟩,_⟩:=I.tuple h';rw[e] at O;cases O;rw[d] at z;injection z with F _
 have:g=its':=by simpa using RI C9 F
 subst this;exact r.inj v
end
abbrev Cx.wish (X:Cx) (E:ac->ah->Prop):Cx:={ X with xe:=E }
abbrev Cx.nox (X:Cx):Cx:=X.wish λ_ _=>False
theorem Cx.Ok.wish{X:Cx}(ok:X.Ok)(E:ac->ah->Prop):(X.wish E).Ok:=
 ⟨ok.mod,ok.kind,ok.glob,ok.blt,ok.above,ok.inj,ok.has,ok.cab,ok.hd,ok.frames,ok.stk,ok.exf,ok.bs,ok.bsz,ok.noex,ok.exfs,ok.funs,ok.frf⟩
def Cx.Ok.unwish{X:Cx}(ok:(X.wish E).Ok):X.Ok:=
 ⟨ok.mod,ok.kind,ok.glob,ok.blt,ok.above,ok.inj,ok.has,ok.cab,ok.hd,ok.frames,ok.stk,ok.exf,ok.bs,ok.bsz,ok.noex,ok.exfs,ok.funs,ok.frf⟩
section
variable {X:Cx}{H:Hp}
theorem Inv.wish(I:Inv X π σ H s)(E:ac->ah->Prop):Inv (X.wish E) π σ H s:=⟨I.ok.wish E,I.os,I.bare,I.base,I.loc,I.cell,I.free,I.freeC,I.pin,I.hok,I.len⟩
theorem Inv.unwish(I:Inv (X.wish E) π σ H s):Inv X π σ H s:=⟨I.ok.unwish,I.os,I.bare,I.base,I.loc,I.cell,I.free,I.freeC,I.pin,I.hok,I.len⟩
theorem SP.unwish{D:SO}{f:Flow}{s':ah}(h:SP (X.wish E) π D f s'):SP X π D f s':=by
 cases f with
 |next=>obtain⟨g,z,I,q⟩:=h;exact⟨g,z,I.unwish,q⟩
 |brk=>obtain⟨g,z,I,q⟩:=h;exact⟨g,z,I.unwish,q⟩
 |cont=>obtain⟨g,z,I,q⟩:=h;exact⟨g,z,I.unwish,q⟩
 |ret u=>obtain⟨v,g,z,I,r,q⟩:=h;exact⟨v,g,z,I.unwish,r,q⟩
theorem UQ.nox{st:List Stmt}{t:TS}(h:UQ X.nox st t):UQ X st t:=λg s r H D I v=>
 hJ (h g s r H D (I.wish _) v) (λ_ _ q=>q.unwish) λ_ _ z=>kf z
end
section
variable {X:Cx}{il:List Stmt}{t u:TS}{te:TE}
def zA:TS:=λD r H=>D.nx r H
def tSeq(t u:TS):TS:=λD r H=>t { D with nx:=u D } r H
def JM:UQ X [] zA:=λ_ _ r H _ I h=>kA ⟨r,H,I,h⟩
def K4(h1:PS X st t)(G:UQ X il u):UQ X (st::il) (tSeq t u):=by
 intro z s r H D I h;refine kX (la (h1 z s r H { D with nx:=u D } I h) λf F q=>?_);cases f with
 |next=>
  obtain⟨g,J,L,q⟩:=q;exact G z F g J D L q
 |ret v=>exact q
 |brk=>exact q
 |cont=>exact q
def Vl(h1:PS X st t):UQ X [st] t:=by
 intro z s r H D I h;refine kX (la (h1 z s r H D I h) λf g q=>?_);cases f with
 |next=>exact kA q
 |ret v=>exact q
 |brk=>exact q
 |cont=>exact q
def Inv.quiet{r:St}{H:Hp}(I:Inv X π r H s):interactive X.env=O2:=by simp[interactive,I.ok.kind]
def zB(te:TE):TS:=λD r H=>te r H λ_ F=>D.nx r F
def Vm(g:PE X e te)(hs:eJ e W1 pos.line X.env=pure O2:=by rfl):PS X (.Expr e pos) (zB te):=by
 intro z s r H D I h;exact wpAny_Expr_any (la (g z s r H _ I h) (by rintro v J ⟨x,F,G,L,q1⟩;exact ⟨r,F,G,q1⟩)) I.quiet hs
def tRet(te:TE):TS:=λD r H=>te r H D.rt
def gJ(F:PE X e te):PS X (.Return (O0 e) pos) (tRet te):=by
 intro z s r H D I h;exact A4 (la (F z s r H _ I h) (by rintro v L ⟨x,J,G,g,q1⟩;exact ⟨x,r,J,G,g,q1⟩))
def tIfS(c:TT)(t u:TS):TS:=λD r H=>c r H λb F=>if b=O1 then t D r F else u D r F
def Z1{c:Expr}{a b:List Stmt}{tc:TT}(J:PT X c tc)(L:UQ X a t)(v:UQ X b u):PS X (.If c a b pos) (tIfS tc t u):=by
 intro z s r H D I h;refine wb (la (J z s r H _ I h) λd g q0=>?_);obtain⟨F,G,q1⟩:=q0;cases d with
 |true=>exact L z g r F D G q1
 |false=>exact v z g r F D G q1
end
abbrev TG:=V->St->Hp->(St->Hp->Prop)->Prop
abbrev TGs:=List V->St->Hp->(St->Hp->Prop)->Prop
def PG(X:Cx)(g:Expr)(t:TG):Prop:=
 ∀(F:NY) (s:ah) (z:St) (H:Hp) (v:V) (u:ac) (Q:St->Hp->Prop),Inv X F z H s->cc v u->t v z H Q ->
  ag (ai X.prog X.w) X.A (ng g X.env u) (λ_ I=>∃r G,Inv X F r G I/\Q r G) X.xe s
def PGs(X:Cx)(F:List Expr)(t:TGs):Prop:=
 ∀(z:NY) (s:ah) (r:St) (H:Hp) (vs:List V) (us:List ac) (Q:St->Hp->Prop),Inv X z r H s->cx vs us->t vs r H Q ->
  ag (ai X.prog X.w) X.A (assignInOrder ((iL F X.env).map (·.2)) us) (λ_ G=>∃g v,Inv X z g v G/\Q g v) X.xe s
section
variable {X:Cx}
def Es(i:Nat):TG:=λv r H Q=>Q (r.set i (O0 v)) H
def pX(F:X.N.Nodup)(G:X.N[i]?=O0 x)(g:Loc X.env.scope x)(z:X.fn x=O1∨X.env.scope.names.lookup x=O0 .local :=by first | exact .inl rfl | exact .inr rfl | assumption):PG X (.Name x pos) (Es i):=by
 intro O s J H v u Q I r h;exact Cb (XN I F G g r (λS L=>⟨_,H,L,h⟩) z)
def gNil:TGs:=λvs r H Q=>vs=[]/\Q r H
def XR(t:TG)(u:TGs):TGs:=λvs z H Q=>∃v r,vs=v::r/\t v z H λg F=>u r g F Q
def Z2:PGs X [] gNil:=by
 intro z s g H F G Q I r h;obtain⟨e,h⟩:=h;subst e;cases r;exact assignInOrder_nil ⟨g,H,I,h⟩
def R8{es:List Expr}{t:TG}{u:TGs}(h1:PG X e t)(J:PGs X es u)(hs:(iL (e::es) X.env).map (·.2)=ng e X.env::(iL es X.env).map (·.2):=by rfl):PGs X (e::es) (XR t u):=by
 intro z s F H T U Q I r h;obtain⟨v,vr,L,h⟩:=h;subst L;cases r with
 |cons r rr=>
  rw[hs];refine assignInOrder_cons (la (h1 z s F H _ _ _ I r h) λ_ G q9=>?_);obtain⟨g,S,O,q1⟩:=q9;exact J z G g S _ _ Q O rr q1
def gTup(K:aI)(n:Nat)(t:TGs):TG:=λv r H Q=>∃a xs,v=.ref a/\NR K H a xs/\xs.length=n/\t xs r H Q
theorem gK{es:List Expr}{k:Nat}{t:TGs}(Z:X.calm=O1)(h:PGs X es t)(W:(iL es X.env).length=n:=by rfl)(z:(iL es X.env).findIdx? (·.1)=W1:=by rfl):PG X (.Tuple es k pos) (gTup X.K n t):=by
 intro G s F H v u Q I r g;obtain⟨a,L,e1,U,Y,g⟩:=g;subst e1;cases r;obtain⟨O,J,T,hz⟩:=I.tuple U;refine assign_Tuple_tuple (I.ok.hd Z) T (by simp[W,<-Y,J.length]) z λh' S=>?_;have I1:Inv X G F H { s with heap:=h' }:=I.kept (t':=s.toks) λb o e=>S b o (bS (bo e)) e;exact h G _ F H L _ Q I1 (by simpa using J) g
def WJ(te:TE)(g:TG):TS:=λD r H=>te r H λx F=>g x r F D.nx
def wI{te:TE}{g:TG}(L:PE X e te)(W:PG X tg g)(hs:swapsWithSole [tg] e pos.line X.env=pure O2:=by rfl)(J:swappedStores [tg] e X.env=pure W1:=by rfl)(h1:(iL [tg] X.env).map (·.2)=[ng tg X.env]:=by rfl):PS X (.Assign [tg] e pos) (WJ te g):=by
 intro z s r H D I h;refine wpAny_Assign_stores (la (L z s r H _ I h) λv F p0=>?_) hs J;obtain⟨x,S,O,G,q1⟩:=p0;rw[h1];exact la (W z F r S x v _ O G q1) λ_ T q=>q
def Ys{te:TE}(O:X.N.Nodup)(G:X.N[i]?=O0 x)(F:Loc X.env.scope x)(L:PE X e te)(hs:eJ e (O0 (.Name x pos')) pos.line X.env=pure O2:=by rfl)(J:X.fn x=O1∨X.env.scope.names.lookup x=O0 .local :=by first | exact .inl rfl | exact .inr rfl | assumption):
  PS X (.Assign [.Name x pos'] e pos) (WJ te (Es i)):=by
 intro z s r H D I h;refine wpAny_Assign_Name (la (L z s r H _ I h) λv Y p9=>?_) hs;obtain⟨y,U,T,g,q1⟩:=p9;exact XN T O G F g (λW S=>⟨_,U,S,q1⟩) J
end
section
variable {X:Cx}
def wJ(c:TT)(G:TS):TS:=λD r H=>∃W:Nat->St->Hp->Prop,(∃m,W m r H)/\∀m r H,W m r H ->
 c r H λb F=>if b=O1 then ∃N:St->Hp->Prop,(∀g z,N g z->∃v,v<m/\W v g z)/\G { D with nx:=N,ct:=N,bk:=D.nx } r F else D.nx r F
def gM{c:Expr}{tc:TT}{U:TS}(Y:ti (ai X.prog X.w) X.A X.env X.xe)(hc:PT X c tc)(hb:UQ X body U):PS X (.While c body [] pos) (wJ tc U):=by
 intro J s σ H D I h;obtain⟨W,⟨m0,w0⟩,F⟩:=h;refine wpAny_While (codeAny_whileLoop (λn s'=>∃z H',Inv X J z H' s'/\W n z H') ?_ m0 ⟨σ,H,I,w0⟩);rintro n s1 ⟨r,H1,I1,w1⟩;refine qE Y (la (hc J s1 r H1 _ I1 (F n r H1 w1)) λb s2 g0=>?_);obtain⟨H2,I2,q2⟩:=g0;cases b with
 |true=>
  obtain⟨N,Z,q2⟩:=q2;rw[WH rfl];refine qE Y (la (hb J s2 r H2 _ I2 q2) λf s3 q3=>?_);cases f with
  |next=>
   obtain⟨g,G,T,n3⟩:=q3;obtain⟨O,S,L⟩:=Z g G n3;exact⟨O,S,g,G,T,L⟩
  |cont=>
   obtain⟨g,G,T,n3⟩:=q3;obtain⟨O,S,L⟩:=Z g G n3;exact⟨O,S,g,G,T,L⟩
  |brk=>exact q3
  |ret v=>exact q3
 |false=>
  rw[ZH dc];exact kA ⟨r,H2,I2,q2⟩
end
structure It where
 go:Nat->Hp->Prop
 yld:Nat->Hp->V->Hp->Prop
 stop:Nat->Hp->Prop
def VT(X:Cx)(z:NY)(H:Hp)(b:Addr):Prop:=
 H b=W1/\b≠X.env.locals/\b∉X.fs/\(b∈X.ex∨X.s₀.heap.objs.size<=b)/\(∀x c,X.env.cells.lookup x=O0 c->c≠b)/\∀p∈X.pn++z,p.1≠b
def Inv.fpOk{X:Cx}{F:St}{H r:Hp}(I:Inv X π F H s)(g:s.heap.objs.size<=b)(J:r b=W1):VT X π r b:=by
 refine⟨J,ol (eP I.lt g),I.nofs g,.inr (d6 I.sz g),λx c e z=>?_,λp G z=>?_⟩
 .obtain⟨v,q⟩:=I.cell x c e;exact NI (eP q.lt (by rw[z];exact g)) (ka _)
 .exact NI (eP (bo (I.pin p G).1) (by rw[z];exact g)) (ka _)
structure XO (P:cw) (w:bP) (K:aI) (tg:Expr) (J:It) (fp:List Addr) (it:Addr) (tn:Nat->Heap->Prop):Prop where
 mem:it∈fp
 obj:∀i h,tn i h->∀b∈fp,∃o,h.get? b=O0 o/\∀v,o.data≠.cell v
 keep:∀i h h',tn i h->(∀b∈fp,∀o,h.get? b=O0 o->h'.get? b=O0 o)->tn i h'
 item:∀(X:Cx),X.prog=P->X.w=w->X.K=K->X.calm=O1->∀(i:Nat) (π:NY) (s:ah) (σ:St) (H:Hp) (E:ac->ah->Prop),Inv X π σ H s->(∀b∈fp,VT X π H b)->tn i s.heap->J.go i H ->
  ag (ai P w) X.A (gE (.ref it)) (λr s1=>∃u,r=O0 u ∧
   ag (ai P w) X.A (A6 tg (.ref it) u) (λ_ s2=>∃x H',Inv X π σ H' s2/\cc x u/\J.yld i H x H'/\tn (i+1) s2.heap/\∀b∈fp,H' b=W1) E s1) E s
 done:∀(X:Cx),X.prog=P->X.w=w->X.K=K->X.calm=O1->∀(i:Nat) (π:NY) (s:ah) (σ:St) (H:Hp) (E:ac->ah->Prop),Inv X π σ H s->(∀b∈fp,VT X π H b)->tn i s.heap->J.stop i H ->
  ag (ai P w) X.A (gE (.ref it)) (λr s1=>r=W1/\Inv X π σ H s1) E s
 self:∀(A:aS) (i:Nat) (s:ah) (Q:ac->ah->Prop) (E:ac->ah->Prop),tn i s.heap->Q (.ref it) s->ag (ai P w) A (om (.ref it)) Q E s
abbrev TI:=St->Hp->(It->Hp->Prop)->Prop
def PIE(X:Cx)(z:NY)(F:St)(tg:Expr)(R:It->Hp->Prop)(g:ac)(S:ah):Prop:=
 ∃(it:Addr) (fp:List Addr) (v:Nat->Heap->Prop) (J:It) (r:Hp),g=.ref it/\Inv X z F r S/\XO X.prog X.w X.K tg J fp it v/\v 0 S.heap/\(∀b∈fp,VT X z r b)/\R J r
def PI(X:Cx)(tg g:Expr)(F:TI):Prop:=
 ∀(z:NY) (s:ah) (r:St) (H:Hp) (R:It->Hp->Prop),Inv X z r H s->F r H R ->
  ag (ai X.prog X.w) X.A (eval g X.env) (λv G=>ag (ai X.prog X.w) X.A (om v) (PIE X z r tg R) X.xe G) X.xe s
def XS{A:aS}{n:String}{vs:Array ac}{Q:Unit->ah->Prop}(g:s.heap.get? it=O0 o)(J:o.cls=.type n)(z:o.data=.fields vs)(r:["enumerate","zip","dict_itemiterator","dict_reverseitemiterator","odict_iterator","itertools.zip_longest","itertools.pairwise"].contains n=O2)(v:Q () s):ag M A (A6 tg (.ref it) u) Q E s:=by
  unfold A6;cases tg<;>first
    |exact av v
    | (cases u<;>first
        |exact av v
        | (refine ae (wc g ?_)
           rw[J,z];show ag M A (if (["enumerate","zip","dict_itemiterator","dict_reverseitemiterator","odict_iterator","itertools.zip_longest","itertools.pairwise"].contains n&&vs[0]?==O0 (fN _))=O1 then _ else _) Q E s;rw[ZH (by intro h;rw[r,Cc] at h;cases h)];exact av v))
def Itl(K:aI)(a:Addr):It:=
 ⟨λi H=>∃xs x,NS K H a xs/\xs[i]?=O0 x,λi H x g=>g=H/\∀xs,NS K H a xs->xs[i]?=O0 x,λi H=>∃xs,NS K H a xs/\xs.length<=i⟩
def Itt(K:aI)(a:Addr):It:=
 ⟨λi H=>∃xs x,NR K H a xs/\xs[i]?=O0 x,λi H x g=>g=H/\∀xs,NR K H a xs->xs[i]?=O0 x,λi H=>∃xs,NR K H a xs/\xs.length<=i⟩
def Itr(z:Int)(n:Nat):It:=⟨λi _=>i<n,λi H x g=>g=H/\x=.int (z+i),λi _=>n<=i⟩
theorem dI{K:aI}(a it:Addr):XO P w K tg (Itl K a) [it] it (λi h=>h.IsListIter it a i) where
 mem:=by simp
 obj:=λi h U b g=>by
  have e:b=it:=by simpa using g
  subst e;obtain⟨o,e,c,d⟩:=U;exact⟨o,e,λv z=>by rw[d] at z;cases z⟩
 keep:=λi h L U k=>U.at λo e=>k it .(1) o e
 item:=by
  intro X hP T Y hc i π s σ H E I G U W;subst hP T Y;obtain⟨xs,x,F,S⟩:=W;obtain⟨O,J,p,hz⟩:=I.list F;obtain⟨u,hu,ru⟩:=J.get S;obtain⟨f0,f1,f2,f3,f4,Z⟩:=G it .(1);refine HG U p.isList (x:=u) (by simpa using hu) λL r sb=>?_;have I1:Inv X π σ H { s with heap:=L }:=I.turned (t':=s.toks) (λb o g e=>(sb.2 b g).trans e) f0 f1 f3 f4 Z;obtain⟨o,e,c,d⟩:=id r;exact⟨u,rfl,XS (s:={ s with heap:=L }) e c d .(2) ⟨x,H,I1,ru,⟨rfl,λys hy=>by rw[I.list_inj hy F];exact S⟩,r,λb g=>(G b g).1⟩⟩
 done:=by
  intro X hP T Y hc i π s σ H E I G U W;subst hP T Y;obtain⟨xs,F,S⟩:=W;obtain⟨O,J,p,hz⟩:=I.list F;obtain⟨f0,f1,f2,f3,f4,Z⟩:=G it .(1);have hl:=J.length;exact HI (I.ok.hd hc) U p.isList (by simp;omega) λL eb=>⟨rfl,I.turned (t':=s.toks) (λb o g e=>eb b o g e) f0 f1 f3 f4 Z⟩
 self:=λ_ _ _ _ _ U h=>wpAny_pyIter_listiter U h
theorem Yt{K:aI}(a it:Addr):XO P w K tg (Itt K a) [it] it (λi h=>h.IsTupleIter it a i) where
 mem:=by simp
 obj:=λi h U b r=>by
  have e:b=it:=by simpa using r
  subst e;obtain⟨o,e,c,d⟩:=U;exact⟨o,e,λv z=>by rw[d] at z;cases z⟩
 keep:=λi h L U k=>U.at λo e=>k it .(1) o e
 item:=by
  intro X hP T Y hc i π s σ H E I J U W;subst hP T Y;obtain⟨xs,x,G,S⟩:=W;obtain⟨g,O,p,hz⟩:=I.tuple G;obtain⟨u,hu,ru⟩:=O.get S;obtain⟨f0,f1,f2,f3,f4,Z⟩:=J it .(1);refine wpAny_pyNext_tuple_item U (show s.heap.IsTuple a g.toArray from p) (x:=u) (by simpa using hu) λL F sb=>?_;have I1:Inv X π σ H { s with heap:=L }:=I.turned (t':=s.toks) (λb o r e=>(sb.2 b r).trans e) f0 f1 f3 f4 Z;obtain⟨o,e,c,d⟩:=id F;exact⟨u,rfl,XS (s:={ s with heap:=L }) e c d .(2) ⟨x,H,I1,ru,⟨rfl,λys hy=>by rw[I.tuple_inj hy G];exact S⟩,F,λb r=>(J b r).1⟩⟩
 done:=by
  intro X hP T Y hc i π s σ H E I J U W;subst hP T Y;obtain⟨xs,G,S⟩:=W;obtain⟨g,O,p,hz⟩:=I.tuple G;obtain⟨f0,f1,f2,f3,f4,Z⟩:=J it .(1);have hl:=O.length;exact wpAny_pyNext_tuple_end (I.ok.hd hc) U (show s.heap.IsTuple a g.toArray from p) (by simp;omega) λL eb=>⟨rfl,I.turned (t':=s.toks) (λb o r e=>eb b o r e) f0 f1 f3 f4 Z⟩
 self:=λ_ _ _ _ _ U h=>wpAny_pyIter_tupleiter U h
theorem Yu{K:aI}(it:Addr)(F:Int)(n:Nat):XO P w K tg (Itr F n) [it] it (λi h=>IsRangeIter h it (F+(i:Nat)*1) ((n:Int)-(i:Nat)) 1) where
 mem:=by simp
 obj:=λi h U b g=>by
  have e:b=it:=by simpa using g
  subst e;exact⟨_,U,λv z=>by
   have z':Cf _=Co v:=z;cases z'⟩
 keep:=λi h L U k=>k it .(1) _ U
 item:=by
  intro X hP J Y S i π s σ H E I G U O;subst hP J Y;obtain⟨f0,f1,f2,f3,T,Z⟩:=G it .(1);have W:=Walks.range (prog:=X.prog) (w:=X.w) (I.ok.hd S) it F 1 n;refine W.item i s _ _ O U λv L tk hv r kk=>?_;obtain⟨t,rfl⟩:=hv;have I1:Inv X π σ H { s with heap:=L,toks:=tk }:=I.turned (λb o g e=>kk b o (by simpa using g) e) f0 f1 f3 T Z;refine⟨_,rfl,XS (s:={ s with heap:=L,toks:=tk }) (n:="range_iterator") r rfl rfl .(2) ⟨.int (F+i),H,I1,⟨t,?_⟩,⟨rfl,rfl⟩,r,λb g=>(G b g).1⟩⟩;rw[Int.mul_one]
 done:=by
  intro X hP J Y S i π s σ H E I G U O;subst hP J Y;obtain⟨f0,f1,f2,f3,T,Z⟩:=G it .(1);exact wpAny_pyNext_range_end (I.ok.hd S) U (by have:n<=i:=O;omega) λL eb=>⟨rfl,I.turned (t':=s.toks) (λb o g e=>eb b o g e) f0 f1 f3 T Z⟩
 self:=λ_ _ _ _ _ U h=>wpAny_pyIter_rangeiter U h
section
variable {X:Cx}
def zE(K:aI)(g:TE):TI:=λr H R=>g r H λx F=>∃a,x=.ref a/\(∃xs,NS K F a xs)/\R (Itl K a) F
def iTup(K:aI)(g:TE):TI:=λr H R=>g r H λx F=>∃a,x=.ref a/\(∃xs,NR K F a xs)/\R (Itt K a) F
theorem pZ{l:Expr}{g:TE}(Y:PE X l g):PI X tg l (zE X.K g):=by
 intro F s r H R I h;refine la (Y F s r H _ I h) λv z q0=>?_;obtain⟨x,S,G,J,q1⟩:=q0;obtain⟨a,e,⟨T,U⟩,q⟩:=q1;subst e;cases J;obtain⟨L,W,p,Z⟩:=G.list U;refine A7 p.isList ?_;refine⟨z.heap.objs.size,[z.heap.objs.size],_,_,S,rfl,G.kept (t':=z.toks) λb o e=>bn _ e,dI a _,⟨_,ce _ rfl,rfl,rfl⟩,λb O=>?_,q⟩;have e:b=z.heap.objs.size:=by simpa using O
 subst e;exact G.fpOk (aE _) (G.hok.fresh (aE _))
theorem wK{l:Expr}{r:TE}(Y:PE X l r):PI X tg l (iTup X.K r):=by
 intro J s F H R I h;refine la (Y J s F H _ I h) λv z q9=>?_;obtain⟨x,S,G,L,q1⟩:=q9;obtain⟨a,e,⟨T,U⟩,q⟩:=q1;subst e;cases L;obtain⟨g,W,p,Z⟩:=G.tuple U;refine wf (show z.heap.IsTuple a g.toArray from p) ?_;refine⟨z.heap.objs.size,[z.heap.objs.size],_,_,S,rfl,G.kept (t':=z.toks) λb o e=>bn _ e,Yt a _,⟨_,ce _ rfl,rfl,rfl⟩,λb O=>?_,q⟩;have e:b=z.heap.objs.size:=by simpa using O
 subst e;exact G.fpOk (aE _) (G.hok.fresh (aE _))
theorem gO{r:St}{H:Hp}{R:It->Hp->Prop}{lo G:Int}{t u v:Tok}{tk:Nat}(I:Inv X π r H s)(h1 : -(2^62)<=lo)(J:lo<2^62)(T : -(2^62)<=G)(F:G<2^62)(q:R (Itr lo (G-lo).toNat) H):ag (ai X.prog X.w) X.A (om (.ref s.heap.objs.size)) (PIE X π r tg R) E { s with heap:=s.heap.push { cls:=.type "range",data:=.fields #[.int lo t,.int G u,.int 1 v] },toks:=tk }:=by
 refine wpAny_pyIter_range (IsRange.new ..) (small_one h1 J T F) ?_;have g:Inv X π r H { s with heap:=s.heap.push { cls:=.type "range",data:=.fields #[.int lo t,.int G u,.int 1 v] },toks:=tk }:=I.kept λb o e=>bn _ e;refine⟨(s.heap.push { cls:=.type "range",data:=.fields #[.int lo t,.int G u,.int 1 v] }).objs.size,[(s.heap.push { cls:=.type "range",data:=.fields #[.int lo t,.int G u,.int 1 v] }).objs.size],_,_,H,rfl,
  g.kept (t':=tk) λb o e=>bn _ e,Yu _ lo (G-lo).toNat,?_,λb z=>?_,q⟩
 .have O:lo+((0:Nat):Int)*1=lo:=by simp
  have L:(((G-lo).toNat:Nat):Int)-((0:Nat):Int)=HK lo G 1:=by rw[rangeSize_one];split<;>omega
  show IsRangeIter _ _ (lo+((0:Nat):Int)*1) ((((G-lo).toNat:Nat):Int)-((0:Nat):Int)) 1;rw[O,L];exact ce _ rfl
 .have e:b=(s.heap.push { cls:=.type "range",data:=.fields #[.int lo t,.int G u,.int 1 v] }).objs.size:=by simpa using z
  subst e;exact g.fpOk (aE _) (g.hok.fresh (aE _))
def zF(g:TA):TI:=λr H R=>g r H λvs F=>∃j:Int,vs=[.int j]/\-(2^62)<=j/\j<2^62/\R (Itr 0 j.toNat) F
def dJ{a:Expr}{g:TA}{p:Pos}(W:Gl X "range")(G:X.mg "range"=W1)(J:PA X [a] g)(hs:aw [a] X.env=[(O2,eval a X.env)]:=by rfl):PI X tg (.Call (.Name "range" p) [a] [] pos) (zF g):=by
 intro z s v H R I h;refine Call_ (P_ I W G boot_range (Ct (la (J pos z s v H _ I h) λS T p0=>?_) hs rfl));obtain⟨O,U,L,F,q1⟩:=p0;obtain⟨j,e,q1,q2,q⟩:=q1;subst e;cases F with
 |cons r rr=>
  cases rr;obtain⟨t,rfl⟩:=r;exact call_range_1 (gO L .(0) .(0) q1 q2 (by simpa using q))
def tFor(I:TI)(g:TG)(L:TS):TS:=λD r H=>I r H λJ S=>∃W:Nat->Nat->St->Hp->Prop,(∃m,W 0 m r S)/\∀i m r H,W i m r H ->
 (J.stop i H/\D.nx r H)∨(J.go i H/\∃N:St->Hp->Prop,(∀v z,N v z->∃G,G<m/\W (i+1) G v z)/\∀x z,J.yld i H x z->g x r z λF O=>L { D with nx:=N,ct:=N,bk:=D.nx } F O)
def R9(fp:List Addr)(h:Heap):List (Addr×Obj):=fp.filterMap λb=>(h.get? b).map λo=>(b,o)
def J6{fp:List Addr}(H:b∈fp)(e:h.get? b=O0 o):(b,o)∈R9 fp h:=CA.mpr ⟨b,H,by rw[e];rfl⟩
def dM{fp:List Addr}{p:Addr×Obj}(z:p∈R9 fp h):p.1∈fp/\h.get? p.1=O0 p.2:=by
 obtain⟨b,H,e⟩:=CA.mp z;cases q:h.get? b with
 |none=>rw[q] at e;cases e
 |some o=>
  rw[q] at e;have O:(b,o)=p:=cy e;subst O;exact⟨H,q⟩
def Inv.pinned{r:St}{H:Hp}{fp:List Addr}(I:Inv X π r H s)(J:∀b∈fp,VT X π H b)(G:∀b∈fp,∃o,s.heap.get? b=O0 o/\∀v,o.data≠.cell v):Inv X (π++R9 fp s.heap) r H s:=
 I.pins_of λp F=>(dA.mp F).elim (λz=>I.pin p (hU _ z)) λz=>by
  obtain⟨g,e⟩:=dM z;obtain⟨T,S,L,_⟩:=J p.1 g;obtain⟨o,O,d⟩:=G p.1 g;rw[e] at O;cases O;exact⟨e,T,S,L,d⟩
def Inv.unpinned{pl:NY}{r:St}{H:Hp}(I:Inv X (π++pl) r H s):Inv X π r H s:=I.pins_of λp z=>I.pin p (hU _ (kU _ z))
def Yv{O:Expr}{wi:TI}{g:TG}{tb:TS}(hp:ti (ai X.prog X.w) X.A X.env X.xe)(hc:X.calm=O1)(hi:PI X tg O wi)(hg:PG X tg g)(S:UQ X body tb)(hs:∀x,lc O X.env x=pure x:=by intro _;rfl):PS X (.For tg O body [] pos) (tFor wi g tb):=by
 intro π s σ H D I h;refine wpAny_For (la (hi π s σ H _ I h) λv s1 h1=>la h1 λY1 s2 h2=>?_) hs;obtain⟨it,fp,tn,J,H2,e,I2,T,S1,f2,W,⟨m0,w0⟩,S0⟩:=h2;subst e;have L:∀{H':Hp},(∀b∈fp,H' b=W1)->∀b∈fp,VT X π H' b:=λhn b S=>⟨hn b S,(f2 b S).2⟩;refine codeAny_forLoop_any (λn s'=>∃i G H',Inv X π G H' s'/\tn i s'.heap/\(∀b∈fp,H' b=W1)/\W i n G H') ?_ m0 ⟨0,σ,H2,I2,S1,λb S=>(f2 b S).1,w0⟩;rintro n s3 ⟨i,F,H3,I3,X0,N1,w3⟩
 rcases S0 i n F H3 w3 with ⟨T0,qn⟩ | ⟨go,N,hN,step⟩
 .refine qE hp (la (T.done X rfl rfl rfl hc i π s3 F H3 X.xe I3 (L N1) X0 T0) λr s4 p9=>?_);obtain⟨hr,I4⟩:=p9;subst hr;exact kA ⟨F,H3,I4,qn⟩
 .refine qE hp (la (T.item X rfl rfl rfl hc i π s3 F H3 X.xe I3 (L N1) X0 go) λr s4 g0=>?_);obtain⟨u,hr,h4⟩:=g0;subst hr;refine qE hp (la h4 λ_ s5 g9=>?_);obtain⟨x,H5,I5,r5,y5,N0,U1⟩:=g9;have X1:=I5.pinned (L U1) (T.obj _ _ N0);refine qE hp (la (hg _ s5 F H5 x u _ X1 r5 (step x H5 y5)) λ_ s6 u0=>?_);obtain⟨P1,H6,I6,q6⟩:=u0;refine qE hp (la (S _ s6 P1 H6 _ I6 q6) λf s7 q7=>?_);have U:∀{z:St}{Z:Hp},Inv X (π++R9 fp s5.heap) z Z s7->N z Z->∃m,m<n/\∃i G H',Inv X π G H' s7/\tn i s7.heap/\(∀b∈fp,H' b=W1)/\W i m G H':=λ{z Z} Y n7=>by
   obtain⟨m',hm,w7⟩:=hN z Z n7;refine⟨m',hm,i+1,z,Z,Y.unpinned,T.keep _ _ _ N0 λb S o e=>(Y.pin (b,o) (hU _ (hU _ (J6 S e)))).1,λb S=>?_,w7⟩;obtain⟨o,e,d⟩:=T.obj _ _ N0 b S;exact (Y.pin (b,o) (hU _ (hU _ (J6 S e)))).2.1
  cases f with
  |next=>obtain⟨z,Z,Y,n7⟩:=q7;exact U Y n7
  |cont=>obtain⟨z,Z,Y,n7⟩:=q7;exact U Y n7
  |brk=>obtain⟨z,Z,Y,q7⟩:=q7;exact⟨z,Z,Y.unpinned,q7⟩
  |ret v=>obtain⟨x7,z,Z,Y,r7,q7⟩:=q7;exact⟨x7,z,Z,Y.unpinned,r7,q7⟩
end
abbrev R2:=V->V->Hp->VK->Prop
def NU(X:Cx)(f:ac->ac->Sem ac)(r:R2):Prop:=
 ∀(z:NY) (s:ah) (g:St) (H:Hp) (x y:V) (v u:ac) (Q:VK),Inv X z g H s->cc x v->cc y u->r x y H Q ->
  ag (ai X.prog X.w) X.A (f v u) (EP X z g Q) X.xe s
def Dd(X:Cx)(f:ac)(r:List V->Hp->VK->Prop):Prop:=
 ∀(z:NY) (s:ah) (g:St) (H:Hp) (xs:List V) (us:List ac) (Q:VK),Inv X z g H s->cx xs us->r xs H Q ->
  ag (ai X.prog X.w) X.A (call f us) (EP X z g Q) X.xe s
def TruR(X:Cx)(r:V->Hp->(Bool->Hp->Prop)->Prop):Prop:=
 ∀(z:NY) (s:ah) (g:St) (H:Hp) (x:V) (v:ac) (Q:Bool->Hp->Prop),Inv X z g H s->cc x v->r x H Q ->
  ag (ai X.prog X.w) X.A (truthy v) (TP X z g Q) X.xe s
def tOp(r:R2)(z v:TE):TE:=λg H Q=>z g H λx G=>v g G λy F=>r x y F Q
def rI(C:Int->Int->Prop)(g:Int->Int->V):R2:=λx y H Q=>∃i j,x=.int i/\y=.int j/\C i j/\Q (g i j) H
def YN(g:Int->Int->V):R2:=λx y H Q=>∃i j,x=.int i/\y=.int j/\Q (g i j) H
section
variable {X:Cx}{a b:Expr}{ta tb:TE}
def binT(W:PE X a ta)(U:PE X b tb){F:NY}{s:ah}{r:St}{H:Hp}{R:V->V->Hp->Prop}(I:Inv X F r H s)(h:ta r H λx J=>tb r J λy z=>R x y z){Q:ac->ah->Prop}{f:ac->ac->Sem ac}(T:∀v u s2 x y z,Inv X F r z s2->cc x v->cc y u->R x y z->ag (ai X.prog X.w) X.A (f v u) Q X.xe s2):
  ag (ai X.prog X.w) X.A (eval a X.env) (λv g=>ag (ai X.prog X.w) X.A (eval b X.env) (λu G=>ag (ai X.prog X.w) X.A (f v u) Q X.xe G) X.xe g) X.xe s:=by
 refine la (W F s r H _ I h) λv L v0=>?_;obtain⟨x,J,Z,S,q1⟩:=v0;refine la (U F L r J _ Z q1) λu s2 y0=>?_;obtain⟨y,z,Y,O,q2⟩:=y0;exact T v u s2 x y z Y S O q2
def zG{op:Operator}{r:R2}(G:NU X (i9 op) r)(L:PE X a ta)(J:PE X b tb):PE X (.BinOp a op b pos) (tOp r ta tb):=by
 intro z s g H Q I h;exact wpAny_BinOp (binT L J I h λv u S x y T O rx F q=>G z S g T x y v u Q O rx F q)
def opI{f:ac->ac->Sem ac}{C:Int->Int->Prop}{g:Int->Int->Int}(r:∀(i j:Int) (t u:Tok) (s:ah) (Q:ac->ah->Prop) (E:ac->ah->Prop),C i j->Q (.int (g i j) s.toks) { s with toks:=s.toks+1 }->ag (ai X.prog X.w) X.A (f (.int i t) (.int j u)) Q E s):
  NU X f (rI C λi j=>.int (g i j)):=by
 intro L s G H x y v u Q I rx F h;obtain⟨i,j,rfl,rfl,J,q⟩:=h;obtain⟨t,rfl⟩:=rx;obtain⟨z,rfl⟩:=F;exact r i j t z s _ _ J ⟨.int (g i j),H,I.tok _,⟨_,rfl⟩,q⟩
def opI0{f:ac->ac->Sem ac}{g:Int->Int->Int}(r:∀(i j:Int) (t u:Tok) (s:ah) (Q:ac->ah->Prop) (E:ac->ah->Prop),Q (.int (g i j) s.toks) { s with toks:=s.toks+1 }->ag (ai X.prog X.w) X.A (f (.int i t) (.int j u)) Q E s):
  NU X f (YN λi j=>.int (g i j)):=by
 intro J s G H x y v u Q I rx F h;obtain⟨i,j,rfl,rfl,q⟩:=h;obtain⟨t,rfl⟩:=rx;obtain⟨z,rfl⟩:=F;exact r i j t z s _ _ ⟨.int (g i j),H,I.tok _,⟨_,rfl⟩,q⟩
def opB0{f:ac->ac->Sem ac}{g:Int->Int->Bool}(r:∀(i j:Int) (t u:Tok) (s:ah) (Q:ac->ah->Prop) (E:ac->ah->Prop),Q (.bool (g i j)) s->ag (ai X.prog X.w) X.A (f (.int i t) (.int j u)) Q E s):
  NU X f (YN λi j=>.bl (g i j)):=by
 intro J s G H x y v u Q I rx F h;obtain⟨i,j,rfl,rfl,q⟩:=h;obtain⟨t,rfl⟩:=rx;obtain⟨z,rfl⟩:=F;exact r i j t z s _ _ ⟨.bl (g i j),H,I,rfl,q⟩
def CDiv(i j:Int):Prop:=0<j/\j<1073741824
def CPow(i j:Int):Prop:=0<=j/\j<=1000000/\i.natAbs<2^64
def CMul(i j:Int):Prop:=(-(2^64)<i/\i<2^64)∨(-(2^64)<j/\j<2^64)
def CMul.ok{i j:Int}(h:CMul i j):IntMulOk i j:=by
 rcases h with ⟨v,g⟩ | ⟨v,g⟩
 .exact .of_left (intBits_le_64 v g)
 .exact .of_right (intBits_le_64 v g)
def Yw(k:Nat):(0:Int)<=2^k:=by
 rw[two_pow_cast];exact Int.natCast_nonneg _
def wL:NU X (i9 .Add) (YN λi j=>.int (i+j)):=opI0 λ_ _ _ _ _ _ _ q=>add_int q
def wM:NU X (i9 .Sub) (YN λi j=>.int (i-j)):=opI0 λ_ _ _ _ _ _ _ q=>sub_int q
def p_:NU X (i9 .FloorDiv) (rI CDiv λi j=>.int (i/j)):=opI λi j _ _ _ _ _ J q=>by
 have v:(0:Int)<j:=J.1;have g:j<1073741824:=J.2;exact floordiv_int .(0) (by rw[HL i .(0)];exact q) (.inl (PyProof.noPylong_small .(0)))
def wN:NU X (i9 .Mod) (rI (λ_ j=>0<j) λi j=>.int (i%j)):=opI λi j _ _ _ _ _ J q=>by
 have v:(0:Int)<j:=J;exact mod_int' .(0) (by rw[Int.fmod_eq_emod_of_nonneg i .(0)];exact q)
def gP:NU X (i9 .RShift) (rI (λ_ j=>0<=j) λi j=>.int (i/2^j.toNat)):=opI λi j _ _ _ _ _ J q=>
 rshift_int J (by rw[HL i (Yw _)];exact q)
def gQ:NU X (i9 .BitAnd) (YN λi j=>.int (tj i j)):=opI0 λ_ _ _ _ _ _ _ q=>and_int q
end
def scal:V->V->Bool
 |.non,.non=>O1 | .non,.int _=>O1 | .int _,.non=>O1 | .non,.bl _=>O1 | .bl _,.non=>O1 | .non,.str _=>O1 | .str _,.non=>O1
 |.int _,.int _=>O1 | .bl _,.bl _=>O1 | .str _,.str _=>O1 | .byt _,.byt _=>O1
 |.int _,.str _=>O1 | .str _,.int _=>O1 | .bl _,.str _=>O1 | .str _,.bl _=>O1
 |_,_=>O2
def rEq:R2:=λx y H Q=>scal x y=O1/\Q (.bl (decide (x=y))) H
def rNe:R2:=λx y H Q=>scal x y=O1/\Q (.bl (!decide (x=y))) H
def Z3{i j:Int}:decide (V.int i=V.int j)=(i==j):=by
 rw[kg];simp
def gR{i j:Bool}:decide (V.bl i=V.bl j)=(i==j):=by
 rw[kg];simp
def Z4{i j:Str}:decide (V.str i=V.str j)=(i==j):=by
 rw[kg];simp
def Z5{i j:Array UInt8}:decide (V.byt i=V.byt j)=(i.toList==j.toList):=by
 rw[kg];cases i;cases j;simp
section
variable {X:Cx}{a b c:Expr}{ta tb tc:TE}
def BZ{r:St}{H:Hp}{Q:VK}{k g:Bool}(I:Inv X π r H s)(q:Q (.bl k) H)(e:k=g):EP X π r Q (.bool g) s:=by
 subst e;exact⟨.bl k,H,I,rfl,q⟩
def zH:NU X (de .Eq) rEq:=by
 intro z s r H x y v u Q I rx F h;obtain⟨hs,q⟩:=h;cases x with
 |non=>
  cases rx;cases y with
  |non=>cases F;exact PySem.EqNone.eq_none_none (BZ I q .(1))
  |bl j=>cases F;exact PySem.EqNone.eq_none_bool (BZ I q .(1))
  |int j=>obtain⟨g,rfl⟩:=F;exact PySem.EqNone.eq_none_int (BZ I q .(1))
  |str j=>obtain⟨g,rfl⟩:=F;exact PySem.EqNone.eq_none_str (BZ I q .(1))
  |_=>exact NI (show O2=O1 from hs) dc
 |bl i=>
  cases rx;cases y with
  |non=>cases F;exact PySem.EqNone.eq_bool_none (BZ I q .(1))
  |bl j=>cases F;exact eq_bool (BZ I q gR)
  |str j=>obtain⟨g,rfl⟩:=F;exact PySem.EqMixed.eq_bool_str (BZ I q .(1))
  |_=>exact NI (show O2=O1 from hs) dc
 |int i=>
  obtain⟨t,rfl⟩:=rx;cases y with
  |non=>cases F;exact PySem.EqNone.eq_int_none (BZ I q .(1))
  |int j=>obtain⟨g,rfl⟩:=F;exact eq_int (BZ I q Z3)
  |str j=>obtain⟨g,rfl⟩:=F;exact PySem.EqMixed.eq_int_str (BZ I q .(1))
  |_=>exact NI (show O2=O1 from hs) dc
 |str i=>
  obtain⟨t,rfl⟩:=rx;cases y with
  |non=>cases F;exact PySem.EqNone.eq_str_none (BZ I q .(1))
  |bl j=>cases F;exact PySem.EqMixed.eq_str_bool (BZ I q .(1))
  |int j=>obtain⟨g,rfl⟩:=F;exact PySem.EqMixed.eq_str_int (BZ I q .(1))
  |str j=>obtain⟨g,rfl⟩:=F;exact eq_str (BZ I q Z4)
  |_=>exact NI (show O2=O1 from hs) dc
 |byt i=>
  obtain⟨t,rfl⟩:=rx;cases y with
  |byt j=>obtain⟨g,rfl⟩:=F;exact PySem.W.eq_bytes (BZ I q Z5)
  |_=>exact NI (show O2=O1 from hs) dc
 |_=>cases y<;>exact NI (show O2=O1 from hs) dc
def zJ:NU X (de .NotEq) rNe:=by
 intro z s r H x y v u Q I rx F h;obtain⟨hs,q⟩:=h;cases x with
 |non=>
  cases rx;cases y with
  |non=>cases F;exact PySem.EqNone.ne_none_none (BZ I q .(1))
  |bl j=>cases F;exact PySem.EqNone.ne_none_bool (BZ I q .(1))
  |int j=>obtain⟨g,rfl⟩:=F;exact PySem.EqNone.ne_none_int (BZ I q .(1))
  |str j=>obtain⟨g,rfl⟩:=F;exact PySem.EqNone.ne_none_str (BZ I q .(1))
  |_=>exact NI (show O2=O1 from hs) dc
 |bl i=>
  cases rx;cases y with
  |non=>cases F;exact PySem.EqNone.ne_bool_none (BZ I q .(1))
  |bl j=>cases F;exact ne_bool (BZ I q (RI not gR))
  |str j=>obtain⟨g,rfl⟩:=F;exact PySem.EqMixed.ne_bool_str (BZ I q .(1))
  |_=>exact NI (show O2=O1 from hs) dc
 |int i=>
  obtain⟨t,rfl⟩:=rx;cases y with
  |non=>cases F;exact PySem.EqNone.ne_int_none (BZ I q .(1))
  |int j=>obtain⟨g,rfl⟩:=F;exact ne_int (BZ I q (RI not Z3))
  |str j=>obtain⟨g,rfl⟩:=F;exact PySem.EqMixed.ne_int_str (BZ I q .(1))
  |_=>exact NI (show O2=O1 from hs) dc
 |str i=>
  obtain⟨t,rfl⟩:=rx;cases y with
  |non=>cases F;exact PySem.EqNone.ne_str_none (BZ I q .(1))
  |bl j=>cases F;exact PySem.EqMixed.ne_str_bool (BZ I q .(1))
  |int j=>obtain⟨g,rfl⟩:=F;exact PySem.EqMixed.ne_str_int (BZ I q .(1))
  |str j=>obtain⟨g,rfl⟩:=F;exact ne_str (BZ I q (RI not Z4))
  |_=>exact NI (show O2=O1 from hs) dc
 |byt i=>
  obtain⟨t,rfl⟩:=rx;cases y with
  |byt j=>obtain⟨g,rfl⟩:=F;exact PySem.W.ne_bytes (BZ I q (RI not Z5))
  |_=>exact NI (show O2=O1 from hs) dc
 |_=>cases y<;>exact NI (show O2=O1 from hs) dc
def uW:NU X (de .Lt) (YN λi j=>.bl (decide (i<j))):=opB0 λ_ _ _ _ _ _ _ q=>lt_int q
def zK:NU X (de .LtE) (YN λi j=>.bl (decide (i<=j))):=opB0 λ_ _ _ _ _ _ _ q=>le_int q
def zL:NU X (de .Gt) (YN λi j=>.bl (decide (j<i))):=opB0 λ_ _ _ _ _ _ _ q=>gt_int q
def zM:NU X (de .GtE) (YN λi j=>.bl (decide (j<=i))):=opB0 λ_ _ _ _ _ _ _ q=>ge_int q
def dN:NU X (de .In) (λx y H Q=>∃i j,x=.str i/\y=.str j/\Q (.bl (!(oy j i 0 j.length 1).isEmpty)) H):=by
 intro z s r H x y v u Q I rx F h;obtain⟨i,j,rfl,rfl,q⟩:=h;obtain⟨t,rfl⟩:=rx;obtain⟨g,rfl⟩:=F;exact in_str (BZ I q rfl)
def Vn:NU X (de .NotIn) (λx y H Q=>∃i j,x=.str i/\y=.str j/\Q (.bl (!(!(oy j i 0 j.length 1).isEmpty))) H):=by
 intro z s r H x y v u Q I rx F h;obtain⟨i,j,rfl,rfl,q⟩:=h;obtain⟨t,rfl⟩:=rx;obtain⟨g,rfl⟩:=F;exact notIn_str (BZ I q rfl)
def NU.or{f:ac->ac->Sem ac}{r O:R2}(h:NU X f r)(h':NU X f O):NU X f (λx y H Q=>r x y H Q∨O x y H Q):=by
 intro z s g H x y v u Q I rx F q
 rcases q with q | q
 .exact h z s g H x y v u Q I rx F q
 .exact h' z s g H x y v u Q I rx F q
def K5(b:Expr){op:kz}(h:op≠.In:=by decide)(g:op≠.NotIn:=by decide):fw op b=O2:=by
 have v:(op==CmpOp.In)=O2:=by cases op<;>first | rfl | exact NI rfl h
 have r:(op==HE)=O2:=by cases op<;>first | rfl | exact NI rfl g
 cases b<;>simp[fw,v,r]
def Z6{op:kz}{r:R2}(G:NU X (de op) r)(O:PE X a ta)(L:PE X b tb)(J:fw op b=O2):PE X (.Compare a [op] [b] pos) (tOp r ta tb):=by
 intro z s g H Q I h;exact wpAny_Compare1 (binT O L I h λv u S x y U T rx F q=>G z S g U x y v u Q T rx F q) J
def zN(t:TE):TT:=λr H Q=>t r H λx g=>∃k,x=.bl k/\Q k g
def Z7{op:kz}{r:R2}(T:NU X (de op) r)(Y:PE X a ta)(W:PE X b tb)(U:fw op b=O2):PT X (.Compare a [op] [b] pos) (zN (tOp r ta tb)):=by
 intro F s g H Q I h;refine sT (la (Y F s g H _ I h) λv G ⟨x,H1,I1,L,q1⟩=>la (W F G g H1 _ I1 q1) λu S ⟨y,H2,I2,O,q2⟩=>
  la (T F S g H2 x y v u _ I2 L O q2) λc s3 ⟨z,H3,Z,J,k,e,q3⟩=>?_) U
 subst e;cases J;exact jS ⟨H3,Z,q3⟩
def TruV(K:aI)(x:V)(H:Hp)(k:Bool):Prop:=
 match x with
 |.non=>k=O2
 |.bl b=>k=b
 |.int i=>k=(i != 0)
 |.str y=>y.length<=sizeLine/\k=((y.length:Int) != 0)
 |.byt y=>y.size<=sizeLine/\k=((y.size:Int) != 0)
 |.ref p=>(∃xs,NS K H p xs/\k=!xs.isEmpty)∨(∃xs,NR K H p xs/\k=!xs.isEmpty)∨∃kvs,H p=O0 (.dK kvs)/\k=!kvs.isEmpty
 |_=>False
def Yx{g:Type}{kvs:List (g×V)}{vs:List (g×ac)}(r:KV kvs vs):(!vs.isEmpty)=!kvs.isEmpty:=by
 cases r<;>rfl
def R_{xs:List V}(r:cx xs its):(!its.toArray.isEmpty)=!xs.isEmpty:=by
 cases r<;>simp
def SJ:(sizeLine:Nat)<2^63:=by rw[hV];decide
theorem wO:TruR X (λx H Q=>∃k,TruV X.K x H k/\Q k H):=by
 intro Z s Y H x v Q I rx h;obtain⟨k,e,q⟩:=h;have hl:=SJ;have hs:sizeLine=16777216:=hV;cases x with
 |non=>
  cases rx;have O:k=O2:=e;subst O;exact truthy_none ⟨H,I,q⟩
 |bl b=>
  cases rx;have O:k=b:=e;subst O;exact jS ⟨H,I,q⟩
 |int i=>
  obtain⟨t,rfl⟩:=rx;have O:k=(i != 0):=e;subst O;exact PySem.P.truthy_int ⟨H,I,q⟩
 |str y=>
  obtain⟨t,rfl⟩:=rx;obtain⟨T,O⟩:y.length<=sizeLine/\k=((y.length:Int) != 0):=e;subst O;exact PySem.P.truthy_str .(0) ⟨H,I.tok _,q⟩
 |byt y=>
  obtain⟨t,rfl⟩:=rx;obtain⟨T,O⟩:y.size<=sizeLine/\k=((y.size:Int) != 0):=e;subst O;exact PySem.W.truthy_bytes .(0) ⟨H,I.tok _,q⟩
 |ref p=>
  cases rx;have O:(∃F,NS X.K H p F/\k=!F.isEmpty)∨(∃F,NR X.K H p F/\k=!F.isEmpty)∨∃g,H p=O0 (.dK g)/\k=!g.isEmpty:=e
  rcases O with ⟨F,G,O⟩ | ⟨F,G,O⟩ | ⟨g,G,O⟩
  .subst O;obtain⟨L,r,J,S⟩:=I.list G;have z:=r.length;exact wpAny_truthy_list J.isList (by simp only[cr];omega) ⟨H,I.tok _,by rw[R_ r];exact q⟩
  .subst O;obtain⟨L,r,J,S⟩:=I.tuple G;have z:=r.length;exact truthy_tuple J (by simp only[cr];omega) ⟨H,I.tok _,by rw[R_ r];exact q⟩
  .subst O;obtain⟨S,U,vs,r,m⟩:g.length<=sizeLine/\(p==gT)=O2/\∃vs,KV g vs/\s.heap.DictOf (Av X.prog X.w) p vs:=I.hok p _ G;have z:g.length=vs.length:=A3 r;exact wpAny_truthy_dict U m .(0) ⟨H,I.tok _,by rw[Yx r];exact q⟩
 |_=>exact (show False from e).elim
def gU(L:PE X a ta)(J:∀whole,oj a X.env whole=(do let v <-whole;nh a.pos;li [v] (truthy v))):
  PT X a (λr H Q=>ta r H λx g=>∃k,TruV X.K x g k/\Q k g):=by
 intro z s r H Q I h;exact isTrue_plain (la (L z s r H _ I h) (by rintro v F ⟨x,S,O,G,q1⟩;exact wO z F r S x v Q O G q1)) (J _)
def Yy:NU X (i9 .Add) (λx y H Q=>∃i j,x=.str i/\y=.str j/\i.length+j.length<=sizeLine/\Q (.str (i++j)) H):=by
 intro z s r H x y v u Q I rx F h;obtain⟨i,j,rfl,rfl,O,q⟩:=h;obtain⟨t,rfl⟩:=rx;obtain⟨g,rfl⟩:=F;exact add_str (λg tk=>⟨.str (i++j),H,I.tok _,⟨_,rfl⟩,q⟩) O
def SR{x:V}(r:cx [x] us):∃u,us=[u]/\cc x u:=by
 cases r with
 |cons g O=>cases O;exact⟨_,rfl,g⟩
def vals2{x y:V}(r:cx [x,y] us):∃u w',us=[u,w']/\cc x u/\cc y w':=by
 cases r with
 |cons v O=>
  cases O with
  |cons J g=>cases g;exact⟨_,_,rfl,v,J⟩
def QB(J:X.calm=O1):Dd X (.builtin "max") (λxs H Q=>∃i j,xs=[.int i,.int j]/\Q (.int (if j > i then j else i)) H):=by
 intro z s g H xs G Q I r h;obtain⟨i,j,rfl,q⟩:=h;obtain⟨u,v,rfl,⟨t,rfl⟩,⟨F,rfl⟩⟩:=vals2 r;refine max_two_ints (I.ok.hd J) λL tk k=>⟨_,H,I.kept k,?_,q⟩
 by_cases U:j > i
 .rw[WH U,WH U];exact⟨_,rfl⟩
 .rw[ZH U,ZH U];exact⟨_,rfl⟩
def QC(J:X.calm=O1):Dd X (.builtin "min") (λxs H Q=>∃i j,xs=[.int i,.int j]/\Q (.int (if j<i then j else i)) H):=by
 intro z s g H xs G Q I r h;obtain⟨i,j,rfl,q⟩:=h;obtain⟨u,v,rfl,⟨t,rfl⟩,⟨F,rfl⟩⟩:=vals2 r;refine min_two_ints (I.ok.hd J) λL tk k=>⟨_,H,I.kept k,?_,q⟩
 by_cases U:j<i
 .rw[WH U,WH U];exact⟨_,rfl⟩
 .rw[ZH U,ZH U];exact⟨_,rfl⟩
def LenV(K:aI)(x:V)(H:Hp)(n:Nat):Prop:=
 match x with
 |.str y=>y.length<=sizeLine/\n=y.length
 |.byt y=>y.size<=sizeLine/\n=y.size
 |.ref p=>(∃xs,NS K H p xs/\n=xs.length)∨∃xs,NR K H p xs/\n=xs.length
 |_=>False
def gW:Dd X (.builtin "len") (λxs H Q=>∃x n,xs=[x]/\LenV X.K x H n/\Q (.int n) H):=by
 intro T s S H xs U Q I r h;obtain⟨x,n,rfl,e,q⟩:=h;obtain⟨u,rfl,rx⟩:=SR r;have Y:=SJ;have hs:sizeLine=16777216:=hV;cases x with
 |str y=>
  obtain⟨t,rfl⟩:=rx;obtain⟨L,O⟩:y.length<=sizeLine/\n=y.length:=e;subst O;exact len_str .(0) ⟨.int _,H,I.tok _,⟨_,rfl⟩,q⟩
 |byt y=>
  obtain⟨t,rfl⟩:=rx;obtain⟨L,O⟩:y.size<=sizeLine/\n=y.size:=e;subst O;exact PySem.W.len_bytes .(0) ⟨.int _,H,I.tok _,⟨_,rfl⟩,q⟩
 |ref p=>
  cases rx;have O:(∃xs,NS X.K H p xs/\n=xs.length)∨∃xs,NR X.K H p xs/\n=xs.length:=e
  rcases O with ⟨xs,F,O⟩ | ⟨xs,F,O⟩
  .subst O;obtain⟨v,g,J,G⟩:=I.list F;have z:=g.length;exact Calls.call_len_list J.isList (by simp only[cr];omega) ⟨.int xs.length,H,I.tok _,⟨_,by simp only[cr];rw[z]⟩,q⟩
  .subst O;obtain⟨v,g,J,G⟩:=I.tuple F;have z:=g.length;exact len_tuple J (by simp only[cr];omega) ⟨.int xs.length,H,I.tok _,⟨_,by simp only[cr];rw[z]⟩,q⟩
 |_=>exact (show False from e).elim
end
structure ObjM (h:Heap) (x dx C:Addr) (mA:Str->Option ac):Prop where
 obj:h.get? x=O0 (og C dx)
 ns:h.Ns1 dx mA
 ne:dx≠x
def dO{dx:Addr}{mA:Str->Option ac}(n:h.Ns1 dx mA):∃od,h.get? dx=O0 od/\∀name,A8 name od=O0 (mA name):=by
 obtain⟨o,r,L,F,H,I,_,G⟩:=n;refine⟨o,F,λname=>?_⟩;have e:=G name;unfold nsFind findBy at e;rw[<-Array.find?_toList] at e;unfold A8;rw[H];dsimp only;split
 .rename_i y q;rw[q] at e;exact RI O0 e
 .rename_i q;rw[q] at e;have a:r.toList.any (·.refKey)=O2:=by
   rw[HM];intro y v;obtain⟨z,t,g⟩:=I y (CB.mp v);simp[DictEntry.refKey,g]
  have J:¬ r.toList.any (·.refKey)=O1:=by rw[a];exact dc
  rw[ZH J];exact RI O0 e
theorem ObjM.look{x dx:Addr}{mA:Str->Option ac}(I:ObjM h x dx C mA):∃od,PySem.W.InstAt h x (og C dx) C (O0 od)/\∀name,A8 name od=O0 (mA name):=
 let ⟨od,ho,hl⟩:=dO I.ns
 ⟨od,⟨I.obj,rfl,rfl,ho⟩,hl⟩
section
variable {A:aS}{K:aI}{x dx f:Addr}{mA:Str->Option ac}{v:ac}
def Vo{g:Bool}(X:K.In s.heap)(I:ObjM s.heap x dx C mA)(G:wl K C name=O1)(F:A9 K C=O1)(H:fA K (.ref C) name=O0 W1)(z:mA name=O0 v)(r:HP v=O1)(h:Q v { s with toks:=s.toks+1 }):
  ag (ai prog w) A (getAttr (.ref x) name g) Q E s:=by
 obtain⟨L,J,Y⟩:=I.look;exact PySem.W.get_value X J (CC G).1 (PySem.W.findObj_own F H rfl (by rw[Y,z])) r h
def gY{pl:Sem Bool}{Q:ac×List ac->ah->Prop}(X:K.In s.heap)(I:ObjM s.heap x dx C mA)(g:wl K C name=O1)(G:fA K (.ref C) name=O0 (O0 (.ref f)))(O:qS K (.ref f)=O1)(z:mA name=W1)(h:Q (.ref f,[.ref x]) s):
  ag (ai prog w) A (oB (.ref x) name pl) Q E s:=by
 obtain⟨r,J,Y⟩:=I.look;exact PySem.W.method_fn X J (CC g).1 (CC g).2 G (beq_iff_eq.mp O) (by show (A8 name r).map (·.isSome)=O0 O2;rw[Y,z];rfl) h
theorem qC{O:List Str}{Q:Unit->ah->Prop}(X:K.In s.heap)(I:ObjM s.heap x dx C mA)(hs:fA K (.ref C) "__setattr__"=O0 (O0 (.builtin "object.__setattr__")))(Y:CD K C=O1)(U:CF K C name=O0 W1)(Z:A9 K C=O1)(T:BY mA O)(hsz:O.length<=sizeLine)(h:∀h',ObjM h' x dx C (λy=>if y=name then O0 v else mA y)->fh dx s.heap h'->Q () { s with heap:=h',toks:=s.toks+2 }):
  ag (ai prog w) A (setAttr (.ref x) name v) Q E s:=by
 obtain⟨od,J,hl⟩:=I.look;refine PySem.W.set_plain X J hs (PySem.W.osa_open (s:={ s with toks:=s.toks+1 }) (r:=W1) X J Y U λb=>?_);obtain⟨cd,hc,H⟩:=PySem.W.any_some Z;have S:s.heap.get? x=O0 ⟨.ref C,O0 dx,.plain,#[]⟩:=I.obj;refine ae (av (ae (ae (wpAny_loadPart S (ae (PySem.W.Looks.here (s:={ s with toks:=s.toks+1 }) (PySem.W.looks_clsIn X hc) ?_))))));rw[H];refine av (a:=O0 dx) (ae (av (ae ?_)));refine wpAny_nsSet1 (s:={ s with toks:=s.toks+1 }) I.ns λh' z g=>?_;obtain⟨oD,N0,S0,F,G,L⟩:=z.count (PySem.Within.cons name v T);refine ae (wpAny_lookBehind F (by rw[G];exact pastItsLine_dict (d6 L (by rw[ci];omega))) ?_);exact av (h _ ⟨(g.2 _ (cf I.ne)).trans I.obj,z,I.ne⟩ g)
def gZ{R:oC->ah->Prop}(X:K.In s.heap)(z:CH K C=O1)(G:fA K (.ref C) "__init__"=O0 (O0 (.ref f)))(F:PySem.W.typeIn K (.ref f)=O0 (.type "function"))(h:gI (ai prog w) (A.under (.builtin "type.__call__" ⟨.ref C::vs,kw⟩)) (.call (.ref f) ⟨.ref (s.heap.objs.size+1)::vs,kw⟩) (PySem.W.InitBack (s.heap.objs.size+1) R)
   { s with heap:=(s.heap.push nk).push (og C s.heap.objs.size) }):
  gI (ai prog w) A (.call (.ref C) ⟨vs,kw⟩) R s:=by
 obtain⟨I,g,d,t,H⟩:=s;exact PySem.W.make_core (PySem.W.makes_of X z) (PySem.W.looks_findIn X G) (λr=>PySem.W.bind_fn X r F) (.inl rfl) h
end
def putF(f:Str)(v:V):List (Str×V)->List (Str×V)
 |[]=>[(f,v)]
 | (g,x)::r=>if g=f then (g,v)::r else (g,x)::putF f v r
theorem Q9(f g:Str)(v:V):∀fs:List (Str×V),(putF f v fs).lookup g=if g=f then O0 v else fs.lookup g
 |[]=>by
  show bE g [(f,v)]=_
  by_cases h:g=f
  .have H:(g==f)=O1:=beq_iff_eq.mpr h;simp only[bE,H,WH h]
  .have H:(g==f)=O2:=beq_eq_false_iff_ne.mpr h;simp only[bE,H,ZH h]
 | (k,x)::r=>by
  have z:=Q9 f g v r;rw[show putF f v ((k,x)::r)=(if k=f then (k,v)::r else (k,x)::putF f v r) from rfl]
  by_cases I:k=f
  .rw[WH I]
   by_cases h:g=k
   .have H:(g==k)=O1:=beq_iff_eq.mpr h;simp only[bE,H,WH (h.trans I)]
   .have H:(g==k)=O2:=beq_eq_false_iff_ne.mpr h;simp only[bE,H,ZH (λe:g=f=>h (e.trans I.symm))]
  .rw[ZH I]
   by_cases h:g=k
   .have H:(g==k)=O1:=beq_iff_eq.mpr h;simp only[bE,H,ZH (λe:g=f=>I (h.symm.trans e))]
   .have H:(g==k)=O2:=beq_eq_false_iff_ne.mpr h;simp only[bE,H];exact z
theorem QD(f:Str)(v:V):∀fs:List (Str×V),f∈(putF f v fs).map (·.1)/\∀g,g∈fs.map (·.1)->g∈(putF f v fs).map (·.1)
 |[]=>⟨by simp[putF],λg h=>by simp at h⟩
 | (k,x)::r=>by
  obtain⟨F,z⟩:=QD f v r;rw[show putF f v ((k,x)::r)=(if k=f then (k,v)::r else (k,x)::putF f v r) from rfl]
  by_cases I:k=f
  .rw[WH I];subst I;exact⟨by simp,λg h=>by simpa using h⟩
  .rw[ZH I];refine⟨?_,λg h=>?_⟩
   .rw[ba];exact ck _ F
   .rw[ba] at h ⊢
    rcases br.mp h with e | e
    .exact br.mpr (.inl e)
    .exact ck _ (z g e)
theorem Q_(f:Str)(v:V):∀fs:List (Str×V),(putF f v fs).length<=fs.length+1
 |[]=>by simp[putF]
 | (k,x)::r=>by
  have g:=Q_ f v r;rw[show putF f v ((k,x)::r)=(if k=f then (k,v)::r else (k,x)::putF f v r) from rfl]
  by_cases I:k=f
  .rw[WH I,ci,ci];omega
  .rw[ZH I,ci,ci];omega
def OV.some_of{v:V}{o:Option ac}(r:OV (O0 v) o):∃u,o=O0 u/\cc v u:=by
 cases o with
 |none=>exact (show False from r).elim
 |some u=>exact⟨u,rfl,r⟩
def OV.none_of{o:Option ac}(r:OV W1 o):o=W1:=by
 cases o with
 |none=>rfl
 |some u=>exact (show False from r).elim
def QF{v:V}(r:cc v u):HP u=O1:=by
 cases v with
 |non=>cases (show u=fF from r);rfl
 |bl b=>cases (show u=qB b from r);rfl
 |int i=>obtain⟨t,e⟩:=(show ∃t,u=oa i t from r);cases e;rfl
 |str x=>obtain⟨t,e⟩:=(show ∃t,u=sP x t from r);cases e;rfl
 |byt b=>obtain⟨t,e⟩:=(show ∃t,u=GV b t from r);cases e;rfl
 |flt b=>obtain⟨t,e⟩:=(show ∃t,u=BS b t from r);cases e;rfl
 |ref a=>cases (show u=aT a from r);rfl
 |ty n=>cases (show u=md n from r);rfl
section
variable {H:Hp}{dx:Addr}{fs:List (Str×V)}
def Mf(v:QN P w H h)(e:H a=O0 (.ins C dx fs)):∃mA,ObjM h a dx C mA/\(∀f,OV (fs.lookup f) (mA f))/\BY mA (fs.map (·.1))/\fs.length<=1000/\H dx=O0 (.own a):=by
 obtain⟨d,z,ne,ob,mA,n,r,q⟩:=(show BX P w H h a (.ins C dx fs) from v a _ e);exact⟨mA,⟨ob,n,ne⟩,r,q,z,d⟩
end
structure On (K:aI) (C:Addr):Prop where
 pg:wl K C nv=O1
 hd:A9 K C=O1
 po:CD K C=O1
 sa:fA K (.ref C) "__setattr__"=O0 (O0 (.builtin "object.__setattr__"))
def On.get{K:aI}(c:On K C)(f:Str):wl K C f=O1:=c.pg
def BV(K:aI)(C:Addr)(f:Str):Prop:=fA K (.ref C) f=O0 W1
def BV.taker{K:aI}(n:BV K C f):CF K C f=O0 W1:=by
 unfold CF;rw[show fA K (.ref C) f=O0 W1 from n];rfl
structure Meth (K:aI) (C:Addr) (m:Str) (f:Addr):Prop where
 at_:fA K (.ref C) m=O0 (O0 (.ref f))
 fn:qS K (.ref f)=O1
 kp:ia K (.ref f)=O1
section
variable {X:Cx}{H:Hp}{dx:Addr}{fs:List (Str×V)}{v:V}{A:aS}
theorem Yz{b:Bool}(I:Inv X π σ H s)(e:H a=O0 (.ins C dx fs))(c:On X.K C)(n:BV X.K C f)(l:fs.lookup f=O0 v)(h:∀u g,Inv X π σ H g->cc v u->Q u g):ag (ai X.prog X.w) A (getAttr (.ref a) f b) Q E s:=by
 obtain⟨mA,O,r,_,_,_⟩:=Mf I.hok e;obtain⟨u,S,z⟩:=OV.some_of (v:=v) (o:=mA f) (by rw[<-l];exact r f);exact Vo I.kIn O (c.get f) c.hd n S (QF z) (h u _ (I.tok _) z)
def SM{g:Addr}{pl:Sem Bool}{Q:ac×List ac->ah->Prop}(I:Inv X π σ H s)(e:H a=O0 (.ins C dx fs))(c:On X.K C)(k:Meth X.K C m g)(l:fs.lookup m=W1)(h:Q (.ref g,[.ref a]) s):ag (ai X.prog X.w) A (oB (.ref a) m pl) Q E s:=by
 obtain⟨mA,O,r,_,_,_⟩:=Mf I.hok e;have z:mA m=W1:=OV.none_of (by rw[<-l];exact r m);exact gY I.kIn O (c.get m) k.at_ k.fn z h
theorem Y0{y:V}{Q:Unit->ah->Prop}(I:Inv X π σ H s)(e:H a=O0 (.ins C dx fs))(c:On X.K C)(n:BV X.K C f)(hl:fs.length<1000)(T:cc y u)(h:∀J,Inv X π σ (gq H a (.ins C dx (putF f y fs))) J->Q () J):ag (ai X.prog X.w) A (setAttr (.ref a) f u) Q E s:=by
 obtain⟨mA,O,r,G,_,L⟩:=Mf I.hok e;have U:(fs.map (·.1)).length<=sizeLine:=by rw[ay,hV];omega
 refine qC I.kIn O c.sa c.po n.taker c.hd G U λh' F S=>h _ ?_;have Y:∃o,h'.get? dx=O0 o:=let ⟨o,_,_,e',_⟩:=F.ns;⟨o,e'⟩;refine I.write (x:=a) (e:=dx) (by rw[e];exact ko) (.inr L) (λb q Z z=>(S.2 b Z).trans z) Y ?_;refine⟨by rw[Al O.ne];exact L,?_,O.ne,F.obj,_,F.ns,λg=>?_,λg W=>?_⟩
 .have:=Q_ f y fs;omega
 .show OV ((putF f y fs).lookup g) (if g=f then O0 u else mA g);rw[Q9]
  by_cases q:g=f
  .rw[WH q,WH q];exact T
  .rw[ZH q,ZH q];exact r g
 .by_cases q:g=f
  .rw[q];exact (QD f y fs).1
  .refine (QD f y fs).2 g (G g λz=>W ?_);show (if g=f then O0 u else mA g)=W1;rw[ZH q];exact z
theorem Inv.made(I:Inv X π σ H s):Inv X π σ (gq (gq H s.heap.objs.size (.own (s.heap.objs.size+1))) (s.heap.objs.size+1) (.ins C s.heap.objs.size []))
  { s with heap:=(s.heap.push nk).push (og C s.heap.objs.size) }:=by
 have g:(s.heap.push nk).get? s.heap.objs.size=O0 nk:=ce s.heap rfl;have G:((s.heap.push nk).push (og C s.heap.objs.size)).get? (s.heap.objs.size+1)=O0 (og C s.heap.objs.size):=by
  have:=ce (s.heap.push nk) (o:=og C s.heap.objs.size) rfl
  rwa [iO] at this
 have F:(s.heap.push nk).Ns s.heap.objs.size (λ_=>W1):=⟨nk,#[],_,g,rfl,(λe z=>NI z .(1)),λ_=>rfl⟩;have J:=I.laid (a:=s.heap.objs.size) (o:=.own (s.heap.objs.size+1)) (h':=s.heap.push nk) (t':=s.toks) (λb u q=>bn _ q) (aE _) ⟨_,g⟩;refine J.laid (a:=s.heap.objs.size+1) (o:=.ins C s.heap.objs.size []) (t':=s.toks) (λb u q=>bn _ q) (CI (iO _ _)) ?_;have ne:s.heap.objs.size≠s.heap.objs.size+1:=bS (tm _);refine⟨by rw[Al ne,Aj],eK _,ne,G,λ_=>W1,(Heap.Ns1.of_empty F).at λo q=>bn _ q,λ_=>ko,λy r=>NI rfl r⟩
def Vp(r:eR e f env (eval e env)=eval e env)(h:ag (ai prog w) A (eval e env) (λo g=>ag (ai prog w) A (getAttr o f O1) Q E g) E s):ag (ai prog w) A (eval (.Attribute e f pos) env) Q E s:=
 Attribute_any_ h (by rw[arm_eval_Attribute,r])
end
def tFld(K:aI)(g:TE)(f:Str):TE:=λr H Q=>g r H λx F=>∃a C dx fs v,x=.ref a/\F a=O0 (.ins C dx fs)/\On K C/\BV K C f/\fs.lookup f=O0 v/\Q v F
def sFld(K:aI)(v g:TE)(f:Str):TS:=λD r H=>g r H λy F=>v r F λx z=>∃a C dx fs,x=.ref a/\z a=O0 (.ins C dx fs)/\On K C/\BV K C f/\fs.length<1000 ∧
 D.nx r (gq z a (.ins C dx (putF f y fs)))
section
variable {X:Cx}{o value:Expr}{tpos:Pos}{ta tv:TE}
def Y4(F:PE X e ta)(G:eR e f X.env (eval e X.env)=eval e X.env):PE X (.Attribute e f pos) (tFld X.K ta f):=by
 intro z s r H Q I h;refine Vp G (la (F z s r H _ I h) λu Y q0=>?_);obtain⟨x,T,O,rx,a,C,dx,fs,v,J,L,c,n,l,q⟩:=q0;subst J;obtain rfl:u=aT a:=rx;exact Yz O L c n l λU W S g=>⟨v,T,S,g,q⟩
def gf(J:PE X o ta)(G:PE X value tv)(hs:eJ value (O0 (.Attribute o f pos')) pos.line X.env=pure O2):PS X (.Assign [.Attribute o f pos'] value pos) (sFld X.K ta tv f):=by
 intro z s r H D I h;refine plainObj_wpAny_Assign_Attribute (la (G z s r H _ I h) λu g ⟨y,W,U,F,q⟩=>la (J z g r W _ U q) λv Z q9=>?_) hs;obtain⟨x,H2,S,rx,a,C,dx,fs,L,O,c,n,l,q2⟩:=q9;subst L;obtain rfl:v=aT a:=rx;exact Y0 S O c n l F λY T=>⟨r,_,T,q2⟩
def rAdd:V->V->Hp->VK->Prop:=λx y H Q=>∃i j,x=.int i/\y=.int j/\Q (.int (i+j)) H
end
section
variable {X:Cx}{H:Hp}{A:aS}{c:ac}{b:Bool}
inductive Sn (K:aI) (H:Hp):V->ac->Prop where
  |non:Sn K H .non (.type "NoneType")
  |bl (x:Bool):Sn K H (.bl x) (.type "bool")
  |int (i:Int):Sn K H (.int i) (.type "int")
  |str (x:Str):Sn K H (.str x) (.type "str")
  |flt (x:UInt64):Sn K H (.flt x) (.type "float")
  |lst {a:Addr}{xs:List V}(e:H a=O0 (.lst xs)):Sn K H (.ref a) (.type "list")
  |frz {a:Addr}{o:Obj}{xs:List V}(e:H a=O0 (.frz o (.lst xs))):Sn K H (.ref a) (.type "list")
  |tup {a:Addr}{xs:List V}(e:H a=O0 (.tup xs)):Sn K H (.ref a) (.type "tuple")
  |dK {a:Addr}{kvs:List (Key×V)}(e:H a=O0 (.dK kvs)):Sn K H (.ref a) (.type "dict")
  |dT {a:Addr}{kvs:List (List Key×V)}(e:H a=O0 (.dT kvs)):Sn K H (.ref a) (.type "dict")
  |ins {a C dx:Addr}{fs:List (Str×V)}(e:H a=O0 (.ins C dx fs)) (cl:On K C) (ha:fA K (.ref C) "__class__"=O0 (O0 (.builtin "object.__class__")))
      (hn:CL K (.builtin "object.__class__") "__get__"=O0 (O0 (.builtin "getset_descriptor.__get__"))) (htk:PySem.W.takesIn K (.builtin "object.__class__")=O0 O1)
      (hm:PySem.W.mroIn K C (.type "object")=O0 O1):Sn K H (.ref a) (.ref C)
def dR{x:V}{t:ac}(I:Inv X π σ H s)(rx:cc x u)(ty:Sn X.K H x t)(e:tq X.K t c=O0 b)(h:∀tk,Q (.bool b) { s with toks:=tk }):
  ag (ai X.prog X.w) A (call (.builtin "isinstance") [u,c]) Q E s:=by
 cases ty with
 |non=>cases (show u=fF from rx);exact kq PySem.W.kitx_none I.kIn ko e (λz=>nomatch z) h
 |bl y=>cases (show u=qB y from rx);exact kq PySem.W.kitx_bool I.kIn ko e (λz=>nomatch z) h
 |int i=>obtain⟨t,q⟩:=(show ∃t,u=oa i t from rx);cases q;exact kq PySem.W.kitx_int I.kIn ko e (λz=>nomatch z) h
 |str y=>obtain⟨t,q⟩:=(show ∃t,u=sP y t from rx);cases q;exact kq PySem.W.kitx_str I.kIn ko e (λz=>nomatch z) h
 |flt y=>obtain⟨t,q⟩:=(show ∃t,u=BS y t from rx);cases q;exact kq PySem.W.kitx_float I.kIn ko e (λz=>nomatch z) h
 | @lst a r L=>
  cases (show u=aT a from rx);obtain⟨_,_,n,_,v⟩:=(show BX X.prog X.w H s.heap a (.lst r) from I.hok a _ L);exact kq CM I.kIn ⟨_,v,rfl⟩ e (λz=>nomatch z) h
 | @frz a ob r L=>
  cases (show u=aT a from rx);obtain⟨_,_,_,n,_,v⟩:=(show BX X.prog X.w H s.heap a (.frz ob (.lst r)) from I.hok a _ L);exact kq CM I.kIn ⟨_,v,rfl⟩ e (λz=>nomatch z) h
 | @tup a r L=>
  cases (show u=aT a from rx);obtain⟨_,_,_,p⟩:=(show BX X.prog X.w H s.heap a (.tup r) from I.hok a _ L);obtain⟨o,v,F,_⟩:=p;exact kq HU I.kIn ⟨o,v,F⟩ e (λz=>nomatch z) h
 | @dK a g L=>
  cases (show u=aT a from rx);obtain⟨_,_,vs,_,p⟩:=(show BX X.prog X.w H s.heap a (.dK g) from I.hok a _ L);obtain⟨o,Z,ep,v,F,_⟩:=p;exact kq HV I.kIn ⟨o,v,F.1⟩ e (λz=>nomatch z) h
 | @dT a g L=>
  cases (show u=aT a from rx);obtain⟨_,_,r,_,o,Z,ep,v,F,_⟩:=(show BX X.prog X.w H s.heap a (.dT g) from I.hok a _ L);exact kq HV I.kIn ⟨o,v,F.1⟩ e (λz=>nomatch z) h
 | @ins a C dx fs L S Y T G U=>
  cases (show u=aT a from rx);obtain⟨mA,O,_⟩:=Mf I.hok L;obtain⟨od,J,_⟩:=O.look;exact kq (PySem.W.kitx_own (S.get _) S.hd Y T G U) I.kIn J e (λz=>nomatch z) h
end
structure Room (k:Nat) (A:aS):Prop where
 hd:A.handled=W1
 dp:A.depth+3*k+5<recursionLimit
 un:A.units+16*k+200<bv
def Room.mono{k:Nat}{A:aS}(r:Room k A)(h:j<=k):Room j A:=⟨r.hd,by have:=r.dp;omega,by have:=r.un;omega⟩
theorem Room.deeper{k:Nat}{A:aS}(r:Room (k+1) A)(env:Env):Room k (A.deeper env):=
 ⟨r.hd,by have:=r.dp;show A.depth+1+3*k+5<_;omega,by have:=r.un;show A.units+3+16*k+200<_;omega⟩
def Y5{A:aS}:(A.under (.builtin "type.__call__" ⟨.ref C::us,kw⟩)).depth=A.depth+1:=by
 first | rfl | simp[CO,Code.weight,Code.isCreation,Code.isGuard,Code.isCaller,HZ,CS,guardIds]
def Y6{A:aS}:(A.under (.builtin "type.__call__" ⟨.ref C::us,kw⟩)).units=A.units+1:=by
 first | rfl | simp[CO,Code.cUnits,HZ,CS]
def Room.make{k:Nat}{A:aS}(r:Room (k+1) A)(C:Addr)(us:List ac)(g:List (Str×ac)):Room k (A.under (.builtin "type.__call__" ⟨.ref C::us,g⟩)):=
 ⟨r.hd,by have:=r.dp;rw[Y5];omega,by have:=r.un;rw[Y6];omega⟩
theorem Room.depth{k:Nat}{A:aS}(r:Room k A):A.depth<recursionLimit:=by have:=r.dp;omega
theorem Room.units{k:Nat}{A:aS}(r:Room k A):A.units+64<bv:=by have:=r.un;omega
def tNil:TA:=λ_ H Q=>Q [] H
def XX(g:TE)(tr:TA):TA:=λr H Q=>g r H λx F=>tr r F λxs z=>Q (x::xs) z
section
variable {X:Cx}{es:List Expr}{te:TE}{t:TA}
def Dq:PA X [] tNil:=λ_ _ _ _ H Q I h=>Ic ⟨[],H,I,.nil,h⟩
def Bw(L:PE X e te)(J:PA X es t)(hs:aw (e::es) X.env=(O2,eval e X.env)::aw es X.env:=by rfl):PA X (e::es) (XX te t):=by
 intro g z s r H Q I h;rw[hs];show ag _ _ (spliced ((O2,eval e X.env)::cS g (aw es X.env))) _ _ s;refine Iq (la (L z s r H _ I h) λu F q0=>?_);obtain⟨x,W,T,G,q1⟩:=q0;exact la (J g z F r W _ T q1) (by rintro Y Z ⟨v,U,S,O,q2⟩;exact ⟨x::v,U,S,.cons G O,q2⟩)
def tTup(t:TA):TE:=λr H Q=>t r H λxs F=>xs.length<=sizeLine/\∀p,F p=W1->Q (.ref p) (gq F p (.tup xs))
def tLst(t:TA):TE:=λr H Q=>t r H λxs F=>xs.length<=sizeLine/\∀p,F p=W1->Q (.ref p) (gq F p (.lst xs))
theorem Y7{x1}(h:PA X es t):PE X (.Tuple es x1 pos) (tTup t):=by
 intro J s v H Q I U;refine wpAny_Tuple_spliced (la (h pos J s v H _ I U) λO g ⟨L,F,G,r,z,q⟩=>⟨by rw[<-r.length];exact z,?_⟩);have S:F g.heap.objs.size=W1:=G.hok.fresh (aE _);refine⟨.ref g.heap.objs.size,gq F g.heap.objs.size (.tup L),G.laid (t':=g.toks) (λb u e=>bn _ e) (aE _) ?_,rfl,q _ S⟩;exact⟨z,O,r,⟨_,ce _ rfl,rfl,_,rfl⟩⟩
theorem gj(h:PA X es t):PE X (.List es pos) (tLst t):=by
 intro J s v H Q I U;refine wpAny_List_spliced (la (h pos J s v H _ I U) λO g ⟨L,F,G,r,z,q⟩=>⟨by rw[<-r.length];exact z,?_⟩);have S:F g.heap.objs.size=W1:=G.hok.fresh (aE _);refine⟨.ref g.heap.objs.size,gq F g.heap.objs.size (.lst L),G.laid (t':=g.toks) (λb u e=>bn _ e) (aE _) ?_,rfl,q _ S⟩;exact⟨z,O,0,r,ce _ rfl⟩
end
abbrev Sp:=List V->Hp->VK->XK->Prop
abbrev CXT:=List Env->Hp->ah->XK->ac->ah->Prop
structure Env0 (P:cw) (w:bP) (K:aI) (mg:Str->Option ac) (base:Heap) (A:aS) (outer:List Env) (s:ah) (H:Hp):Prop where
 frames:A.frames=O0 outer
 mod:Mod K mg base
 bs:∀b o,base.get? b=O0 o->s.heap.get? b=O0 o/\H b=W1
 bsz:base.objs.size<=s.heap.objs.size
 funs:s.heap.FunFrames base outer
 frf:∀b∈frs outer,H b=W1
 hok:QN P w H s.heap
 bare:nc s.gens
def CE(g:List Env)(P:cw)(w:bP)(H:Hp)(s:ah)(Q:VK)(u:ac)(r:ah):Prop:=
 ∃v z,r.os=s.os/\nc r.gens/\Un (frs g) [] H z s.heap r.heap/\QN P w z r.heap/\cc v u/\Q v z
def CR(CX:CXT)(g:List Env)(P:cw)(w:bP)(H:Hp)(s:ah)(Q:VK)(E:XK)(r:oC)(v:ah):Prop:=
 match r with
 |.ok (.ret u)=>CE g P w H s Q u v
 |.ok _=>False
 |.error e=>CX g H s E e v
structure hQ (P:cw) (w:bP) (K:aI) (mg:Str->Option ac) (base:Heap) (CX:CXT) (k:Nat) (f:Addr) (fd:lj) (ps:List Str) (sp:Sp):Prop where
 len:∀vs H Q E,sp vs H Q E->vs.length=ps.length
 run:∀(A:aS) (outer:List Env) (s:ah) (H:Hp) (args:Args) (us:List ac) (vs:List V) (Q:VK) (E:XK),Room k A->Env0 P w K mg base A outer s H->wq s fd args (ps.zip us)->cx vs us->sp vs H Q E ->
  gI (ai P w) A (.call (.ref f) args) (CR CX outer P w H s Q E) s
theorem hQ.mono{P:cw}{w:bP}{K:aI}{v:Str->Option ac}{base:Heap}{CX:CXT}{j k:Nat}{f:Addr}{z:lj}{ps:List Str}{sp:Sp}(F:hQ P w K v base CX j f z ps sp)(h:j<=k):
  hQ P w K v base CX k f z ps sp:=⟨F.len,λA g s H r I G Q E J=>F.run A g s H r I G Q E (J.mono h)⟩
def hQ.imp{K:aI}{base:Heap}{CX:CXT}{k:Nat}{f:Addr}{sp sp':Sp}(F:hQ P w K mg base CX k f fd ps sp)(h:∀vs H Q E,sp' vs H Q E->sp vs H Q E):hQ P w K mg base CX k f fd ps sp':=
 ⟨λvs H Q E q=>F.len vs H Q E (h _ _ _ _ q),λA g s H r G vs Q E J z I v hs=>F.run A g s H r G vs Q E J z I v (h _ _ _ _ hs)⟩
def Env0.make{K:aI}{base:Heap}{A:aS}{g:List Env}{H:Hp}(e:Env0 P w K mg base A g s H)(C:Addr)(us:List ac)(r:List (Str×ac)):
  Env0 P w K mg base (A.under (.builtin "type.__call__" ⟨.ref C::us,r⟩)) g s H:=⟨by first | exact e.frames | (simpa [CO,Code.envs,CS,pushEnvs] using e.frames),e.mod,e.bs,e.bsz,e.funs,e.frf,e.hok,e.bare⟩
section
variable {X:Cx}{H:Hp}{s':ah}
def Inv.env0(I:Inv X π σ H s):Env0 X.prog X.w X.K X.mg X.base X.A X.stack s H:=
 ⟨I.ok.frames,I.ok.mod,I.bs,d6 I.ok.bsz I.sz,I.stack,I.stkFree,I.hok,I.bare⟩
theorem Inv.after{Q:VK}(I:Inv X π σ H s)(h:CE X.stack X.prog X.w H s Q u s'):EP X π σ Q u s':=by
 obtain⟨v,O,os,F,un,J,r,q⟩:=h;obtain⟨L,g,d,t,G⟩:=s';obtain rfl:G=s.os:=os;exact⟨v,O,I.call (h':=L) (g':=g) (d':=d) (t':=t) (ch:=[]) un J F (λb z=>NI z .(1)),r,q⟩
end
def zO(sp:Sp)(g:List V)(E:XK)(t:TA):TE:=λr H Q=>t r H λvs F=>sp (vs++g) F Q E
def uX(C:Addr)(m:Str)(sp:Sp)(g:List V)(E:XK)(v:TE)(t:TA):TE:=λr H Q=>v r H λx F=>∃a dx fs,x=.ref a/\F a=O0 (.ins C dx fs)/\fs.lookup m=W1 ∧
 t r F λvs z=>sp (x::(vs++g)) z Q E
def zP(C:Addr)(sp:Sp)(g:List V)(E:XK)(t:TA):TE:=λr H Q=>t r H λvs F=>∀x dx,F x=W1->F dx=W1->dx≠x ->
 sp (.ref x::(vs++g)) (gq (gq F dx (.own x)) x (.ins C dx [])) (λv z=>v=.non/\Q (.ref x) z) E
def MZ(K:aI)(z:lj)(ps:List Str)(ds:List ac):Prop:=
 ∀(s:ah) (us:List ac),K.In s.heap->(us++ds).length=ps.length->wq s z ⟨us,[]⟩ (ps.zip (us++ds))
def MZ.all{K:aI}(h:∀us:List ac,us.length=ps.length->wv fd ⟨us,[]⟩=pure (ps.zip us)):MZ K fd ps []:=λs us _ Y=>by
 rw[fI] at Y ⊢;exact .of_eq (h us Y)
def Nf(CX:CXT)(X:Cx)(E:XK):Prop:=∀(z:NY) (r:St) (H:Hp) (s:ah) (e:ac) (g:ah),Inv X z r H s->CX X.stack H s E e g->X.xe e g
section
variable {X:Cx}{CX:CXT}{k:Nat}{f:Addr}{sp:Sp}{dvs:List V}{ds:List ac}{E:XK}{p:Pos}{o:Expr}{es:List Expr}{ta:TE}{t:TA}
def Y8{g:St}{H:Hp}{Q:VK}{vs:List V}(F:hQ X.prog X.w X.K X.mg X.base CX k f fd ps sp)(J:Room k X.A)(L:MZ X.K fd ps ds)(G:cx dvs ds)(z:Nf CX X E)(I:Inv X π g H s)(r:cx vs us)(h:sp (vs++dvs) H Q E):ag (ai X.prog X.w) X.A (call (.ref f) us) (EP X π g Q) X.xe s:=by
 have O:cx (vs++dvs) (us++ds):=r.append G;have Y:(us++ds).length=ps.length:=by rw[<-O.length];exact F.len _ _ _ _ h
 refine CU (qV (F.run X.A X.stack s H ⟨us,[]⟩ (us++ds) (vs++dvs) Q E J I.env0 (L s us I.kIn Y) O h) λr v U=>?_);cases r with
 |error e=>exact z π g H s e v I U
 |ok S=>
  cases S with
  |ret u=>exact I.after U
  |next=>exact kf U
  |brk=>exact kf U
  |cont=>exact kf U
def Z8(F:hQ X.prog X.w X.K X.mg X.base CX k f fd ps sp)(O:Room k X.A)(W:Gl X x)(S:X.mg x=O0 (.ref f))(T:ia X.K (.ref f)=O1)(Z:MZ X.K fd ps ds)(Y:cx dvs ds)(L:Nf CX X E)(ha:PA X (e::es) t)(v:(x==("__debug__":Str))=O2:=by decide)(U:aw (e::es) X.env=(O2,eval e X.env)::aw es X.env:=by rfl)(g:(cS pos (aw es X.env)).any (·.1)=O2:=by rfl):
  PE X (.Call (.Name x p) (e::es) [] pos) (zO sp dvs E t):=by
 intro J s z H Q I h;refine wx (Vk I W S ?_ v);refine CY (h₀:=X.base) I.ok.mod.kin T (la (ha pos J s z H _ I h) λus s1 ⟨vs,H1,G,r,q⟩=>⟨G.kIn,?_⟩) U g;exact Y8 F O Z Y L G r q
theorem Vq{pl:Sem Bool}(he:PE X o ta)(c:On X.K C)(O:Meth X.K C m f)(F:hQ X.prog X.w X.K X.mg X.base CX k f fd ps sp)(Z:Room k X.A)(hb:MZ X.K fd ps ds)(hd:cx dvs ds)(W:Nf CX X E)(ha:PA X (e::es) t)(z:aw (e::es) X.env=(O2,eval e X.env)::aw es X.env:=by rfl)(g:(cS pos (aw es X.env)).any (·.1)=O2:=by rfl)(Y:eval (.Call (.Attribute o m apos) (e::es) [] pos) X.env=(do
   let ov <-eval o X.env
   nh apos.atName
   let (f,first) <-li [ov] (oB ov m pl)
   rb pos f first (cS pos (aw (e::es) X.env)) (ib pos (fR [] X.env))):=by rfl):
  PE X (.Call (.Attribute o m apos) (e::es) [] pos) (uX C m sp dvs E ta t):=by
 intro G s v H Q I h;refine Iy (pl:=pl) (la (he G s v H _ I h) λu U q0=>?_) Y;obtain⟨x,H1,T,rx,a,dx,fs,ex,ea,l,q⟩:=q0;subst ex;obtain rfl:u=aT a:=rx;refine SM T ea c O l ?_;refine CY (first:=[.ref a]) (h₀:=X.base) I.ok.mod.kin O.kp (la (ha pos G U v H1 _ T q) λL s2 ⟨J,H2,S,r,q2⟩=>⟨S.kIn,?_⟩) z g;exact Y8 (us:=.ref a::L) (vs:=.ref a::J) F Z hb hd W S (.cons rfl r) q2
theorem gk{pl:Sem Bool}(L:PE X o ta)(c:On X.K C)(v:Meth X.K C m f)(F:hQ X.prog X.w X.K X.mg X.base CX k f fd ps sp)(J:Room k X.A)(T:MZ X.K fd ps ds)(S:cx dvs ds)(g:Nf CX X E)(O:eval (.Call (.Attribute o m apos) [] [] pos) X.env=(do
   let ov <-eval o X.env
   nh apos.atName
   let (f,first) <-li [ov] (oB ov m pl)
   rb pos f first (cS pos (aw [] X.env)) (ib pos (fR [] X.env))):=by rfl):
  PE X (.Call (.Attribute o m apos) [] [] pos) (uX C m sp dvs E ta tNil):=by
 intro z s r H Q I h;refine Iy (pl:=pl) (la (L z s r H _ I h) λu Z q9=>?_) O;obtain⟨x,H1,G,rx,a,dx,fs,U,Y,l,q⟩:=q9;subst U;obtain rfl:u=aT a:=rx;refine SM G Y c v l ?_;exact PySem.W.callWith_K0 (first:=[.ref a]) G.kIn v.kp (Y8 (us:=[.ref a]) (vs:=[.ref a]) F J T S g G (.cons rfl .nil) q)
structure Mk (K:aI) (C f:Addr):Prop where
 makes:CH K C=O1
 init:fA K (.ref C) "__init__"=O0 (O0 (.ref f))
 fn:qS K (.ref f)=O1
 kp:ia K (.ref C)=O1
def gr{z:St}{H:Hp}{Q:VK}{vs:List V}(M:Mk X.K C f)(F:hQ X.prog X.w X.K X.mg X.base CX k f fd ps sp)(T:Room (k+1) X.A)(Z:MZ X.K fd ps ds)(W:cx dvs ds)(L:Nf CX X E)(I:Inv X π z H s)(r:cx vs us)(h:∀x dx,H x=W1->H dx=W1->dx≠x->sp (.ref x::(vs++dvs)) (gq (gq H dx (.own x)) x (.ins C dx [])) (λv H2=>v=.non/\Q (.ref x) H2) E):
  ag (ai X.prog X.w) X.A (call (.ref C) us) (EP X π z Q) X.xe s:=by
 have U:=h (s.heap.objs.size+1) s.heap.objs.size (I.hok.fresh (lx _)) (I.hok.fresh (aE _)) (bS (tm _));have S:=Inv.made (C:=C) I;have O:cx (V.ref (s.heap.objs.size+1)::(vs++dvs)) (aT (s.heap.objs.size+1)::(us++ds)):=.cons rfl (r.append W);have Y:(aT (s.heap.objs.size+1)::us++ds).length=ps.length:=by
  have e:=O.length;rw[F.len _ _ _ _ U] at e;exact e.symm
 refine CU (gZ (f:=f) I.kIn M.makes M.init (beq_iff_eq.mp M.fn) (qV (F.run _ X.stack _ _ ⟨aT (s.heap.objs.size+1)::us,[]⟩ (aT (s.heap.objs.size+1)::(us++ds)) _ _ E (T.make C us [])
  (S.env0.make C us []) (Z _ (aT (s.heap.objs.size+1)::us) S.kIn Y) O U) λr G g=>?_))
 cases r with
 |error e=>exact L π z _ _ e G S g
 |ok fl=>
  cases fl with
  |ret u=>
   obtain⟨v,H',I3,J,ev,q3⟩:=S.after g;subst ev;exact⟨J,⟨V.ref (s.heap.objs.size+1),H',I3,rfl,q3⟩⟩
  |next=>exact kf g
  |brk=>exact kf g
  |cont=>exact kf g
def Z9(M:Mk X.K C f)(F:hQ X.prog X.w X.K X.mg X.base CX k f fd ps sp)(O:Room (k+1) X.A)(W:Gl X x)(S:X.mg x=O0 (.ref C))(Y:MZ X.K fd ps ds)(U:cx dvs ds)(L:Nf CX X E)(Z:PA X (e::es) t)(v:(x==("__debug__":Str))=O2:=by decide)(T:aw (e::es) X.env=(O2,eval e X.env)::aw es X.env:=by rfl)(g:(cS pos (aw es X.env)).any (·.1)=O2:=by rfl):
  PE X (.Call (.Name x p) (e::es) [] pos) (zP C sp dvs E t):=by
 intro J s z H Q I h;refine wx (Vk I W S ?_ v);refine CY (h₀:=X.base) I.ok.mod.kin M.kp (la (Z pos J s z H _ I h) λus s1 ⟨vs,H1,G,r,q⟩=>⟨G.kIn,?_⟩) T g;exact gr M F O Y U L G r q
end
def PK(X:Cx)(v:List hZ)(t:TA):Prop:=
 ∀(g:Pos) (z:NY) (s:ah) (r:St) (H:Hp) (Q:List V->Hp->Prop),Inv X z r H s->t r H Q->ag (ai X.prog X.w) X.A (evalAll ((ib g (fR v X.env)).map (·.2))) (AP X z r Q) X.xe s
section
variable {X:Cx}{CX:CXT}{k:Nat}{f:Addr}{ks:List Str}{sp:Sp}{E:XK}{p kpos:Pos}{es:List Expr}{kws:List hZ}{te:TE}{t tk:TA}{nm:Option Str}
def wQ:PK X [] tNil:=λ_ _ _ _ H Q I h=>wpAny_evalAll_nil ⟨[],H,I,.nil,h⟩
theorem qD(S:PE X e te)(L:PK X kws t):PK X (⟨nm,e,kpos⟩::kws) (XX te t):=by
 intro g z s r H Q I h;show ag _ _ (evalAll ((do let v <-eval e X.env;nh g;pure v)::(ib g (fR kws X.env)).map (·.2))) _ _ s;refine wpAny_evalAll_cons (ae (la (S z s r H _ I h) λu G ⟨x,Y,U,J,q1⟩=>ae (Ap (av ?_))));exact la (L g z G r Y _ U q1) (by rintro Z s2 ⟨F,W,T,O,q2⟩;exact ⟨x::F,W,T,.cons J O,q2⟩)
variable {g:List ac->List ac->List ac}{gV:List V->List V->List V}
end
structure bc (N P:List Str) (sc:kS):Prop where
 kind:sc.kind=.function
 co:sc.isCoroutine=O2
 gen:sc.isGenerator=O2
 nd:N.Nodup
 pre:N.take P.length=P
 par:∀x∈P,sc.names.lookup x=O0 .local ∨sc.names.lookup x=O0 .cell
 nofree:∀y∈sc.names,y.2≠.free
theorem U3{g:Str->Option ly}{x:Str}:∀{binds:List (Str×ac)}{m:Str->Option ac},(∀v,(x,v)∉binds)->oP g binds m x=m x
 |[],_,_=>rfl
 | (n,v)::r,m,h=>by
  unfold oP;rw[U3 λw z=>h w (ck _ z)];split
  .have:x≠n:=by rintro rfl;exact h v da
   simp[this]
  .rfl
theorem U4{g:Str->Option ly}{x:Str}:∀{binds:List (Str×ac)}{m:Str->Option ac},(∀v,(x,v)∉binds)->oQ g binds m x=m x
 |[],_,_=>rfl
 | (n,v)::r,m,h=>by
  unfold oQ;rw[U4 λw z=>h w (ck _ z)];split
  .rfl
  .have:x≠n:=by rintro rfl;exact h v da
   simp[this]
theorem U5{g:Str->Option ly}{x:Str}{v:ac}:∀{P:List Str}{vs:List ac}{i:Nat}{m:Str->Option ac},P.Nodup->P[i]?=O0 x->vs[i]?=O0 v->g x=O0 .local ->
  oP g (P.zip vs) m x=O0 v
 |[],_,_,_,_,h,_,_=>by simp at h
 |_::_,[],_,_,_,_,h,_=>by simp at h
 |p::P,w::vs,0,m,F,z,r,I=>by
  simp at z r;subst z;subst r;show oP g ((p,w)::P.zip vs) m p=_;unfold oP;rw[U3 λv G=>(lI.mp F).1 (D0 G).1,WH I];simp
 |p::P,w::vs,i+1,m,F,z,r,I=>by
  show oP g ((p,w)::P.zip vs) m x=_;unfold oP;exact U5 (i:=i) (lI.mp F).2 (by simpa using z) (by simpa using r) I
theorem U6{g:Str->Option ly}{x:Str}{v:ac}:∀{P:List Str}{vs:List ac}{i:Nat}{m:Str->Option ac},P.Nodup->P[i]?=O0 x->vs[i]?=O0 v->g x≠O0 .local ->
  oQ g (P.zip vs) m x=O0 v
 |[],_,_,_,_,h,_,_=>by simp at h
 |_::_,[],_,_,_,_,h,_=>by simp at h
 |p::P,w::vs,0,m,F,z,r,I=>by
  simp at z r;subst z;subst r;show oQ g ((p,w)::P.zip vs) m p=_;unfold oQ;rw[U4 λv G=>(lI.mp F).1 (D0 G).1,ZH I];simp
 |p::P,w::vs,i+1,m,F,z,r,I=>by
  show oQ g ((p,w)::P.zip vs) m x=_;unfold oQ;exact U6 (i:=i) (lI.mp F).2 (by simpa using z) (by simpa using r) I
def start(N:List Str)(vs:List V):St:=vs.map O0++x8 (N.length-vs.length) W1
def Qr(CX:CXT)(P:cw)(w:bP)(K:aI)(mg:Str->Option ac)(base:Heap)(N:List Str)(r:Str)(g:kS)(f:Addr)(z:ac)(A:aS)(outer:List Env)(s:ah)(H:Hp)(E:XK):Cx where
 prog:=P
 w:=w
 K:=K
 mg:=mg
 base:=base
 A:=A.deeper (g9 r g s.heap.objs.size f z)
 N:=N
 s₀:=s
 H₀:=H
 env:=g9 r g s.heap.objs.size f z
 outer:=outer
 stack:=g9 r g s.heap.objs.size f z::outer
 ex:=[]
 calm:=O1
 fn:=λ_=>O1
 pn:=[]
 xe:=λe F=>ag (ai P w) (A.deeper (g9 r g s.heap.objs.size f z)) (leaving (g9 r g s.heap.objs.size f z) e) (λ_ v=>CX outer H s E e v) (λO v=>CX outer H s E O v) F
def Xa(h:sc.names.lookup x=O0 .cell):∃c,(cellsFrom n sc.names []).lookup x=O0 c:=by
 have q:=IA sc.names n [] (.inl h);exact D1.mp q
theorem dU{CX:CXT}{K:aI}{base:Heap}{f:Addr}{W:ac}{A:aS}{g:List Env}{s1:ah}{H:Hp}{E:XK}{vs:List V}(S:bc N ps scope)(hd:A.handled=W1)(G:Env0 P w K mg base A g s H)(hl:vs.length=ps.length)(r:cx vs us)(x:InCallC s s.heap.objs.size (oP (g9 qual scope s.heap.objs.size f W).kindOf (ps.zip us) λ_=>W1) (cellsFrom (s.heap.objs.size+1) scope.names []) (oQ (g9 qual scope s.heap.objs.size f W).kindOf (ps.zip us) λ_=>W1) s1):
  Inv (Qr CX P w K mg base N qual scope f W A g s H E) [] (start N vs) H s1:=by
 have N0:ps.length<=N.length:=by have:=RI eC S.pre;rw[ic] at this;omega
 obtain⟨U,tk,rfl,Y⟩:=x.done;have I:∀b:Addr,b∉(Qr CX P w K mg base N qual scope f W A g s H E).ex:=λb z=>NI (show b∈([]:List Addr) from z) .(1);refine⟨⟨G.mod,S.kind,rfl,rfl,aE _,λy z c U F=>?_,λy J=>?_,λy c _ h=>?_,λ_=>hd,Around.frames_deeper G.frames,.inr ⟨rfl,rfl⟩,λb z=>NI z (I b),G.bs,G.bsz,λb _ _=>I b,λb z=>NI z (I b),G.funs,G.frf⟩,
  rfl,G.bare,Un.kept Y,⟨_,x.toInCall.ns,λi y v U F h3=>?_⟩,λy c h=>⟨_,x.cell y c h⟩,G.hok.fresh (aE _),λy c h=>?_,λp O=>NI (show p∈([]:NY) from O) .(1),G.hok.kept Y,?_⟩
 .exact name_of_addr x.apart (xa U) (xa F)
 .have J:scope.names.lookup y=O0 .cell ∨scope.names.lookup y=O0 .free :=J
  rcases J with J | J
  .exact Xa J
  .exact NI rfl (S.nofree _ (xa J))
 .exact sQ (x.above y c (xa h))
 .have T:i<vs.length:=by
   unfold start at F
   by_cases T:i<vs.length
   .exact T
   .rw[ja (by simpa using T)] at F;rw[As] at F;split at F<;>cases F
  have ha:vs[i]?=O0 v:=by
   unfold start at F;rw[kr (by simpa using T),ca] at F;cases e:vs[i]? with
   |none=>rw[e] at F;cases F
   |some a=>rw[e] at F;cases F;rfl
  obtain⟨u,X,Z⟩:=r.get ha;have O:ps[i]?=O0 y:=by
   rw[<-S.pre,D2 .(0)];exact U
  have L:ps.Nodup:=by rw[<-S.pre];exact S.nd.sublist (D3 _ _)
  refine⟨u,Z,?_⟩
  rcases S.par y (oS O) with k | k
  .exact .inl ⟨k,U5 L O X k⟩
  .obtain⟨c,e⟩:=Xa (n:=s.heap.objs.size+1) k;refine .inr ⟨.inl k,c,e,?_⟩;have q:=x.cell y c e;rw[U6 L O X (by show scope.names.lookup y≠_;rw[k];decide)] at q;exact q
 .exact G.hok.fresh (sQ (x.above y c (xa h)))
 .unfold start;show _=N.length;rw[eA,ay,xb];omega
def gw{CX:CXT}{K:aI}{base:Heap}{k:Nat}{f:Addr}{z:Arguments}{dV kV:ac}{sp:Sp}(lk:K.lookup f=O0 ⟨oc,od,.func (ii name qual z body scope dV kV doc pm an cdv ct),osl⟩)(N0:pd K cdv qual=O1)(S:bc N ps scope)(len:∀vs H Q E,sp vs H Q E->vs.length=ps.length)(O:∀(A:aS) (g:List Env) (s:ah) (H:Hp) (vs:List V) (Q:VK) (E:XK),Room k (A.deeper (g9 qual scope s.heap.objs.size f cdv))->sp vs H Q E ->
   ∃t,UQ (Qr CX P w K mg base N qual scope f cdv A g s H E) body t/\t { nx:=λ_ G=>Q .non G,rt:=Q } (start N vs) H):
  hQ P w K mg base CX (k+1) f (ii name qual z body scope dV kV doc pm an cdv ct) ps sp:=by
 refine⟨len,λA g s H S0 us vs Q E hr X hb r T=>?_⟩;have hl:=len _ _ _ _ T;have KX:K.In s.heap:=X.mod.kin.keeps λb o e=>(X.bs b o e).1;have Z:s.heap.NoLimit:=X.mod.nolimit.keeps λb o e=>(X.bs b o e).1;have L:∀y∈ps.zip us,scope.names.lookup y.1=O0 .local ∨(scope.names.lookup y.1=O0 .cell /\((cellsFrom (s.heap.objs.size+1) scope.names []).lookup y.1).isSome=O1):=by
  rintro ⟨n,v⟩ hy
  rcases S.par n (D0 hy).1 with q | q
  .exact .inl q
  .exact .inr ⟨q,IA _ _ _ (.inl q)⟩
 refine codeAny_call_function hr.depth (KX _ _ lk) rfl S.co S.gen rfl (PySem.W.codeRec_of KX N0) (hb _ _ _ _ ?_);refine wpAny_newFunctionEnv_cells S.kind L λT0 he s1 x=>?_;subst he;refine⟨Z.keeps x.toInCall.keep,codeAny_func ?_⟩;obtain⟨t,ht,hq⟩:=O A g s H vs Q E (hr.deeper _) T;have I:Inv (Qr CX P w K mg base N qual scope f cdv A g s H E) [] (start N vs) H s1:=dU S hr.hd X hl r x;refine hJ (ht [] s1 (start N vs) H _ I hq) (λfl s' hs=>?_) λe s' hs=>hs;have U:∀{F:St}{G:Hp}{v:V}{u:ac},Inv (Qr CX P w K mg base N qual scope f cdv A g s H E) [] F G s'->cc v u->Q v G->CE g P w H s Q u s':=
  λ{F G v u} J Y q=>⟨v,G,J.os,J.bare,J.base,J.hok,Y,q⟩
 cases fl with
 |ret u=>
  obtain⟨v,F,G,J,Y,q⟩:=hs;exact U J Y q
 |next=>
  obtain⟨F,G,J,q⟩:=hs;exact U (v:=V.non) (u:=fF) J rfl q
 |brk=>
  obtain⟨_,_,_,q⟩:=hs;exact kf q
 |cont=>
  obtain⟨_,_,_,q⟩:=hs;exact kf q
end L2
variable {xs ys:List L2.V}{H H' H1 F2 F1 He Hf Hb:L2.Hp}{v:L2.V}{X:L2.Cx}{σ:L2.St}{tc:L2.TT}{CX:L2.CXT}{r:List L2.V->L2.Hp->L2.VK->Prop}{kvs:List (List L2.Key×L2.V)}{ks:List (List L2.Key)}{F:List (List L2.Key)->Int}
namespace L2
open PySem PySem.Spec PyProof.Rows
section
variable {p:Pos}{es:List Expr}{t:TA}{id T:String}
def tCB(r:List V->Hp->VK->Prop)(t:TA):TE:=λg H Q=>t g H λvs z=>r vs z Q
def K6(hc:Dd X (.builtin id) r)(hg:Gl X x)(Z:X.mg x=W1)(W:cE x=O0 (.builtin id))(ha:PA X (e::es) t)(Y:x≠"__name__":=by decide)(z:(x==("__debug__":Str))=O2:=by decide)(he:aw (e::es) X.env=(O2,eval e X.env)::aw es X.env:=by rfl)(g:(cS pos (aw es X.env)).any (·.1)=O2:=by rfl):PE X (.Call (.Name x p) (e::es) [] pos) (tCB r t):=by
 intro J s G H Q I h;refine wx (P_ I hg Z W ?_ Y z);exact PyProof.Rows.callWith_builtin1 (la (ha pos J s G H _ I h) (by rintro O S ⟨L,H1,I1,U,q1⟩;exact hc J S G H1 L O Q I1 U q1)) he g
def Gk(hc:Dd X (.type T) r)(hg:Gl X x)(Z:X.mg x=W1)(W:cE x=O0 (.type T))(ha:PA X (e::es) t)(Y:x≠"__name__":=by decide)(z:(x==("__debug__":Str))=O2:=by decide)(he:aw (e::es) X.env=(O2,eval e X.env)::aw es X.env:=by rfl)(g:(cS pos (aw es X.env)).any (·.1)=O2:=by rfl):PE X (.Call (.Name x p) (e::es) [] pos) (tCB r t):=by
 intro J s G H Q I h;refine wx (P_ I hg Z W ?_ Y z);exact Ct (la (ha pos J s G H _ I h) (by rintro O S ⟨L,H1,I1,U,q1⟩;exact hc J S G H1 L O Q I1 U q1)) he g
end
end L2
namespace HT
open PySem PyProof.Rows
section
open PySem.SeqAt
open PySem.AutoSeq1 (wpAny_loadPart')
open PySem.MeetsSeq PySem.MeetsSeq2 PySem.MeetsSeq3
end
section
variable {A:aS}
def qF{t:Addr}{g:List ac}(ht:IsTup s.heap t vs.toArray)(hb:IsTup s.heap b g.toArray)(U:vs≠[])(h1:g=[]->Q (.ref t) s)(h2:g≠[]->Q (.ref s.heap.objs.size) { s with heap:=s.heap.push { cls:=.type "tuple",data:=.seq (vs++g).toArray } })(hsz:vs.length+g.length<=sizeLine):ag (ai prog w) A (i9 .Add (.ref t) (.ref b)) Q E s:=by
 obtain⟨⟨cls,dd,data,Z⟩,S,Y,n,W⟩:=id ht;obtain⟨⟨N0,L,T,G⟩,z,J,n2,I⟩:=id hb;simp only at Y W J I;subst Y W J I;have e:vs.toArray++g.toArray=(vs++g).toArray:=by simp
 by_cases O:g=[]
 .exact Au ⟨_,S,rfl⟩ ⟨_,z,rfl⟩ D4 D5 D6 D7 (D8 _ _)
   (tuple_addW1 t b vs.toArray g.toArray n n2 dd L Z G (by simpa using U) (by simp[O])) ⟨S,z,h1 O⟩
 .refine Au ⟨_,S,rfl⟩ ⟨_,z,rfl⟩ D4 D5 D6 D7 (D8 _ _)
   (tuple_addW2 t b vs.toArray g.toArray n n2 dd L Z G (by simpa using U) (by simpa using O) (by rw[cr,cr];exact hsz)) ⟨S,z,?_⟩
  rw[e];exact h2 O
def sIx(n d:Nat):Option Int->Nat
 |none=>d
 |some v=>if v<0 then (v+(n:Int)).toNat else min v.toNat n
def qG(n d k:Nat):sIx n d (O0 (k:Int))=min k n:=by
 show (if (k:Int)<0 then ((k:Int)+(n:Int)).toNat else min (k:Int).toNat n)=min k n;rw[ZH .(0),gg]
def wR(n d:Nat)(z:d<=n)(o:Option Int):sIx n d o<=n:=by
 cases o with
 |none=>exact z
 |some v=>
  show (if v<0 then (v+(n:Int)).toNat else min v.toNat n)<=n
  by_cases g:v<0
  .rw[WH g];omega
  .rw[ZH g];exact Nat.min_le_right _ _
def Z_(v:Int)(n d:Nat):(if v<0 then max (v+(n:Int)) 0 else min v (n:Int))=((sIx n d (O0 v):Nat):Int):=by
 show (if v<0 then max (v+(n:Int)) 0 else min v (n:Int))=(((if v<0 then (v+(n:Int)).toNat else min v.toNat n):Nat):Int)
 by_cases g:v<0
 .simp only[WH g];omega
 .simp only[ZH g];omega
def Y9(z G:Option Int)(n:Nat):D9 z G 1 (n:Int)=(((sIx n 0 z:Nat):Int),((sIx n n G:Nat):Int)):=by
 have g:¬ ((1:Int)<0):=by omega
 unfold D9;simp only[g,WI];refine rd ?_ ?_
 .cases z with
  |none=>rfl
  |some v=>exact Z_ v n 0
 .cases G with
  |none=>rfl
  |some v=>exact Z_ v n n
def Y_(i j:Nat):AA (i:Int) (j:Int) 1=j-i:=by
 unfold AA;have g:(1:Int) > 0:=by omega
 simp only[g,VI,IB];split<;>omega
def SN{v:ac}{o:Option Int}{Q:Option Int->ah->Prop}(p:pe v o)(h:Q o s):ag (ai prog w) A (Builtin.Slice.slicePartIndex v) Q E s:=by
 cases p with
 |none=>exact slicePart_none h
 |int i t=>exact slicePart_int h
theorem QG{sl:Addr}{L J:ac}{z G:Option Int}{Q:Int×Int×Nat->ah->Prop}(hs:s.heap.IsSliceOf sl L J .none)(pl:pe L z)(pu:pe J G)(h:Q (((sIx n 0 z:Nat):Int),1,sIx n n G-sIx n 0 z) s):ag (ai prog w) A (IC (.ref sl) (pure (n:Int))) Q E s:=by
 obtain⟨S,g,O,I⟩:=id hs;unfold IC Builtin.Slice.sliceFields;refine ae (ae (kt g I (x:=L) rfl (ae (kt g I (x:=J) rfl (ae (kt g I (x:=.none) rfl (av ?_)))))));refine ae (slicePart_none ?_);show ag _ _ (if ((1:Int)==0)=O1 then _ else _) _ _ s;rw[ZH .(2)];refine ae (SN pl (ae (SN pu (ae (av ?_)))));show ag _ _ (match D9 z G 1 (n:Int) with | (z,G)=>pure (z,(1:Int),AA z G 1)) _ _ s;rw[Y9 z G n];show ag _ _ (pure (((sIx n 0 z:Nat):Int),(1:Int),AA ((sIx n 0 z:Nat):Int) ((sIx n n G:Nat):Int) 1)) _ _ s;rw[Y_];exact av h
def g8(xs:Array ac)(i k:Nat):((bg k).filterMap λ(m:Nat)=>xs[((i:Int)+(m:Int)*1).toNat]?).toArray=((xs.toList.drop i).take k).toArray:=by
 have e:(λ(m:Nat)=>xs[((i:Int)+(m:Int)*1).toNat]?)=λm=>xs[i+m]?:=by
  funext m;have:((i:Int)+(m:Int)*1).toNat=i+m:=by omega
  rw[this]
 rw[e];have:=pick_run xs i k;rw[Da] at this;have g:((λx=>xs[x]?) ∘ λx=>i+x)=λm=>xs[i+m]?:=rfl;rw[g] at this;rw[this]
theorem N_{t sl:Addr}{items:Array ac}{U T:ac}{z G:Option Int}(O:IsTup s.heap t items)(hs:s.heap.IsSliceOf sl U T .none)(pl:pe U z)(pu:pe T G)(Y:¬ (sIx items.size 0 z=0/\sIx items.size items.size G=items.size))(h:Q (.ref s.heap.objs.size) { s with heap:=s.heap.push { cls:=.type "tuple",data:=.seq ((items.toList.drop (sIx items.size 0 z)).take (sIx items.size items.size G-sIx items.size 0 z)).toArray } })(hsz:items.size<=sizeLine):ag (ai prog w) A (nw (.ref t) (.ref sl)) Q E s:=by
 have g:sizeOk (.seq ((items.toList.drop (sIx items.size 0 z)).take (sIx items.size items.size G-sIx items.size 0 z)).toArray):=by
  show ((items.toList.drop (sIx items.size 0 z)).take (sIx items.size items.size G-sIx items.size 0 z)).toArray.size<=sizeLine;rw[cr,ic,re,gy];omega
 have hj:sIx items.size items.size G<=items.size:=wR _ _ (aE _) G;obtain⟨W,I,L,Z⟩:=id hs;have S:s.TypeIs (.ref sl) "slice":=⟨W,I,L⟩;unfold nw
 try with_reducible refine wpAny_holding ?_
 first | refine ae (av ?_) | skip
 refine ae (wpAny_sequenceKey O.typeIs .(2) ?_);refine ae (rf (name:=dL "__getitem__") O.typeIs DA
  (iE DA O.typeIs entry_tuple_getitem ?_ (args_tuple_getitem _ _)))
 show ag _ _ (GG (.ref t) >>= _) _ _ s;refine ae (tupleItemsOf_ O ?_);refine ae (xh S ?_);rw[WH .(2)];refine ae (QG hs pl pu ?_);have J:¬ ((((sIx items.size 0 z:Nat):Int)==0&&(1:Int)==1&&(sIx items.size items.size G-sIx items.size 0 z)==items.size)=O1):=by
  intro q;rw[eD,eD] at q;have q1:((sIx items.size 0 z:Nat):Int)=0:=eq_of_beq q.1.1;have q2:sIx items.size items.size G-sIx items.size 0 z=items.size:=eq_of_beq q.2;exact Y ⟨by omega,by omega⟩
 show ag _ _ (if (((sIx items.size 0 z:Nat):Int)==0&&(1:Int)==1&&(sIx items.size items.size G-sIx items.size 0 z)==items.size)=O1 then _ else _) _ _ s;rw[ZH J,g8]
 first
  |exact ae (m:=AB _) (kB (av ⟨_,rfl,av h⟩) g)
  |exact ae (m:=AB _) (kB (ae (av (av ⟨_,rfl,av h⟩))) g)
  |exact ae (ae (m:=AB _) (kB (av (av ⟨_,rfl,av h⟩)) g))
  |exact ae (ae (m:=AB _) (kB (av ⟨_,rfl,av h⟩) g))
end
end HT
namespace L2
open PySem PySem.Spec PyProof.Rows
abbrev TO:=St->Hp->(Option Int->Hp->Prop)->Prop
def PO(X:Cx)(e:Option Expr)(t:TO):Prop:=
 ∀(z:NY) (s:ah) (g:St) (H:Hp) (Q:Option Int->Hp->Prop),Inv X z g H s->t g H Q ->
  ag (ai X.prog X.w) X.A (evalPart e X.env) (λu I=>∃o G,Inv X z g G I/\pe u o/\Q o G) X.xe s
def qH:TO:=λ_ H Q=>Q W1 H
def zQ(t:TE):TO:=λg H Q=>t g H λx z=>∃i,x=.int i/\Q (O0 i) z
def intsAre_of:∀{us:List ac},cx (ns.map V.int) us->rh us ns:=by
 induction ns with
 |nil=>intro us r;rw[fE] at r;cases r;exact .nil
 |cons n ns z=>
  intro us r;rw[ba] at r;cases r with
  |cons g O=>
   obtain⟨t,e⟩:=g;subst e;exact .cons n t (z O)
section
variable {te:TE}{lo hi:Option Expr}{tl th:TO}
def qI:PO X W1 qH:=by
 intro z s g H Q I h;rw[evalPart_none];exact av ⟨W1,H,I,.none,h⟩
def qJ(h:PE X e te):PO X (O0 e) (zQ te):=by
 intro z s g H Q I J;rw[evalPart_some];refine la (h z s g H _ I J) λu S q0=>?_;obtain⟨x,O,L,G,q1⟩:=q0;obtain⟨i,rfl,q⟩:=q1;obtain⟨t,rfl⟩:=G;exact⟨O0 i,O,L,.int i t,q⟩
def SlR(X:Cx)(r:V->Option Int->Option Int->Hp->VK->Prop):Prop:=
 ∀(z:NY) (s:ah) (g:St) (H:Hp) (x:V) (v L J:ac) (G I:Option Int) (sl:Addr) (Q:VK),Inv X z g H s->cc x v->s.heap.IsSliceOf sl L J .none->pe L G->pe J I->r x G I H Q ->
  ∃T id,DB (.type T) "__getitem__"=pure (O0 (.builtin id))/\s.TypeIs v T/\ag (ai X.prog X.w) X.A (nw v (.ref sl)) (EP X z g Q) X.xe s
def SlR.or{r O:V->Option Int->Option Int->Hp->VK->Prop}(h:SlR X r)(h':SlR X O):SlR X (λx lo hi H Q=>r x lo hi H Q∨O x lo hi H Q):=by
 intro z s g H x v L J lo hi Z Q I rx hs G pu q
 rcases q with q | q
 .exact h z s g H x v L J lo hi Z Q I rx hs G pu q
 .exact h' z s g H x v L J lo hi Z Q I rx hs G pu q
def tSl(r:V->Option Int->Option Int->Hp->VK->Prop)(te:TE)(z G:TO):TE:=λg H Q=>te g H λx L=>z g L λl J=>G g J λu I=>r x l u I Q
theorem g_{r:V->Option Int->Option Int->Hp->VK->Prop}(hr:SlR X r)(he:PE X e te)(hl:PO X lo tl)(Z:PO X hi th):PE X (.Subscript e (.Slice lo hi W1 p2) pos) (tSl r te tl th):=by
 intro z s g H Q I h;refine DC (la (he z s g H _ I h) λv U q9=>?_);obtain⟨x,H1,I1,W,q1⟩:=q9;refine wpAny_Slice (la (hl z U g H1 _ I1 q1) λL S ⟨l,H2,I2,Y,q2⟩=>la (Z z S g H2 _ I2 q2) λJ O p0=>?_);obtain⟨u,G,I3,pu,q3⟩:=p0;rw[evalPart_none];refine av ?_;have I4:Inv X z g G { O with heap:=O.heap.push { cls:=.type "slice",data:=.fields #[L,J,.none] } }:=I3.kept (t':=O.toks) λb ob q=>bn _ q;obtain⟨T,id,hT,ht,hg⟩:=hr z { O with heap:=O.heap.push { cls:=.type "slice",data:=.fields #[L,J,.none] } } g G x v L J l u O.heap.objs.size Q I4 W (Heap.IsSliceOf.new ..) Y pu q3;show ag (ai X.prog X.w) X.A (AC e (.Slice lo hi W1 p2) v (.ref O.heap.objs.size)) (EP X z g Q) X.xe { O with heap:=O.heap.push { cls:=.type "slice",data:=.fields #[L,J,.none] } };exact tail_any (ops:=[.ref O.heap.objs.size,v]) ht hT hg (by with_unfolding_all rfl)
def Zp(xs:List V)(z G:Option Int):List V:=(xs.drop (HT.sIx xs.length 0 z)).take (HT.sIx xs.length xs.length G-HT.sIx xs.length 0 z)
def RB(xs:List V)(z G:Option Int):(Zp xs z G).length<=xs.length:=by
 unfold Zp;rw[ic,re];omega
def rSlT(K:aI):V->Option Int->Option Int->Hp->VK->Prop:=λx z G H Q=>∃a xs,x=.ref a/\NR K H a xs ∧
 ¬ (HT.sIx xs.length 0 z=0/\HT.sIx xs.length xs.length G=xs.length)/\∀p,H p=W1->Q (.ref p) (gq H p (.tup (Zp xs z G)))
theorem wU:SlR X (rSlT X.K):=by
 intro Z s Y H x v vl vu G L sl Q I rx hs T pu h;obtain⟨a,g,rfl,U,W,q⟩:=h;cases rx;obtain⟨J,r,S,O⟩:=I.tuple U;have z:J.toArray.size=g.length:=by rw[cr];exact r.length.symm
 refine⟨"tuple",_,DA.lookup,S.typeIs,?_⟩;refine HT.N_ S hs T pu (by rw[z];exact W) ?_ (by rw[z];exact O);rw[z];refine⟨.ref s.heap.objs.size,_,I.laid (t':=s.toks) (o:=.tup (Zp g G L)) (λb ob q=>bn _ q) (aE _) ?_,rfl,q _ (I.hok.fresh (aE _))⟩;exact⟨d6 (RB g G L) O,_,(r.drop (HT.sIx g.length 0 G)).take (HT.sIx g.length g.length L-HT.sIx g.length 0 G),DD _ _⟩
def cx.nil_iff(r:cx xs us):us=[]↔xs=[]:=by
 cases r with
 |nil=>simp
 |cons _ _=>simp
end
def ixN(n:Nat)(i:Int):Option Nat:=if 0<=i then (if i<n then O0 i.toNat else W1) else if -(n:Int)<=i then O0 (i+n).toNat else W1
def atI{α:Type}(xs:List α)(i:Int):Option α:=(ixN xs.length i).bind λj=>xs[j]?
def qK{i:Int}(h:ixN n i=O0 j):seqIndex? i n=O0 j/\j<n/\-(n:Int)<=i/\i<n:=by
 unfold ixN at h
 by_cases J:0<=i
 .rw[WH J] at h
  by_cases g:i<n
  .rw[WH g] at h;have e:i.toNat=j:=cy h;exact⟨by rw[seqIndex_of J g,e],by omega,by omega,g⟩
  .rw[ZH g] at h;cases h
 .rw[ZH J] at h
  by_cases g : -(n:Int)<=i
  .rw[WH g] at h;have e:(i+n).toNat=j:=cy h;exact⟨by rw[seqIndex_neg .(0) g,e],by omega,g,by omega⟩
  .rw[ZH g] at h;cases h
def Vr{g:Type}{xs:List g}{i:Int}{v:g}(h:atI xs i=O0 v):∃j,seqIndex? i xs.length=O0 j/\xs[j]?=O0 v/\j<xs.length/\-(xs.length:Int)<=i/\i<xs.length:=by
 unfold atI at h;cases e:ixN xs.length i with
 |none=>rw[e] at h;cases h
 |some j=>
  rw[e] at h;obtain⟨I,G,T,z⟩:=qK e;exact⟨j,I,h,G,T,z⟩
def OD(b:Expr):Prop:=∀o i,xi b O2 o i=operate [o,i] (nw o i)
def IxR(X:Cx)(r:R2):Prop:=
 ∀(z g:Expr) (I:NY) (s:ah) (G:St) (H:Hp) (x y:V) (v u:ac) (Q:VK),Inv X I G H s->cc x v->cc y u->r x y H Q ->
  xi g O2 v u=operate [v,u] (nw v u)->ag (ai X.prog X.w) X.A (AC z g v u) (EP X I G Q) X.xe s
def MtR(X:Cx)(id:String)(r:V->List V->Hp->VK->Prop):Prop:=
 ∀(z:NY) (s:ah) (g:St) (H:Hp) (x:V) (xs:List V) (v:ac) (us:List ac) (Q:VK),Inv X z g H s->cc x v->cx xs us->r x xs H Q ->
  ag (ai X.prog X.w) X.A (call (.builtin id) (v::us)) (EP X z g Q) X.xe s
section
variable {a b:Expr}{ta tb:TE}
def IxR.or{r O:R2}(h:IxR X r)(h':IxR X O):IxR X (λx y H Q=>r x y H Q∨O x y H Q):=by
 intro z g J s G H x y v u Q I rx L q hs
 rcases q with q | q
 .exact h z g J s G H x y v u Q I rx L q hs
 .exact h' z g J s G H x y v u Q I rx L q hs
def uY{r:R2}(J:IxR X r)(O:PE X a ta)(L:PE X b tb)(hs:OD b):PE X (.Subscript a b pos) (tOp r ta tb):=by
 intro z s g H Q I h;exact DC (binT O L I h λv u S x y U T rx G q=>J a b z S g U x y v u Q T rx G q (hs _ _))
def rIxL(K:aI):R2:=λx y H Q=>∃p xs i v,x=.ref p/\y=.int i/\NS K H p xs/\atI xs i=O0 v/\Q v H
def rIxT(K:aI):R2:=λx y H Q=>∃p xs i v,x=.ref p/\y=.int i/\NR K H p xs/\atI xs i=O0 v/\Q v H
def rIxS:R2:=λx y H Q=>∃z i c,x=.str z/\y=.int i/\z.length<=sizeLine/\atI z.cps.toList i=O0 c/\Q (.str ⟨#[c]⟩) H
def qL:IxR X (rIxL X.K):=by
 intro J L Y s W H x y v u Q I rx ry h hs;obtain⟨p,xs,i,z,rfl,rfl,hq,he,q⟩:=h;cases rx;obtain⟨t,rfl⟩:=ry;obtain⟨T,r,S,hz⟩:=I.list hq;obtain⟨j,G,h2,h3,h4,h5⟩:=Vr he;obtain⟨w,ew,O⟩:=r.get h2;have hl:=r.length;have hn:=SJ;have g:EP X Y W Q w s:=⟨z,H,I,O,q⟩
 by_cases Z:0<=i
 .have U:i.toNat=j:=by
   rw[seqIndex_of Z h5] at G;exact cy G
  exact item_listR S.isList Z .(0) (by rw[U];simpa using ew) g hs
 .have U:(i+(T.toArray.size:Int)).toNat=j:=by
   rw[seqIndex_neg .(0) h4] at G;rw[cr,<-hl];exact cy G
  exact ID (x:=w) S.isList.typeIs IE.lookup
   (wpAny_getItem_list_neg (Q:=λr s'=>r=w/\EP X Y W Q r s') S.isList .(0) (by rw[cr]<;>omega) .(0) (by rw[U];simpa using ew) ⟨rfl,g⟩) hs
def wV:IxR X (rIxT X.K):=by
 intro g G S s L H x y v u Q I rx W h hs;obtain⟨p,xs,i,z,rfl,rfl,Z,he,q⟩:=h;cases rx;obtain⟨t,rfl⟩:=W;obtain⟨Y,r,T,hz⟩:=I.tuple Z;obtain⟨j,h1,h2,h3,h4,h5⟩:=Vr he;obtain⟨w,ew,O⟩:=r.get h2;have hl:=r.length;have hn:=SJ;have J:EP X S L Q w s:=⟨z,H,I,O,q⟩;exact ID (x:=w) T.typeIs slot_tuple_getitem.lookup
  (getItem_tuple (j:=j) (Q:=λr U=>r=w/\EP X S L Q r U) T .(0) .(0) (by rw[cr,<-hl];exact h1) (by simpa using ew) ⟨rfl,J⟩) hs
def QH:IxR X rIxS:=by
 intro g G π s σ H x y v u Q I rx L h hs;obtain⟨z,i,c,rfl,rfl,hz,O,q⟩:=h;obtain⟨t,rfl⟩:=rx;obtain⟨t',rfl⟩:=L;obtain⟨j,J,U,h3,T,S⟩:=Vr O;have Y:z.cps.toList.length=z.length:=by simp[DE]
 rw[Y] at J T S;have hn:=SJ;exact tail_any (DF s z t) slot_str_getitem.lookup (getItem_str (c:=c) (by
  have Z:decide (i < -(2^63:Int))=O2:=OI .(0);have W:decide (i≥2^63)=O2:=OI .(0);rw[Z,W,Bool.or_false]) (by rw[J];simpa using U) ⟨.str ⟨#[c]⟩,H,I.tok _,⟨_,rfl⟩,q⟩) hs
def rIx(K:aI):R2:=λx y H Q=>rIxL K x y H Q∨rIxT K x y H Q∨rIxS x y H Q
def h_:IxR X (rIx X.K):=qL.or (wV.or QH)
def Vs(z G:Option Int)(n:Nat):(ri z G W1 n).1=((HT.sIx n 0 z:Nat):Int)/\(ri z G W1 n).2.1=((HT.sIx n n G:Nat):Int)/\(ri z G W1 n).2.2=1:=by
 refine⟨?_,?_,rfl⟩
 .cases z with
  |none=>simp[ri,HT.sIx]
  |some i=>
   simp only[ri,HT.sIx,IF,show (1:Int) > 0 by decide,VI]
   by_cases h:i<0
   .simp only[h,VI]<;>omega
   .simp only[h,WI]<;>omega
 .cases G with
  |none=>simp[ri,HT.sIx]
  |some i=>
   simp only[ri,HT.sIx,IF,show (1:Int) > 0 by decide,VI]
   by_cases h:i<0
   .simp only[h,VI]<;>omega
   .simp only[h,WI]<;>omega
def Uo(g:List ac)(z G:Option Int):slicePick g.toArray z G W1=((g.drop (HT.sIx g.length 0 z)).take (HT.sIx g.length g.length G-HT.sIx g.length 0 z)).toArray:=by
 obtain⟨J,I,T⟩:=Vs z G g.toArray.size;unfold slicePick;rw[J,I,T];simp only[sliceRange_one,pick_run,cr]<;>rfl
def rSlL(K:aI):V->Option Int->Option Int->Hp->VK->Prop:=λx z G H Q=>∃a xs,x=.ref a/\NS K H a xs/\∀p,H p=W1->Q (.ref p) (gq H p (.lst (Zp xs z G)))
theorem qM:SlR X (rSlL X.K):=by
 intro Y s W H x v vl Z G J sl Q I rx hs L pu h;obtain⟨a,g,rfl,U,q⟩:=h;cases rx;obtain⟨S,r,O,T⟩:=I.list U;have z:=r.length;refine⟨"list",_,IE.lookup,O.isList.typeIs,?_⟩;refine wpAny_getItem_list_slice O.isList hs L pu .none .(1) ?_ (by rw[cr]<;>omega);rw[Uo,<-z];refine⟨.ref s.heap.objs.size,_,I.laid (t':=s.toks) (o:=.lst (Zp g G J)) (λb ob q=>bn _ q) (aE _) ?_,rfl,q _ (I.hok.fresh (aE _))⟩;exact⟨d6 (RB g G J) T,_,0,(r.drop (HT.sIx g.length 0 G)).take (HT.sIx g.length g.length J-HT.sIx g.length 0 G),ce _ rfl⟩
def Kh:V->Bool
 |.non=>O1
 |.bl _=>O1
 |.int _=>O1
 |.str _=>O1
 |_=>O2
def To:V->V->Bool
 |.non,.non=>O1
 |.bl a,.bl b=>a==b
 |.bl a,.int b=>(if a then 1 else 0)==b
 |.int a,.bl b=>a==(if b then 1 else 0)
 |.int a,.int b=>a==b
 |.str a,.str b=>a==b
 |_,_=>O2
def iB{A:aS}{y x:V}{v:ac}(z:cc y u)(rx:cc x v)(I:Kh y=O1)(G:Kh x=O1):mB A s u v (To y x):=by
 cases y with
 |non=>
  cases z;cases x with
  |non=>cases rx;exact DH _
  |bl b=>cases rx;exact SeqAt.EqAt.none_bool b
  |int b=>obtain⟨t,rfl⟩:=rx;exact SeqAt.EqAt.none_int b t
  |str b=>obtain⟨t,rfl⟩:=rx;exact SeqAt.EqAt.none_str b t
  |_=>exact NI (show O2=O1 from G) dc
 |bl a=>
  cases z;cases x with
  |non=>cases rx;exact SeqAt.EqAt.bool_none a
  |bl b=>cases rx;exact SeqAt.EqAt.bool_bool a b
  |int b=>obtain⟨t,rfl⟩:=rx;exact SeqAt.EqAt.bool_int a b t
  |str b=>obtain⟨t,rfl⟩:=rx;exact SeqAt.EqAt.bool_str a b t
  |_=>exact NI (show O2=O1 from G) dc
 |int a=>
  obtain⟨g,rfl⟩:=z;cases x with
  |non=>cases rx;exact SeqAt.EqAt.int_none a g
  |bl b=>cases rx;exact SeqAt.EqAt.int_bool a g b
  |int b=>obtain⟨t,rfl⟩:=rx;exact SeqAt.EqAt.int_int a g b t
  |str b=>obtain⟨t,rfl⟩:=rx;exact GT a g b t
  |_=>exact NI (show O2=O1 from G) dc
 |str a=>
  obtain⟨g,rfl⟩:=z;cases x with
  |non=>cases rx;exact SeqAt.EqAt.str_none a g
  |bl b=>cases rx;exact SeqAt.EqAt.str_bool a g b
  |int b=>obtain⟨t,rfl⟩:=rx;exact GU a g b t
  |str b=>obtain⟨t,rfl⟩:=rx;exact SeqAt.EqAt.str_str a g b t
  |_=>exact NI (show O2=O1 from G) dc
 |_=>exact NI (show O2=O1 from I) dc
def eqU(x:V)(u:ac):Bool:=match u with
 |.none=>To .non x
 |.bool b=>To (.bl b) x
 |.int i _=>To (.int i) x
 |.str z _=>To (.str z) x
 |_=>O2
def iC{x y:V}(r:cc y u)(f:Kh y=O1):eqU x u=To y x:=by
 cases y with
 |non=>cases r;rfl
 |bl b=>cases r;rfl
 |int i=>obtain⟨t,rfl⟩:=r;rfl
 |str z=>obtain⟨t,rfl⟩:=r;rfl
 |_=>exact NI (show O2=O1 from f) dc
theorem OJ{x:V}:∀{xs:List V}{us:List ac},cx xs us->xs.all Kh=O1->us.any (eqU x)=xs.any λy=>To y x
 |_,_,.nil,_=>rfl
 |y::xs,u::us,.cons r t,f=>by
  rw[tz,eD] at f;rw[rj,rj,iC r f.1,OJ t f.2]
theorem K7{A:aS}{s:ah}{x:V}{v:ac}(rx:cc x v)(G:Kh x=O1):∀{xs:List V}{us:List ac},cx xs us->xs.all Kh=O1->∀u∈us,mB A s u v (eqU x u)
 |_,_,.nil,_=>λu S=>by cases S
 |y::xs,u::us,.cons r t,f=>λU S=>by
  rw[tz,eD] at f
  rcases br.mp S with rfl | S
  .rw[iC r f.1];exact iB r rx f.1 G
  .exact K7 rx G t f.2 U S
def Yf(x:V)(xs:List V):Bool:=xs.any λy=>To y x
def rIn(K:aI)(g:Bool):R2:=λx y H Q=>∃p xs,y=.ref p/\(NS K H p xs∨NR K H p xs)/\Kh x=O1/\xs.all Kh=O1/\Q (.bl (if g then !Yf x xs else Yf x xs)) H
def dW:NU X (de .In) (rIn X.K O2):=by
 intro T s S H x y v u Q I rx L h;obtain⟨p,W,rfl,U,G,fs,q⟩:=h;cases L
 rcases U with U | U
 .obtain⟨g,r,J,O⟩:=I.list U;refine IG (eqU x) J.isList (λw z=>K7 rx G r fs w (by simpa using z)) ⟨.bl _,H,I,rfl,?_⟩;rw[show g.toArray.any (eqU x)=g.any (eqU x) by simp,OJ r fs];exact q
 .obtain⟨g,r,J,O⟩:=I.tuple U;refine SeqAt.in_tupleAt (eqU x) J (λw z=>K7 rx G r fs w (by simpa using z)) ⟨.bl _,H,I,rfl,?_⟩;rw[show g.toArray.any (eqU x)=g.any (eqU x) by simp,OJ r fs];exact q
def Vt:NU X (de .NotIn) (rIn X.K O1):=by
 intro T s S H x y v u Q I rx L h;obtain⟨p,W,rfl,U,G,fs,q⟩:=h;cases L
 rcases U with U | U
 .obtain⟨g,r,J,O⟩:=I.list U;refine IH (eqU x) J.isList (λw z=>K7 rx G r fs w (by simpa using z)) ⟨.bl _,H,I,rfl,?_⟩;rw[show g.toArray.any (eqU x)=g.any (eqU x) by simp,OJ r fs];exact q
 .obtain⟨g,r,J,O⟩:=I.tuple U;refine SeqAt.notIn_tupleAt (eqU x) J (λw z=>K7 rx G r fs w (by simpa using z)) ⟨.bl _,H,I,rfl,?_⟩;rw[show g.toArray.any (eqU x)=g.any (eqU x) by simp,OJ r fs];exact q
def Dd.or{f:ac}{O:List V->Hp->VK->Prop}(h:Dd X f r)(h':Dd X f O):Dd X f (λxs H Q=>r xs H Q∨O xs H Q):=by
 intro z s g H xs G Q I J q
 rcases q with q | q
 .exact h z s g H xs G Q I J q
 .exact h' z s g H xs G Q I J q
theorem J7:Dd X (.type "list") (λxs H Q=>∃p ys,xs=[.ref p]/\(NS X.K H p ys∨NR X.K H p ys)/\∀l,H l=W1->Q (.ref l) (gq H l (.lst ys))):=by
  intro π s σ H xs us Q I r h;obtain⟨p,ys,rfl,U,q⟩:=h;obtain⟨u,rfl,rx⟩:=SR r;cases rx;have T:∀(g:List ac),cx ys g->ys.length<=sizeLine->∀(L:Heap) (z:Nat),(∀b o',s.heap.get? b=O0 o'->L.get? b=O0 o') ->
      L.get? s.heap.objs.size=O0 { cls:=.type "list",dict:=W1,data:=.seq g.toArray z,slots:=#[] }->EP X π σ Q (.ref s.heap.objs.size) { s with heap:=L }:=λg O J L z G e=>
    ⟨.ref s.heap.objs.size,_,I.laid (t':=s.toks) G (aE _) (show BX X.prog X.w _ L _ (.lst ys) from⟨J,g,z,O,e⟩),rfl,q _ (I.hok.fresh (aE _))⟩
  rcases U with U | U
  . obtain⟨g,O,W,J⟩:=I.list U
    have S:=O.length;obtain⟨o,Y,hc,n,Z⟩:=W.isList;exact call_list_seq p (.inl rfl) Y hc Z (λL z G e=>T g O J L z G e) (by simp only[cr]<;>omega)
  . obtain⟨g,O,W,J⟩:=I.tuple U
    have S:=O.length;obtain⟨o,Y,hc,n,Z⟩:=W;exact call_list_seq p (.inr rfl) Y hc Z (λL z G e=>T g O J L z G e) (by simp only[cr]<;>omega)
theorem M3:Dd X (.type "tuple") (λxs H Q=>∃p ys,xs=[.ref p]/\((NS X.K H p ys/\∀l,H l=W1->Q (.ref l) (gq H l (.tup ys)))∨(NR X.K H p ys/\Q (.ref p) H))):=by
 intro G s z H xs us Q I r h;obtain⟨p,ys,rfl,h⟩:=h;obtain⟨u,rfl,rx⟩:=SR r;cases rx
 rcases h with ⟨U,q⟩ | ⟨U,q⟩
 .obtain⟨g,O,J,S⟩:=I.list U;have T:=O.length;refine call_tuple_list J.isList (λL Y=>?_) (by simp only[cr]<;>omega);have W:Inv X G z H { s with heap:=L }:=I.kept (t':=s.toks) Y;have Z:Inv X G z (gq H L.objs.size (.tup ys)) { s with heap:=L.push { cls:=.type "tuple",data:=.seq g.toArray } }:=
   W.laid (t':=s.toks) (λb o e=>bn _ e) (aE _) (show BX X.prog X.w _ _ _ (.tup ys) from⟨S,g,O,DD _ _⟩)
  exact⟨.ref L.objs.size,_,Z,rfl,q _ (W.hok.fresh (aE _))⟩
 .obtain⟨g,O,J,S⟩:=I.tuple U;exact call_tuple_same J ⟨.ref p,H,I,rfl,q⟩
def tyV(K:aI)(T:String)(x:V)(H:Hp):Prop:=match x with
  |.str _=>T="str"
  |.int _=>T="int"
  |.ref p=>(T="list"/\∃xs,NS K H p xs)∨(T="tuple"/\∃o,K.lookup p=O0 o/\o.cls=.type "tuple"/\o.dict=W1) ∨
      (T="dict"/\((∃kvs,H p=O0 (.dK kvs))∨∃kvs,H p=O0 (.dT kvs)))∨(T="set"/\∃S n,H p=O0 (.set S n))
  |_=>False
def wW{T:String}{x:V}{v:ac}(I:Inv X π σ H s)(r:cc x v)(ty:tyV X.K T x H):
  s.TypeIs v T/\∀a,v=.ref a->∃ob,s.heap.get? a=O0 ob/\ob.dict=W1:=by
 cases x with
 |str z=>
  obtain⟨t,rfl⟩:=r;cases (show T="str" from ty);exact⟨DF s z t,λ_ e=>nomatch e⟩
 |int i=>
  obtain⟨t,rfl⟩:=r;cases (show T="int" from ty);exact⟨typeIs_int s i t,λ_ e=>nomatch e⟩
 |ref p=>
  cases r
  rcases ty with ⟨rfl,xs,Y⟩ | ⟨rfl,o,g,Z,L⟩ | ⟨rfl,g⟩ | ⟨rfl,S,n,g⟩
  .obtain⟨W,_,U,_⟩:=I.list Y;refine⟨U.isList.typeIs,λa e=>?_⟩;cases e;obtain⟨o,n,e,c,L,_⟩:=U;exact⟨o,e,L⟩
  .refine⟨⟨o,I.kIn p o g,Z⟩,λa e=>?_⟩;cases e;exact⟨o,I.kIn _ o g,L⟩
  .have z:∃o,s.heap.get? p=O0 o/\o.ExactDict:=by
    rcases g with ⟨G,g⟩ | ⟨G,g⟩
    .obtain⟨_,_,_,_,o,_,_,e,J,_⟩:=I.hok p _ g;exact⟨o,e,J⟩
    .obtain⟨_,_,_,_,o,_,_,e,J,_⟩:=I.hok p _ g;exact⟨o,e,J⟩
   obtain⟨o,e,J⟩:=z;refine⟨⟨o,e,J.1⟩,λa O=>?_⟩;cases O;exact⟨o,e,J.2.1⟩
  .obtain⟨o,_,_,_,e,J,_⟩:=I.hok p _ g;refine⟨⟨o,e,J.1⟩,λa O=>?_⟩;cases O;exact⟨o,e,J.2.1⟩
 |_=>exact kf ty
def tBM(K:aI)(T:String)(r:V->List V->Hp->VK->Prop)(G:TE)(t:TA):TE:=λg H Q=>G g H λx z=>tyV K T x z/\t g z λxs I=>r x xs I Q
variable {o:Expr}{es:List Expr}{to:TE}{t:TA}{cpos:Pos}{T id:String}{r:V->List V->Hp->VK->Prop}
def iG(pa:DI T)(S:Slot T name id)(U:typeOf (.builtin id)=pure (.type "method_descriptor"))(hm:MtR X id r)(ho:PE X o to)(ha:PA X (e::es) t)(G:eR o name X.env (eval o X.env)=eval o X.env:=by rfl)(J:((cS cpos (aw (e::es) X.env)).all (λx=>!x.1)&&(ib cpos (fR [] X.env)).all (λx=>x.1.isSome)
   && decide ((e::es).length+([]:List hZ).length+(if ([]:List hZ).isEmpty then 0 else 1)<30))=O1:=by rfl)(z:(apos.endLine==cpos.line)=O1:=by rfl)(hs:aw (e::es) X.env=(O2,eval e X.env)::aw es X.env:=by rfl)(g:(cS cpos (aw es X.env)).any (·.1)=O2:=by rfl):
  PE X (.Call (.Attribute o name apos) (e::es) [] cpos) (tBM X.K T r to t):=by
 intro O s L H Q I h;refine wpAny_Call_method_late G J z rfl (la (ho O s L H _ I h) λv s1 q0=>?_);obtain⟨x,H1,Z,W,ty,q1⟩:=q0;obtain⟨h1,h2⟩:=wW Z W ty;refine⟨T,id,pa,S,U,h1,h2,?_⟩;have Y:=ha cpos O s1 L H1 _ Z q1;rw[hs] at Y ⊢;refine II (by show (O2||(cS cpos (aw es X.env)).any (·.1))=O2;rw[g]<;>rfl) (IJ ?_);exact la Y (by rintro us s2 ⟨vs,H2,I2,r2,q2⟩;exact hm O s2 L H2 x vs v us Q I2 W r2 q2)
end
def MtM(X:Cx)(id:String)(r:V->List V->Hp->VK->Prop):Prop:=
 ∀(z:NY) (s:ah) (g:St) (H:Hp) (x:V) (xs:List V) (v:ac) (us:List ac) (Q:VK),Inv X z g H s->cc x v->cx xs us->r x xs H Q ->
  ag (ai X.prog X.w) X.A (call (.builtin id) (v::us)) (EP X z g Q) X.xe s
def cx.one:∀{x:V}{us:List ac},cx [x] us->∃u,us=[u]/\cc x u
 |_,_,.cons r .nil=>⟨_,rfl,r⟩
section
variable {l:Addr}
theorem Inv.lset{its':List ac}{f:Array ac->Array ac}(I:Inv X π σ H s)(J:H l=O0 (.lst xs))(e:s.heap.get? l=O0 { cls:=.type "list",data:=.seq its.toArray n })(G:f its.toArray=its'.toArray)(g:cx ys its')(hz:ys.length<=sizeLine):
  Inv X π σ (gq H l (.lst ys)) { s with heap:=s.heap.update l (kD f),toks:=t' }:=by
 have q:=PySem.IsL.update e f;rw[G] at q;refine I.write (x:=l) (e:=l) (by rw[J];exact trivial) (.inl rfl) (λL u z S=>(lP s.heap (kD f) (cf z)).trans S) ⟨_,q⟩ ?_;exact⟨hz,its',_,g,q⟩
def Inv.lnew(I:Inv X π σ H s)(g:cx ys its)(hz:ys.length<=sizeLine):
  Inv X π σ (gq H s.heap.objs.size (.lst ys)) { s with heap:=s.heap.push { cls:=.type "list",data:=.seq its.toArray },toks:=t' }:=
 I.laid (λ_ _ q=>bn _ q) (aE _) ⟨hz,its,0,g,ce _ rfl⟩
theorem Inv.fresh(I:Inv X π σ H s):H s.heap.objs.size=W1:=I.hok.fresh (aE _)
def Inv.lstM(I:Inv X π σ H s)(J:H l=O0 (.lst xs)):xs.length<=sizeLine/\∃(its:List ac) (n:Nat),cx xs its/\xs.length=its.length/\s.heap.get? l=O0 { cls:=.type "list",data:=.seq its.toArray n }:=by
 obtain⟨z,its,n,r,e⟩:=I.hok l _ J;exact⟨z,its,n,r,r.length,e⟩
end
section
def aA:V->List V->Hp->VK->Prop:=λx vs H Q=>∃l xs y,x=.ref l/\vs=[y]/\H l=O0 (.lst xs)/\xs.length<sizeLine/\Q .non (gq H l (.lst (xs++[y])))
theorem Mg:MtM X "list.append" aA:=by
 intro S s O H x U v W Q I rx G h;obtain⟨l,T,y,rfl,rfl,J,Y,q⟩:=h;cases rx;obtain⟨u,rfl,L⟩:=G.one;obtain⟨z,g,n,r,Z,e⟩:=I.lstM J;refine call_meets F.slot_list_append ⟨_,e,rfl⟩ F.entry_list_append (F.args_list_append_2 _ _) (PySem.list_append l g.toArray n u (by rw[cr];omega)) ⟨e,?_⟩;refine⟨.non,_,I.lset (its':=g++[u]) J e .(1) (r.append (.cons L .nil)) ?_,rfl,q⟩;rw[eA,xk];omega
end
section
variable {κ:Type} [DecidableEq κ]
def Pv(kvs:List (κ×V))(k:κ):Option V:=(kvs.find? λg=>decide (g.1=k)).map (·.2)
def Pw(kvs:List (κ×V))(k:κ)(v:V):List (κ×V):=
 if (kvs.any λg=>decide (g.1=k))=O1 then kvs.map (λg=>if g.1=k then (g.1,v) else g) else kvs++[(k,v)]
def Oa{p:κ×V}{r:List (κ×V)}{k:κ}(e:p.1=k):Pv (p::r) k=O0 p.2:=by simp[Pv,rl,e]
def Ob{p:κ×V}{r:List (κ×V)}{k:κ}(e:¬ p.1=k):Pv (p::r) k=Pv r k:=by simp[Pv,rl,e]
theorem SQ(k:κ):∀kvs:List (κ×V),(kvs.any λg=>decide (g.1=k))=(Pv kvs k).isSome
 |[]=>rfl
 |p::r=>by
  rw[rj]
  by_cases e:p.1=k
  .simp only[Oa e,QI e,Bool.true_or,Option.isSome_some]
  .rw[Ob e,OI e,IL];exact SQ k r
def RC(kvs:List (κ×V))(k:κ)(v:V):(Pw kvs k v).length<=kvs.length+1:=by
 unfold Pw;split
 .rw[ay];omega
 .rw[eA,ci,nE];omega
def OV.isSome_eq{o:Option V}{u:Option ac}(r:OV o u):o.isSome=u.isSome:=by
 cases o with
 |none=>cases u with
  |none=>rfl
  |some _=>exact (show False from r).elim
 |some _=>cases u with
  |none=>exact (show False from r).elim
  |some _=>rfl
def KV.val{kvs:List (κ×V)}{vs:List (κ×ac)}(r:KV kvs vs)(k:κ):OV (Pv kvs k) (ro vs k):=by
 unfold KV at r
 induction r with
 |nil=>exact ko
 | @cons p q L g h t I=>
  obtain⟨G,J⟩:=h
  by_cases e:p.1=k
  .have O:q.1=k:=G.symm.trans e;have b:ro (q::g) k=O0 q.2:=by simp[ro,rl,O]
   rw[Oa e,b];exact J
  .have O:¬ q.1=k:=λz=>e (G.trans z);have b:ro (q::g) k=ro g k:=by simp[ro,rl,O]
   rw[Ob e,b];exact I
theorem KV.any{kvs:List (κ×V)}{vs:List (κ×ac)}(r:KV kvs vs)(k:κ):(kvs.any λg=>decide (g.1=k))=vs.any λg=>decide (g.1=k):=by
 unfold KV at r
 induction r with
 |nil=>rfl
 |cons h t z=>rw[rj,rj,z,h.1]
def KV.repl{kvs:List (κ×V)}{vs:List (κ×ac)}(r:KV kvs vs)(k:κ){y:V}{u:ac}(I:cc y u):
  KV (kvs.map λg=>if g.1=k then (g.1,y) else g) (vs.map λg=>if g.1=k then (g.1,u) else g):=by
 unfold KV at r ⊢
 induction r with
 |nil=>exact .nil
 | @cons p q S O h t J=>
  rw[ba,ba];refine .cons ?_ J;obtain⟨G,L⟩:=h
  by_cases e:p.1=k
  .rw[WH e,WH (G.symm.trans e)];exact⟨G,I⟩
  .rw[ZH e,ZH (λz=>e (G.trans z))];exact⟨G,L⟩
def KV.put{kvs:List (κ×V)}{vs:List (κ×ac)}(r:KV kvs vs)(k:κ){y:V}{u:ac}(g:cc y u):KV (Pw kvs k y) (stored vs k u):=by
 unfold Pw stored;rw[r.any k]
 by_cases e:(vs.any λz=>decide (z.1=k))=O1
 .rw[WH e,WH e];exact r.repl k g
 .rw[ZH e,ZH e];exact IM r ⟨rfl,g⟩
theorem KV.length{kvs:List (κ×V)}{vs:List (κ×ac)}(r:KV kvs vs):kvs.length=vs.length:=A3 r
end
def Xb{k:Key}(r:cc (kV k) u):(Av P w).is k u=O1:=by
 cases k with
 |inl i=>obtain⟨t,e⟩:=(show ∃t,u=oa i t from r);subst e;exact XJ P w i t
 |inr x=>obtain⟨t,e⟩:=(show ∃t,u=sP x t from r);subst e;exact XM P w x t
theorem QJ{P:cw}{w:bP}:∀{ks:List Key}{us:List ac},cx (ks.map kV) us->ItemsAre (Av P w) ks us
 |[],_,r=>by rw[fE] at r;cases r;exact .nil
 |k::ks,_,r=>by
  rw[ba] at r;cases r with
  |cons h t=>exact .cons (Xb h) (QJ t)
abbrev KT (H:Hp):List (List Key×V)->List (List Key×Addr×ac)->Prop:=mh λp q=>p.1=q.1/\H q.2.1=O0 (.tup (p.1.map kV))/\cc p.2 q.2.2
def KT.val{xs:List (List Key×Addr×ac)}(r:KT H kvs xs)(k:List Key):OV (Pv kvs k) ((dE xs k).map (·.2)):=by
 induction r with
 |nil=>exact ko
 | @cons p q L g h t I=>
  obtain⟨G,_,J⟩:=h
  by_cases e:p.1=k
  .have O:q.1=k:=G.symm.trans e;have b:dE (q::g) k=O0 q.2:=by simp[dE,rl,O]
   rw[Oa e,b];exact J
  .have O:¬ q.1=k:=λz=>e (G.trans z);have b:dE (q::g) k=dE g k:=by simp[dE,rl,O]
   rw[Ob e,b];exact I
def KT.repl{xs:List (List Key×Addr×ac)}(r:KT H kvs xs)(k:List Key){y:V}{u:ac}(J:cc y u):
  KT H (kvs.map λG=>if G.1=k then (G.1,y) else G) (xs.map (putAt k u)):=by
 induction r with
 |nil=>exact .nil
 | @cons p q S O h t L=>
  rw[ba,ba];refine .cons ?_ L;obtain⟨g,I,T⟩:=h;unfold putAt
  by_cases e:p.1=k
  .rw[WH e,WH (g.symm.trans e)];exact⟨g,I,J⟩
  .rw[ZH e,ZH (λz=>e (g.trans z))];exact⟨g,I,T⟩
def KT.put{xs:List (List Key×Addr×ac)}(r:KT H kvs xs)(k:List Key){b:Addr}{y:V}{u:ac}(G:H b=O0 (.tup (k.map kV)))(g:cc y u):
  KT H (Pw kvs k y) (xl xs k b u):=by
 have e:(kvs.any λz=>decide (z.1=k))=(dE xs k).isSome:=by
  rw[SQ,(r.val k).isSome_eq,xo]
 unfold Pw xl;rw[e]
 by_cases q:(dE xs k).isSome=O1
 .rw[WH q,WH q];exact r.repl k g
 .rw[ZH q,ZH q];exact IM r ⟨rfl,G,g⟩
def KT.keeps{xs:List (List Key×Addr×ac)}(r:KT H kvs xs)(O:∀b ys,H b=O0 (.tup ys)->H' b=O0 (.tup ys)):KT H' kvs xs:=
 Paired.mapP r λ_ _ z=>⟨z.1,O _ _ z.2.1,z.2.2⟩
section
def uZ{u:HO}(ok:QN P w H h)(e:Rd H a u):BX P w H h a u:=e.ok ok
def Oc{kvs:List (Key×V)}(ok:QN P w H h)(e:Rd H a (.dK kvs)):kvs.length<=sizeLine/\(a==gT)=O2/\∃vs,KV kvs vs/\h.DictOf (Av P w) a vs:=
 show BX P w H h a (.dK kvs) from uZ ok e
def uc{kvs:List (Key×V)}(ok:QN P w H h)(e:H a=O0 (.dK kvs)):kvs.length<=sizeLine/\(a==gT)=O2/\∃vs,KV kvs vs/\h.DictOf (Av P w) a vs:=Oc ok (.inl e)
def SX{ks:List Key}(ok:QN P w H h)(e:H a=O0 (.tup (ks.map kV))):(wa (Av P w)).is h ks a:=by
 obtain⟨_,g,r,o,G,z,n,T⟩:=(show BX P w H h a (.tup (ks.map kV)) from ok a _ e);exact⟨o,g.toArray,n,G,z,T,by simpa using QJ r⟩
def Xc(ok:QN P w H h)(e:Rd H a (.dT kvs)):kvs.length<=sizeLine/\(a==gT)=O2 ∧
  ∃xs,KT H kvs xs/\h.DictOfH (wa (Av P w)) a xs:=by
 obtain⟨z,y,xs,r,o,O,W,L,J,T,I,S⟩:=(show BX P w H h a (.dT kvs) from uZ ok e);refine⟨z,y,xs,r,o,O,W,L,J,T,I,λx g=>?_,S⟩;have all:∀{l:List (List Key×V)}{m:List (List Key×Addr×ac)},KT H l m->∀x∈m,(wa (Av P w)).is h x.1 x.2.1:=by
  intro l m q
  induction q with
  |nil=>intro x g;exact nomatch g
  | @cons p q Z Y U t G=>
   intro x g
   rcases br.mp g with e | g
   .subst e;exact SX ok (by rw[<-U.1];exact U.2.1)
   .exact G x g
 exact all r x g
def zR(ok:QN P w H h)(e:H a=O0 (.dT kvs)):kvs.length<=sizeLine/\(a==gT)=O2 ∧
  ∃xs,KT H kvs xs/\h.DictOfH (wa (Av P w)) a xs:=Xc ok (.inl e)
end
def DGet(H:Hp)(a:Addr)(y:V)(r:Option V):Prop:=
 (∃kvs k,Rd H a (.dK kvs)/\y=kV k/\r=Pv kvs k)∨∃kvs k b,Rd H a (.dT kvs)/\y=.ref b/\H b=O0 (.tup (k.map kV))/\r=Pv kvs k
def XU(H:Hp)(a:Addr)(y v:V)(g:Hp):Prop:=
 (∃kvs k,H a=O0 (.dK kvs)/\y=kV k/\kvs.length<sizeLine/\g=gq H a (.dK (Pw kvs k v))) ∨
 ∃kvs k b,H a=O0 (.dT kvs)/\y=.ref b/\H b=O0 (.tup (k.map kV))/\kvs.length<sizeLine/\g=gq H a (.dT (Pw kvs k v))
theorem XU.k{H:Hp}{a:Addr}{kvs:List (Key×V)}{k:Key}{v:V}(e:H a=O0 (.dK kvs))(Y:kvs.length<sizeLine):XU H a (kV k) v (gq H a (.dK (Pw kvs k v))):=.inl ⟨kvs,k,e,rfl,Y,rfl⟩
def XU.t{k:List Key}(e:H a=O0 (.dT kvs))(g:H b=O0 (.tup (k.map kV)))(Y:kvs.length<sizeLine):
  XU H a (.ref b) v (gq H a (.dT (Pw kvs k v))):=.inr ⟨kvs,k,b,e,rfl,g,Y,rfl⟩
section
variable {y:V}{r:ac}{o:Option V}{A:aS}
def Inv.big(I:Inv X π σ H s):gT<s.heap.objs.size:=by
 have h:gv<s.heap.objs.size:=(I.mod.glob.keeps I.bk).lt;exact IN .(2) h
theorem dX(hu:A.units+1<bv)(I:Inv X π σ H s)(g:DGet H a y (O0 v))(Z:cc y u)(h:∀J Y,Inv X π σ H Y->cc v J->Q J Y):
  ag (ai X.prog X.w) A (nw (.ref a) u) Q E s:=by
 rcases g with ⟨L,k,e,U,l⟩ | ⟨L,k,b,e,U,eb,l⟩
 .subst U;obtain⟨z,hd,vs,G,W⟩:=Oc I.hok e;obtain⟨J,S,O⟩:=OV.some_of (v:=v) (o:=ro vs k) (by rw[l];exact G.val k);exact wpAny_getItem_of (Xb Z) W.mapOf S (h J _ (I.tok _) O)
 .subst U;cases (show u=aT b from Z);obtain⟨z,hd,xs,G,W⟩:=Xc I.hok e;obtain⟨J,S,O⟩:=OV.some_of (v:=v) (o:=(dE xs k).map (·.2)) (by rw[l];exact G.val k);obtain⟨p,hp,T⟩:=kx.mp S;refine IP (AD hu) (SX I.hok eb) W hp ?_;rw[T];exact h J _ (I.tok _) O
def d_in(T:A.units+1<bv)(I:Inv X π σ H s)(g:DGet H a y o)(S:cc y u)(h:∀O,Inv X π σ H O->Q (.bool o.isSome) O):
  ag (ai X.prog X.w) A (de .In u (.ref a)) Q E s:=by
 rcases g with ⟨J,k,e,U,l⟩ | ⟨J,k,b,e,U,Y,l⟩
 .subst U;obtain⟨z,L,vs,G,W⟩:=Oc I.hok e;refine wpAny_in_of (Xb S) L W.mapOf ?_;rw[<-(G.val k).isSome_eq,<-l];exact h _ (I.tok _)
 .subst U;cases (show u=aT b from S);obtain⟨z,L,Z,G,W⟩:=Xc I.hok e;refine wpAny_in_heap (AD T) (SX I.hok Y) L W ?_;have q:=(G.val k).isSome_eq;rw[xo] at q;rw[<-q,<-l];exact h _ (I.tok _)
def qN(T:A.units+1<bv)(I:Inv X π σ H s)(g:DGet H a y o)(S:cc y u)(h:∀O,Inv X π σ H O->Q (.bool (!o.isSome)) O):
  ag (ai X.prog X.w) A (de .NotIn u (.ref a)) Q E s:=by
 rcases g with ⟨J,k,e,U,l⟩ | ⟨J,k,b,e,U,Y,l⟩
 .subst U;obtain⟨z,L,vs,G,W⟩:=Oc I.hok e;refine wpAny_notIn_of (Xb S) L W.mapOf ?_;rw[<-(G.val k).isSome_eq,<-l];exact h _ (I.tok _)
 .subst U;cases (show u=aT b from S);obtain⟨z,L,Z,G,W⟩:=Xc I.hok e;refine wpAny_notIn_heap (AD T) (SX I.hok Y) L W ?_;have q:=(G.val k).isSome_eq;rw[xo] at q;rw[<-q,<-l];exact h _ (I.tok _)
theorem Rf{ob:HO}(I:Inv X π σ H s)(g:Mut (H a))(hs:fh a s.heap h')(G:∃q,h'.get? a=O0 q)(new:BX X.prog X.w (gq H a ob) h' a ob):
  Inv X π σ (gq H a ob) { s with heap:=h',toks:=t' }:=
 I.write (x:=a) (e:=a) g (.inl rfl) (λb q J z=>(hs.2 b J).trans z) G new
def iH{kvs:List (Key×V)}{vs:List (Key×ac)}(z:kvs.length<=sizeLine)(g:(a==gT)=O2)(G:KV kvs vs)(W:h'.DictOf (Av P w) a vs):
  BX P w H' h' a (.dK kvs):=⟨z,g,vs,G,W⟩
def dY{Q:Unit->ah->Prop}(hu:A.units+1<bv)(I:Inv X π σ H s)(g:XU H a y v H')(ry:cc y u)(rv:cc v r)(h:∀s',Inv X π σ H' s'->Q () s'):
  ag (ai X.prog X.w) A (setItem (.ref a) u r) Q E s:=by
 rcases g with ⟨J,k,e,T,l,W⟩ | ⟨J,k,b,e,T,eb,l,W⟩
 .subst T W;obtain⟨z,S,vs,G,Z⟩:=uc I.hok e;have O:vs.length<=sizeLine:=by rw[<-G.length];exact z
  have Y:(Pw J k v).length<=sizeLine:=by have:=RC J k v;omega
  refine wpAny_setItem_pairs (hsz:=O) (Xb ry) Z λh' L hs=>h _ ?_;have he:∃q,h'.get? a=O0 q:=let ⟨q,_,_,U,_⟩:=L;⟨q,U⟩;exact Rf I (by rw[e];exact ko) hs he (iH Y S (G.put k rv) L)
 .subst T W;cases (show u=aT b from ry);obtain⟨z,S,xs,G,Z⟩:=zR I.hok e;have O:xs.length<=sizeLine:=by rw[<-A3 G];exact z
  have Y:(Pw J k v).length<=sizeLine:=by have:=RC J k v;omega
  refine IQ (hsz:=O) (AD hu) (SX I.hok eb) Z λh' L hs=>h _ ?_;obtain⟨q,es,ep,U,h2,h3,h4,_,h5⟩:=L;refine Rf I (by rw[e];exact ko) hs ⟨q,U⟩ ⟨Y,S,_,(G.put k eb rv).keeps λc ys ec=>?_,q,es,ep,U,h2,h3,h4,h5⟩;rw[Al (uU ec e (λz=>nomatch z))];exact ec
end
section
variable {kvs:List (Key×V)}{k:Key}{A:aS}
def zT(I:Inv X π σ H s)(e:Rd H a (.dK kvs))(h:∀t g,Inv X π σ H g->Q (.int kvs.length t) g):ag (ai X.prog X.w) A (call (.builtin "len") [.ref a]) Q E s:=by
 obtain⟨z,J,L,G,W⟩:=Oc I.hok e;refine call_len_dict J W (by rw[<-G.length];rw[hV] at z;omega) ?_;rw[<-G.length];exact h _ _ (I.tok _)
end
def NoSl(i:Expr):Prop:=∀g z,xi i O2 g z=operate [g,z] (nw g z)
def aB{A:aS}{z g:Expr}{T id:String}(Y:DB (.type T) "__getitem__"=pure (O0 (.builtin id)))(hs:NoSl g)(h:ag (ai prog w) A (eval z env) (λo J=>ag (ai prog w) A (eval g env) (λi s₂=>s₂.TypeIs o T/\ag (ai prog w) A (nw o i) Q E s₂) E J) E s):
  ag (ai prog w) A (eval (.Subscript z g pos) env) Q E s:=by
 refine DC (hJ h (λo J S=>hJ S (λi s₂ G=>?_) λ_ _ x=>x) λ_ _ x=>x);obtain⟨U,G⟩:=G;unfold AC;refine ae ?_;rw[IR U.not_modules];refine ae (mT U Y ?_);have L:ag (ai prog w) A (xi g O2 o i) (λr I=>ag (ai prog w) A (letTemporaryGo z o r >>= λ_=>pure r) Q E I) E s₂:=by
  rw[hs o i];exact wpAny_operating (hJ G (λr I O=>ae (IS (av O))) λ_ _ x=>x)
 first
  |exact av (ae L)
  |exact ae (av (ae L))
  |exact ae L
def Xd{y:V}{o:Option V}(I:Inv X π σ H s)(g:DGet H a y o):s.TypeIs (.ref a) "dict":=by
 rcases g with ⟨z,k,e,_,_⟩ | ⟨z,k,b,e,_,_,_⟩
 .obtain⟨_,_,J,_,W⟩:=Oc I.hok e;exact W.typeIs
 .obtain⟨_,_,G,_,W⟩:=Xc I.hok e;exact W.typeIs
def zU(I ty G:TE):TS:=λD g H=>G g H λv O=>I g O λx L=>ty g L λy J=>∃a z,x=.ref a/\XU J a y v z/\D.nx g z
section
variable {o i value:Expr}{tpos:Pos}{td ty tv:TE}
def Vu(U:X.A.units+1<bv)(W:PE X o td)(Y:PE X i ty)(T:PE X value tv)(hs:eJ value (O0 (.Subscript o i pos')) pos.line X.env=pure O2):
  PS X (.Assign [.Subscript o i pos'] value pos) (zU td ty tv):=by
 intro G s z H D I h;refine AE (la (T G s z H _ I h) λr J ⟨v,H1,I1,O,q1⟩=>la (W G J z H1 _ I1 q1) λu S ⟨x,H2,I2,rx,q2⟩=>la (Y G S z H2 _ I2 q2) λiv s3 q0=>?_) hs;obtain⟨y,H3,I3,L,a,H4,Z,g,q3⟩:=q0;subst Z;obtain rfl:u=aT a:=rx;exact dY U I3 g L O λs4 I4=>⟨z,H4,I4,q3⟩
end
def Xe(h:Heap)(g:gT<h.objs.size):BX P w H (h.push { cls:=.type "dict",data:=.dict #[] }) h.objs.size (.dK []):=
 ⟨eK _,beq_eq_false_iff_ne.mpr (cf (bS g)),[],.nil,Heap.DictOf.new h⟩
def iJ(h:Heap)(g:gT<h.objs.size):BX P w H (h.push { cls:=.type "dict",data:=.dict #[] }) h.objs.size (.dT []):=
 ⟨eK _,beq_eq_false_iff_ne.mpr (cf (bS g)),[],.nil,_,#[],0,ce _ rfl,⟨rfl,rfl,rfl⟩,rfl,rfl,IT⟩
def wX:TE:=λ_ H Q=>∀p,H p=W1->Q (.ref p) (gq H p (.dK []))
def wZ:TE:=λ_ H Q=>∀p,H p=W1->Q (.ref p) (gq H p (.dT []))
section
theorem iK:PE X (.Dict [] [] pos) wX:=λz s g H Q I h=>
 DJ ⟨.ref s.heap.objs.size,_,I.laid (a:=s.heap.objs.size) (o:=.dK []) (t':=s.toks) (λ_ _ q=>bn _ q) (aE _) (Xe s.heap I.big),rfl,h _ (I.hok.fresh (aE _))⟩
theorem iM:PE X (.Dict [] [] pos) wZ:=λz s g H Q I h=>
 DJ ⟨.ref s.heap.objs.size,_,I.laid (a:=s.heap.objs.size) (o:=.dT []) (t':=s.toks) (λ_ _ q=>bn _ q) (aE _) (iJ s.heap I.big),rfl,h _ (I.hok.fresh (aE _))⟩
end
section
variable {kvs:List (Key×V)}{A:aS}
theorem iQ(I:Inv X π σ H s)(e:Rd H a (.dK kvs))(h:∀p g,H p=W1->Inv X π σ (gq H p (.dK kvs)) g->Q (.ref p) g):ag (ai X.prog X.w) A (call (.type "dict") [.ref a]) Q E s:=by
 obtain⟨z,J,O,G,W⟩:=Oc I.hok e;refine kt_call_dict J W (by rw[<-G.length];exact z) λS L hs=>?_;refine h _ _ (I.hok.fresh (aE _)) (I.laid (a:=s.heap.objs.size) (o:=.dK kvs) (t':=s.toks) (λb q U=>?_) (aE _) (iH z (beq_eq_false_iff_ne.mpr (cf (bS I.big))) G L));exact (hs.2 b (bS (bo U))).trans (bn _ U)
end
end L2
namespace Att
open PySem PySem.W PySem.Calls PyProof.Rows
def RW{P:Params}:∀(ns:List Int) (vs:List ac),WellAll P h vs (ns.map tJ)->rh vs ns:=by
 intro ns
 induction ns with
 |nil=>
  intro vs w;rw[fE] at w;cases w;exact .nil
 |cons n ns g=>
  intro vs w;rw[ba] at w;cases w with
  |cons a b=>
   cases a;exact .cons _ _ (g _ b)
def dZ{l:OpenLaw}(hn:l.most=O0 n){P:Params}{h:Heap}{args:List WData}{g:List ac}(z:l.row.toRowW.claim.pre args=O1)(L:WellAll P h g args):
  ∃a vs ns,g=[aT a]/\args=[WData.list (ns.map tJ)]/\h.get? a=O0 { cls:=.type "list",data:=.seq vs.toArray }/\rh vs ns/\ns.length<=n:=by
 have O:WShape.hasAll [] args [.list .int]=O1:=(pre_splitW z).1;have T:l.pre.holds [] { args:=args }=O1:=(pre_splitW z).2;obtain⟨d,r,rfl,h1,h2⟩:=hasAllW_cons O;obtain rfl:=hasAllW_nil h2;obtain⟨xs,rfl,h3⟩:=hasW_list h1;obtain⟨ns,rfl⟩:=items_int h3;have G:ns.length<=n:=by
  unfold OpenLaw.pre at T;have J:(WTm.not (.lt (.lit (.int (n:Int))) (.len (.arg 0)))).holds [] { args:=[.list (ns.map .int)] }=O1:=by
   have J:=(holds_andW T).1;rw[hn] at J;exact J
  have S:=condW_of J (w_not (w_lt w_lit (w_len_list (w_arg rfl))));rw[ay] at S;refine Nat.le_of_not_lt λq=>?_;have Y:(n:Int)<((ns.length:Nat):Int):=by omega
  first
   | (rw[QI Y] at S;exact NI S .(2))
   | (simp at S;omega)
 cases L with
 |cons W U=>
  cases U;cases W with
  |list Z I=>exact⟨_,_,ns,rfl,rfl,Z,RW ns _ I,G⟩
theorem dg(l:OpenLaw)(args:List WData):l.row.toRowW.claim.post args (.bool O1) args=O1:=
 postW_of (r:=l.row.toRowW) (X:=(O1==O1))
  (show IU [] (.bool O1) .bool=O1 by first | rfl | decide | simp[IU,WShape.arms,WShape.armsAll])
  (show (WTm.eq .res (.lit (.bool O1))).value [] { args:=args,res:=O0 (.bool O1),after:=args }=O0 (.bool (O1==O1)) from w_eq_bool (w_res rfl) w_lit) rfl
end Att
namespace L2
open PySem PySem.Spec PyProof.Rows
theorem U7:∀{vs:List ac}{ns:List Int},rh vs ns->cx (ns.map V.int) vs
 |_,_,.nil=>.nil
 |_,_,.cons n t h=>.cons ⟨t,rfl⟩ (U7 h)
def Only(H:Hp):Prop:=∀b,H b=W1∨∃o xs,H b=O0 (.frz o (.lst xs))
def iR{K:aI}{mb:Str->Option ac}{k:Nat}{fa:Addr}{sp:Sp}{s₁:ah}(KX:K.In s₁.heap)(Y:s₁.heap.Ns gv mg)(G:s₁.heap.Ns C3 mb)(N1:∀x:Str,x≠"__name__"->mb x=cE x)(Z:s₁.heap.NoLimit)(hg:s₁.gens=#[])(ha:s₁.heap.get? a=O0 { cls:=.type "list",data:=.seq vs.toArray })(hi:rh vs ns)(hl:ns.length<=sizeLine)(hr:Room k rq)(F:∀base:Heap,K.In base->base.Ns gv mg->hQ P w K mg base CX k fa fd [x] sp)(O:∀(s:ah) (u:ac),wq s fd ⟨[u],[]⟩ [(x,u)])(X0:∀H:Hp,Only H->NS K H a (ns.map V.int)->sp [.ref a] H (λv _=>v=.bl O1) λ_ _ _=>False)(P1:∀H e I,CX [] H s₁ (λ_ _ _=>False) e I->False):
    gI (ai P w) rq (.call (.ref fa) ⟨[.ref a],[]⟩) (λr I=>r=.ok (.ret (.bool O1))/\OldK s₁.heap I.heap/\I.os=s₁.os/\nc I.gens) s₁:=by
  have rv:=U7 hi;have T:=hi.length;have L:∀H:Hp,Only H->NS K H a (ns.map V.int)->QN P w H s₁.heap->(∀b,H b≠W1->b=a)->(H a≠W1->K.lookup a=W1) ->
      gI (ai P w) rq (.call (.ref fa) ⟨[.ref a],[]⟩) (λr I=>r=.ok (.ret (.bool O1))/\OldK s₁.heap I.heap/\I.os=s₁.os/\nc I.gens) s₁:=by
    intro H hO hS W hA hK;have g:∀{b:Addr}{o:Obj},s₁.heap.get? b=O0 o->H b=W1->(WZ s₁.heap H).get? b=O0 o:=λe n=>gB e n;have T0:∀{b:Addr}{o:Obj}{es:Array xp}{ep:Nat},s₁.heap.get? b=O0 o->o.data=.dict es ep->H b=W1:=λ{b o es ep} e d=>by
      cases q:H b with
      |none=>rfl
      |some u=>
        have e':b=a:=hA b (by rw[q];simp);subst e';rw[ha] at e;cases e;have d':Data.seq vs.toArray _=Data.dict es ep:=d;cases d'
    have J:∀{b:Addr}{m:Str->Option ac},s₁.heap.Ns b m->(WZ s₁.heap H).Ns b m:=λ{b m} ⟨o,es,ep,e,d,r⟩=>⟨o,es,ep,g e (T0 e d),d,r⟩;have N0:K.In (WZ s₁.heap H):=λb o e=>g (KX b o e) (by
      cases q:H b with
      |none=>rfl
      |some u=>
        have e':b=a:=hA b (by rw[q];simp);subst e';rw[hK (by rw[q];simp)] at e;cases e)
    have hM:Mod K mg (WZ s₁.heap H):=⟨N0,J Y,⟨mb,J G,N1⟩,let ⟨mc,h1,h2⟩:=Z;⟨mc,J h1,h2⟩⟩;have e0:Env0 P w K mg (WZ s₁.heap H) rq [] s₁ H:=⟨rfl,hM,λb o e=>pP e,CI (dH _ _),trivial,λb G=>NI (show b∈([]:List Addr) from G) .(1),W,.of_eq hg⟩;refine qV ((F _ N0 (J Y)).run rq [] s₁ H ⟨[.ref a],[]⟩ [.ref a] [.ref a] _ _ hr e0 (O s₁ (.ref a)) (.cons rfl .nil) (X0 H hO hS)) λr I h=>?_;cases r with
    |error e=>exact (P1 H e I h).elim
    |ok fl=>
      cases fl with
      |next=>exact kf h
      |brk=>exact kf h
      |cont=>exact kf h
      |ret u=>
        obtain⟨v,H',os,S0,un,U,r',q⟩:=h;have q':v=.bl O1:=q;subst q';obtain rfl:u=qB O1:=r';refine⟨rfl,OldK.of_keep λb o e=>?_,os,S0⟩;cases q:H b with
        |none=>exact un.keep b o e q (by intro z;exact NI (show b∈([]:List Addr) from z) .(1)) .(1)
        |some u=>
          rcases hO b with z | ⟨ob,xs,z⟩
          . rw[q] at z;cases z
          . have z2:=un.frzs b ob _ z
            obtain⟨e1,_⟩:=W b _ z;obtain⟨e2,_⟩:=U b _ z2;rw[e] at e1;cases e1;exact e2
  cases hk:K.lookup a with
  |some o=>
    have e:=KX a o hk;rw[ha] at e;cases e;refine L (λ_=>W1) (λ_=>.inl rfl) (.inr ⟨_,vs.toArray,_,hk,rfl,rfl,rfl,by rw[cr,T];exact hl,by simpa using rv⟩) (λb u z=>by have S:(W1:Option HO)=O0 u:=z;cases S) (λb z=>NI rfl z) λz=>NI rfl z
  |none=>
    refine L (λb=>if b=a then O0 (.frz { cls:=.type "list",data:=.seq vs.toArray } (.lst (ns.map V.int))) else W1) (λb=>?_) (.inl (.inr ⟨{ cls:=.type "list",data:=.seq vs.toArray },WH rfl⟩)) (λb u z=>?_) (λb z=>?_) λ_=>hk
    . by_cases G:b=a
      . exact .inr ⟨_,_,WH G⟩
      . exact .inl (ZH G)
    . by_cases G:b=a
      . have S:=(WH G).symm.trans z
        cases S;subst G;exact⟨ha,by rw[ay];exact hl,vs,_,rv,ha⟩
      . have S:=(ZH G).symm.trans z
        cases S
    . by_cases G:b=a
      . exact G
      . exact NI (ZH G) z
abbrev KOf {K:aI}{h:Heap}(_:K.In h):aI:=K
def oo(s:Stmt)(j:Nat):Stmt:=match s with
 |.ClassDef _ _ _ g _ _ _ _ _ _ _=>g.getD j (.Pass ⟨0,0,0,0⟩)
 |_=>.Pass ⟨0,0,0,0⟩
def Eg(s:Stmt):Arguments:=match s with
 |.FunctionDef _ a _ _ _ _ _ _ _ _=>a
 |_=>{ posonlyargs:=[],args:=[],vararg:=W1,kwonlyargs:=[],kw_defaults:=[],kwarg:=W1,defaults:=[] }
def Bf(s:Stmt):List Stmt:=match s with
 |.FunctionDef _ _ b _ _ _ _ _ _ _=>b
 |_=>[]
def Ab(s:Stmt):kS:=match s with
 |.FunctionDef _ _ _ _ _ _ sc _ _ _=>sc
 |_=>{ kind:=.function,names:=[],isGenerator:=O2,isCoroutine:=O2 }
abbrev CX0:CXT:=λ_ _ _ _ _ _=>False
abbrev E0:XK:=λ_ _ _=>False
def RD:Nf CX0 X E0:=λ_ _ _ _ _ _ _ h=>h.elim
structure Fun (K:aI) (x qual:Str) (st:Stmt) (f:Addr) (fd:lj):Prop where
 ex:∃(oc:ac) (od:Option Addr) (kV doc pm:ac) (an:Option Addr) (cdv ct:ac) (osl:Array (Option ac)),
  fd=ii x qual (Eg st) (Bf st) (Ab st) .none kV doc pm an cdv ct/\K.lookup f=O0 ⟨oc,od,.func fd,osl⟩/\pd K cdv qual=O1
 kp:ia K (.ref f)=O1
section
variable {K:aI}{base:Heap}
def Fun.ok{f:Addr}{k:Nat}{sp:Sp}(F:Fun K x qual st f fd)(S:bc N ps (Ab st))(len:∀vs H Q E,sp vs H Q E->vs.length=ps.length)(O:∀(cdv:ac) (A:aS) (g:List Env) (s:ah) (H:Hp) (vs:List V) (Q:VK) (E:XK),Room k (A.deeper (g9 qual (Ab st) s.heap.objs.size f cdv))->sp vs H Q E ->
   ∃t,UQ (Qr CX0 P w K mg base N qual (Ab st) f cdv A g s H E).nox (Bf st) t/\t { nx:=λ_ H'=>Q .non H',rt:=Q } (start N vs) H):hQ P w K mg base CX0 (k+1) f fd ps sp:=by
 obtain⟨Y,W,kV,L,U,an,cdv,Z,z,rfl,G,J⟩:=F.ex;refine gw G J S len λA g s H vs Q E I T=>?_;obtain⟨t,h,q⟩:=O cdv A g s H vs Q E I T;exact⟨t,h.nox,q⟩
def Fun.binds{f:Addr}(F:Fun K x qual st f fd)(h:∀(kV doc pm:ac) (an:Option Addr) (cdv ct:ac) (us:List ac),us.length=ps.length->wv (ii x qual (Eg st) (Bf st) (Ab st) .none kV doc pm an cdv ct) ⟨us,[]⟩=pure (ps.zip us)):MZ K fd ps []:=by
 obtain⟨Y,g,kV,doc,pm,an,cdv,ct,z,rfl,G,J⟩:=F.ex;exact .all (h kV doc pm an cdv ct)
def Sd{f:Addr}{kV:ac}(l:K.lookup f=O0 ⟨oc,od,.func (ii x qual (Eg st) (Bf st) (Ab st) .none kV doc pm an cdv ct),osl⟩)(c:pd K cdv qual=O1)(k:ia K (.ref f)=O1):Fun K x qual st f (ii x qual (Eg st) (Bf st) (Ab st) .none kV doc pm an cdv ct):=⟨⟨oc,od,kV,doc,pm,an,cdv,ct,osl,rfl,l,c⟩,k⟩
end
def Hk{A:aS}{k:Nat}(J:Room k A):A.units+1<bv:=nI (Nat.add_le_add_left (by decide:1<=64) _) J.units
section
def pv(i:Nat){x:Str}{g:Pos}(I:X.N[i]?=O0 x:=by rfl)(z:Xt X.env.scope x:=by first | exact df rfl | exact cq (df rfl) | exact cq (cq rfl))(G:(x==("__debug__":Str))=O2:=by decide)(J:(x==("__classdict__":Str))=O2:=by decide):PE X (.Name x g) (Sb i):=Yr I z G J
end
def VO{A B:Prop}(h:B):if O2=O1 then A else B:=by
 rw[ZH dc];exact h
def WU{A B:Prop}(h:A):if O1=O1 then A else B:=by
 rw[WH rfl];exact h
def ab(H g:Hp):Prop:=∀b o,H b=O0 o->g b=O0 o
def ab.refl(H:Hp):ab H H:=λ_ _ h=>h
def ab.trans{H2:Hp}(a:ab H H1)(b:ab H1 H2):ab H H2:=λc o h=>b c o (a c o h)
def ab.free(e:ab H H'){l:Addr}(h:H' l=IY):H l=IY:=by
 cases q:H l with
 |none=>rfl
 |some o=>
  rw[e l o q] at h;cases h
def ab.seq{K:aI}(e:ab H H')(h:NS K H a xs):NS K H' a xs:=by
 rcases h with (h | ⟨o,h⟩) | h
 .exact .inl (.inl (e _ _ h))
 .exact .inl (.inr ⟨o,e _ _ h⟩)
 .exact .inr h
def Pl(cells:List (Str×Addr)):List (Str×ly)->List (Str×Addr)->List (Str×Addr)
 |[],cs=>cs
 |y::r,cs=>if y.2==.free then Pl cells r ((y.1,(cells.lookup y.1).getD 0)::cs) else Pl cells r cs
theorem Sg{cells:List (Str×Addr)}{x:Str}{c:Addr}:∀{names:List (Str×ly)}{cs:List (Str×Addr)},(∀y∈names,y.2=.free ->∃c,cells.lookup y.1=O0 c) ->
  (Pl cells names cs).lookup x=O0 c->cs.lookup x=O0 c∨cells.lookup x=O0 c
 |[],_,_,h=>.inl h
 |y::r,cs,G,h=>by
  unfold Pl at h;split at h
  .rename_i I;have g:y.2=.free :=by simpa using I
   obtain⟨S,J⟩:=G y da g
   rcases Sg (λz O=>G z (ck _ O)) h with q | q
   .rw[bX] at q;split at q
    .rename_i e;have L:x=y.1:=by simpa using e
     rw[J] at q;subst L;right;rw[J];simpa using q
    .exact .inl q
   .exact .inr q
  .exact Sg (λz O=>G z (ck _ O)) h
theorem QK{cells:List (Str×Addr)}{x:Str}:∀{names:List (Str×ly)}{cs:List (Str×Addr)},(∃c,cs.lookup x=O0 c)->∃c,(Pl cells names cs).lookup x=O0 c
 |[],_,h=>h
 |y::r,cs,h=>by
  unfold Pl;split
  .apply QK;rw[bX];split
   .exact⟨_,rfl⟩
   .exact h
  .exact QK h
theorem K8{cells:List (Str×Addr)}{x:Str}:∀{names:List (Str×ly)}{cs:List (Str×Addr)},(x,ua)∈names->∃c,(Pl cells names cs).lookup x=O0 c
 |[],_,h=>by cases h
 |y::r,cs,h=>by
  unfold Pl
  rcases br.mp h with e | h
  .subst e;rw[WH (by rfl)];apply QK;rw[bX];simp
  .split
   .exact K8 h
   .exact K8 h
theorem aC{env:Env}:∀(names:List (Str×ly)) (cs:List (Str×Addr)),(∀y∈names,y.2=.free ->∃c,env.cells.lookup y.1=O0 c) ->
  (forIn names cs (λx r=>match x with
   | (name,g)=>if (g==ua)=O1 then do let a <-cellOf env name;pure (ub ((name,a)::r)) else pure (ub r)):Sem (List (Str×Addr)))=pure (Pl env.cells names cs)
 |[],_,_=>rfl
 | (n,k)::r,cs,L=>by
  have J:=λcs=>aC r cs (λz O=>L z (ck _ O));rw[List.forIn_cons]
  by_cases I:(k==ua)=O1
  .obtain⟨c,S⟩:=L (n,k) da (by simpa using I);have G:env.cells.lookup n=O0 c:=S;have e:cellOf env n=pure c:=by unfold cellOf;rw[G]
   simp only[I,VI,e];show (forIn r ((n,c)::cs) _:Sem _)=_;rw[J]
   conv=>rhs;unfold Pl
   simp only[I,VI,G,Option.getD_some]
  .simp only[I,WI];show (forIn r cs _:Sem _)=_;rw[J]
   conv=>rhs;unfold Pl
   simp only[I,WI];rfl
def M4(G:∀y∈scope.names,y.2=.free ->∃c,env.cells.lookup y.1=O0 c):closureFor scope env=pure (Pl env.cells scope.names []):=by
 have h:=aC (env:=env) scope.names [] G;unfold closureFor;show ((forIn scope.names [] _:Sem _) >>= λr=>pure r)=_;exact (RI (λm=>m >>= λr=>pure r) h)
theorem Fw{env:Env}{x:Str}{k:ly}:∀{names:List (Str×ly)},(names.map λ(n,k)=>if (k==ua&&env.scope.kind==.function&&env.kindOf n==O0 .cell) then (n,NameKind.cell) else (n,k)).lookup x=O0 k ->
  ∃k',(x,k')∈names/\(k'=k∨(k'=.free /\k=.cell))
 |[],h=>by simp at h
 | (n,g)::r,h=>by
  rw[ba] at h;have L:=@Fw env x k r
  by_cases J:(g==ua&&env.scope.kind==.function&&env.kindOf n==O0 .cell)=O1
  .simp only[J,VI] at h;rw[bX] at h;split at h
   .rename_i e;have O:x=n:=by simpa using e
    subst O;have z:g=.free :=by
     rw[eD,eD] at J;simpa using J.1.1
    cases h;exact⟨g,da,.inr ⟨z,rfl⟩⟩
   .obtain⟨k',I,G⟩:=L h;exact⟨k',ck _ I,G⟩
  .simp only[J,WI] at h;rw[bX] at h;split at h
   .rename_i e;have O:x=n:=by simpa using e
    subst O;cases h;exact⟨g,da,.inl rfl⟩
   .obtain⟨k',I,G⟩:=L h;exact⟨k',ck _ I,G⟩
def Br(g N:List Str):List Str:=N.map λy=>if y∈g then nv else y
abbrev Ds (t:Str) (N:List Str):List Str:=Br [t] N
abbrev Bg (X:Cx) (scope:kS) (N2:List Str) (s2:ah) (H2:Hp) (fp:List Addr):Cx:=
 { X with N:=N2,s₀:=s2,H₀:=H2,env:=compEnvC scope (Pl X.env.cells scope.names []) (s2.heap.objs.size+1) X.env,outer:=X.stack,ex:=fp,fn:=λ_=>O2,pn:=[],xe:=λ_ _=>False }
structure mr (X:Cx) (scope:kS) (ts:List Str):Prop where
 nocell:∀y∈scope.names,y.2≠.cell
 kind:scope.kind=.function
 names:∀y∈scope.names,y.2=.local ->scope.names.lookup y.1=O0 .local
 tl:∀t∈ts,scope.names.lookup t=O0 .local
 loc:∀y∈scope.names,y.2=.local ->y.1∈ts∨y.1∉X.N
 fre:∀y∈scope.names,y.2=.free ->X.env.kindOf y.1=O0 .cell ∨X.env.kindOf y.1=O0 .free
 emp:∀y∈scope.names,y.1≠nv
 nd:∀t∈ts,Uq (Br ts X.N++ts) t
section
variable {t:Str}{ts:List Str}
theorem mr.cells(c:mr X scope ts)(ok:X.Ok):∀y∈scope.names,y.2=.free ->∃c,X.env.cells.lookup y.1=O0 c:=λy g G=>ok.has y.1 (c.fre y g G)
def mr.sub(c:mr X scope ts)(ok:X.Ok){x:Str}{a:Addr}(h:(Pl X.env.cells scope.names []).lookup x=O0 a):X.env.cells.lookup x=O0 a:=by
 rcases Sg (c.cells ok) h with q | q
 .simp at q
 .exact q
theorem mr.inv{fp:List Addr}{h1:Heap}{tk:Nat}(c:mr X scope ts)(I:Inv X π σ H s)(hf:∀b∈fp,VT X π H b)(ho:∀b∈fp,∃o,s.heap.get? b=O0 o)(N1:h1.Ns (s.heap.objs.size+1) (λ_=>W1))(kp:∀b o,s.heap.get? b=O0 o->h1.get? b=O0 o)(Z:h1.get? s.heap.objs.size=O0 { cls:=.type "list",data:=.seq #[] }):
  Inv (Bg X scope (Br ts X.N++ts) s H fp) [] (σ++x8 ts.length W1) (gq H s.heap.objs.size (.lst [])) { s with heap:=h1,toks:=tk }:=by
 have L:∀b o,s.heap.get? b=O0 o->b<s.heap.objs.size:=λb o e=>bo e;have T0:(Bg X scope (Br ts X.N++ts) s H fp).Ok:=by
  refine⟨I.ok.mod,c.kind,I.ok.glob,I.ok.blt,lx _,λx y a h1 h2=>I.ok.inj x y a (c.sub I.ok h1) (c.sub I.ok h2),λx hx=>?_,λx a h _=>NI (show O2=O1 from h) dc,I.ok.hd,I.ok.frames,.inl rfl,λb W=>⟨?_,λx a h=>?_⟩,I.bs,d6 I.ok.bsz I.sz,λb o e W=>?_,λb W hs=>?_,I.stack,I.stkFree⟩
  .have X0:(nL scope X.env).names.lookup x=O0 .cell ∨(nL scope X.env).names.lookup x=O0 .free :=hx;have go:∀k,(nL scope X.env).names.lookup x=O0 k->(k=.cell ∨k=.free)->(x,ua)∈scope.names:=λk hk U=>by
    obtain⟨J,m,e⟩:=Fw hk
    rcases e with e | ⟨e,_⟩
    .subst e
     rcases U with z | z
     .exact NI z (c.nocell _ m)
     .rw[<-z];exact m
    .rw[<-e];exact m
   rcases X0 with h | h
   .exact K8 (go _ h (.inl rfl))
   .exact K8 (go _ h (.inr rfl))
  .obtain⟨o,e⟩:=ho b W;exact bS (mE (L b o e))
  .exact (hf b W).2.2.2.2.1 x a (c.sub I.ok h)
  .rcases (hf b W).2.2.2.1 with z | z
   .exact I.ok.noex b o e z
   .exact NI (eP (bo e) (d6 I.ok.bsz z)) (ka _)
  .rcases br.mp (I.stkSub b hs) with z | z
   .exact (hf b W).2.1 z
   .exact (hf b W).2.2.1 z
 have fr:H s.heap.objs.size=W1:=I.hok.fresh (aE _);have new:BX X.prog X.w (gq H s.heap.objs.size (.lst [])) h1 s.heap.objs.size (.lst []):=⟨eK _,[],0,.nil,Z⟩;refine⟨T0,rfl,I.bare,Un.laid kp (aE _) fr,⟨_,N1,λi x v e1 e2 e3=>?_⟩,λx a h=>?_,?_,λx a h=>?_,λp hp=>NI (show p∈([]:NY) from hp) .(1),I.hok.laid kp (aE _) new,?_⟩
 .have S0:(Br ts X.N++ts)[i]?=O0 x:=e1;have Y:i<σ.length:=by
   by_cases z:i<σ.length
   .exact z
   .rw[ja .(0),As] at e2;split at e2<;>cases e2
  have X1:σ[i]?=O0 (O0 v):=by rw[kr Y] at e2;exact e2
  have hN:i<X.N.length:=by rw[<-I.len];exact Y
  have g:(Br ts X.N)[i]?=O0 x:=by rw[kr (by unfold Br;rw[ay];exact hN)] at S0;exact S0
  unfold Br at g;rw[ca] at g;have U1:(nL scope X.env).names.lookup x=O0 .local ∨(nL scope X.env).names.lookup x=O0 .cell ∨(nL scope X.env).names.lookup x=O0 .free :=e3;have P1:∃J,(x,J)∈scope.names/\(J=.local ∨J=.free)/\(J=.free ->(nL scope X.env).names.lookup x=O0 .cell ∨(nL scope X.env).names.lookup x=O0 .free):=by
   rcases U1 with z | z | z
   .obtain⟨J,m,e⟩:=Fw z
    rcases e with e | ⟨_,e⟩
    .exact⟨J,m,.inl e,λq=>by rw[q] at e;cases e⟩
    .cases e
   .obtain⟨J,m,e⟩:=Fw z
    rcases e with e | ⟨e,_⟩
    .exact NI e (c.nocell _ m)
    .exact⟨J,m,.inr e,λ_=>.inl z⟩
   .obtain⟨J,m,e⟩:=Fw z
    rcases e with e | ⟨e,q⟩
    .exact⟨J,m,.inr e,λ_=>.inr z⟩
    .cases q
  cases ey:X.N[i]? with
  |none=>rw[ey] at g;cases g
  |some y=>
   rw[ey] at g;have O:(if y∈ts then nv else y)=x:=cy g;obtain⟨J,m,G,S1⟩:=P1
   by_cases T:y∈ts
   .rw[WH T] at O;exact NI O.symm (c.emp _ m)
   .rw[ZH T] at O;subst O
    rcases G with G | G
    .rcases c.loc _ m G with z | z
     .exact NI z T
     .exact NI (oS ey) z
    .have U:=c.fre _ m G;have S:X.env.kindOf y=O0 .cell ∨X.env.kindOf y=O0 .free :=U;obtain⟨mm,hn,hl⟩:=I.loc;have hv:Xt X.env.scope y:=by
      rcases S with z | z
      .exact .inr (.inl z)
      .exact .inr (.inr z)
     obtain⟨u,r,l⟩:=hl i y v ey X1 hv;refine⟨u,r,.inr ⟨S1 G,?_⟩⟩
     rcases l with ⟨kl,_⟩ | ⟨_,a,ea,hc⟩
     .rcases S with z | z
      .rw[kl] at z;cases z
      .rw[kl] at z;cases z
     .rw[G] at m;obtain⟨a',N0⟩:=K8 (cells:=X.env.cells) (cs:=[]) m;refine⟨a',N0,?_⟩;have:=c.sub I.ok N0;rw[ea] at this;cases this;obtain⟨o,e,d⟩:=hc;exact⟨o,kp _ _ e,d⟩
 .obtain⟨v,o,e,d⟩:=I.cell x a (c.sub I.ok h);exact⟨v,o,kp _ _ e,d⟩
 .show gq H s.heap.objs.size (.lst []) (s.heap.objs.size+1)=W1;rw[Al (IZ _)];exact I.hok.fresh (lx _)
 .have ha:=c.sub I.ok h;obtain⟨v,o,e,d⟩:=I.cell x a ha;rw[Al (bS (L _ _ e))];exact I.freeC x a ha
 .show (σ++x8 ts.length W1).length=(Br ts X.N++ts).length;unfold Br;rw[eA,eA,ay,I.len,xb]
def ZC(n:Nat)(wi:TI)(g:TG)(tc:TT)(te:TE):TE:=λO H Q=>wi O H λJ L=>∀p,L p=W1->∃W:Nat->Nat->List V->Hp->Prop,(∃m,W 0 m [] (gq L p (.lst []))) ∧
 ∀i m G H,W i m G H->(J.stop i H/\Q (.ref p) H)∨(J.go i H/\∀x Z,J.yld i H x Z->∀S:List (Option V),S.length=n->g x (O++S) Z λz L=>(∃T,z=O++T/\T.length=n)/\tc z L λb Y=>
  if b=O1 then te z Y λy U=>U p=O0 (.lst G)/\G.length<sizeLine/\∃I,I<m/\W (i+1) I (G++[y]) (gq U p (.lst (G++[y]))) else ∃I,I<m/\W (i+1) I G Y)
def PTs(X:Cx)(z:List Expr)(tc:TT):Prop:=
 ∀(G:NY) (s:ah) (g:St) (H:Hp) (Q:Bool->Hp->Prop),Inv X G g H s->tc g H Q ->
  ag (ai X.prog X.w) X.A (forIn z O1 λc r=>if r=O1 then do let ok <-oj c X.env (eval c X.env);pure (ub ok) else pure (ub r)) (TP X G g Q) X.xe s
def qO:PTs X [] (λ_ H Q=>Q O1 H):=λ_ _ _ H _ I h=>wpAny_tests_nil ⟨H,I,h⟩
def qP(h:PT X e tc):PTs X [e] tc:=λz s g H Q I q=>wpAny_tests_one (h z s g H Q I q)
variable {elt iter:Expr}{ifs:List Expr}{px:Pos}{wi:TI}{te:TE}{g:TG}
def ZD{A:aS}{R:oC->ah->Prop}{z G:ac}(J:Nat->ah->Prop)(E:ac->ah->Prop)(hE:E=notedBy (ai prog w) A env λe U=>R (.error e) U)(go:∀n s,J n s->ag (ai prog w) A (gE z) (λr s1=>match r with
      |none=>R (.ok .next) s1
      |some v=>ag (ai prog w) A (A6 tg z v) (λ_ s2=>ag (ai prog w) A (ng tg env v) (λ_ S=>
          ag (ai prog w) A (forIn ifs O1 λc r=>if r=O1 then do let ok <-oj c env (eval c env);pure (ub ok) else pure (ub r)) (λok I=>
            if ok=O1 then ag (ai prog w) A (eval elt env) (λx O=>ag (ai prog w) A (call (.builtin "list.append") [G,x]) (λ_ L=>∃m,m<n/\J m L) E O) E I else ∃m,m<n/\J m I) E S) E s2) E s1) E s)(n:Nat)(j0:J n s):gI (ai prog w) A (.compLoop (.ListComp elt [⟨tg,iter,ifs,0⟩] scope pos) 0 z G env) R s:=by
  subst hE;refine codeAny_loop rfl J (λn s Z=>?_) n j0;show ag _ A (Sem.onRaise (compTurn (.ListComp elt [⟨tg,iter,ifs,0⟩] scope pos) 0 z G env) (λx=>do noteFrame x env;theTreesLotGoes x)) _ _ s;refine wpAny_noted ?_;rw[compTurn_list];refine ae (Ap (ae (la (go n s Z) λr s1 q1=>?_)));cases r with
  |none=>exact av q1
  |some v=>
    refine ae (la q1 λ_ s2 q2=>ae (la q2 λ_ S q3=>ae (la q3 λok I T=>?_)));cases ok with
    |false=>exact av ⟨rfl,T⟩
    |true=>exact ae (ae (la T λx O Y=>ae (la Y λ_ L W=>av (av ⟨rfl,W⟩))))
def Sh{Q:VK}{fp:List Addr}{tn:Nat->Heap->Prop}{J:It}{RR:ac->Addr->oC->ah->Prop}(c:mr X scope ts)(hc:X.calm=O1)(I:Inv X π σ H s)(T:XO X.prog X.w X.K tg J fp it tn)(X2:tn 0 s.heap)(hf:∀b∈fp,VT X π H b)(hG:∀s2 H2 fp,PG (Bg X scope (Br ts X.N++ts) s2 H2 fp) tg g)(hI:∀s2 H2 fp,PTs (Bg X scope (Br ts X.N++ts) s2 H2 fp) ifs tc)(hE:∀s2 H2 fp,PE (Bg X scope (Br ts X.N++ts) s2 H2 fp) elt te)(h:∀p,H p=W1->∃W:Nat->Nat->List V->Hp->Prop,(∃m,W 0 m [] (gq H p (.lst []))) ∧
      ∀i m ys H,W i m ys H->(J.stop i H/\Q (.ref p) H)∨(J.go i H/\∀x H',J.yld i H x H'->∀os:List (Option V),os.length=ts.length->g x (σ++os) H' λX0 H1=>(∃o2,X0=σ++o2/\o2.length=ts.length)/\tc X0 H1 λb H2=>
        if b=O1 then te X0 H2 λy H3=>H3 p=O0 (.lst ys)/\ys.length<sizeLine/\∃m',m'<m/\W (i+1) m' (ys++[y]) (gq H3 p (.lst (ys++[y]))) else ∃m',m'<m/\W (i+1) m' ys H2))(f8:∀p C s' H' m,Inv X π σ H' s'->H' C=W1->C≠X.env.locals->X.s₀.heap.objs.size<=C->(∀x a,X.env.cells.lookup x=O0 a->a≠C)->(∀q∈X.pn++π,q.1≠C)->s'.heap.Ns C m->Q (.ref p) H'->RR (.ref p) C (.ok .next) s'):
    ag (ai X.prog X.w) X.A (xt []) (λN4 s₃=>ag (ai X.prog X.w) X.A (newFunctionEnv scope X.env.globals (Pl X.env.cells scope.names []) [] X.env.qual W1 .none (O0 X.env)) (λS0 Q2=>
      gI (ai X.prog X.w) X.A (.compStart (.ListComp elt [⟨tg,iter,ifs,0⟩] scope pos) 0 (.ref it) N4 { S0 with scope:=nL scope X.env }) (RR N4 S0.locals) Q2) E s₃) E s:=by
  refine kB (wpAny_newFunctionEnv c.nocell (by intro y hy;simp at hy) (λh₁ L G=>?_) c.kind);dsimp only at L G ⊢;generalize S1:s.heap.push { cls:=.type "list",dict:=W1,data:=.seq ([]:List ac).toArray }=G2 at L G ⊢;have hC:G2.objs.size=s.heap.objs.size+1:=by rw[<-S1,iO]
  rw[hC] at L G ⊢;have kp:∀b o,s.heap.get? b=O0 o->h₁.get? b=O0 o:=λb o e=>G.extBut b o (bS (mE (bo e))) (bn _ (S1▸bn _ e));have P3:h₁.get? s.heap.objs.size=O0 { cls:=.type "list",data:=.seq #[] }:=G.extBut _ _ (bS (tm _)) (bn _ (S1▸ce _ rfl));have P1:∀b∈fp,∃o,s.heap.get? b=O0 o:=λb O=>let ⟨o,e,_⟩:=T.obj 0 _ X2 b O;⟨o,e⟩;have I0:=c.inv (fp:=fp) (h1:=h₁) (tk:=s.toks+([]:List (Str×ac)).length) I hf P1 (by simpa using L) kp P3;have fr:H s.heap.objs.size=W1:=I.hok.fresh (aE _);obtain⟨W,⟨m0,w0⟩,X1⟩:=h _ fr;have U2:tn 0 h₁:=T.keep 0 _ _ X2 λb _ o e=>kp b o e;generalize S:Bg X scope (Br ts X.N++ts) s H fp=Y at I0;have N3:Y.calm=O1:=by rw[<-S];exact hc
  have U:∀{H':Hp},(∀b∈fp,H' b=W1)->∀b∈fp,VT Y [] H' b:=λ{H'} hn b O=>by
    obtain⟨o,e⟩:=P1 b O;refine⟨hn b O,?_,?_,.inl ?_,λx a e'=>?_,λp hp=>?_⟩
    . rw[<-S];exact bS (mE (bo e))
    . intro z
      exact I0.ok.exfs b (by rw[<-S];exact O) z
    . rw[<-S];exact O
    . exact (I0.ok.exf b (by rw[<-S];exact O)).2 x a e'
    . rw[<-S] at hp
      exact NI (show p∈([]:NY) from hp) .(1)
  have P9:∀b∈fp,gq H s.heap.objs.size (.lst []) b=W1:=λb O=>by
    obtain⟨o,e⟩:=P1 b O;rw[Al (bS (bo e))];exact (hf b O).1
  have Z:Y.env=compEnvC scope (Pl X.env.cells scope.names []) (s.heap.objs.size+1) X.env:=by rw[<-S]
  have pY:Y.prog=X.prog:=by rw[<-S]
  have wY:Y.w=X.w:=by rw[<-S]
  have aY:Y.A=X.A:=by rw[<-S]
  have kY:Y.K=X.K:=by rw[<-S]
  have xY:Y.xe=λ_ _=>False:=by rw[<-S]
  have u8:PTs Y ifs tc:=by rw[<-S];exact hI s H fp
  have r9:PE Y elt te:=by rw[<-S];exact hE s H fp
  have P8:PG Y tg g:=by rw[<-S];exact hG s H fp
  have N0:∀s₃:ah,s₃={ s with heap:=h₁,toks:=s.toks+([]:List (Str×ac)).length } ->
      gI (ai X.prog X.w) X.A (.compLoop (.ListComp elt [⟨tg,iter,ifs,0⟩] scope pos) 0 (.ref it) (.ref s.heap.objs.size) (compEnvC scope (Pl X.env.cells scope.names []) (s.heap.objs.size+1) X.env)) (RR (.ref s.heap.objs.size) (s.heap.objs.size+1)) s₃:=by
    rintro s₃ rfl;rw[<-Z];refine ZD (λn s'=>∃i ys os H',os.length=ts.length/\Inv Y [] (σ++os) H' s'/\tn i s'.heap/\(∀b∈fp,H' b=W1)/\W i n ys H') _ rfl ?_ m0 ⟨0,[],_,_,xb,I0,U2,P9,w0⟩;rintro n s3 ⟨i,ys,os,H3,P6,I3,T2,S3,w3⟩
    rcases X1 i n ys H3 w3 with ⟨S2,qn⟩ | ⟨go,step⟩
    . have d:=T.done Y pY wY kY N3 i [] s3 _ H3 (λ_ _=>False) I3 (U S3) T2 S2
      rw[aY] at d;refine hJ d (λr s4 q0=>?_) λ_ _ z=>z.elim;obtain⟨hr,I4⟩:=q0;subst hr;have cN:=I4.free;have X9:H3 (s.heap.objs.size+1)=W1:=by rw[Z] at cN;exact cN
      have un:=I4.base;obtain⟨m,hm,_⟩:=I4.loc;have P7:s4.heap.Ns (s.heap.objs.size+1) m:=by rw[Z] at hm;exact hm
      have P4:Un (frs X.stack) fp H H3 s.heap s4.heap:=by rw[<-S] at un;exact un
      have S4:s4.os=s.os:=by have:=I4.os;rw[<-S] at this;exact this
      have Y2:QN X.prog X.w H3 s4.heap:=by have:=I4.hok;rw[<-S] at this;exact this
      have U1:=I4.bare;have IX:Inv X π σ H3 s4:=I.call' S4 P4 Y2 U1 λb O=>⟨(hf b O).2.2.2.1,(hf b O).2.1,(hf b O).2.2.2.2.1,(hf b O).2.2.2.2.2⟩;refine f8 _ _ _ _ m IX X9 (ol (mE I.lt)) (d6 I.sz (lx _)) (λx a e z=>?_) (λq hq z=>?_) P7 qn
      . obtain⟨v,oc,e',_⟩:=I.cell x a e
        have q2:a<s.heap.objs.size:=bo e';have z':a=s.heap.objs.size+1:=z;exact NI (z'▸q2) (kG.mpr (lx _))
      . have q2:q.1<s.heap.objs.size:=bo (I.pin q hq).1
        have z':q.1=s.heap.objs.size+1:=z;exact NI (z'▸q2) (kG.mpr (lx _))
    . have d:=T.item Y pY wY kY N3 i [] s3 _ H3 (λ_ _=>False) I3 (U S3) T2 go
      rw[aY] at d;refine hJ d (λr s4 q9=>?_) λ_ _ z=>z.elim;obtain⟨u,hr,h4⟩:=q9;subst hr;refine hJ h4 (λ_ s4 p0=>?_) λ_ _ z=>z.elim;obtain⟨x,H5,I5,r5,y5,N1,N9⟩:=p0;have I5':=I5.pinned (U N9) (T.obj _ _ N1);have Y3:=P8 _ s4 _ H5 x u _ I5' r5 (step x H5 y5 os P6);rw[aY,pY,wY,xY] at Y3;refine hJ Y3 (λ_ s6 p9=>?_) λ_ _ z=>z.elim;obtain⟨σ6,H6,I6,⟨o2,e6,l6⟩,q⟩:=p9;subst e6;have Y1:=u8 _ s6 _ H6 _ I6 q;rw[aY,pY,wY,xY] at Y1;refine hJ Y1 (λb s7 g0=>?_) λ_ _ z=>z.elim;obtain⟨H7,I7,q7⟩:=g0;have T0:∀{H8:Hp}{s8:ah},Inv Y ([]++R9 fp s4.heap) (σ++o2) H8 s8->tn (i+1) s8.heap/\∀b∈fp,H8 b=W1:=λ{H8 s8} I8=>by
        refine⟨T.keep _ _ _ N1 λb O ob e=>(I8.pin (b,ob) (hU _ (hU _ (J6 O e)))).1,λb O=>?_⟩;obtain⟨ob,e,d⟩:=T.obj _ _ N1 b O;exact (I8.pin (b,ob) (hU _ (hU _ (J6 O e)))).2.1
      cases b with
      |false=>
        rw[ZH dc] at q7 ⊢;obtain⟨m',hm,w7⟩:=q7;obtain⟨t7,f7⟩:=T0 I7;exact⟨m',hm,i+1,ys,o2,H7,l6,I7.unpinned,t7,f7,w7⟩
      |true=>
        rw[WH rfl] at q7 ⊢;have ev:=r9 _ s7 _ H7 _ I7 q7;rw[aY,pY,wY,xY] at ev;refine hJ ev (λy s8 g9=>?_) λ_ _ z=>z.elim;obtain⟨yv,H8,I8,r8,r6,P5,m',hm,w8⟩:=g9;have ap:=Mg (X:=Y) _ s8 _ H8 (.ref s.heap.objs.size) [yv] (.ref s.heap.objs.size) [y] (λ_ H9=>H9=gq H8 s.heap.objs.size (.lst (ys++[yv]))) I8 rfl (.cons r8 .nil) ⟨_,ys,yv,rfl,rfl,r6,P5,rfl⟩;rw[aY,pY,wY,xY] at ap;refine hJ ap (λ_ s9 u0=>?_) λ_ _ z=>z.elim;obtain⟨_,H9,I9,_,e9⟩:=u0;subst e9;obtain⟨t9,f9⟩:=T0 I9;exact⟨m',hm,i+1,_,o2,_,l6,I9.unpinned,t9,f9,w8⟩
  exact codeAny_compStart_list (N0 _ rfl) (T.self X.A 0 _ _ _ U2 (N0 _ rfl))
theorem iT(c:mr X scope ts)(hc:X.calm=O1)(hi:PI X tg iter wi)(hG:∀s2 z fp,PG (Bg X scope (Br ts X.N++ts) s2 z fp) tg g)(hI:∀s2 z fp,PTs (Bg X scope (Br ts X.N++ts) s2 z fp) ifs tc)(hE:∀s2 z fp,PE (Bg X scope (Br ts X.N++ts) s2 z fp) elt te)(hs:∀x,lc iter X.env x=pure x:=by intro _;rfl):PE X (.ListComp elt [⟨tg,iter,ifs,0⟩] scope pos) (ZC ts.length wi g tc te):=by
 intro O s L H Q I h;rw[eval_ListComp];refine Jn (use:=W1) rfl hs (M4 (c.cells I.ok)) c.kind c.names (la (hi O s L H _ I h) λv s1 h1=>la h1 λN0 s2 h2=>?_);obtain⟨it,fp,tn,J,z,e,I2,T,G,f2,q⟩:=h2;subst e;refine Sh (Q:=Q) c hc I2 T G f2 hG hI hE q λp C U H' m I' n1 n2 n3 Z Y hm W=>?_;exact⟨m,hm,λh' S=>⟨.ref p,H',I'.turned (t':=U.toks) (λb o hb e=>(S.2 b hb).trans e) n1 (cf (cf n2)) (.inr n3) Z Y,rfl,W⟩⟩
theorem iU(c:mr X scope ts)(hc:X.calm=O1)(hN:X.N.Nodup)(W:X.N[i]?=O0 y)(hx:Loc X.env.scope y)(hi:PI X tg iter wi)(hG:∀s2 G fp,PG (Bg X scope (Br ts X.N++ts) s2 G fp) tg g)(hI:∀s2 G fp,PTs (Bg X scope (Br ts X.N++ts) s2 G fp) ifs tc)(hE:∀s2 G fp,PE (Bg X scope (Br ts X.N++ts) s2 G fp) elt te)(U:eJ (.ListComp elt [⟨tg,iter,ifs,0⟩] scope pos) (O0 (.Name y py)) spos.line X.env=pure O1:=by rfl)(hf:X.fn y=O1∨X.env.scope.names.lookup y=O0 .local :=by first | exact .inl rfl | exact .inr rfl | assumption)(hs:∀x,lc iter X.env x=pure x:=by intro _;rfl):
  PS X (.Assign [.Name y py] (.ListComp elt [⟨tg,iter,ifs,0⟩] scope pos) spos) (WJ (ZC ts.length wi g tc te) (Es i)):=by
 intro π s Z H D I h;rw[exec_Assign_Name_used _ _ _ _ U];refine ae (Ap (ae ?_));show ag _ X.A (do let _ <-comprehension (.ListComp elt [⟨tg,iter,ifs,0⟩] scope pos) scope X.env _ (xt []) O2 (eval iter X.env) (O0 (ng (.Name y py) X.env))) _ _ s;refine ae (hJ (Jn (use:=O0 (ng (.Name y py) X.env)) (Q:=λ_ S=>SP X π D .next S) rfl hs (M4 (c.cells I.ok)) c.kind c.names
  (la (hi π s Z H _ I h) λv s1 h1=>la h1 λN0 s2 h2=>?_)) (λ_ S hq=>av (av hq)) λ_ _ e=>e)
 obtain⟨it,fp,tn,J,G,e,I2,T,L,f2,q⟩:=h2;subst e;refine Sh (Q:=λx H1=>Es i x Z H1 D.nx) c hc I2 T L f2 hG hI hE q λp C S H' m I' n1 n2 n3 n4 n5 hm q'=>?_;show ag _ X.A (ng (.Name y py) X.env (.ref p)) _ _ _;refine Cb (U0 (v:=.ref p) I' hN W hx rfl (λs3 I3 v0=>?_) hf);obtain⟨a,sb,ha⟩:=v0;have Y:C≠a:=by
  rcases ha with z | z
  .rw[z];exact n2
  .exact cf (n4 _ _ z)
 exact⟨m,hm.sameBut sb Y,λh' O=>⟨_,H',I3.turned (t':=s3.toks) (λb o hb e=>(O.2 b hb).trans e) n1 n2 (.inr n3) n4 n5,q'⟩⟩
abbrev QL (X:Cx) (scope:kS) (t:Str):Prop:=mr X scope [t]
abbrev Sq (X:Cx) (scope:kS) (t:Str) (s2:ah) (H2:Hp) (fp:List Addr):Cx:=Bg X scope (Ds t X.N++[t]) s2 H2 fp
def Ss(L:Uq X.N x)(G:X.N[i]?=O0 x)(z:Loc X.env.scope x)(J:X.fn x=O1∨X.env.scope.names.lookup x=O0 .local):PG X (.Name x pos) (Es i):=by
 intro T s S H v u Q I r h;exact Cb (R7 I L G z r (λU O _=>⟨_,H,O,h⟩) J)
def gOne(c:QL X scope t)(S:ah)(z:Hp)(fp:List Addr):PG (Sq X scope t S z fp) (.Name t px) (Es X.N.length):=
 Ss (c.nd t (mI.mpr rfl)) (by show (Ds t X.N++[t])[X.N.length]?=O0 t;unfold Ds Br;rw[ja (by rw[ay];exact aE _),ay,rL];rfl) (.inl (AF (c.tl t (mI.mpr rfl)))) (.inr (AF (c.tl t (mI.mpr rfl))))
def ud(X:Cx)(L:TI):TI:=λz H R=>∃G,L z H G/\∀J I,z.length=X.N.length->G J I->R J I
def aD(Z:PI X tg iter wi):PI X tg iter (ud X wi):=λL s G H R I ⟨R0,h0,Y⟩=>
 la (Z L s G H R0 I h0) λv s1 h1=>la h1 (by rintro S s2 ⟨W,fp,O,J,z,e,I',T,U,f,r⟩;exact ⟨W,fp,O,J,z,e,I',T,U,f,Y J z I.len r⟩)
end
end L2
namespace PV
open PySem L2
set_option genInjectivity true in
inductive D where
 |non | bl (b:Bool) | int (i:Int) | str (x:Str) | tup (ds:List D) | lst (ds:List D)
 |dk (kvs:List (Key×D)) | dt (kvs:List (List Key×D)) | ob (c:Str) (fs:List (Str×D)) | adr (a:Addr) | exc (c:Str) (fs:List (Str×D)) | err (c:Str) (fs:List (Str×D)) | mem (F:List (List Key)->Int)
set_option genInjectivity true in
inductive Slot where
 |un | fz (d:D) | ow (d:D)
abbrev Rho:=List Slot
abbrev FE:=Rho->Option D
abbrev FA:=Rho->Option (List D)
abbrev FT:=Rho->Option Bool
abbrev FO:=Rho->Option (Option Int)
abbrev FI:=Rho->Option (List D)
def vF(i:Nat):FE:=λρ=>match ρ[i]? with | some (.fz d)=>O0 d | _=>W1
def vU(i:Nat):FE:=λρ=>match ρ[i]? with | some (.fz d)=>O0 d | some (.ow d)=>O0 d | _=>W1
def kF(d:D):FE:=λ_=>O0 d
def bF(g:D->D->Option D)(G z:FE):FE:=λρ=>(G ρ).bind λx=>(z ρ).bind λy=>g x y
def uF(g:D->Option D)(G:FE):FE:=λρ=>(G ρ).bind g
def wh(f:FE):FT:=λρ=>match f ρ with | some (.bl b)=>O0 b | _=>W1
def Zl(g:Int->Int->Option D):D->D->Option D:=λx y=>match x,y with | .int i,.int j=>g i j | _,_=>W1
instance (i j:Int):Decidable (CMul i j):=by unfold CMul;infer_instance
instance (i j:Int):Decidable (CDiv i j):=by unfold CDiv;infer_instance
instance (i j:Int):Decidable (CPow i j):=by unfold CPow;infer_instance
def SW:=Zl λi j=>O0 (.int (i-j))
def M5(i j:Int):Prop:=CMul i j∨(i6 i<=4194304/\i6 j<=4194304)
instance (i j:Int):Decidable (M5 i j):=by unfold M5;infer_instance
def CShl(i j:Int):Prop:=0<=j/\j<=1000000/\i6 i<=4194304
instance (i j:Int):Decidable (CShl i j):=by unfold CShl;infer_instance
def Sj:=Zl λi j=>if M5 i j then O0 (.int (i*j)) else W1
def IK:=Zl λi j=>if CDiv i j then O0 (.int (i/j)) else W1
def Nn:=Zl λi j=>if 0<j then O0 (.int (i%j)) else W1
def shlD:=Zl λi j=>if CShl i j then O0 (.int (i*2^j.toNat)) else W1
def shrD:=Zl λi j=>if 0<=j then O0 (.int (i/2^j.toNat)) else W1
def aF:=Zl λi j=>O0 (.int (tj i j))
def ltD:=Zl λi j=>O0 (.bl (decide (i<j)))
def leD:=Zl λi j=>O0 (.bl (decide (i<=j)))
def gtD:=Zl λi j=>O0 (.bl (decide (j<i)))
def geD:=Zl λi j=>O0 (.bl (decide (j<=i)))
def rz:D->D->Option D:=λx y=>match x,y with
 |.int i,.int j=>O0 (.int (i+j))
 |.str i,.str j=>if i.length+j.length<=sizeLine then O0 (.str (i++j)) else W1
 |.lst i,.lst j=>if i.length+j.length<=sizeLine then O0 (.lst (i++j)) else W1
 |_,_=>W1
def ZN(G z:FE):FE:=λρ=>match G ρ with | some (.bl O1)=>z ρ | some (.bl O2)=>O0 (.bl O2) | _=>W1
def orF(G z:FE):FE:=λρ=>match G ρ with | some (.bl O1)=>O0 (.bl O1) | some (.bl O2)=>z ρ | _=>W1
def notF(G:FE):FE:=λρ=>match G ρ with | some (.bl b)=>O0 (.bl (!b)) | _=>W1
def andT(G z:FT):FT:=λρ=>match G ρ with | some O1=>z ρ | some O2=>O0 O2 | none=>W1
def orT(G z:FT):FT:=λρ=>match G ρ with | some O1=>O0 O1 | some O2=>z ρ | none=>W1
def Pd(G:FT):FT:=λρ=>(G ρ).map (!·)
def truD:D->Option Bool
 |.non=>O0 O2
 |.bl b=>O0 b
 |.int i=>O0 (i != 0)
 |.str y=>if y.length<=sizeLine then O0 ((y.length:Int) != 0) else W1
 |.lst ds=>O0 (!ds.isEmpty)
 |.tup ds=>O0 (!ds.isEmpty)
 |_=>W1
def XW(f:FE):FT:=λρ=>(f ρ).bind truD
def ifF(t:FT)(G z:FE):FE:=λρ=>match t ρ with | some O1=>G ρ | some O2=>z ρ | none=>W1
def am:FA:=λ_=>O0 []
def Aa(G:FE)(fs:FA):FA:=λρ=>(G ρ).bind λd=>(fs ρ).map (d::·)
def OX(fs:FA):FE:=λρ=>(fs ρ).bind λds=>if ds.length<=sizeLine then O0 (.tup ds) else W1
def Cs(fs:FA):FE:=λρ=>(fs ρ).bind λds=>if ds.length<=sizeLine then O0 (.lst ds) else W1
def ixD:D->D->Option D:=λx y=>match x,y with
 |.lst ds,.int i=>atI ds i
 |.tup ds,.int i=>atI ds i
 |.str z,.int i=>if z.length<=sizeLine then (atI z.cps.toList i).map λc=>.str ⟨#[c]⟩ else W1
 |_,_=>W1
def noO:FO:=λ_=>O0 W1
def PY(f:FE):FO:=λρ=>match f ρ with | some (.int i)=>O0 (O0 i) | _=>W1
def OP{α:Type}(ds:List α)(z G:Option Int):List α:=(ds.drop (HT.sIx ds.length 0 z)).take (HT.sIx ds.length ds.length G-HT.sIx ds.length 0 z)
def cutS(z:Str)(g G:Option Int):Str:=⟨(OP z.cps.toList g G).toArray⟩
def slD(x:D)(g G:Option Int):Option D:=match x with
 |.lst ds=>O0 (.lst (OP ds g G))
 |.tup ds=>if HT.sIx ds.length 0 g=0/\HT.sIx ds.length ds.length G=ds.length then W1 else O0 (.tup (OP ds g G))
 |.str z=>if z.length<=sizeLine then O0 (.str (cutS z g G)) else W1
 |_=>W1
def slF(f:FE)(l h:FO):FE:=λρ=>(f ρ).bind λx=>(l ρ).bind λz=>(h ρ).bind λG=>slD x z G
def UX:D->Option V
 |.non=>O0 .non
 |.bl b=>O0 (.bl b)
 |.int i=>O0 (.int i)
 |.str x=>O0 (.str x)
 |_=>W1
def OS:List D->Option (List V)
 |[]=>O0 []
 |d::r=>(UX d).bind λv=>(OS r).map (v::·)
def inD(g:Bool):D->D->Option D:=λx y=>match x,y with
 |.str i,.str j=>O0 (.bl (if g then !(!(oy j i 0 j.length 1).isEmpty) else !(oy j i 0 j.length 1).isEmpty))
 |x,.lst ds=>(UX x).bind λv=>(OS ds).map λvs=>.bl (if g then !Yf v vs else Yf v vs)
 |x,.tup ds=>(UX x).bind λv=>(OS ds).map λvs=>.bl (if g then !Yf v vs else Yf v vs)
 |_,_=>W1
def NX(f:D->D->Option Bool):List D->List D->Option Bool
 |[],[]=>O0 O1
 |x::xs,y::g=>match f x y,NX f xs g with | some a,O0 b=>O0 (a&&b) | _,_=>W1
 |_,_=>W1
def flD(x y:D):Option Bool:=(UX x).bind λu=>(UX y).map λv=>To u v
def eqS(f:D->D->Option Bool):D->D->Option Bool
 |.lst xs,.lst g=>if xs.length=g.length then NX f xs g else O0 O2
 |.tup xs,.tup g=>if xs.length=g.length then NX f xs g else W1
 |x,y=>flD x y
def Ps:Nat->D->D->Option Bool
 |0=>flD
 |n+1=>eqS (Ps n)
def Tl(x y:D):Option Bool:=match x,y with
 |.int i,.int j=>O0 (decide (i=j))
 |.str i,.str j=>O0 (decide (i=j))
 |.bl i,.bl j=>O0 (decide (i=j))
 |.lst xs,.lst g=>if xs.length=g.length then NX (Ps 180) xs g else O0 O2
 |.tup xs,.tup g=>if xs.length=g.length then NX (Ps 180) xs g else W1
 |_,_=>W1
def MY(g:Bool)(x y:D):Option D:=(Tl x y).map λb=>.bl (if g then !b else b)
def Sk:D->Option D
 |.str y=>if y.length<=sizeLine then O0 (.int y.length) else W1
 |.lst ds=>O0 (.int ds.length)
 |.tup ds=>O0 (.int ds.length)
 |_=>W1
def YV:=Zl λi j=>O0 (.int (if j > i then j else i))
def minD:=Zl λi j=>O0 (.int (if j<i then j else i))
def iV:D->Option D
 |.lst ds=>O0 (.lst ds)
 |.tup ds=>O0 (.lst ds)
 |_=>W1
def seqI(f:FE):FI:=λρ=>match f ρ with | some (.lst ds)=>O0 ds | some (.tup ds)=>O0 ds | _=>W1
def Na(n:Nat):List D:=(bg n).map λ(i:Nat)=>.int i
def NV(f:FE):FI:=λρ=>match f ρ with | some (.int j)=>if -(2^62)<=j/\j<2^62 then O0 (Na j.toNat) else W1 | _=>W1
set_option genInjectivity true in
inductive Sz where
 |nx (ρ:Rho) | rt (d:D) (ρ:Rho) | bk (ρ:Rho) | ct (ρ:Rho)
abbrev FS:=Rho->Option Sz
def Si:FS:=λρ=>O0 (.nx ρ)
def dq(g L:FS):FS:=λρ=>match g ρ with | some (.nx z)=>L z | o=>o
def QO(t:FT)(g L:FS):FS:=λρ=>match t ρ with | some O1=>g ρ | some O2=>L ρ | none=>W1
def mf(i:Nat)(f:FE):FS:=λρ=>(f ρ).map λd=>.nx (ρ.set i (.fz d))
def fy(f:FE):FS:=λρ=>(f ρ).map λd=>.rt d ρ
def Gi(f:FE):FS:=λρ=>(f ρ).map λ_=>.nx ρ
def badF:FS:=λ_=>W1
def MX(b:D->FS):List D->FS
 |[],ρ=>O0 (.nx ρ)
 |d::r,ρ=>match b d ρ with
  |some (.nx z)=>MX b r z
  |some (.ct z)=>MX b r z
  |some (.bk z)=>O0 (.nx z)
  |some (.rt e z)=>O0 (.rt e z)
  |none=>W1
abbrev FG:=D->Rho->Option Rho
def Bx(i:Nat):FG:=λd ρ=>O0 (ρ.set i (.fz d))
def TR(tg:FG)(b:FS):D->FS:=λd ρ=>(tg d ρ).bind b
def Os(g:FI)(tg:FG)(b:FS):FS:=λρ=>(g ρ).bind λds=>MX (TR tg b) ds ρ
def Gm(c:FT)(b:FS):Nat->FS
 |0,_=>W1
 |n+1,ρ=>match c ρ with
  |some O2=>O0 (.nx ρ)
  |some O1=>(match b ρ with
   |some (.nx z)=>Gm c b n z
   |some (.ct z)=>Gm c b n z
   |some (.bk z)=>O0 (.nx z)
   |some (.rt e z)=>O0 (.rt e z)
   |none=>W1)
  |none=>W1
def An(g:List D->Option D)(fs:FA):FE:=λρ=>(fs ρ).bind g
def Ce(n:Nat)(ds:List D):Rho:=ds.map .fz++x8 (n-ds.length) .un
def jl(n g:Nat)(b:FS)(ds:List D):Option D:=if ds.length=g then (match b (Ce n ds) with | some (.rt d _)=>O0 d | some (.nx _)=>O0 .non | _=>W1) else W1
def Jo(ρ:Rho)(ga:FT)(fe:FE):List D->Option (List D)
 |[]=>O0 []
 |d::r=>match ga (ρ++[.fz d]) with
  |some O1=>(fe (ρ++[.fz d])).bind λy=>(Jo ρ ga fe r).map (y::·)
  |some O2=>Jo ρ ga fe r
  |none=>W1
def BW(g:FI)(ga:FT)(fe:FE):FE:=λρ=>(g ρ).bind λds=>if ds.length<=sizeLine then (Jo ρ ga fe ds).map .lst else W1
def rc:FT:=λ_=>O0 O1
def Ya(val:Nat->Int):Nat->Int
 |0=>val 0
 |k+1=>if val (k+1) > Ya val k then val (k+1) else Ya val k
def Fp:List D->Option (List Int)
 |[]=>O0 []
 |.int i::r=>(Fp r).map (i::·)
 |_::_=>W1
def aG(x y:D):Option D:=match x with
 |.lst ds=>(Fp ds).map λO=>if O=[] then y else .int (Ya (λi=>O.getD i 0) (O.length-1))
 |_=>W1
def M6:List D->Option (List Str)
 |[]=>O0 []
 |.str i::r=>(M6 r).map (i::·)
 |_::_=>W1
def tyD:D->Option String
 |.non=>O0 "NoneType"
 |.bl _=>O0 "bool"
 |.int _=>O0 "int"
 |.str _=>O0 "str"
 |.lst _=>O0 "list"
 |.tup _=>O0 "tuple"
 |_=>W1
def isiD(T:String)(x:D):Option D:=(tyD x).map λn=>.bl (n==T||(n=="bool"&&T=="int"))
def ltS(a b:Str):Bool:=decide (a.cps.toList<b.cps.toList)
def YY(x:Str):List Str->List Str
 |[]=>[x]
 |y::r=>if ltS x y then x::y::r else if x=y then y::r else y::YY x r
def Fx(xs:List Str):List Str:=xs.foldr YY []
def setW(i:Nat)(f:FE):FS:=λρ=>(f ρ).map λd=>.nx (ρ.set i (.ow d))
def YR(ρ:Rho)(i:Nat):Option D:=match ρ[i]? with | some (.ow d)=>O0 d | _=>W1
def ZI(x v:D):Option D:=match x with | .lst ds=>if ds.length<sizeLine then O0 (.lst (ds++[v])) else W1 | _=>W1
def mutF(g:D->D->Option D)(i:Nat)(f:FE):FS:=λρ=>(f ρ).bind λv=>(YR ρ i).bind λx=>(g x v).map λy=>.nx (ρ.set i (.ow y))
def frz1(ρ:Rho)(i:Nat):Rho:=match ρ[i]? with | some (.ow d)=>ρ.set i (.fz d) | _=>ρ
def fzS(z:List Nat)(g:FS):FS:=λρ=>g (z.foldl frz1 ρ)
end PV
namespace EX
open PySem PySem.Spec L2
open PyProof.Rows hiding St
def tbV:Option Addr->ac
 |none=>.none
 |some T=>.ref T
def ExcP(a C:Addr)(J g:Option Addr):Heap->Prop:=λh=>∃o vs,h.get? a=O0 o/\o.cls=.ref C/\o.dict=J/\o.data=.fields vs/\vs.size=6/\vs[1]?=O0 (tbV g)
abbrev excO (a C:Addr) (od tb:Option Addr):HO:=.ext (ExcP a C od tb)
end EX
namespace PV
open PySem PySem.Spec L2
open PyProof.Rows hiding St
structure Gx where
 K:aI
 cl:Str->Option Addr
 xcl:Str->Option Addr:=λ_=>W1
 lent:Option Addr:=W1
def Dj{K:aI}(e:ab H H')(h:NR K H a xs):NR K H' a xs:=by
 rcases h with (h | ⟨o,h⟩) | h
 .exact .inl (.inl (e _ _ h))
 .exact .inl (.inr ⟨o,e _ _ h⟩)
 .exact .inr h
def Ak(h:H p=W1)(o:HO):ab H (gq H p o):=λb u q=>by rw[Al (Df q h)];exact q
def FsV(fs:List (Str×V))(L:List (Str×D)):Prop:=fs.map (λp=>(p.1,O0 p.2))=L.map λp=>(p.1,UX p.2)
def XdA(H:Hp)(J:Option Addr)(fs:List (Str×V)):Prop:=match J with | some dx=>H dx=O0 (.xd fs) | none=>fs=[]
def XdA.mono{fs:List (Str×V)}(h:XdA H od fs)(s:ab H H'):XdA H' od fs:=by
 cases od with
 |none=>exact h
 |some dx=>exact s _ _ h
inductive im (G:Gx) (H:Hp):V->D->Prop
 |non:im G H .non .non
 |bl (b:Bool):im G H (.bl b) (.bl b)
 |int (i:Int):im G H (.int i) (.int i)
 |str (x:Str):im G H (.str x) (.str x)
 |tup {a:Addr}{xs:List V}{ds:List D}:NR G.K H a xs->xs.length=ds.length->(∀(i:Nat) x d,xs[i]?=O0 x->ds[i]?=O0 d->im G H x d)->im G H (.ref a) (.tup ds)
 |lst {a:Addr}{xs:List V}{ds:List D}:NS G.K H a xs->xs.length=ds.length->(∀(i:Nat) x d,xs[i]?=O0 x->ds[i]?=O0 d->im G H x d)->im G H (.ref a) (.lst ds)
 |dk {a:Addr}{o:Obj}{kvs:List (Key×V)}{kds:List (Key×D)}:H a=O0 (.frz o (.dK kvs))->kvs.map (·.1)=kds.map (·.1)->(∀(i:Nat) x d,(kvs.map (·.2))[i]?=O0 x->(kds.map (·.2))[i]?=O0 d->im G H x d)->im G H (.ref a) (.dk kds)
 |dt {a:Addr}{o:Obj}{kvs:List (List Key×V)}{kds:List (List Key×D)}:H a=O0 (.frz o (.dT kvs))->kvs.map (·.1)=kds.map (·.1)->(∀(i:Nat) x d,(kvs.map (·.2))[i]?=O0 x->(kds.map (·.2))[i]?=O0 d->im G H x d)->im G H (.ref a) (.dt kds)
 |adr (a:Addr):im G H (.ref a) (.adr a)
 |ob {a C dx:Addr}{c:Str}{fs:List (Str×V)}{gs:List (Str×D)}:G.cl c=O0 C->H a=O0 (.ins C dx fs)->fs.map (·.1)=gs.map (·.1)->(∀(i:Nat) x d,(fs.map (·.2))[i]?=O0 x->(gs.map (·.2))[i]?=O0 d->im G H x d)->im G H (.ref a) (.ob c gs)
 |err {a C:Addr}{od tb:Option Addr}{c:Str}{fs:List (Str×V)}{gs:List (Str×D)}:G.xcl c=O0 C->H a=O0 (EX.excO a C od tb)->XdA H od fs->FsV fs gs->im G H (.ref a) (.err c gs)
 |mem {a:Addr}{F:List (List Key)->Int}:H a=O0 (.mem F G.K)->im G H (.ref a) (.mem F)
def be(G:Gx)(H:Hp)(xs:List V)(ds:List D):Prop:=xs.length=ds.length/\∀(i:Nat) x d,xs[i]?=O0 x->ds[i]?=O0 d->im G H x d
theorem im.mono{G:Gx}{H z:Hp}{v:V}{d:D}(r:im G H v d)(s:ab H z):im G z v d:=by
 induction r with
 |non=>exact .non
 |bl b=>exact .bl b
 |int i=>exact .int i
 |str x=>exact .str x
 |tup h l _ g=>exact .tup (Dj s h) l g
 |lst h l _ g=>exact .lst (s.seq h) l g
 |dk h l _ g=>exact .dk (s _ _ h) l g
 |dt h l _ g=>exact .dt (s _ _ h) l g
 |adr a=>exact .adr a
 |ob c h l _ g=>exact .ob c (s _ _ h) l g
 |err c h q f=>exact .err c (s _ _ h) (q.mono s) f
 |mem h=>exact .mem (s _ _ h)
theorem be.mono{G:Gx}{H g:Hp}{xs:List V}{ds:List D}(r:be G H xs ds)(s:ab H g):be G g xs ds:=⟨r.1,λi x d a b=>(r.2 i x d a b).mono s⟩
def be.nil{G:Gx}:be G H [] []:=⟨rfl,λi x d h=>by simp at h⟩
def be.cons{G:Gx}{H:Hp}{x:V}{d:D}{xs:List V}{ds:List D}(r:im G H x d)(J:be G H xs ds):be G H (x::xs) (d::ds):=
 ⟨by simp[J.1],λi y e z g=>by
  cases i with
  |zero=>simp at z g;subst z;subst g;exact r
  |succ i=>simp at z g;exact J.2 i y e z g⟩
def be.uncons{G:Gx}{d:D}{ds:List D}(r:be G H xs (d::ds)):∃x ys,xs=x::ys/\im G H x d/\be G H ys ds:=by
 obtain⟨l,h⟩:=r;cases xs with
 |nil=>simp at l
 |cons x ys=>exact⟨x,ys,rfl,h 0 x d rfl rfl,by simpa using l,λi y e z g=>h (i+1) y e (by simpa using z) (by simpa using g)⟩
def be.nil_inv{G:Gx}(r:be G H xs []):xs=[]:=by
 have:=r.1;cases xs with
 |nil=>rfl
 |cons x g=>simp at this
def be.append{G:Gx}{ds es:List D}(a:be G H xs ds)(b:be G H ys es):be G H (xs++ys) (ds++es):=by
 refine⟨by rw[eA,eA,a.1,b.1],λi x d I z=>?_⟩
 by_cases g:i<xs.length
 .rw[kr g] at I;rw[kr (by rw[<-a.1];exact g)] at z;exact a.2 i x d I z
 .rw[ja (kG.mp g)] at I;rw[ja (by rw[<-a.1];exact kG.mp g),<-a.1] at z;exact b.2 _ x d I z
theorem be.drop{G:Gx}{ds:List D}(a:be G H xs ds)(n:Nat):be G H (xs.drop n) (ds.drop n):=
 ⟨by rw[re,re,a.1],λi x d z g=>by rw[DL] at z g;exact a.2 _ x d z g⟩
theorem be.take{G:Gx}{ds:List D}(a:be G H xs ds)(n:Nat):be G H (xs.take n) (ds.take n):=
 ⟨by rw[ic,ic,a.1],λi x d g I=>by
  rw[List.getElem?_take] at g I;split at g
  .rename_i z;rw[WH z] at I;exact a.2 _ x d g I
  .cases g⟩
def be.get{G:Gx}{ds:List D}(a:be G H xs ds){i:Nat}{d:D}(h:ds[i]?=O0 d):∃x,xs[i]?=O0 x/\im G H x d:=by
 have g:i<ds.length:=(iF.mp h).1;have W:i<xs.length:=by rw[a.1];exact g
 exact⟨xs[i],by simp[W],a.2 i _ d (by simp[W]) h⟩
theorem be.atI{G:Gx}{H:Hp}{xs:List V}{ds:List D}(a:be G H xs ds){i:Int}{d:D}(h:L2.atI ds i=O0 d):∃x,L2.atI xs i=O0 x/\im G H x d:=by
 unfold L2.atI at h ⊢;rw[<-a.1] at h;cases e:ixN xs.length i with
 |none=>rw[e] at h;cases h
 |some j=>
  rw[e] at h;obtain⟨x,z,g⟩:=a.get (show ds[j]?=O0 d from h);exact⟨x,z,g⟩
def bm(A:List Addr)(H:Hp):Hp:=λb=>if b∈A then W1 else H b
def BJ(s:ab H H'):ab (bm A H) (bm A H'):=λb o h=>by
 unfold bm at h ⊢;split at h
 .cases h
 .rename_i g;rw[ZH g];exact s b o h
def Am:ab (bm A H) H:=λb o h=>by
 unfold bm at h;split at h
 .cases h
 .exact h
def Ci(h:∀a∈A,a∈B):ab (bm B H) (bm A H):=λb o q=>by
 unfold bm at q ⊢;split at q
 .cases q
 .rename_i g;rw[ZH (λz=>g (h b z))];exact q
def Ax(h:p∉A):bm A H p=H p:=by unfold bm;rw[ZH h]
theorem Dt{o:HO}(h:p∈A):bm A (gq H p o)=bm A H:=by
 funext b;unfold bm
 by_cases g:b∈A
 .rw[WH g,WH g]
 .rw[ZH g,ZH g,Al (λe:b=p=>g (by rw[e];exact h))]
def NJ(G:Gx)(A:List Addr)(H:Hp)(a:Addr):D->Prop
 |.lst ds=>∃xs,H a=O0 (.lst xs)/\be G (bm A H) xs ds
 |.dk g=>∃kvs,H a=O0 (.dK kvs)/\kvs.map (·.1)=g.map (·.1)/\be G (bm A H) (kvs.map (·.2)) (g.map (·.2))
 |.dt g=>∃kvs,H a=O0 (.dT kvs)/\kvs.map (·.1)=g.map (·.1)/\be G (bm A H) (kvs.map (·.2)) (g.map (·.2))
 |.ob c L=>∃C dx fs,H a=O0 (.ins C dx fs)/\(G.cl c=O0 C/\fs.map (·.1)=L.map (·.1))/\be G (bm A H) (fs.map (·.2)) (L.map (·.2))
 |_=>False
theorem NJ.mono{G:Gx}{A:List Addr}{H I:Hp}{a:Addr}{d:D}(t:NJ G A H a d)(s:ab H I):NJ G A I a d:=by
 cases d with
 |lst z=>obtain⟨g,h,r⟩:=t;exact⟨g,s _ _ h,r.mono (BJ s)⟩
 |dk z=>obtain⟨g,h,k,r⟩:=t;exact⟨g,s _ _ h,k,r.mono (BJ s)⟩
 |dt z=>obtain⟨g,h,k,r⟩:=t;exact⟨g,s _ _ h,k,r.mono (BJ s)⟩
 |ob c L=>obtain⟨C,dx,g,h,k,r⟩:=t;exact⟨C,dx,g,s _ _ h,k,r.mono (BJ s)⟩
 |_=>exact t.elim
structure Nt (x:Option HO):Prop where
 ne:x≠W1
 tup:∀xs,x≠O0 (.tup xs)
def Nt.mono{x y:Option HO}(h:Nt x)(k:∀u,x=O0 u->y=O0 u):Nt y:=by
 cases x with
 |none=>exact NI rfl h.ne
 |some u=>rw[k u rfl];exact h
theorem Nt.lst{xs:List V}:Nt (O0 (.lst xs)):=⟨λz=>(nomatch z),λ_ z=>(nomatch z)⟩
theorem Nt.dK{xs:List (Key×V)}:Nt (O0 (.dK xs)):=⟨λz=>(nomatch z),λ_ z=>(nomatch z)⟩
theorem Nt.dT{xs:List (List Key×V)}:Nt (O0 (.dT xs)):=⟨λz=>(nomatch z),λ_ z=>(nomatch z)⟩
theorem Nt.ins{C dx:Addr}{xs:List (Str×V)}:Nt (O0 (.ins C dx xs)):=⟨λz=>(nomatch z),λ_ z=>(nomatch z)⟩
structure Pt (G:Gx) (A:List Addr) (σ:St) (H:Hp) (ρ:Rho):Prop where
 len:σ.length=ρ.length
 live:∀a∈A,Nt (H a)
 fz:∀(i:Nat) (d:D),ρ[i]?=O0 (.fz d)->∃v,σ[i]?=O0 (O0 v)/\im G (bm A H) v d
 ow:∀(i:Nat) (d:D),ρ[i]?=O0 (.ow d)->∃a,σ[i]?=O0 (O0 (.ref a))/\a∈A/\NJ G A H a d
 inj:∀(i j:Nat) (d e:D) (a:Addr),ρ[i]?=O0 (.ow d)->ρ[j]?=O0 (.ow e)->σ[i]?=O0 (O0 (.ref a))->σ[j]?=O0 (O0 (.ref a))->i=j
theorem Pt.mono{G:Gx}{A:List Addr}{g:St}{H z:Hp}{ρ:Rho}(o:Pt G A g H ρ)(s:ab H z):Pt G A g z ρ:=
 ⟨o.len,λa I=>(o.live a I).mono λu e=>s _ _ e,
  λi d h=>let ⟨v,h1,h2⟩:=o.fz i d h;⟨v,h1,h2.mono (BJ s)⟩,λi d h=>let ⟨a,h1,h2,h3⟩:=o.ow i d h;⟨a,h1,h2,h3.mono s⟩,o.inj⟩
def mu(G:Gx)(A:List Addr)(H:Hp)(v:V)(d:D):Prop:=im G (bm A H) v d∨∃a,v=.ref a/\NJ G A H a d
theorem mu.mono{G:Gx}{A:List Addr}{H g:Hp}{v:V}{d:D}(r:mu G A H v d)(s:ab H g):mu G A g v d:=by
 rcases r with r | ⟨a,e,r⟩
 .exact .inl (r.mono (BJ s))
 .exact .inr ⟨a,e,r.mono s⟩
theorem mu.lst{G:Gx}{A:List Addr}{H:Hp}{v:V}{ds:List D}(r:mu G A H v (.lst ds)):∃a xs,v=.ref a/\NS G.K H a xs/\be G (bm A H) xs ds:=by
 rcases r with r | ⟨a,e,xs,h,r⟩
 .cases r with
  |lst h l r=>exact⟨_,_,rfl,Am.seq h,l,r⟩
 .exact⟨a,xs,e,.of h,r⟩
theorem mu.tup{G:Gx}{A:List Addr}{H:Hp}{v:V}{ds:List D}(r:mu G A H v (.tup ds)):∃a xs,v=.ref a/\NR G.K H a xs/\be G (bm A H) xs ds:=by
 rcases r with r | ⟨a,e,r⟩
 .cases r with
  |tup h l r=>exact⟨_,_,rfl,Dj Am h,l,r⟩
 .exact r.elim
theorem mu.int{G:Gx}{i:Int}(r:mu G A H v (.int i)):v=.int i:=by
 rcases r with r | ⟨a,e,r⟩
 .cases r;rfl
 .exact r.elim
theorem mu.str{G:Gx}{i:Str}(r:mu G A H v (.str i)):v=.str i:=by
 rcases r with r | ⟨a,e,r⟩
 .cases r;rfl
 .exact r.elim
theorem mu.bl{G:Gx}{i:Bool}(r:mu G A H v (.bl i)):v=.bl i:=by
 rcases r with r | ⟨a,e,r⟩
 .cases r;rfl
 .exact r.elim
theorem mu.non{G:Gx}(r:mu G A H v .non):v=.non:=by
 rcases r with r | ⟨a,e,r⟩
 .cases r;rfl
 .exact r.elim
theorem mu.dk{G:Gx}{A:List Addr}{H:Hp}{v:V}{g:List (Key×D)}(r:mu G A H v (.dk g)):∃a kvs,v=.ref a/\Rd H a (.dK kvs)/\kvs.map (·.1)=g.map (·.1)/\be G (bm A H) (kvs.map (·.2)) (g.map (·.2)):=by
 rcases r with r | ⟨a,e,kvs,h,k,r⟩
 .cases r with
  |dk h k r=>
   refine⟨_,_,rfl,.inr ⟨_,Am _ _ h⟩,k,?_,r⟩;have:=RI eC k;rw[ay,ay] at this ⊢;exact this
 .exact⟨a,kvs,e,.of h,k,r⟩
def U8(live:∀a∈A,Nt (H a))(g:H p=W1)(o:HO):bm A (gq H p o) p=O0 o:=by
 rw[Ax (λz=>(live p z).ne g),Aj]
def Du{G:Gx}{ds:List D}(live:∀a∈A,Nt (H a))(z:H p=W1)(r:be G (bm A H) xs ds):im G (bm A (gq H p (.lst xs))) (.ref p) (.lst ds):=
 let q:=r.mono (BJ (Ak z (.lst xs)));.lst (.of (U8 live z _)) q.1 q.2
def Fq{G:Gx}{ds:List D}(live:∀a∈A,Nt (H a))(z:H p=W1)(r:be G (bm A H) xs ds):im G (bm A (gq H p (.tup xs))) (.ref p) (.tup ds):=
 let q:=r.mono (BJ (Ak z (.tup xs)));.tup (.of (U8 live z _)) q.1 q.2
def tF(G:Gx)(A:List Addr)(f:FE):TE:=λz H Q=>∃ρ d,Pt G A z H ρ/\f ρ=O0 d/\∀v g,ab H g->im G (bm A g) v d->Q v g
def tT(G:Gx)(A:List Addr)(f:FE):TE:=λz H Q=>∃ρ d,Pt G A z H ρ/\f ρ=O0 d/\∀v g,ab H g->mu G A g v d->Q v g
def PF(X:Cx)(G:Gx)(e:Expr)(f:FE):Prop:=∀⦃A⦄,PE X e (tF G A f)
def PU(X:Cx)(G:Gx)(e:Expr)(f:FE):Prop:=∀⦃A⦄,PE X e (tT G A f)
def Bt{t t':TE}(h:PE X e t)(w:∀σ H Q,t' σ H Q->t σ H Q):PE X e t':=λz s σ H Q I q=>h z s σ H Q I (w σ H Q q)
def PF.pu{G:Gx}{f:FE}(h:PF X G e f):PU X G e f:=λA=>Bt (@h A) (by rintro I H Q ⟨g,d,o,e,k⟩;exact ⟨g,d,o,e,λv z s r=>k v z s (.inl r)⟩)
def tFA(G:Gx)(A:List Addr)(f:FA):TA:=λz H Q=>∃ρ ds,Pt G A z H ρ/\f ρ=O0 ds/\∀vs g,ab H g->be G (bm A g) vs ds->Q vs g
def SV(X:Cx)(G:Gx)(es:List Expr)(f:FA):Prop:=∀⦃A⦄,PA X es (tFA G A f)
def ue{e:List Expr}{t t':TA}(h:PA X e t)(w:∀σ H Q,t' σ H Q->t σ H Q):PA X e t':=λg z s σ H Q I q=>h g z s σ H Q I (w σ H Q q)
def tFT(G:Gx)(A:List Addr)(f:FT):TT:=λz H Q=>∃ρ b,Pt G A z H ρ/\f ρ=O0 b/\∀g,ab H g->Q b g
def Sr(X:Cx)(G:Gx)(e:Expr)(f:FT):Prop:=∀⦃A⦄,PT X e (tFT G A f)
def PFW(X:Cx)(G:Gx)(e:Expr)(f:FT):Prop:=∀⦃A⦄,PW X e (tFT G A f)
def Xf{t t':TT}(h:PT X e t)(w:∀σ H Q,t' σ H Q->t σ H Q):PT X e t':=λz s σ H Q I q=>h z s σ H Q I (w σ H Q q)
def iW{t t':TT}(h:PW X e t)(w:∀σ H Q,t' σ H Q->t σ H Q):PW X e t':=λg z s σ H Q I q=>h g z s σ H Q I (w σ H Q q)
section
variable {G:Gx}{a b c:Expr}{fa fb:FE}
def wg(i:Nat){x:Str}(h:PE X (.Name x pos) (Sb i)):PF X G (.Name x pos) (vF i):=λA=>Bt h<|by
 rintro I H Q ⟨J,d,o,e,k⟩
 unfold vF at e;split at e
 .rename_i O L;cases e;obtain⟨v,z,g⟩:=o.fz i _ L;exact⟨v,z,k v H (ab.refl H) g⟩
 .cases e
theorem wj(i:Nat){x:Str}(h:PE X (.Name x pos) (Sb i)):PU X G (.Name x pos) (vU i):=λA=>Bt h<|by
 rintro J H Q ⟨O,d,o,e,k⟩
 unfold vU at e;split at e
 .rename_i I L;cases e;obtain⟨v,z,g⟩:=o.fz i _ L;exact⟨v,z,k v H (ab.refl H) (.inl g)⟩
 .rename_i I L;cases e;obtain⟨p,z,_,g⟩:=o.ow i _ L;exact⟨.ref p,z,k _ H (ab.refl H) (.inr ⟨p,rfl,g⟩)⟩
 .cases e
def IV{d:D}(h:PE X a (tC v))(r:im G (λ_=>W1) v d):PF X G a (kF d):=λA=>Bt h<|by
 rintro g H Q ⟨I,J,o,e,k⟩
 cases e;exact k v H (ab.refl H) (r.mono λb o z=>nomatch z)
def Su{i j}:PF X G (.Constant (.int i) j pos) (kF (.int i)):=IV v_ (.int i)
def Hl{b j}:PF X G (.Constant (.bool b) j pos) (kF (.bl b)):=IV yt (.bl b)
def iY{j}:PF X G (.Constant .none j pos) (kF .non):=IV wA .non
def wk{x j}:PF X G (.Constant (.str x) j pos) (kF (.str x)):=IV wB (.str x)
def Dk(G:Gx)(r:R2)(g:D->D->Option D):Prop:=∀(A:List Addr) (H:Hp) (x y:V) (dx I d:D) (Q:VK),(∀a∈A,Nt (H a))->mu G A H x dx->mu G A H y I->g dx I=O0 d->(∀v z,ab H z->im G (bm A z) v d->Q v z)->r x y H Q
def Rg{g:D->D->Option D}{ρ:Rho}{d:D}(h:bF g fa fb ρ=O0 d):∃x y,fa ρ=O0 x/\fb ρ=O0 y/\g x y=O0 d:=by
 unfold bF at h;cases I:fa ρ with
 |none=>rw[I] at h;cases h
 |some x=>
  rw[I] at h;cases z:fb ρ with
  |none=>simp[z] at h
  |some y=>simp[z] at h;exact⟨x,y,rfl,rfl,h⟩
def Sv{r:R2}{g:D->D->Option D}(s:Dk G r g){A:List Addr}{I:St}{H:Hp}{Q:VK}(h:tF G A (bF g fa fb) I H Q):tOp r (tT G A fa) (tT G A fb) I H Q:=by
 obtain⟨J,d,o,e,k⟩:=h;obtain⟨x,y,Z,Y,W⟩:=Rg e;exact⟨J,x,o,Z,λv H1 z U=>⟨J,y,o.mono z,Y,λu H2 S T=>s A H2 v u x y d Q ((o.mono z).mono S).live (U.mono S) T W λw H3 O L=>k w H3 (z.trans (S.trans O)) L⟩⟩
def Gn{op:Operator}{r:R2}{g:D->D->Option D}(z:NU X (i9 op) r)(s:Dk G r g)(ha:PU X G a fa)(hb:PU X G b fb):PF X G (.BinOp a op b pos) (bF g fa fb):=
 λA=>Bt (zG z (@ha A) (@hb A)) λ_ _ _ h=>Sv s h
def Vv{op:kz}{r:R2}{g:D->D->Option D}(z:NU X (de op) r)(s:Dk G r g)(ha:PU X G a fa)(hb:PU X G b fb)(I:fw op b=O2):PF X G (.Compare a [op] [b] pos) (bF g fa fb):=
 λA=>Bt (Z6 z (@ha A) (@hb A) I) λ_ _ _ h=>Sv s h
def Sw{f:FE}{ρ:Rho}{b:Bool}(h:wh f ρ=O0 b):f ρ=O0 (.bl b):=by
 unfold wh at h;split at h
 .rename_i e;cases h;exact e
 .cases h
def IW{op:kz}{r:R2}{g:D->D->Option D}(J:NU X (de op) r)(s:Dk G r g)(ha:PU X G a fa)(hb:PU X G b fb)(L:fw op b=O2):Sr X G (.Compare a [op] [b] pos) (wh (bF g fa fb)):=
 λA=>Xf (Z7 J (@ha A) (@hb A) L) λT H Q ⟨z,d,o,e,k⟩=>Sv s ⟨z,.bl d,o,Sw e,λv S I O=>by cases O;exact⟨d,rfl,k S I⟩⟩
def Oe{g:Int->Int->Option D}{x y d:D}(h:Zl g x y=O0 d):∃i j,x=.int i/\y=.int j/\g i j=O0 d:=by
 unfold Zl at h;split at h
 .exact⟨_,_,rfl,rfl,h⟩
 .cases h
def QM{g:Int->Int->V}{g':Int->Int->D}(e:∀i j H,im G H (g i j) (g' i j)):Dk G (YN g) (Zl λi j=>O0 (g' i j)):=by
 intro A H x y dx J d Q I rx z h k;obtain⟨i,j,rfl,rfl,h⟩:=Oe h;cases h;exact⟨i,j,rx.int,z.int,k _ H (ab.refl H) (e i j _)⟩
def Sy{C:Int->Int->Prop}{g:Int->Int->V}{g':Int->Int->D}[∀i j,Decidable (C i j)](e:∀i j H,im G H (g i j) (g' i j)):Dk G (rI C g) (Zl λi j=>if C i j then O0 (g' i j) else W1):=by
 intro A H x y dx O d Q I rx z h k;obtain⟨i,j,rfl,rfl,L⟩:=Oe h
 by_cases J:C i j
 .rw[WH J] at L;cases L;exact⟨i,j,rx.int,z.int,J,k _ H (ab.refl H) (e i j _)⟩
 .rw[ZH J] at L;cases L
def qQ:Dk G (YN λi j=>.int (i-j)) SW:=QM λi j H=>.int _
theorem M5.ok{i j:Int}(h:M5 i j):IntMulOk i j:=by
 rcases h with h | h
 .exact h.ok
 .exact IntMulOk.of_le h.1 h.2 .(2)
def qR:NU X (i9 .Mult) (rI M5 λi j=>.int (i*j)):=opI λ_ _ _ _ _ _ _ J q=>mul_int q J.ok
def Vw:NU X (i9 .LShift) (rI CShl λi j=>.int (i*2^j.toNat)):=opI λi j _ _ _ _ _ J q=>lshift_int J.1 (by have z:=J.2.1;have g:=J.2.2;omega) q
def qT:Dk G (rI M5 λi j=>.int (i*j)) Sj:=Sy λi j H=>.int _
def iZ:Dk G (rI CDiv λi j=>.int (i/j)) IK:=Sy λi j H=>.int _
theorem qU:Dk G (rI (λ_ j=>0<j) λi j=>.int (i%j)) Nn:=Sy (C:=λ_ j=>0<j) λi j H=>.int _
def Vx:Dk G (rI CShl λi j=>.int (i*2^j.toNat)) shlD:=Sy λi j H=>.int _
theorem aH:Dk G (rI (λ_ j=>0<=j) λi j=>.int (i/2^j.toNat)) shrD:=Sy (C:=λ_ j=>0<=j) λi j H=>.int _
def Xg:Dk G (YN λi j=>.int (tj i j)) aF:=QM λi j H=>.int _
def ie:Dk G (YN λi j=>.bl (decide (i<j))) ltD:=QM λi j H=>.bl _
def wu:Dk G (YN λi j=>.bl (decide (i<=j))) leD:=QM λi j H=>.bl _
def ww:Dk G (YN λi j=>.bl (decide (j<i))) gtD:=QM λi j H=>.bl _
def wy:Dk G (YN λi j=>.bl (decide (j<=i))) geD:=QM λi j H=>.bl _
def uf(K:aI):R2:=λx y H Q=>∃l b xs g,x=.ref l/\y=.ref b/\NS K H l xs/\NS K H b g/\xs.length+g.length<=sizeLine/\∀p,H p=W1->Q (.ref p) (gq H p (.lst (xs++g)))
theorem qW:NU X (i9 .Add) (uf X.K):=by
 intro π s σ H x y v u Q I rx ry h;obtain⟨l,b,xs,zs,rfl,rfl,hl,hb,hz,q⟩:=h;cases rx;cases ry;obtain⟨J,r,pl,z⟩:=I.list hl;obtain⟨g,Z,U,z2⟩:=I.list hb;have e1:=r.length;have e2:=Z.length;obtain⟨⟨cls,dd,N0,sl⟩,ho,hc,n,hd⟩:=pl.isList;obtain⟨⟨S0,W,Y,T⟩,L,S,n2,O⟩:=U.isList;simp only at hc hd S O;subst hc hd S O;refine Au ⟨_,ho,rfl⟩ ⟨_,L,rfl⟩ noFill_list_add seq_list_add PySem.F.slot_list_add PySem.F.entry_list_add (PySem.F.args_list_add_2 _ _) (list_addW l b J.toArray g.toArray n n2 dd W sl T (by rw[cr,cr];omega)) ⟨ho,L,?_⟩;have ea:J.toArray++g.toArray=(J++g).toArray:=by simp
 rw[ea];exact⟨.ref _,_,I.lnew (t':=s.toks) (r.append Z) (by rw[eA];omega),rfl,q _ I.fresh⟩
def rAdd(K:aI):R2:=λx y H Q=>(YN λi j=>.int (i+j)) x y H Q∨((λx y H Q=>∃i j,x=.str i/\y=.str j/\i.length+j.length<=sizeLine/\Q (.str (i++j)) H) x y H Q∨uf K x y H Q)
def qX:NU X (i9 .Add) (rAdd X.K):=wL.or (Yy.or qW)
def qY:Dk G (rAdd G.K) rz:=by
 intro A H x y dx Y d Q T rx g h k;unfold rz at h;split at h
 .cases h;exact .inl ⟨_,_,rx.int,g.int,k _ H (ab.refl H) (.int _)⟩
 .split at h
  .rename_i O;cases h;exact .inr (.inl ⟨_,_,rx.str,g.str,O,k _ H (ab.refl H) (.str _)⟩)
  .cases h
 .split at h
  .rename_i O;cases h;obtain⟨l,S,rfl,W,I⟩:=rx.lst;obtain⟨m,L,rfl,U,z⟩:=g.lst;exact .inr (.inr ⟨l,m,S,L,rfl,rfl,W,U,by rw[I.1,z.1];exact O,λp J=>k _ _ (Ak J _) (Du T J (I.append z))⟩)
  .cases h
 .cases h
def Vy{op:BoolOp}(h:PF X G a fa):PF X G (.BoolOp op [a] pos) fa:=λA=>wF (@h A)
def S5{il:List Expr}(ha:PF X G a fa)(hb:PF X G (.BoolOp .And (b::il) pos) fb):PF X G (.BoolOp .And (a::b::il) pos) (ZN fa fb):=λA=>Bt (wG (@ha A) (@hb A))<|by
 rintro U H Q ⟨g,d,o,e,k⟩
 unfold ZN at e;split at e
 .rename_i J;refine⟨g,_,o,J,λv L z I=>?_⟩;cases I;refine⟨O1,rfl,?_⟩;rw[WH rfl];exact⟨g,d,o.mono z,e,λv T S O=>k v T (z.trans S) O⟩
 .rename_i J;refine⟨g,_,o,J,λv L z I=>?_⟩;cases I;refine⟨O2,rfl,?_⟩;rw[ZH dc];cases e;exact k _ L z (.bl O2)
 .cases e
def zV{il:List Expr}(ha:PF X G a fa)(hb:PF X G (.BoolOp .Or (b::il) pos) fb):PF X G (.BoolOp .Or (a::b::il) pos) (orF fa fb):=λA=>Bt (y_ (@ha A) (@hb A))<|by
 rintro U H Q ⟨g,d,o,e,k⟩
 unfold orF at e;split at e
 .rename_i J;refine⟨g,_,o,J,λv L z I=>?_⟩;cases I;refine⟨O1,rfl,?_⟩;rw[WH rfl];cases e;exact k _ L z (.bl O1)
 .rename_i J;refine⟨g,_,o,J,λv L z I=>?_⟩;cases I;refine⟨O2,rfl,?_⟩;rw[ZH dc];exact⟨g,d,o.mono z,e,λv T S O=>k v T (z.trans S) O⟩
 .cases e
def wz(ha:PF X G a fa):PF X G (.UnaryOp .Not a pos) (notF fa):=λA=>Bt (wH (@ha A))<|by
 rintro O H Q ⟨g,d,o,e,k⟩
 unfold notF at e;split at e
 .rename_i b J;refine⟨g,_,o,J,λv L z I=>?_⟩;cases I;cases e;exact⟨b,rfl,k _ L z (.bl _)⟩
 .cases e
variable {ga gb:FT}
theorem PFW.pt(h:PFW X G a ga):Sr X G a ga:=λA=>(@h A).pt
def ZF(h:Sr X G a ga):PFW X G (.BoolOp .And [a] pos) ga:=λA=>pW (@h A)
def Hv(h:Sr X G a ga):PFW X G (.BoolOp .Or [a] pos) ga:=λA=>gG (@h A)
def qZ{il:List Expr}(ha:Sr X G a ga)(hb:PFW X G (.BoolOp .And (b::il) pos) gb):PFW X G (.BoolOp .And (a::b::il) pos) (andT ga gb):=λA=>iW (wC (@ha A) (@hb A))<|by
 rintro O H Q ⟨g,d,o,e,k⟩
 unfold andT at e;split at e
 .rename_i I;exact⟨g,_,o,I,λJ z=>WU ⟨g,d,o.mono z,e,λL S=>k L (z.trans S)⟩⟩
 .rename_i I;cases e;exact⟨g,_,o,I,λJ z=>VO (k J z)⟩
 .cases e
def Ng{il:List Expr}(ha:Sr X G a ga)(hb:PFW X G (.BoolOp .Or (b::il) pos) gb):PFW X G (.BoolOp .Or (a::b::il) pos) (orT ga gb):=λA=>iW (uV (@ha A) (@hb A))<|by
 rintro O H Q ⟨g,d,o,e,k⟩
 unfold orT at e;split at e
 .rename_i I;cases e;exact⟨g,_,o,I,λJ z=>WU (k J z)⟩
 .rename_i I;exact⟨g,_,o,I,λJ z=>VO ⟨g,d,o.mono z,e,λL S=>k L (z.trans S)⟩⟩
 .cases e
def JN(ha:Sr X G a ga):Sr X G (.UnaryOp .Not a pos) (Pd ga):=λA=>Xf (wD (@ha A))<|by
 rintro L H Q ⟨z,d,o,e,k⟩
 unfold Pd at e;cases g:ga z with
 |none=>rw[g] at e;cases e
 |some b=>rw[g] at e;cases e;exact⟨z,b,o,g,λJ I=>k J I⟩
def RG{I z:Type}{xs:List I}{g:List z}(h:xs.length=g.length):xs.isEmpty=g.isEmpty:=by
 cases xs<;>cases g<;>simp at h ⊢
def Hn(ha:PU X G a fa)(W:G.K=X.K)(U:∀whole,oj a X.env whole=(do let v <-whole;nh a.pos;li [v] (truthy v)):=by intro _;rfl):Sr X G a (λρ=>(fa ρ).bind truD):=λA=>Xf (gU (@ha A) U)<|by
 rintro σ H Q ⟨ρ,b,o,e,k⟩
 cases L:fa ρ with
 |none=>simp[L] at e
 |some d=>
  have O:truD d=O0 b:=by simpa [L] using e
  refine⟨ρ,d,o,L,λv Z S g=>⟨b,?_,k Z S⟩⟩;rw[<-W];cases d with
  |non=>rw[g.non];exact (cy O).symm
  |bl b'=>rw[g.bl];exact (cy O).symm
  |int i=>rw[g.int];exact (cy O).symm
  |str y=>
   rw[g.str];simp only[truD] at O;split at O
   .rename_i T;exact⟨T,(cy O).symm⟩
   .cases O
  |lst Y=>
   obtain⟨p,z,rfl,J,I⟩:=g.lst;refine .inl ⟨z,J,?_⟩;rw[RG I.1];exact (cy O).symm
  |tup Y=>
   obtain⟨p,z,rfl,J,I⟩:=g.tup;refine .inr (.inl ⟨z,J,?_⟩);rw[RG I.1];exact (cy O).symm
  |_=>cases O
def aJ(ht:Sr X G c ga)(ha:PF X G a fa)(hb:PF X G b fb):PF X G (.IfExp c a b pos) (ifF ga fa fb):=λA=>Bt (gH (@ht A) (@ha A) (@hb A))<|by
 rintro T H Q ⟨g,d,o,e,k⟩
 unfold ifF at e;split at e
 .rename_i I;exact⟨g,_,o,I,λL z=>WU ⟨g,d,o.mono z,e,λv J S O=>k v J (z.trans S) O⟩⟩
 .rename_i I;exact⟨g,_,o,I,λL z=>VO ⟨g,d,o.mono z,e,λv J S O=>k v J (z.trans S) O⟩⟩
 .cases e
variable {es:List Expr}{fs:FA}
def Ac:SV X G [] am:=λA=>ue Dq<|by rintro g H Q ⟨z,I,o,e,k⟩;cases e;exact k [] H (ab.refl H) be.nil
def Af(ha:PF X G a fa)(hr:SV X G es fs)(hs:aw (a::es) X.env=(O2,eval a X.env)::aw es X.env:=by rfl):SV X G (a::es) (Aa fa fs):=λA=>ue (Bw (@ha A) (@hr A) hs)<|by
 rintro W H Q ⟨g,Z,o,e,k⟩
 unfold Aa at e;cases z:fa g with
 |none=>simp[z] at e
 |some d=>
  cases I:fs g with
  |none=>simp[z,I] at e
  |some J=>
   simp[z,I] at e;subst e;exact⟨g,d,o,z,λv H1 L T=>⟨g,J,o.mono L,I,λY U S O=>k _ U (L.trans S) (.cons (T.mono (BJ S)) O)⟩⟩
def HQ{x1}(h:SV X G es fs):PF X G (.Tuple es x1 pos) (OX fs):=λA=>Bt (Y7 (@h A))<|by
 rintro U H Q ⟨I,d,o,e,k⟩
 unfold OX at e;cases g:fs I with
 |none=>simp[g] at e
 |some z=>
  rw[g] at e;have O:(if z.length<=sizeLine then O0 (D.tup z) else W1)=O0 d:=e;split at O
  .rename_i T;cases O;exact⟨I,z,o,g,λW Y J L=>⟨by rw[L.1];exact T,λp S=>k _ _ (J.trans (Ak S _)) (Fq (o.mono J).live S L)⟩⟩
  .cases O
def Dv(h:SV X G es fs):PF X G (.List es pos) (Cs fs):=λA=>Bt (gj (@h A))<|by
 rintro U H Q ⟨I,d,o,e,k⟩
 unfold Cs at e;cases g:fs I with
 |none=>simp[g] at e
 |some z=>
  rw[g] at e;have O:(if z.length<=sizeLine then O0 (D.lst z) else W1)=O0 d:=e;split at O
  .rename_i T;cases O;exact⟨I,z,o,g,λW Y J L=>⟨by rw[L.1];exact T,λp S=>k _ _ (J.trans (Ak S _)) (Du (o.mono J).live S L)⟩⟩
  .cases O
def ig:Dk G (rIx G.K) ixD:=by
 intro A H x y dx W d Q U rx I h k;unfold ixD at h;split at h
 .obtain⟨p,g,rfl,S,J⟩:=rx.lst;obtain⟨v,L,O⟩:=J.atI h;exact .inl ⟨p,g,_,v,rfl,I.int,S,L,k v H (ab.refl H) O⟩
 .obtain⟨p,g,rfl,S,J⟩:=rx.tup;obtain⟨v,L,O⟩:=J.atI h;exact .inr (.inl ⟨p,g,_,v,rfl,I.int,S,L,k v H (ab.refl H) O⟩)
 .split at h
  .rename_i z i T;cases e:atI z.cps.toList i with
   |none=>rw[e] at h;cases h
   |some c=>
    rw[e] at h;cases h;exact .inr (.inr ⟨z,i,c,rx.str,I.int,T,e,k _ H (ab.refl H) (.str _)⟩)
  .cases h
 .cases h
theorem zW(W:G.K=X.K)(ha:PU X G a fa)(hb:PU X G b fb)(hs:OD b):PF X G (.Subscript a b pos) (bF ixD fa fb):=
 λA=>Bt (uY (r:=rIx X.K) h_ (@ha A) (@hb A) hs) λ_ _ _ h=>Sv (by rw[<-W];exact ig) h
def tFO(G:Gx)(A:List Addr)(f:FO):TO:=λz H Q=>∃ρ o,Pt G A z H ρ/\f ρ=O0 o/\∀g,ab H g->Q o g
def PFO(X:Cx)(G:Gx)(e:Option Expr)(f:FO):Prop:=∀⦃A⦄,PO X e (tFO G A f)
def ug{e:Option Expr}{t t':TO}(h:PO X e t)(w:∀σ H Q,t' σ H Q->t σ H Q):PO X e t':=λz s σ H Q I q=>h z s σ H Q I (w σ H Q q)
def K9:PFO X G W1 noO:=λA=>ug qI<|by rintro g H Q ⟨z,o,ok,e,k⟩;cases e;exact k H (ab.refl H)
def Ia(h:PU X G a fa):PFO X G (O0 a) (PY fa):=λA=>ug (qJ (@h A))<|by
 rintro O H Q ⟨g,o,ok,e,k⟩
 unfold PY at e;split at e
 .rename_i i J;cases e;exact⟨g,_,ok,J,λv L z I=>⟨i,I.int,k L z⟩⟩
 .cases e
def be.cut{ds:List D}(r:be G H xs ds)(z g:Option Int):be G H (Zp xs z g) (OP ds z g):=by
 unfold Zp OP;rw[r.1];exact (r.drop _).take _
end
end PV
def L2.Room.unitsW{k:Nat}{A:PySem.Around}(r:L2.Room k A):A.units+190<PySem.cLine:=by have:=r.un;omega
namespace PV
open PySem PySem.Spec L2
open PyProof.Rows hiding St
section
variable {G:Gx}{a b c:Expr}{fa fb:FE}
section
open Builtin.Str
def Xh(n:Nat)(v:Option Int)(d:Nat)(z:d<=n):(match v with | none=>(d:Int) | some i=>max 0 (min (if i<0 then i+(n:Int) else i) (n:Int)))=(HT.sIx n d v:Int):=by
 cases v with
 |none=>rfl
 |some i=>
  simp only[HT.sIx];split<;>omega
def qb(n d:Nat)(v:Option Int)(z:d<=n):HT.sIx n d v<=n:=by
 cases v with
 |none=>exact z
 |some i=>simp only[HT.sIx];split<;>omega
theorem ZG(z g:Option Int)(n:Nat):strSliceIndices z g 1 n=(bg (HT.sIx n n g-HT.sIx n 0 z)).map (λk=>HT.sIx n 0 z+k):=by
 have O:=Xh n z 0 (eK _);have L:=Xh n g n (aE _);have I:((1:Int) > 0):=by decide
 have e:strSliceIndices z g 1 n=DM (HT.sIx n 0 z:Int) (HT.sIx n n g:Int) 1:=by
  unfold strSliceIndices;simp only[I,VI];exact congrFun (congr (RI DM O) L) 1
 rw[e];unfold DM;simp only[I,VI];generalize HT.sIx n 0 z=a;generalize HT.sIx n n g=b;have J:(if (a:Int)<(b:Int) then ((b:Int)-a+1-1)/1 else 0).toNat=b-a:=by
  split
  .rw[IB];omega
  .omega
 rw[J];apply kH;intro k _;omega
theorem dh(x:Str)(z hi:Option Int):AG x z hi=cutS x z hi:=by
 have U:=qb x.length x.length hi (aE _);have L:x.cps.toList.length=x.length:=by simp[DE]
 unfold AG cutS OP;rw[ZG,L];generalize HT.sIx x.length 0 z=a at *;generalize HT.sIx x.length x.length hi=b at *;rw[ay,mN];split
 .rename_i h;simp only[eD,UI] at h;have O:b-a=x.length:=h.2
  by_cases W:x.length=0
  .have:x.cps.toList=[]:=pj.mp .(0);cases x with
   |mk c=>
    simp at this;subst this;simp
  .have S:a=0:=by omega
   subst S;have:b=x.length:=by omega
   subst this;rw[JA,Nat.sub_zero,DO .(0)]
 .congr 1;apply RI;apply JE;intro i;rw[Da];have g:∀m,m<=b-a->(List.filterMap ((λk=>x.cps[k]?) ∘ λk=>a+k) (bg m))=((x.cps.toList.drop a).take m):=by
   intro m
   induction m with
   |zero=>intro _;simp
   |succ m J=>
    intro T;rw[DS,List.filterMap_append,J .(0)];have I:a+m<x.cps.size:=by have:x.length=x.cps.size:=rfl;omega
    rw[List.take_succ_eq_append_getElem (by simp;omega)];simp[I]
  rw[g _ (aE _)]
end
def rSlS:V->Option Int->Option Int->Hp->VK->Prop:=λx g I H Q=>∃z,x=.str z/\z.length<=sizeLine/\Q (.str (AG z g I)) H
theorem xF:SlR X rSlS:=by
 intro π s σ H x v vl vu W Z sl Q I rx hs pl pu h;obtain⟨z,rfl,hz,q⟩:=h;obtain⟨t,rfl⟩:=rx;obtain⟨o,O,L,J⟩:=hs;have g:∀T k,EP X π σ Q (.str (AG z W Z) T) { s with toks:=k }:=λT k=>⟨.str _,H,I.tok _,⟨T,rfl⟩,q⟩;have Y:=d6 (Txt.slice_le z W Z) hz;refine⟨"str",_,PySem.F.slot_str_getitem.lookup,DF _ _ _,?_⟩;cases pl with
 |none=>
  cases pu with
  |none=>exact AH (l:=W1) (u:=W1) (st:=W1) ⟨o,O,L,J⟩ rfl (AI ⟨Y,g⟩)
  |int j S=>exact AH (l:=W1) (u:=O0 (j,S)) (st:=W1) ⟨o,O,L,J⟩ rfl (AI ⟨Y,g⟩)
 |int i U=>
  cases pu with
  |none=>exact AH (l:=O0 (i,U)) (u:=W1) (st:=W1) ⟨o,O,L,J⟩ rfl (AI ⟨Y,g⟩)
  |int j S=>exact AH (l:=O0 (i,U)) (u:=O0 (j,S)) (st:=W1) ⟨o,O,L,J⟩ rfl (AI ⟨Y,g⟩)
def rSl(K:aI):V->Option Int->Option Int->Hp->VK->Prop:=λx z g H Q=>rSlL K x z g H Q∨(rSlT K x z g H Q∨rSlS x z g H Q)
def xG:SlR X (rSl X.K):=qM.or (wU.or xF)
def Jp{lo hi:Option Expr}{gl gh:FO}(hG:G.K=X.K)(ha:PU X G a fa)(hl:PFO X G lo gl)(hh:PFO X G hi gh):PF X G (.Subscript a (.Slice lo hi W1 p2) pos) (slF fa gl gh):=λA=>Bt (g_ (xG (X:=X)) (@ha A) (@hl A) (@hh A))<|by
 rintro σ H Q ⟨g,d,o,e,k⟩
 unfold slF at e;cases z:fa g with
 |none=>simp[z] at e
 |some x=>
  cases J:gl g with
  |none=>simp[z,J] at e
  |some l=>
   cases e3:gh g with
   |none=>simp[z,J,e3] at e
   |some h=>
    have O:slD x l h=O0 d:=by simpa [z,J,e3] using e
    refine⟨g,x,o,z,λv H1 I r1=>⟨g,l,o.mono I,J,λH2 S=>⟨g,h,(o.mono I).mono S,e3,λH3 T=>?_⟩⟩⟩;have Y:=(r1.mono S).mono T;have o3:=((o.mono I).mono S).mono T;have W:=I.trans (S.trans T);unfold slD at O;split at O
    .cases O;obtain⟨p,L,rfl,Z,r⟩:=Y.lst;exact .inl ⟨p,L,rfl,by rw[<-hG];exact Z,λq U=>k _ _ (W.trans (Ak U _)) (Du o3.live U (r.cut _ _))⟩
    .split at O
     .cases O
     .rename_i hw;cases O;obtain⟨p,L,rfl,Z,r⟩:=Y.tup;exact .inr (.inl ⟨p,L,rfl,by rw[<-hG];exact Z,by rw[r.1];exact hw,λq U=>k _ _ (W.trans (Ak U _)) (Fq o3.live U (r.cut _ _))⟩)
    .split at O
     .rename_i hz;cases O;refine .inr (.inr ⟨_,Y.str,hz,?_⟩);rw[dh];exact k _ _ W (.str _)
     .cases O
    .cases O
def Vz{u:V}{d:D}(r:mu G A H v d)(h:UX d=O0 u):v=u/\Kh v=O1:=by
 cases d with
 |non=>cases h;rw[r.non];exact⟨rfl,rfl⟩
 |bl b=>cases h;rw[r.bl];exact⟨rfl,rfl⟩
 |int b=>cases h;rw[r.int];exact⟨rfl,rfl⟩
 |str b=>cases h;rw[r.str];exact⟨rfl,rfl⟩
 |_=>cases h
theorem Xi{H:Hp}:∀{ds:List D}{xs us:List V},be G H xs ds->OS ds=O0 us->xs=us/\xs.all Kh=O1
 |[],xs,us,r,h=>by cases h;rw[r.nil_inv];exact⟨rfl,rfl⟩
 |d::ds,xs,us,r,h=>by
  obtain⟨x,T,rfl,S,O⟩:=r.uncons;unfold OS at h;cases g:UX d with
  |none=>simp[g] at h
  |some v=>
   cases I:OS ds with
   |none=>simp[g,I] at h
   |some U=>
    simp[g,I] at h;subst h;have q:im G (bm [] H) x d:=S.mono λb o z=>z;obtain⟨Z,Y⟩:=Vz (A:=[]) (.inl q) g;obtain⟨L,J⟩:=Xi O I;subst Z;subst L;exact⟨rfl,by rw[tz,Y,J];rfl⟩
def rInA(K:aI)(g:Bool):R2:=λx y H Q=>rIn K g x y H Q∨∃i j,x=.str i/\y=.str j/\Q (.bl (if g then !(!(oy j i 0 j.length 1).isEmpty) else !(oy j i 0 j.length 1).isEmpty)) H
def ik:NU X (de .In) (rInA X.K O2):=dW.or dN
def di:NU X (de .NotIn) (rInA X.K O1):=Vt.or Vn
def xH(g:Bool):Dk G (rInA G.K g) (inD g):=by
 intro A H x y dx dy d Q lv rx O h k;have seq:∀{J:List D}{p:Addr}{z:List V},y=.ref p->(NS G.K H p z∨NR G.K H p z)->be G (bm A H) z J->((UX dx).bind λv=>(OS J).map λL=>D.bl (if g then !Yf v L else Yf v L))=O0 d->rIn G.K g x y H Q:=λ{J p z} ey hq r h=>by
  cases I:UX dx with
  |none=>simp[I] at h
  |some v=>
   cases T:OS J with
   |none=>simp[I,T] at h
   |some L=>
    rw[I,T] at h;cases h;obtain⟨Z,Y⟩:=Vz rx I;obtain⟨W,U⟩:=Xi r T;subst Z;subst W;exact⟨p,z,ey,hq,Y,U,k _ H (ab.refl H) (.bl _)⟩
 unfold inD at h;split at h
 .cases h;exact .inr ⟨_,_,rx.str,O.str,k _ H (ab.refl H) (.bl _)⟩
 .obtain⟨p,z,e,S,r⟩:=O.lst;exact .inl (seq e (.inl S) r h)
 .obtain⟨p,z,e,S,r⟩:=O.tup;exact .inl (seq e (.inr S) r h)
 .cases h
def eAt(f:D->D->Option Bool)(xs g:List D)(j:Nat):Bool:=match xs[j]?,g[j]? with | some x,O0 y=>(f x y).getD O2 | _,_=>O2
theorem QQ{f:D->D->Option Bool}:∀{xs ys:List D}{b:Bool},NX f xs ys=O0 b->xs.length=ys.length/\(∀(j:Nat) x y,xs[j]?=O0 x->ys[j]?=O0 y->f x y=O0 (eAt f xs ys j))/\b=(bg xs.length).all (eAt f xs ys)
 |[],[],b,h=>by cases h;exact⟨rfl,λj x y h=>by simp at h,rfl⟩
 |[],_::_,b,h=>by cases h
 |_::_,[],b,h=>by cases h
 |x::xs,y::ys,b,h=>by
  unfold NX at h;split at h
  .rename_i a c I O;cases h;obtain⟨L,J,T⟩:=QQ O;refine⟨by simp[L],λj u v S g=>?_,?_⟩
   .cases j with
    |zero=>simp at S g;subst S;subst g;rw[I];simp[eAt,I]
    |succ j=>
     have:=J j u v (by simpa using S) (by simpa using g);rw[this];simp[eAt]
   .rw[ci,JI,tz,List.all_map];have z:eAt f (x::xs) (y::ys) 0=a:=by simp[eAt,I]
    rw[z,T];rfl
  .cases h
def ir{u:V}(h:Kh u=O1):To u u=O1:=by
 cases u<;>simp[To]<;>cases h
theorem Rh{d:D}{u:V}(r:im G H v d)(h:UX d=O0 u):v=u/\Kh v=O1:=Vz (A:=[]) (.inl (r.mono λb o z=>by rw[Ax JJ];exact z)) h
section
def Xj(I:Inv X π σ H s)(W:G.K=X.K):∀(n:Nat) {x y:D}{v:V}{b:Bool},Ps n x y=O0 b->im G H v x->im G H v y->b=O1:=by
 have J:∀{x y:D}{v:V}{b:Bool},flD x y=O0 b->im G H v x->im G H v y->b=O1:=λ{x y v b} h rx g=>by
  unfold flD at h;cases e1:UX x with
  |none=>simp[e1] at h
  |some u=>
   cases e2:UX y with
   |none=>simp[e1,e2] at h
   |some w=>
    simp[e1,e2] at h;obtain⟨z1,z2⟩:=Rh rx e1;obtain⟨z3,_⟩:=Rh g e2;rw[<-h,<-z1,<-z3];exact ir z2
 intro n
 induction n with
 |zero=>intro x y v b h rx g;exact J h rx g
 |succ n ih=>
  have items:∀{Y:List V}{U es:List D}{b:Bool},NX (Ps n) U es=O0 b->be G H Y U->be G H Y es->b=O1:=λ{Y U es b} h z S=>by
   obtain⟨T,O,h3⟩:=QQ h;rw[h3,eS];intro j hj;have L:j<U.length:=d4.mp hj;have hx:Y[j]?=O0 (Y[j]'(by rw[z.1];exact L)):=by simp[z.1,L]
   have hd:U[j]?=O0 U[j]:=by simp[L]
   have he:es[j]?=O0 (es[j]'(by omega)):=db .(0);exact ih (O j _ _ hd he) (z.2 j _ _ hx hd) (S.2 j _ _ hx he)
  intro x y v b h rx g;unfold Ps eqS at h;split at h
  .split at h
   .cases rx with
    |lst T l1 z=>
     cases g with
     |lst O Z S=>
      have e:=I.list_inj (by rw[<-W];exact T) (by rw[<-W];exact O);subst e;exact items h ⟨l1,z⟩ ⟨Z,S⟩
   .rename_i N0;cases rx with
    |lst T l1 z=>
     cases g with
     |lst O Z S=>
      have e:=I.list_inj (by rw[<-W];exact T) (by rw[<-W];exact O);subst e;exact NI (l1.symm.trans Z) N0
  .split at h
   .cases rx with
    |tup T l1 z=>
     cases g with
     |tup O Z S=>
      have e:=I.tuple_inj (by rw[<-W];exact T) (by rw[<-W];exact O);subst e;exact items h ⟨l1,z⟩ ⟨Z,S⟩
   .cases h
  .exact J h rx g
def Jq{A:aS}{ds es:List D}{b:Bool}{g:List ac}(ih:∀{x y:D}{v w:V}{u1 u2:ac}{b:Bool},Ps n x y=O0 b->im G H v x->im G H w y->cc v u1->cc w u2->mB A s u1 u2 b)(h:NX (Ps n) ds es=O0 b)(L:be G H xs ds)(J:be G H ys es)(I:cx xs its)(z:cx ys g):
  its.toArray.size=g.toArray.size/\b=(bg its.toArray.size).all (eAt (Ps n) ds es)/\∀j (h1:j<its.toArray.size) (h2:j<g.toArray.size),mB A s its.toArray[j] g.toArray[j] (eAt (Ps n) ds es j):=by
 obtain⟨h1,h2,h3⟩:=QQ h;have l1:=I.length;have l2:=z.length;have q1:=L.1;have q2:=J.1;have z1:its.toArray.size=ds.length:=by rw[cr];omega
 refine⟨by rw[cr,cr];omega,by rw[z1];exact h3,λj T S=>?_⟩;rw[cr] at T S;have jx:j<xs.length:=by omega
 have jy:j<ys.length:=by omega
 have W:xs[j]?=O0 xs[j]:=by simp[jx]
 have U:ys[j]?=O0 ys[j]:=by simp[jy]
 have Z:ds[j]?=O0 (ds[j]'(by omega)):=db .(0);have Y:es[j]?=O0 (es[j]'(by omega)):=db .(0);obtain⟨u,eu,ru⟩:=I.get W;obtain⟨w,ew,O⟩:=z.get U;have a1:its.toArray[j]=u:=by simpa [db T] using eu
 have a2:g.toArray[j]=w:=by simpa [db S] using ew
 rw[a1,a2];exact ih (h2 j _ _ Z Y) (L.2 j _ _ W Z) (J.2 j _ _ U Y) ru O
def V2{ds es:List D}{g:List ac}(h:ds.length≠es.length)(J:be G H xs ds)(O:be G H ys es)(I:cx xs its)(z:cx ys g):(its.toArray.size != g.toArray.size)=O1:=by
 have L:=I.length;have Z:=z.length;have q1:=J.1;have q2:=O.1;rw[cr,cr];exact bne_iff_ne.mpr .(0)
def S6(I:Inv X π σ H s)(W:G.K=X.K):∀(n:Nat) (A:aS),A.units+n<bv->∀{x y:D}{v w:V}{u1 u2:ac}{b:Bool},Ps n x y=O0 b->im G H v x->im G H w y->cc v u1->cc w u2->mB A s u1 u2 b:=by
 have J:∀{A:aS}{x y:D}{v w:V}{u1 u2:ac}{b:Bool},flD x y=O0 b->im G H v x->im G H w y->cc v u1->cc w u2->mB A s u1 u2 b:=λ{A x y v w u1 u2 b} h rx z q1 q2=>by
  unfold flD at h;cases e1:UX x with
  |none=>simp[e1] at h
  |some u=>
   cases e2:UX y with
   |none=>simp[e1,e2] at h
   |some w=>
    simp[e1,e2] at h;obtain⟨Z,z2⟩:=Rh rx e1;obtain⟨Y,z4⟩:=Rh z e2;rw[<-h,<-Z,<-Y];exact iB q1 q2 z2 z4
 intro n
 induction n with
 |zero=>intro A hu x y v w u1 u2 b h rx z q1 q2;exact J h rx z q1 q2
 |succ n ih=>
  intro A hu x y v w u1 u2 b h rx z q1 q2;have h':=h;have T0:A.in1.units+n<bv:=by show A.units+1+n<bv;omega
  have L:A.units<bv:=by omega
  unfold Ps eqS at h;split at h
  .cases rx with
   | @lst a _ _ h1 U S=>
    cases z with
    | @lst c _ _ h2 T O=>
     obtain rfl:u1=.ref a:=q1;obtain rfl:u2=.ref c:=q2;obtain⟨S0,v1,p1,_⟩:=I.list (by rw[<-W];exact h1);obtain⟨N0,v2,p2,_⟩:=I.list (by rw[<-W];exact h2)
     by_cases g:a=c
     .subst g;have:=Xj I W (n+1) h' (.lst h1 U S) (.lst h2 T O);subst this;exact DH _
     .split at h
      .obtain⟨Z,z2,Y⟩:=Jq (λq=>ih A.in1 T0 q) h ⟨U,S⟩ ⟨T,O⟩ v1 v2;rw[z2];exact DT g (JO p1.isList p2.isList Z L Y)
      .rename_i X0;cases h;exact DT g (JU p1.isList p2.isList (V2 X0 ⟨U,S⟩ ⟨T,O⟩ v1 v2) L)
  .cases rx with
   | @tup a _ _ h1 U S=>
    cases z with
    | @tup c _ _ h2 T O=>
     obtain rfl:u1=.ref a:=q1;obtain rfl:u2=.ref c:=q2;obtain⟨S0,v1,p1,_⟩:=I.tuple (by rw[<-W];exact h1);obtain⟨N0,v2,p2,_⟩:=I.tuple (by rw[<-W];exact h2)
     by_cases g:a=c
     .subst g;have:=Xj I W (n+1) h' (.tup h1 U S) (.tup h2 T O);subst this;exact DH _
     .split at h
      .obtain⟨Z,z2,Y⟩:=Jq (λq=>ih A.in1 T0 q) h ⟨U,S⟩ ⟨T,O⟩ v1 v2;have q:=JY (show s.heap.IsTuple a S0.toArray from p1) (show s.heap.IsTuple c N0.toArray from p2) L Y;rw[Z,DU,YI,DV,<-Z,<-z2] at q;exact DT g q
      .cases h
  .exact J h rx z q1 q2
end
def rEqP(G:Gx)(g:Bool):R2:=λx y H Q=>∃(A:List Addr) (ds es:List D) (b:Bool),Tl (.lst ds) (.lst es)=O0 b/\((mu G A H x (.lst ds)/\mu G A H y (.lst es))∨(ds.length=es.length/\mu G A H x (.tup ds)/\mu G A H y (.tup es)))/\Q (.bl (if g then !b else b)) H
def xJ(W:G.K=X.K)(hu:X.A.units+190<bv):NU X (de .Eq) (rEqP G O2):=by
 intro π s σ H x y v u Q I rx ry h;obtain⟨A,ds,es,b,e,hr,k⟩:=h;have g:EP X π σ Q (.bool b) s:=⟨.bl b,H,I,rfl,k⟩;simp only[Tl] at e
 rcases hr with ⟨r1,r2⟩ | ⟨hl,r1,r2⟩
 .obtain⟨a,xs,rfl,h1,q1⟩:=r1.lst;obtain⟨c,ys,rfl,h2,q2⟩:=r2.lst;cases rx;cases ry;obtain⟨J,O,T,_⟩:=I.list (by rw[<-W];exact h1);obtain⟨z,L,S,_⟩:=I.list (by rw[<-W];exact h2);split at e
  .obtain⟨Z,Y,U⟩:=Jq (λq=>S6 I W 180 X.A.in1 (by show X.A.units+1+180<bv;omega) q) e (q1.mono Am) (q2.mono Am) O L;exact JO T.isList S.isList Z .(0) U _ _ _ _ (by rw[<-Y];exact g)
  .rename_i N0;cases e;exact JU T.isList S.isList (V2 N0 q1 q2 O L) .(0) _ _ _ _ g
 .obtain⟨a,xs,rfl,h1,q1⟩:=r1.tup;obtain⟨c,ys,rfl,h2,q2⟩:=r2.tup;cases rx;cases ry;obtain⟨J,O,T,_⟩:=I.tuple (by rw[<-W];exact h1);obtain⟨z,L,S,_⟩:=I.tuple (by rw[<-W];exact h2);rw[WH hl] at e;obtain⟨Z,Y,U⟩:=Jq (λq=>S6 I W 180 X.A.in1 (by show X.A.units+1+180<bv;omega) q) e (q1.mono Am) (q2.mono Am) O L;have q:=JY (show s.heap.IsTuple a J.toArray from T) (show s.heap.IsTuple c z.toArray from S) .(0) U;rw[Z,DU,YI,DV,<-Z,<-Y] at q;exact q _ _ _ _ g
def xK(W:G.K=X.K)(hu:X.A.units+190<bv):NU X (de .NotEq) (rEqP G O1):=by
 intro π s σ H x y v u Q I rx ry h;obtain⟨A,ds,es,b,e,hr,k⟩:=h;have g:EP X π σ Q (.bool (!b)) s:=⟨.bl (!b),H,I,rfl,k⟩;simp only[Tl] at e
 rcases hr with ⟨r1,r2⟩ | ⟨hl,r1,r2⟩
 .obtain⟨a,xs,rfl,h1,q1⟩:=r1.lst;obtain⟨c,ys,rfl,h2,q2⟩:=r2.lst;cases rx;cases ry;obtain⟨J,O,T,_⟩:=I.list (by rw[<-W];exact h1);obtain⟨z,L,S,_⟩:=I.list (by rw[<-W];exact h2);split at e
  .obtain⟨Z,Y,U⟩:=Jq (λq=>S6 I W 180 X.A.in1 (by show X.A.units+1+180<bv;omega) q) e (q1.mono Am) (q2.mono Am) O L;exact SeqAt.RcNeAt.lists T.isList S.isList Z .(0) U _ _ _ _ (by rw[<-Y];exact g)
  .rename_i N0;cases e;exact SeqAt.RcNeAt.lists_lengths T.isList S.isList (V2 N0 q1 q2 O L) .(0) _ _ _ _ g
 .obtain⟨a,xs,rfl,h1,q1⟩:=r1.tup;obtain⟨c,ys,rfl,h2,q2⟩:=r2.tup;cases rx;cases ry;obtain⟨J,O,T,_⟩:=I.tuple (by rw[<-W];exact h1);obtain⟨z,L,S,_⟩:=I.tuple (by rw[<-W];exact h2);rw[WH hl] at e;obtain⟨Z,Y,U⟩:=Jq (λq=>S6 I W 180 X.A.in1 (by show X.A.units+1+180<bv;omega) q) e (q1.mono Am) (q2.mono Am) O L;have q:=SeqAt.RcNeAt.tuples (show s.heap.IsTuple a J.toArray from T) (show s.heap.IsTuple c z.toArray from S) .(0) U;rw[Z,DU,YI,DV,<-Z,<-Y] at q;exact q _ _ _ _ g
def rEqA(G:Gx)(g:Bool):R2:=λx y H Q=>(λx y H Q=>scal x y=O1/\Q (.bl (if g then !decide (x=y) else decide (x=y))) H) x y H Q∨rEqP G g x y H Q
def iu(W:G.K=X.K)(S:X.A.units+190<bv):NU X (de .Eq) (rEqA G O2):=zH.or (xJ W S)
def xM(W:G.K=X.K)(S:X.A.units+190<bv):NU X (de .NotEq) (rEqA G O1):=zJ.or (xK W S)
def V4{g I:Type}[DecidableEq g][DecidableEq I]{f:g->I}(h:∀a b,f a=f b->a=b)(a b:g):decide (f a=f b)=decide (a=b):=by
 by_cases e:a=b
 .subst e;simp
 .rw[OI e,OI λz=>e (h a b z)]
theorem ZJ(I:Bool):Dk G (rEqA G I) (MY I):=by
 intro A H x y dx J d Q L rx g h k;unfold MY at h;cases e:Tl dx J with
 |none=>simp[e] at h
 |some b=>
  simp only[e,io] at h;cases h;unfold Tl at e;split at e
  .cases e;rw[rx.int,g.int];refine .inl ⟨rfl,?_⟩;rw[V4 (f:=V.int) (λa b z=>by cases z;rfl)];exact k _ H (ab.refl H) (.bl _)
  .cases e;rw[rx.str,g.str];refine .inl ⟨rfl,?_⟩;rw[V4 (f:=V.str) (λa b z=>by cases z;rfl)];exact k _ H (ab.refl H) (.bl _)
  .cases e;rw[rx.bl,g.bl];refine .inl ⟨rfl,?_⟩;rw[V4 (f:=V.bl) (λa b z=>by cases z;rfl)];exact k _ H (ab.refl H) (.bl _)
  .exact .inr ⟨A,_,_,b,e,.inl ⟨rx,g⟩,k _ H (ab.refl H) (.bl _)⟩
  .split at e
   .rename_i Y;exact .inr ⟨A,_,_,b,(by simp only[Tl];rw[WH Y];exact e),.inr ⟨Y,rx,g⟩,k _ H (ab.refl H) (.bl _)⟩
   .cases e
  .cases e
def VS(G:Gx)(r:List V->Hp->VK->Prop)(g:D->Option D):Prop:=∀(A:List Addr) (H:Hp) (x:V) (dx d:D) (Q:VK),(∀a∈A,Nt (H a))->mu G A H x dx->g dx=O0 d->(∀v z,ab H z->im G (bm A z) v d->Q v z)->r [x] H Q
def aK(G:Gx)(r:List V->Hp->VK->Prop)(g:D->D->Option D):Prop:=∀(A:List Addr) (H:Hp) (x y:V) (dx I d:D) (Q:VK),(∀a∈A,Nt (H a))->mu G A H x dx->mu G A H y I->g dx I=O0 d->(∀v z,ab H z->im G (bm A z) v d->Q v z)->r [x,y] H Q
def Ez{g:D->Option D}{ρ:Rho}{d:D}(h:uF g fa ρ=O0 d):∃x,fa ρ=O0 x/\g x=O0 d:=by
 unfold uF at h;cases e:fa ρ with
 |none=>simp[e] at h
 |some x=>exact⟨x,rfl,by simpa [e] using h⟩
def iw{g:D->Option D}(s:VS G r g){A:List Addr}{z:St}{H:Hp}{Q:VK}(h:tF G A (uF g fa) z H Q):tCB r (XX (tT G A fa) tNil) z H Q:=by
 obtain⟨J,d,o,e,k⟩:=h;obtain⟨x,U,T⟩:=Ez e;exact⟨J,x,o,U,λv Y I L=>s A Y v x d Q (o.mono I).live L T λw W S O=>k w W (I.trans S) O⟩
def qd{g:D->D->Option D}(s:aK G r g){A:List Addr}{I:St}{H:Hp}{Q:VK}(h:tF G A (bF g fa fb) I H Q):tCB r (XX (tT G A fa) (XX (tT G A fb) tNil)) I H Q:=by
 obtain⟨J,d,o,e,k⟩:=h;obtain⟨x,y,Z,Y,W⟩:=Rg e;exact⟨J,x,o,Z,λv H1 z U=>⟨J,y,o.mono z,Y,λu H2 S T=>s A H2 v u x y d Q ((o.mono z).mono S).live (U.mono S) T W λw H3 O L=>k w H3 (z.trans (S.trans O)) L⟩⟩
def Ay{p:Pos}{id:String}{g:D->Option D}(S:Dd X (.builtin id) r)(s:VS G r g)(W:Gl X x)(O:X.mg x=W1)(J:cE x=O0 (.builtin id))(ha:PU X G a fa)(L:x≠"__name__":=by decide)(z:(x==("__debug__":Str))=O2:=by decide)(I:aw [a] X.env=[(O2,eval a X.env)]:=by rfl):PF X G (.Call (.Name x p) [a] [] pos) (uF g fa):=
 λA=>Bt (K6 S W O J (Bw (@ha A) Dq I) L z I rfl) λ_ _ _ h=>iw s h
def Jr{p:Pos}{id:String}{g:D->D->Option D}(T:Dd X (.builtin id) r)(s:aK G r g)(W:Gl X x)(S:X.mg x=W1)(L:cE x=O0 (.builtin id))(ha:PU X G a fa)(hb:PU X G b fb)(O:x≠"__name__":=by decide)(I:(x==("__debug__":Str))=O2:=by decide)(J:aw [a,b] X.env=(O2,eval a X.env)::aw [b] X.env:=by rfl)(z:aw [b] X.env=[(O2,eval b X.env)]:=by rfl):PF X G (.Call (.Name x p) [a,b] [] pos) (bF g fa fb):=
 λA=>Bt (K6 T W S L (Bw (@ha A) (Bw (@hb A) Dq z) J) O I J (by rw[z];rfl)) λ_ _ _ h=>qd s h
def QR{p:Pos}{T:String}{g:D->Option D}(S:Dd X (.type T) r)(s:VS G r g)(W:Gl X x)(O:X.mg x=W1)(J:cE x=O0 (.type T))(ha:PU X G a fa)(L:x≠"__name__":=by decide)(z:(x==("__debug__":Str))=O2:=by decide)(I:aw [a] X.env=[(O2,eval a X.env)]:=by rfl):PF X G (.Call (.Name x p) [a] [] pos) (uF g fa):=
 λA=>Bt (Gk S W O J (Bw (@ha A) Dq I) L z I rfl) λ_ _ _ h=>iw s h
def Ri:VS G (λxs H Q=>∃x n,xs=[x]/\LenV G.K x H n/\Q (.int n) H) Sk:=by
 intro A H x dx d Q I rx h k;unfold Sk at h;split at h
 .split at h
  .rename_i O;cases h;rw[rx.str];exact⟨_,_,rfl,⟨O,rfl⟩,k _ H (ab.refl H) (.int _)⟩
  .cases h
 .cases h;obtain⟨p,xs,rfl,g,r⟩:=rx.lst;exact⟨_,_,rfl,.inl ⟨xs,g,rfl⟩,by rw[r.1];exact k _ H (ab.refl H) (.int _)⟩
 .cases h;obtain⟨p,xs,rfl,g,r⟩:=rx.tup;exact⟨_,_,rfl,.inr ⟨xs,g,rfl⟩,by rw[r.1];exact k _ H (ab.refl H) (.int _)⟩
 .cases h
def BL(W:G.K=X.K):Dd X (.builtin "len") (λxs H Q=>∃x n,xs=[x]/\LenV G.K x H n/\Q (.int n) H):=by rw[W];exact gW
def S7:aK G (λxs H Q=>∃i j,xs=[.int i,.int j]/\Q (.int (if j > i then j else i)) H) YV:=by
 intro A H x y dx z d Q I rx g h k;obtain⟨i,j,rfl,rfl,h⟩:=Oe h;cases h;exact⟨i,j,by rw[rx.int,g.int],k _ H (ab.refl H) (.int _)⟩
def S8:aK G (λxs H Q=>∃i j,xs=[.int i,.int j]/\Q (.int (if j<i then j else i)) H) minD:=by
 intro A H x y dx z d Q I rx g h k;obtain⟨i,j,rfl,rfl,h⟩:=Oe h;cases h;exact⟨i,j,by rw[rx.int,g.int],k _ H (ab.refl H) (.int _)⟩
def iz:VS G (λxs H Q=>∃p ys,xs=[.ref p]/\(NS G.K H p ys∨NR G.K H p ys)/\∀l,H l=W1->Q (.ref l) (gq H l (.lst ys))) iV:=by
 intro A H x dx d Q I rx h k;unfold iV at h;split at h
 .cases h;obtain⟨p,xs,rfl,g,r⟩:=rx.lst;exact⟨p,xs,rfl,.inl g,λl Y=>k _ _ (Ak Y _) (Du I Y r)⟩
 .cases h;obtain⟨p,xs,rfl,g,r⟩:=rx.tup;exact⟨p,xs,rfl,.inr g,λl Y=>k _ _ (Ak Y _) (Du I Y r)⟩
 .cases h
end
def uh(G:Gx)(z H g:Hp)(x:V)(d:D):Prop:=ab H g/\∀B:List Addr,(∀a∈B,Nt (H a))->ab z (bm B H)->im G (bm B g) x d
def S9{G:Gx}{x:V}{d:D}(h:H'=H/\im G F2 x d):uh G F2 H H' x d:=by
 obtain⟨rfl,r⟩:=h;exact⟨ab.refl _,λB _ g=>r.mono g⟩
structure Src (G:Gx) (J:It) (ds:List D) (F1 F2:Hp):Prop where
 go:∀i H,ab F1 H->i<ds.length->J.go i H
 yld:∀i H x H' d,ab F1 H->ds[i]?=O0 d->J.yld i H x H'->uh G F2 H H' x d
 stop:∀i H,ab F1 H->ds.length<=i->J.stop i H
def tI(G:Gx)(A:List Addr)(top:Bool)(f:FI):TI:=λz H R=>∃ρ ds,Pt G A z H ρ/\f ρ=O0 ds/\∀J g,ab H g->Src G J ds (if top then g else bm A g) (bm A g)->R J g
def RU(X:Cx)(G:Gx)(top:Bool)(tg e:Expr)(f:FI):Prop:=∀⦃A⦄,PI X tg e (tI G A top f)
def S_{t t':TI}(h:PI X tg e t)(w:∀σ H Q,t' σ H Q->t σ H Q):PI X tg e t':=λz s σ H Q I q=>h z s σ H Q I (w σ H Q q)
def piOr{t t':TI}(h:PI X tg e t)(h':PI X tg e t'):PI X tg e (λσ H R=>t σ H R∨t' σ H R):=λz s σ H Q I q=>by
 rcases q with q | q
 .exact h z s σ H Q I q
 .exact h' z s σ H Q I q
section
variable {G:Gx}{a:Expr}{fa:FE}
def qg{ds:List D}(h:NR G.K F1 p xs)(r:be G F2 xs ds):Src G (Itt G.K p) ds F1 F2 where
 go:=λi H s g=>⟨xs,xs[i]'(by rw[r.1];exact g),Dj s h,by simp[r.1,g]⟩
 yld:=λi H x I d s z y=>S9 ⟨y.1,r.2 i x d (y.2 xs (Dj s h)) z⟩
 stop:=λi H s g=>⟨xs,Dj s h,by rw[r.1];exact g⟩
def qi(W:G.K=X.K)(h:PF X G a fa):RU X G O2 tg a (seqI fa):=λA=>S_ (piOr (pZ (@h A)) (wK (@h A)))<|by
 rintro U H R ⟨S,Y,o,e,k⟩
 unfold seqI at e;split at e
 .rename_i L J;cases e;refine .inl ⟨S,_,o,J,λv O z g=>?_⟩;cases g with
  |lst h l r=>exact⟨_,rfl,⟨_,by rw[<-W];exact Am.seq h⟩,by rw[<-W];exact k _ O z { go:=λi H s I=>⟨_,_,s.seq h,by simp[l,I];rfl⟩,yld:=λi H x Z d s T y=>S9 ⟨y.1,r i x d (y.2 _ (s.seq h)) T⟩,stop:=λi H s I=>⟨_,s.seq h,by rw[l];exact I⟩ }⟩
 .rename_i L J;cases e;refine .inr ⟨S,_,o,J,λv O z g=>?_⟩;cases g with
  |tup h l r=>exact⟨_,rfl,⟨_,by rw[<-W];exact Dj Am h⟩,by rw[<-W];exact k _ O z (qg h ⟨l,r⟩)⟩
 .cases e
def i_{d:D}(h:(Na n)[i]?=O0 d):d=.int i:=by
 unfold Na at h;rw[ca] at h;cases e:(bg n)[i]? with
 |none=>rw[e] at h;cases h
 |some j=>
  rw[e] at h;have:=(iF.mp e);obtain⟨z,g⟩:=this;rw[List.getElem_range] at g;subst g;exact (cy h).symm
def qj:Src G (Itr 0 n) (Na n) F1 F2 where
 go:=λi H s g=>by unfold Na at g;show i<n;simpa using g
 yld:=λi H x J d s I y=>by
  obtain⟨z,Z⟩:=y;rw[i_ I,Z,Int.zero_add];exact S9 ⟨z,.int _⟩
 stop:=λi H s g=>by unfold Na at g;show n<=i;simpa using g
def Gy{top:Bool}{p:Pos}(W:Gl X "range")(J:X.mg "range"=W1)(h:PU X G a fa)(hs:aw [a] X.env=[(O2,eval a X.env)]:=by rfl):RU X G top tg (.Call (.Name "range" p) [a] [] pos) (NV fa):=λA=>S_ (dJ W J (Bw (@h A) Dq hs) hs)<|by
 rintro S H R ⟨g,T,o,e,k⟩
 unfold NV at e;split at e
 .rename_i j L;split at e
  .rename_i U;cases e;exact⟨g,_,o,L,λv O z I=>⟨j,by rw[I.int],U.1,U.2,k _ O z qj⟩⟩
  .cases e
 .cases e
end
structure OR (G:Gx) (A0:List Addr) (He:Hp) (A:List Addr) (σ:St) (H:Hp) (ρ:Rho):Prop where
 same:ab He H
 sub:∀a∈A0,a∈A
 fr:∀a∈A,a∈A0∨He a=W1
 l0:∀a∈A0,He a≠W1
 ok:Pt G A σ H ρ
 ow0:∀(i:Nat) (d:D) (a:Addr),ρ[i]?=O0 (.ow d)->σ[i]?=O0 (O0 (.ref a))->a∉A0
 lt:∀(x:Addr) (d:D),G.lent=O0 x->ρ[0]?=O0 (.ow d)->σ[0]?=O0 (O0 (.ref x))
def XT(G:Gx)(A0:List Addr)(z:Hp)(g:St)(H:Hp)(ρ:Rho):Prop:=∃A,OR G A0 z A g H ρ
def TF(G:Gx)(A0:List Addr)(z:Hp)(D:SO):Sz->Prop
 |.nx ρ=>∀g H,XT G A0 z g H ρ->D.nx g H
 |.rt d ρ=>∀v g H A,OR G A0 z A g H ρ->im G (bm A H) v d->D.rt v H
 |.bk ρ=>∀g H,XT G A0 z g H ρ->D.bk g H
 |.ct ρ=>∀g H,XT G A0 z g H ρ->D.ct g H
def tS(G:Gx)(A0:List Addr)(z:Hp)(g:FS):TS:=λD I H=>∃ρ o,XT G A0 z I H ρ/\g ρ=O0 o/\TF G A0 z D o
def UR(X:Cx)(G:Gx)(st:Stmt)(g:FS):Prop:=∀⦃A0⦄ He,PS X st (tS G A0 He g)
def RS(X:Cx)(G:Gx)(st:List Stmt)(g:FS):Prop:=∀⦃A0⦄ He,UQ X st (tS G A0 He g)
theorem Pt.set{G:Gx}{A:List Addr}{L:St}{H:Hp}{ρ:Rho}{v:V}{d:D}(o:Pt G A L H ρ)(r:im G (bm A H) v d)(i:Nat):Pt G A (L.set i (O0 v)) H (ρ.set i (.fz d)):=by
 have I:∀(j:Nat) (z:Slot),(ρ.set i (.fz d))[j]?=O0 z->(j=i/\z=.fz d/\i<ρ.length)∨(j≠i/\ρ[j]?=O0 z):=λj z h=>by
  by_cases U:j=i
  .subst U
   by_cases Y:j<ρ.length
   .rw[mo Y] at h;exact .inl ⟨rfl,(cy h).symm,Y⟩
   .rw[pw (by simpa using kG.mp Y)] at h;cases h
  .rw[gX (cf U)] at h;exact .inr ⟨U,h⟩
 have g:∀(j:Nat),j≠i->(L.set i (O0 v))[j]?=L[j]?:=λj U=>gX (cf U);refine⟨by rw[rS,rS];exact o.len,o.live,λj e h=>?_,λj e h=>?_,λj k e f p h1 Z T S=>?_⟩
 .rcases I j _ h with ⟨U,O,Y⟩ | ⟨U,O⟩
  .cases O;subst U;exact⟨v,by rw[mo (by rw[o.len];exact Y)],r⟩
  .obtain⟨u,q1,q2⟩:=o.fz j e O;exact⟨u,by rw[g j U];exact q1,q2⟩
 .rcases I j _ h with ⟨U,O,Y⟩ | ⟨U,O⟩
  .cases O
  .obtain⟨u,q1,q2⟩:=o.ow j e O;exact⟨u,by rw[g j U];exact q1,q2⟩
 .rcases I j _ h1 with ⟨_,O,_⟩ | ⟨U,O⟩
  .cases O
  .rcases I k _ Z with ⟨_,J,_⟩ | ⟨W,J⟩
   .cases J
   .rw[g j U] at T;rw[g k W] at S;exact o.inj j k e f p O J T S
theorem OR.mono{G:Gx}{A0:List Addr}{z:Hp}{A:List Addr}{g:St}{H I:Hp}{ρ:Rho}(o:OR G A0 z A g H ρ)(s:ab H I):OR G A0 z A g I ρ:=⟨o.same.trans s,o.sub,o.fr,o.l0,o.ok.mono s,o.ow0,o.lt⟩
theorem OR.set{G:Gx}{A0:List Addr}{S:Hp}{A:List Addr}{I:St}{H:Hp}{ρ:Rho}{v:V}{d:D}(o:OR G A0 S A I H ρ)(r:im G (bm A H) v d)(i:Nat):OR G A0 S A (I.set i (O0 v)) H (ρ.set i (.fz d)):=⟨o.same,o.sub,o.fr,o.l0,o.ok.set r i,λj e a g O=>by
  have U:j≠i:=by
   intro z;subst z
   by_cases Y:j<ρ.length
   .rw[mo Y] at g;cases g
   .rw[pw (by simpa using kG.mp Y)] at g;cases g
  rw[gX (cf U)] at g O;exact o.ow0 j e a g O,λx e T J=>by
  by_cases L:i=0
  .subst L;cases ρ with
   |nil=>cases J
   |cons a r=>cases J
  .rw[gX L] at J ⊢;exact o.lt x e T J⟩
def OR.base{G:Gx}{ρ:Rho}(o:OR G A0 Hf A σ H ρ)(s:ab He Hf)(g:∀a∈A0,He a≠W1):OR G A0 He A σ H ρ:=
 ⟨s.trans o.same,o.sub,λa I=>(o.fr a I).imp id λz=>s.free z,g,o.ok,o.ow0,o.lt⟩
def OR.here{G:Gx}{ρ:Rho}(o:OR G A0 He A σ H ρ):ab He (bm (A.filter λa=>decide (a∉A0)) H)/\OR G A0 (bm (A.filter λa=>decide (a∉A0)) H) A σ H ρ:=by
 have I:∀b,b∈(A.filter λa=>decide (a∉A0))↔b∈A/\b∉A0:=λb=>by simp[dS]
 have J:ab He (bm (A.filter λa=>decide (a∉A0)) H):=λb u h=>by
  rw[Ax]
  .exact o.same b u h
  .intro z;obtain⟨Z,Y⟩:=(I b).mp z
   rcases o.fr b Z with q | q
   .exact Y q
   .rw[q] at h;cases h
 refine⟨J,Am,o.sub,λa g=>?_,λa g h=>?_,o.ok,o.ow0,o.lt⟩
 .by_cases O:a∈A0
  .exact .inl O
  .right;unfold bm;rw[WH ((I a).mpr ⟨g,O⟩)]
 .rw[Ax (λz=>((I a).mp z).2 g)] at h;exact (o.ok.live a (o.sub a g)).ne h
def OR.plain{G:Gx}{ρ:Rho}(sub:∀a∈A0,a∈B)(o:OR G A0 (bm (B.filter λa=>decide (a∉A0)) H1) A σ H ρ):ab (bm B H1) (bm A H):=λb u h=>by
 unfold bm at h;split at h
 .cases h
 .rename_i g;have e:bm (B.filter λa=>decide (a∉A0)) H1 b=O0 u:=by
   rw[Ax (λz=>g (dS.mp z).1)];exact h
  rw[Ax]
  .exact o.same b u e
  .intro z
   rcases o.fr b z with q | q
   .exact g (sub b q)
   .rw[q] at e;cases e
section
variable {G:Gx}{a b c:Expr}{fa:FE}{ga:FT}{il:List Stmt}{g gs gb:FS}
def Bp:RS X G [] Si:=by
 rintro S O J s z H D I ⟨L,o,ok,e,k⟩
 cases e;exact JM J s z H D I (k z H ok)
theorem Ad(h1:UR X G st g)(h2:RS X G il gs):RS X G (st::il) (dq g gs):=by
 rintro T S Y s W H D I ⟨O,o,ok,e,k⟩
 refine K4 (@h1 T S) (@h2 T S) Y s W H D I ?_;unfold dq at e;split at e
 .rename_i z Z;exact⟨O,_,ok,Z,λU H' J=>⟨z,o,J,e,k⟩⟩
 .rename_i L;refine⟨O,o,ok,e,?_⟩;cases o with
  |nx z=>exact NI e (L z)
  |rt d z=>exact k
  |bk z=>exact k
  |ct z=>exact k
def Ae(h1:UR X G st g):RS X G [st] g:=λS z=>Vl (@h1 S z)
def CQ(ht:Sr X G c ga)(h1:RS X G s1 g)(h2:RS X G s2 gs):UR X G (.If c s1 s2 pos) (QO ga g gs):=by
 rintro S L T s O H D I ⟨z,o,⟨A,w⟩,e,k⟩
 refine Z1 (@ht A) (@h1 S L) (@h2 S L) T s O H D I ?_;unfold QO at e;split at e
 .rename_i J;exact⟨z,_,w.ok,J,λU s1=>WU ⟨z,o,⟨A,w.mono s1⟩,e,k⟩⟩
 .rename_i J;exact⟨z,_,w.ok,J,λU s1=>VO ⟨z,o,⟨A,w.mono s1⟩,e,k⟩⟩
 .cases e
def jA{ρ:Rho}{o:Sz}{D:SO}(w:OR G A0 He A σ H ρ)(e:mf i fa ρ=O0 o)(k:TF G A0 He D o):WJ (tF G A fa) (Es i) D σ H:=by
 unfold mf at e;cases z:fa ρ with
 |none=>simp[z] at e
 |some d=>
  simp only[z,io] at e;cases e;exact⟨ρ,d,w.ok,z,λv L I J=>k _ _ ⟨A,(w.mono I).set J i⟩⟩
def ql{p:Pos}(h:∀te,PE X a te->PS X (.Assign [.Name x p] a pos) (WJ te (Es i)))(ha:PF X G a fa):UR X G (.Assign [.Name x p] a pos) (mf i fa):=λS O J s z H D I ⟨L,o,⟨A,w⟩,e,k⟩=>
 h _ (@ha A) J s z H D I (jA w e k)
def Ai(ha:PF X G a fa):UR X G (.Return (O0 a) pos) (fy fa):=by
 rintro Y W O s J H D I ⟨L,o,⟨A,w⟩,e,k⟩
 refine gJ (@ha A) O s J H D I ?_;unfold fy at e;cases z:fa L with
 |none=>simp[z] at e
 |some d=>
  simp only[z,io] at e;cases e;exact⟨L,d,w.ok,z,λv U S T=>k v J U A (w.mono S) T⟩
def Fy(ha:PF X G a fa)(hs:eJ a W1 pos.line X.env=pure O2:=by rfl):UR X G (.Expr a pos) (Gi fa):=by
 rintro Y U O s L H D I ⟨J,o,⟨A,w⟩,e,k⟩
 refine Vm (@ha A) hs O s L H D I ?_;unfold Gi at e;cases z:fa J with
 |none=>simp[z] at e
 |some d=>
  simp only[z,io] at e;cases e;exact⟨J,d,w.ok,z,λv W S T=>k _ _ ⟨A,w.mono S⟩⟩
def Js:UR X G st badF:=by rintro S O L s z H D I ⟨J,o,ok,e,k⟩;cases e
def tGD(G:Gx)(A0:List Addr)(J:Hp)(g:FG):TG:=λv O H Q=>∃A ρ d I,OR G A0 J A O H ρ/\im G (bm A H) v d/\g d ρ=O0 I/\∀z L,XT G A0 J z L I->Q z L
def PGD(X:Cx)(G:Gx)(tg:Expr)(g:FG):Prop:=∀⦃A0⦄ He,PG X tg (tGD G A0 He g)
def Cj(h:PG X tg (Es i)):PGD X G tg (Bx i):=by
 rintro U T L s z H v u Q I r ⟨A,S,d,J,w,O,e,k⟩
 cases e;exact h L s z H v u Q I r (k _ _ ⟨A,w.set O i⟩)
theorem TF.base{A0:List Addr}{L O:Hp}{D:SO}{o:Sz}(k:TF G A0 L D o)(s:ab L O)(I:∀a∈A0,L a≠W1):TF G A0 O D o:=by
 cases o with
 |nx J=>rintro z H ⟨A,w⟩;exact k z H ⟨A,w.base s I⟩
 |rt d J=>exact λv z H A w r=>k v z H A (w.base s I) r
 |bk J=>rintro z H ⟨A,w⟩;exact k z H ⟨A,w.base s I⟩
 |ct J=>rintro z H ⟨A,w⟩;exact k z H ⟨A,w.base s I⟩
theorem DK{it:Expr}{T0:FI}{fg:FG}(hp:ti (ai X.prog X.w) X.A X.env X.xe)(hc:X.calm=O1)(hi:RU X G O2 tg it T0)(hg:PGD X G tg fg)(hb:RS X G body gb)(hs:∀x,lc it X.env x=pure x:=by intro _;rfl):UR X G (.For tg it body [] pos) (Os T0 fg gb):=by
 rintro S He π s σ H D I ⟨W,o,⟨A,w⟩,e,k⟩
 cases e1:T0 W with
 |none=>simp[Os,e1] at e
 |some z=>
  have e':MX (λd W=>(fg d W).bind gb) z W=O0 o:=by
   have e2:MX (TR fg gb) z W=O0 o:=by simpa [Os,e1] using e
   exact e2
  have X1:UQ X body (λD σ H=>∃S He,tS G S He gb D σ H):=(by rintro π s σ H D I ⟨S,He,q⟩;exact @hb S He π s σ H D I q);have U1:PG X tg (λv σ H Q=>∃S He,tGD G S He fg v σ H Q):=(by rintro π s σ H v u Q I r ⟨S,He,q⟩;exact @hg S He π s σ H v u Q I r q);refine Yv hp hc (@hi A) U1 X1 hs π s σ H D I ⟨W,z,w.ok,e1,λJ H1 s1 sr=>?_⟩;obtain⟨N1,w2⟩:=(w.mono s1).here;have k2:=k.base N1 w.l0;generalize Y1:bm (A.filter λa=>decide (a∉S)) H1=Hf at N1 w2 k2;refine⟨λi m L Z=>m=z.length-i/\i<=z.length/\∃U,XT G S Hf L Z U/\MX (λd W=>(fg d W).bind gb) (z.drop i) U=O0 o,⟨z.length,by simp,eK _,W,⟨A,w2⟩,by simpa using e'⟩,?_⟩;rintro i m P1 H3 ⟨rfl,S2,X0,⟨B,w3⟩,O⟩;have pl:ab (bm A H1) (bm B H3):=by rw[<-Y1] at w3;exact OR.plain w.sub w3
  by_cases N0:i<z.length
  .right;have hd:z[i]?=O0 z[i]:=by simp[N0]
   have ed:z.drop i=z[i]::z.drop (i+1):=uk N0;rw[ed] at O;unfold MX at O;refine⟨sr.go i H3 (pl.trans Am) N0,λL Z=>∃U,XT G S Hf L Z U/\MX (λd W=>(fg d W).bind gb) (z.drop (i+1)) U=O0 o,λL Z q=>⟨z.length-(i+1),by omega,rfl,N0,q⟩,λx Z y=>?_⟩;obtain⟨sy,rx⟩:=sr.yld i H3 x Z _ (pl.trans Am) hd y;refine⟨S,Hf,B,X0,z[i],?_⟩;cases e4:fg z[i] X0 with
   |none=>simp[e4] at O
   |some S0=>
    refine⟨S0,w3.mono sy,rx B w3.ok.live pl,rfl,λQ2 H5 S1=>⟨S,Hf,S0,?_⟩⟩;cases e5:gb S0 with
    |none=>simp[e4,e5] at O
    |some o5=>
     refine⟨o5,S1,rfl,?_⟩;cases o5 with
     |nx T=>
      simp only[e4,e5,dn] at O;exact λL Z Y=>⟨T,Y,O⟩
     |ct T=>
      simp only[e4,e5,dn] at O;exact λL Z Y=>⟨T,Y,O⟩
     |bk T=>
      simp only[e4,e5,dn] at O;cases O;exact λL Z Y=>k2 L Z Y
     |rt d5 T=>
      simp only[e4,e5,dn] at O;cases O;exact k2
  .left;have ei:i=z.length:=by omega
   subst ei;rw[AJ] at O;cases O;exact⟨sr.stop _ H3 (pl.trans Am) (aE _),k2 P1 H3 ⟨B,w3⟩⟩
theorem dj(n:Nat)(hp:ti (ai X.prog X.w) X.A X.env X.xe)(ht:Sr X G c ga)(hb:RS X G body gb):UR X G (.While c body [] pos) (Gm ga gb n):=by
 rintro A0 He π s W H D I ⟨ρ,o,ok,e,k⟩
 have S0:PT X c (λW H Q=>∃A,tFT G A ga W H Q):=(by rintro π s W H Q I ⟨A,q⟩;exact @ht A π s W H Q I q);refine gM hp S0 (@hb A0 He) π s W H D I ⟨λm z U=>∃L,XT G A0 He z U L/\Gm ga gb m L=O0 o,⟨n,ρ,ok,e⟩,?_⟩;rintro m N0 H1 ⟨S,⟨A,w1⟩,J⟩;cases m with
 |zero=>cases J
 |succ m=>
  unfold Gm at J;cases Z:ga S with
  |none=>simp[Z] at J
  |some t=>
   refine⟨A,S,t,w1.ok,Z,λH2 s2=>?_⟩;cases t with
   |false=>
    refine VO ?_;simp only[Z] at J;cases J;exact k N0 H2 ⟨A,w1.mono s2⟩
   |true=>
    refine WU ⟨λz U=>∃L,XT G A0 He z U L/\Gm ga gb m L=O0 o,λz U q=>⟨m,tm m,q⟩,S,?_⟩;simp only[Z] at J;cases Y:gb S with
    |none=>simp[Y] at J
    |some o3=>
     refine⟨o3,⟨A,w1.mono s2⟩,rfl,?_⟩;cases o3 with
     |nx T=>simp only[Y] at J;exact λz U O=>⟨T,O,J⟩
     |ct T=>simp only[Y] at J;exact λz U O=>⟨T,O,J⟩
     |bk T=>simp only[Y] at J;cases J;exact λz U O=>k z U O
     |rt d5 T=>simp only[Y] at J;cases J;exact k
end
def Nd(G:Gx)(g:List D->Option D):Sp:=λvs H Q _=>∃A ds d,(∀a∈A,Nt (H a))/\be G (bm A H) vs ds/\g ds=O0 d/\∀v z,ab H z->im G (bm A z) v d->Q v z
section
variable {G:Gx}{a:Expr}{es:List Expr}{fs:FA}{p:Pos}
def zX{k:Nat}{f:Addr}{g:List D->Option D}(F:hQ X.prog X.w X.K X.mg X.base CX0 k f fd ps (Nd G g))(Y:Room k X.A)(hg:Gl X x)(Z:X.mg x=O0 (.ref f))(hk:ia X.K (.ref f)=O1)(hb:MZ X.K fd ps [])(ha:SV X G (a::es) fs)(I:(x==("__debug__":Str))=O2:=by decide)(he:aw (a::es) X.env=(O2,eval a X.env)::aw es X.env:=by rfl)(z:(cS pos (aw es X.env)).any (·.1)=O2:=by rfl):
  PF X G (.Call (.Name x p) (a::es) [] pos) (An g fs):=λA=>Bt (Z8 F Y hg Z hk hb .nil RD (@ha A) I he z)<|by
 rintro σ H Q ⟨O,d,o,e,k⟩
 unfold An at e;cases J:fs O with
 |none=>simp[J] at e
 |some L=>
  have e':g L=O0 d:=by simpa [J] using e
  refine⟨O,L,o,J,λvs H1 S W=>⟨A,L,d,(o.mono S).live,by rw[fI];exact W,e',λv H2 T U=>k v H2 (S.trans T) U⟩⟩
end
def K_{G:Gx}{vs:List V}{ds:List D}(live:∀a∈A,Nt (H a))(r:be G (bm A H) vs ds)(U:vs.length<=N.length):XT G A H (start N vs) H (Ce N.length ds):=by
 have g:∀(i:Nat) (z:Slot),(Ce N.length ds)[i]?=O0 z->(∃d,z=.fz d/\ds[i]?=O0 d)∨z=.un:=λi z h=>by
  unfold Ce at h
  by_cases L:i<ds.length
  .rw[kr (by simpa using L),ca] at h;cases e:ds[i]? with
   |none=>rw[e] at h;cases h
   |some d=>rw[e] at h;exact .inl ⟨d,(cy h).symm,rfl⟩
  .rw[ja (by simpa using kG.mp L),As] at h;split at h
   .exact .inr (cy h).symm
   .cases h
 refine⟨A,ab.refl H,λ_ h=>h,λa h=>.inl h,λa S=>(live a S).ne,⟨?_,live,λi d h=>?_,λi d h=>?_,λi j d e a h _ _ _=>?_⟩,λi d a h _=>?_,λx d _ h=>?_⟩
 .unfold L2.start Ce;rw[eA,eA,ay,ay,xb,xb,r.1]
 .rcases g i _ h with ⟨J,e,I⟩ | e
  .cases e;obtain⟨v,O,T⟩:=r.get I;refine⟨v,?_,T⟩;unfold L2.start;rw[kr (by rw[ay];exact (iF.mp O).1),ca,O];rfl
  .cases e
 .rcases g i _ h with ⟨J,e,I⟩ | e
  .cases e
  .cases e
 .rcases g i _ h with ⟨J,e,I⟩ | e
  .cases e
  .cases e
 .rcases g i _ h with ⟨J,e,I⟩ | e
  .cases e
  .cases e
 .rcases g 0 _ h with ⟨J,e,I⟩ | e
  .cases e
  .cases e
theorem UK{G:Gx}{base:Heap}{f:Addr}{k:Nat}{b:FS}(F:Fun G.K x qual st f fd)(S:bc N ps (Ab st))(hl:ps.length<=N.length)(hb:∀(cdv:ac) (A:aS) (g:List Env) (s:ah) (H:Hp) (E:XK),Room k (A.deeper (g9 qual (Ab st) s.heap.objs.size f cdv))->RS (Qr CX0 P w G.K mg base N qual (Ab st) f cdv A g s H E).nox G (Bf st) b):
  hQ P w G.K mg base CX0 (k+1) f fd ps (Nd G (jl N.length ps.length b)):=by
 refine F.ok S (λY H Q E h=>?_) (λcdv A g s H Y Q E hr h=>?_)
 .obtain⟨A,I,d,T,r,e,_⟩:=h;unfold jl at e;split at e
  .rename_i O;rw[r.1];exact O
  .cases e
 .obtain⟨A0,I,d,T,r,e,k⟩:=h;unfold jl at e;split at e
  .rename_i O;have hzz:=hb cdv A g s H E hr;refine⟨_,@hzz A0 H,Ce N.length I,?_⟩;cases z:b (Ce N.length I) with
   |none=>simp[z] at e
   |some o=>
    refine⟨o,K_ T r (by rw[r.1,O];exact hl),rfl,?_⟩;cases o with
    |nx L=>
     simp only[z] at e;cases e;rintro U J ⟨A,w⟩;exact k _ J w.same .non
    |rt d' W=>
     simp only[z] at e;cases e;exact λv U J A w Z=>k v J w.same (Z.mono (Ci w.sub))
    |bk L=>simp[z] at e
    |ct L=>simp[z] at e
  .cases e
section
variable {G:Gx}{a b c:Expr}{px:Pos}{t:Str}{elt iter:Expr}{ifs:List Expr}{ga:FT}{fe:FE}{src:FI}
def PFTs(X:Cx)(G:Gx)(z:List Expr)(f:FT):Prop:=∀⦃A⦄,PTs X z (tFT G A f)
def Ck:PFTs X G [] rc:=by
 rintro A z s g H Q I ⟨J,b,o,e,k⟩
 cases e;exact qO z s g H Q I (k H (ab.refl H))
def Og(h:Sr X G a ga):PFTs X G [a] ga:=λA=>qP (@h A)
theorem Pt.fill{Hc:Hp}{ρ:Rho}(o:Pt G A σ H ρ)(s:ab H Hc)(S:H p=W1)(U:Nt (Hc p)):Pt G (p::A) σ Hc ρ:=by
 have I:ab (bm A H) (bm (p::A) Hc):=λb u h=>by
  unfold bm at h;split at h
  .cases h
  .rename_i W;rw[Ax]
   .exact s b u h
   .intro z
    rcases br.mp z with z | z
    .rw[z,S] at h;cases h
    .exact W z
 refine⟨o.len,λa Y=>?_,λi d h=>?_,λi d h=>?_,o.inj⟩
 .rcases br.mp Y with z | z
  .rw[z];exact U
  .exact (o.mono s).live a z
 .obtain⟨v,L,J⟩:=o.fz i d h;exact⟨v,L,J.mono I⟩
 .obtain⟨a,L,J,T⟩:=o.ow i d h;refine⟨a,L,ck _ J,?_⟩;cases d with
  |lst O=>obtain⟨g,q1,q2⟩:=T;exact⟨g,s _ _ q1,q2.mono I⟩
  |dk O=>obtain⟨g,q1,q2,q3⟩:=T;exact⟨g,s _ _ q1,q2,q3.mono I⟩
  |dt O=>obtain⟨g,q1,q2,q3⟩:=T;exact⟨g,s _ _ q1,q2,q3.mono I⟩
  |ob c Z=>obtain⟨C,dx,g,q1,q2,q3⟩:=T;exact⟨C,dx,g,s _ _ q1,q2,q3.mono I⟩
  |_=>exact T.elim
theorem Pt.snoc{ρ:Rho}{d:D}(o:Pt G A σ H ρ)(r:im G (bm A H) v d):Pt G A (σ++[O0 v]) H (ρ++[.fz d]):=by
 have I:∀(j:Nat) (z:Slot),(ρ++[.fz d])[j]?=O0 z->(j=ρ.length/\z=.fz d)∨(j<ρ.length/\ρ[j]?=O0 z):=λj z h=>by
  by_cases U:j<ρ.length
  .rw[kr U] at h;exact .inr ⟨U,h⟩
  .rw[ja (kG.mp U)] at h;cases q:j-ρ.length with
   |zero=>rw[q] at h;exact .inl ⟨by omega,(cy h).symm⟩
   |succ n=>rw[q] at h;cases h
 have g:∀(j:Nat),j<ρ.length->(σ++[O0 v])[j]?=σ[j]?:=λj U=>kr (by rw[o.len];exact U);refine⟨by rw[eA,eA,o.len];rfl,o.live,λj e h=>?_,λj e h=>?_,λj k e f p Y W T L=>?_⟩
 .rcases I j _ h with ⟨U,O⟩ | ⟨U,O⟩
  .cases O;subst U;exact⟨v,by rw[ja (by rw[o.len];exact aE _),o.len,rL];rfl,r⟩
  .obtain⟨u,q1,q2⟩:=o.fz j e O;exact⟨u,by rw[g j U];exact q1,q2⟩
 .rcases I j _ h with ⟨U,O⟩ | ⟨U,O⟩
  .cases O
  .obtain⟨u,q1,q2⟩:=o.ow j e O;exact⟨u,by rw[g j U];exact q1,q2⟩
 .rcases I j _ Y with ⟨_,O⟩ | ⟨U,O⟩
  .cases O
  .rcases I k _ W with ⟨_,J⟩ | ⟨S,J⟩
   .cases J
   .rw[g j U] at T;rw[g k S] at L;exact o.inj j k e f p O J T L
theorem Pt.snocs{A:List Addr}{H:Hp}:∀{vs:List V}{es:List D}{σ:St}{ρ:Rho},Pt G A σ H ρ->be G (bm A H) vs es->Pt G A (σ++vs.map O0) H (ρ++es.map .fz)
 |[],[],σ,ρ,o,_=>by simpa using o
 |[],_::_,_,_,_,r=>by have:=r.1;simp at this
 |_::_,[],_,_,_,r=>by have:=r.1;simp at this
 |v::vs,e::es,σ,ρ,o,r=>by
  obtain⟨x,z,h,g,O⟩:=r.uncons;cases h;simpa using (o.snoc g).snocs O
def Ep(g:D->Option (List D))(ρ:Rho)(ga:FT)(fe:FE):List D->Option (List D)
 |[]=>O0 []
 |d::r=>(g d).bind λes=>match ga (ρ++es.map .fz) with
  |some O1=>(fe (ρ++es.map .fz)).bind λy=>(Ep g ρ ga fe r).map (y::·)
  |some O2=>Ep g ρ ga fe r
  |none=>W1
def Ib(z:D->Option (List D))(g:FI)(ga:FT)(fe:FE):FE:=λρ=>(g ρ).bind λds=>if ds.length<=sizeLine then (Ep z ρ ga fe ds).map .lst else W1
def bd1(d:D):Option (List D):=O0 [d]
theorem Xk(ρ:Rho)(ga:FT)(fe:FE):∀ds,Jo ρ ga fe ds=Ep bd1 ρ ga fe ds
 |[]=>rfl
 |d::r=>by
  unfold Jo Ep;rw[Xk ρ ga fe r];rfl
def Xl(g:FI)(ga:FT)(fe:FE):BW g ga fe=Ib bd1 g ga fe:=by
 funext ρ;unfold BW Ib;congr 1;funext ds;rw[Xk]
def Bnd(G:Gx)(N n:Nat)(J:D->Option (List D))(g:TG):Prop:=∀(A:List Addr) (z I:St) (H:Hp) (x:V) (d:D) (es:List D) (Q:St->Hp->Prop),z.length=N->I.length=n->J d=O0 es->im G (bm A H) x d->(∀vs,vs.length=n->be G (bm A H) vs es->Q (z++vs.map O0) H)->g x (z++I) H Q
def bnd1{N:Nat}:Bnd G N 1 bd1 (Es N):=λA g J H x d L Q Y I e r k=>by
 cases e;obtain⟨o,rfl⟩:=List.length_eq_one_iff.mp I;have z:(g++[o]).set N (O0 x)=g++[O0 x]:=by rw[<-Y,DZ _ _ (aE _),rL];rfl
 show Q ((g++[o]).set N (O0 x)) H;rw[z];exact k [x] rfl (.cons r .nil)
def tN(G:Gx)(A:List Addr)(f:FE):TE:=λz H Q=>∃ρ d,Pt G A z H ρ/\f ρ=O0 d/\∀p g,ab H g->H p=W1->NJ G (p::A) g p d->Q (.ref p) g
def Xm{N:Nat}{bd:D->Option (List D)}{g:TG}(hX:X.N.length=N)(hB:Bnd G N n bd g){A:List Addr}{W:St}{H:Hp}{Q:VK}(h:tN G A (Ib bd src ga fe) W H Q):ZC n (ud X (tI G A O1 src)) g (λW H Q=>∃A,tFT G A ga W H Q) (λW H Q=>∃A,tF G A fe W H Q) W H Q:=by
 obtain⟨ρ,d,o,e,k⟩:=h;unfold Ib at e;cases e1:src ρ with
 |none=>simp[e1] at e
 |some I=>
  rw[e1] at e;have e':(if I.length<=sizeLine then (Ep bd ρ ga fe I).map D.lst else W1)=O0 d:=e;split at e'
  .rename_i hz;cases e2:Ep bd ρ ga fe I with
   |none=>simp[e2] at e'
   |some S0=>
    simp only[e2,io] at e';cases e';refine⟨λJ H1=>ab H H1/\Src G J I H1 (bm A H1),⟨ρ,I,o,e1,λJ H1 s1 sr=>⟨s1,sr⟩⟩,λJ H1 N1 q0 p hp=>?_⟩;obtain⟨s1,sr⟩:=q0;have o1:=o.mono s1;refine⟨λi m ys U=>m=I.length-i/\i<=I.length/\U p=O0 (.lst ys)/\ab H1 U/\ys.length<=i/\∃es il,be G (bm (p::A) U) ys es/\Ep bd ρ ga fe (I.drop i)=O0 il/\es++il=S0,
     ⟨I.length,by simp,eK _,Aj,Ak hp _,aE _,[],S0,be.nil,by simpa using e2,rfl⟩,?_⟩
    rintro i m ys U ⟨rfl,X1,O,T,hy,es,il,rr,L,eo⟩
    by_cases S:i<I.length
    .right;have hd:I[i]?=O0 I[i]:=by simp[S]
     have ed:I.drop i=I[i]::I.drop (i+1):=uk S;rw[ed] at L;unfold Ep at L;refine⟨sr.go i U T S,λx H' y os ho=>?_⟩;obtain⟨sy,rx⟩:=sr.yld i U x H' _ T hd y;have T0:Pt G (p::A) W U ρ:=o1.fill T hp (by rw[O];exact Nt.lst);have sm:ab (bm A H1) (bm (p::A) U):=λb u h=>by
      unfold bm at h;split at h
      .cases h
      .rename_i hb;rw[Ax]
       .exact T b u h
       .intro z
        rcases br.mp z with z | z
        .rw[z,hp] at h;cases h
        .exact hb z
     cases N0:bd I[i] with
     |none=>simp[N0] at L
     |some bs=>
     simp only[N0,dn] at L;refine hB (p::A) W os H' x I[i] bs _ (N1.trans hX) ho N0 (rx _ T0.live sm) λvs S1 P1=>⟨⟨_,rfl,by rw[ay];exact S1⟩,?_⟩;have X0:=(T0.mono sy).snocs P1;have O:=sy _ _ O;have rr:=rr.mono (BJ sy);have T:=T.trans sy;cases eg:ga (ρ++bs.map .fz) with
     |none=>simp[eg] at L
     |some b=>
      refine⟨p::A,_,b,X0,eg,λH2 Y=>?_⟩;cases b with
      |false=>
       refine VO ⟨I.length-(i+1),by omega,rfl,S,Y _ _ O,T.trans Y,AK hy,es,il,rr.mono (BJ Y),by simpa [eg] using L,eo⟩
      |true=>
       simp only[eg] at L;cases ee:fe (ρ++bs.map .fz) with
       |none=>simp[ee] at L
       |some yd=>
        cases ec:Ep bd ρ ga fe (I.drop (i+1)) with
        |none=>simp[ee,ec] at L
        |some Z=>
         simp only[ee,ec,dn,io] at L;cases L;refine WU ⟨p::A,_,yd,X0.mono Y,ee,λyv H3 s3 r3=>?_⟩;have U1:=s3 _ _ (Y _ _ O);refine⟨U1,by omega,I.length-(i+1),by omega,rfl,S,Aj,λb u q=>?_,by rw[eA];simp;omega,es++[yd],Z,?_,ec,by rw[E1];exact eo⟩
         .have hb:b≠p:=Df q hp;rw[Al hb];exact s3 _ _ (Y _ _ (T _ _ q))
         .rw[Dt da];exact (rr.mono (BJ (Y.trans s3))).append (.cons r3 .nil)
    .left;have ei:i=I.length:=by omega
     subst ei;rw[AJ] at L;simp only[Ep] at L;cases L;rw[fI] at eo;subst eo;exact⟨sr.stop _ U T (aE _),k p U (s1.trans T) (s1.free hp) ⟨ys,O,rr⟩⟩
  .cases e'
def ul{J:D->Option (List D)}{Q:VK}(h:tF G A (Ib J src ga fe) σ H Q):tN G A (Ib J src ga fe) σ H Q:=by
 obtain⟨I,d,o,e,k⟩:=h;have O:=e;unfold Ib at O;cases T:src I with
 |none=>simp[T] at O
 |some L=>
  rw[T] at O;have g:(if L.length<=sizeLine then (Ep J I ga fe L).map D.lst else W1)=O0 d:=O;split at g
  .cases S:Ep J I ga fe L with
   |none=>rw[S] at g;cases g
   |some W=>
    rw[S] at g;cases g;refine⟨I,_,o,e,λp H' U Y ⟨xs,h1,h2⟩=>k _ H' U ?_⟩;have q:=h2.mono (Ci (A:=A) λa Z=>ck _ Z);exact .lst (.of (by rw[Ax (λz=>(o.live p z).ne Y)];exact h1)) q.1 q.2
  .cases g
section
variable {bd:D->Option (List D)}{g:TG}{ts:List Str}
theorem Xn(L:List Str)(Z:Br ts X.N++ts=L)(c:mr X scope ts)(S:X.calm=O1)(hi:RU X G O1 tg iter src)(W:∀s2 z fp,PG (Bg X scope L s2 z fp) tg g)(Y:Bnd G X.N.length ts.length bd g)(T:∀s2 z fp,PFTs (Bg X scope L s2 z fp) G ifs ga)(U:∀s2 z fp,PF (Bg X scope L s2 z fp) G elt fe)(hs:∀x,lc iter X.env x=pure x:=by intro _;rfl)(A:List Addr):PE X (.ListComp elt [⟨tg,iter,ifs,0⟩] scope pos) (tN G A (Ib bd src ga fe)):=by
 subst Z;refine Bt (iT (tc:=λJ H Q=>∃A,tFT G A ga J H Q) (te:=λJ H Q=>∃A,tF G A fe J H Q) c S (aD (@hi A)) W (λs2 z fp=>?_) (λs2 z fp=>?_) hs) λ_ _ _ h=>Xm rfl Y h
 .rintro O s J H Q I ⟨A,q⟩;exact T s2 z fp O s J H Q I q
 .rintro O s J H Q I ⟨A,q⟩;exact U s2 z fp O s J H Q I q
theorem jB(O:List Str)(eN:Br ts X.N++ts=O)(c:mr X scope ts)(Y:X.calm=O1)(Z:X.N.Nodup)(W:X.N[i]?=O0 y)(S:Loc X.env.scope y)(hi:RU X G O1 tg iter src)(hG:∀s2 J fp,PG (Bg X scope O s2 J fp) tg g)(hB:Bnd G X.N.length ts.length bd g)(hI:∀s2 J fp,PFTs (Bg X scope O s2 J fp) G ifs ga)(hE:∀s2 J fp,PF (Bg X scope O s2 J fp) G elt fe)(U:eJ (.ListComp elt [⟨tg,iter,ifs,0⟩] scope pos) (O0 (.Name y py)) spos.line X.env=pure O1)(T:X.fn y=O1∨X.env.scope.names.lookup y=O0 .local)(hs:∀x,lc iter X.env x=pure x)(A:List Addr){L:NY}{s:ah}{z:St}{H:Hp}{D:SO}(I:Inv X L z H s)(h:WJ (tN G A (Ib bd src ga fe)) (Es i) D z H):
  ag (ai X.prog X.w) X.A (exec (.Assign [.Name y py] (.ListComp elt [⟨tg,iter,ifs,0⟩] scope pos) spos) X.env) (SP X L D) X.xe s:=by
 subst eN;refine iU (tc:=λz H Q=>∃A,tFT G A ga z H Q) (te:=λz H Q=>∃A,tF G A fe z H Q) c Y Z W S (aD (@hi A)) hG (λs2 J fp=>?_) (λs2 J fp=>?_) U T hs L s z H D I (Xm rfl hB h)
 .rintro L s z H Q I ⟨A,q⟩;exact hI s2 J fp L s z H Q I q
 .rintro L s z H Q I ⟨A,q⟩;exact hE s2 J fp L s z H Q I q
end
def um{L:List Str}(Z:Ds t X.N++[t]=L)(c:QL X scope t)(S:ah)(z:Hp)(fp:List Addr):PG (Bg X scope L S z fp) (.Name t px) (Es X.N.length):=by
 subst Z;exact gOne c S z fp
def DN(L:List Str)(Z:Ds t X.N++[t]=L)(c:QL X scope t)(J:X.calm=O1)(g:RU X G O1 (.Name t px) iter src)(T:∀s2 z fp,PFTs { Sq X scope t s2 z fp with N:=L } G ifs ga)(U:∀s2 z fp,PF { Sq X scope t s2 z fp with N:=L } G elt fe)(hs:∀x,lc iter X.env x=pure x:=by intro _;rfl):PF X G (.ListComp elt [⟨.Name t px,iter,ifs,0⟩] scope pos) (BW src ga fe):=λA=>by
 rw[Xl];exact Bt (Xn L Z c J g (um Z c) bnd1 T U hs A) λ_ _ _ h=>ul h
def jC(L:List Str)(Z:Ds t X.N++[t]=L)(c:QL X scope t)(S:X.calm=O1)(T:X.N.Nodup)(W:X.N[i]?=O0 y)(g:Loc X.env.scope y)(J:RU X G O1 (.Name t px) iter src)(Y:∀s2 z fp,PFTs { Sq X scope t s2 z fp with N:=L } G ifs ga)(hE:∀s2 z fp,PF { Sq X scope t s2 z fp with N:=L } G elt fe)(U:eJ (.ListComp elt [⟨.Name t px,iter,ifs,0⟩] scope pos) (O0 (.Name y py)) spos.line X.env=pure O1:=by rfl)(O:X.fn y=O1∨X.env.scope.names.lookup y=O0 .local :=by first | exact .inl rfl | exact .inr rfl | assumption)(hs:∀x,lc iter X.env x=pure x:=by intro _;rfl):
  UR X G (.Assign [.Name y py] (.ListComp elt [⟨.Name t px,iter,ifs,0⟩] scope pos) spos) (mf i (BW src ga fe)):=by
 rintro A0 He π s σ H D I ⟨ρ,o,⟨A,w⟩,e,k⟩
 rw[Xl] at e;exact jB L Z c S T W g J (um Z c) bnd1 Y hE U O hs A I (ul (jA w e k))
end
section
variable {A:aS}{R:oC->ah->Prop}{I:Addr}{fp wr:List Addr}{P:Nat->ac->Prop}{Sx:Nat->Heap->Prop}
def mmL:String->kz->eI:=by
 apply (λ(f:String->kz->eI) (_:f "max" .Gt=eI.«max.loop»)=>f);delta eI.«max.loop»;exact rfl
def mmB:String->eI:=by
 apply (λ(f:String->eI) (_:f "max"=K0)=>f);delta K0;exact rfl
structure Mm where
 nm:String
 lp:String
 op:kz
 gt:Int->Int->Bool
 N:(Nat->Int)->Nat->Int
 nl:(toString nm++toString ".loop":String)=lp
 pl:plainId lp=O1
 el:xv table lp=O0 (mmL nm op)
 ki:builtinKind nm=W1
 pb:plainId nm=O1
 eb:xv table nm=O0 (mmB nm)
 ar:∀a v:ac,nN nm ⟨[a],[(dL "default",v)]⟩
 cm:∀{prog:cw}{w:bP}{A:aS}{P:Nat->ac->Prop}(val:Nat->Int),(∀i v,P i v->∃t,v=oa (val i) t)->CmpOf prog w A op P λi j=>gt (val i) (val j)
 best:∀(val:Nat->Int) (k:Nat),val (iq (λi j=>gt (val i) (val j)) k)=N val k
 cong:∀{f g:Nat->Int}{k:Nat},(∀i,i<=k->f i=g i)->N f k=N g k
def mmD(m:Mm)(x y:D):Option D:=match x with
 |.lst ds=>(Fp ds).map λO=>if O=[] then y else .int (m.N (λi=>O.getD i 0) (O.length-1))
 |_=>W1
def qp(m:Mm)(W:nV prog w A.in1 I fp wr n P Sx)(bt:Nat->Nat->Bool)(S0:CmpOf prog w A.in1 m.op P bt)(S:Addr)(nS:S∉fp):
  ∀(k j:Nat) (s:ah) (J:ac) (c:Nat),k=n-(j+1)->j+1<=n->Sx (j+1) s.heap->P (iq bt j) J->s.heap.get? S=O0 { cls:=.type "list",dict:=W1,data:=.seq #[J,J] c,slots:=#[] } ->
  (∀v h' tk,P (iq bt (n-1)) v->(∀b o,b∉wr->b≠S->s.heap.get? b=O0 o->h'.get? b=O0 o)->R (.ok (.ret v)) { s with heap:=h',toks:=tk })->gI (ai prog w) A (.builtin m.lp ⟨[.ref I,.none,.ref S],kw⟩) R s:=by
 have nW:S∉wr:=λh=>nS (W.sub _ h);intro k
 induction k with
 |zero=>
  intro j s J c hk hj U hb hS hR;have en:j+1=n:=by omega
  refine kK m.el (by
   rw[rX m.pl _];show ag _ A.in1 (xw (.ref S) >>= _) _ _ s;refine ae (n9 hS rfl ?_);show ag _ A.in1 (tryCatch (gE (.ref I)) _ >>= _) _ _ s;refine ae (xy (W.done s _ _ (by rw[<-en];exact U) λh1 tk kp=>?_));have G:=kp S _ nW hS;show ag _ A.in1 (AL S (λ_=>#[]) >>= _) _ _ _;refine ae (xB G rfl (ae (xC (av ?_))));exact hR J _ tk (by rw[<-en];exact hb) λb o O g e=>(lP _ _ (cf g)).trans (kp b o O e))
 |succ k ih=>
  intro j s J c hk hj U hb hS hR;have Y:j+1<n:=by omega
  refine kK m.el (by
   rw[rX m.pl _];show ag _ A.in1 (xw (.ref S) >>= _) _ _ s;refine ae (n9 hS rfl ?_);show ag _ A.in1 (tryCatch (gE (.ref I)) _ >>= _) _ _ s;refine ae (xy (W.item (j+1) s _ _ Y U λv h1 tk hP N0 kp=>?_));have G:=kp S _ nW hS;show ag _ A.in1 (tryCatch (li [v,v] (richCompare m.op v J >>= _)) _ >>= _) _ _ _;refine ae (xy (wpAny_holding (ae (S0 (j+1) (iq bt j) v J _ _ _ hP hb ?_))));refine ae (wpAny_holding (jS (ae (xC (av ?_)))));cases q:bt (j+1) (iq bt j) with
   |true=>
    simp only[VI];refine ae (xB G rfl (ae (xC ?_)));rw[m.nl];refine av ⟨pE m.pl _,ih (j+1) _ v _ .(0) Y (W.frame _ _ _ N0 λb T0 o e=>(lP _ _ (λz:S=b=>nS (by rw[z];exact T0))).trans e) (by simp only[iq,q,VI];exact hP) (nX _ G rfl)
     λv2 h2 L Z T=>hR v2 h2 L Z λb o O g e=>T b o O g ((lP _ _ (cf g)).trans (kp b o O e))⟩
   |false=>
    simp only[dQ,WI];refine ae (xC ?_);rw[m.nl];exact av ⟨pE m.pl _,ih (j+1) _ J c .(0) Y N0 (by simp only[iq,q,dQ,WI];exact hb) G λv2 h2 L Z T=>hR v2 h2 L Z λb o O g e=>T b o O g (kp b o O e)⟩)
def jD(m:Mm)(W:nV prog w A.in1 I fp wr n P Sx)(bt:Nat->Nat->Bool)(J:CmpOf prog w A.in1 m.op P bt)(S:Addr)(Y:S∉fp){s:ah}{c:Nat}{nm:Str}{dv:ac}(G:Sx 0 s.heap)(hS:s.heap.get? S=O0 { cls:=.type "list",dict:=W1,data:=.seq #[] c,slots:=#[] })(hR:0<n->∀v h' tk,P (iq bt (n-1)) v->(∀b o,b∉wr->b≠S->s.heap.get? b=O0 o->h'.get? b=O0 o)->R (.ok (.ret v)) { s with heap:=h',toks:=tk })(h0:n=0->∀h' tk,(∀b o,b∉wr->s.heap.get? b=O0 o->h'.get? b=O0 o)->R (.ok (.ret dv)) { s with heap:=h',toks:=tk }):
  gI (ai prog w) A (.builtin m.lp ⟨[.ref I,.none,.ref S],[(nm,dv)]⟩) R s:=by
 have nW:S∉wr:=λh=>Y (W.sub _ h);refine kK m.el (by
  rw[rX m.pl _];show ag _ A.in1 (xw (.ref S) >>= _) _ _ s;refine ae (n9 hS rfl ?_);show ag _ A.in1 (tryCatch (gE (.ref I)) _ >>= _) _ _ s
  by_cases hn:0<n
  .refine ae (xy (W.item 0 s _ _ hn G λv h1 tk hP U O=>?_));have L:=O S _ nW hS;show ag _ A.in1 (AL S (λ_=>#[v,v]) >>= _) _ _ _;refine ae (xB L rfl ?_);rw[m.nl];exact av ⟨pE m.pl _,qp m W bt J S Y _ 0 _ v _ rfl hn (W.frame _ _ _ U λb N0 o e=>(lP _ _ (λz:S=b=>Y (by rw[z];exact N0))).trans e) hP (nX _ L rfl)
    λv2 h2 T S0 Z=>hR hn v2 h2 T S0 λb o nb g e=>Z b o nb g ((lP _ _ (cf g)).trans (O b o nb e))⟩
  .have en:n=0:=by omega
   refine ae (xy (W.done s _ _ (by rw[en];exact G) λh1 tk O=>?_));exact ae (sK (av (h0 en h1 tk O))))
end
section
variable {A:aS}{l:Addr}{xs:Array (Int×Tok)}
def jE(m:Mm){Q:ac->ah->Prop}{I:ac}(T:A.handled=W1)(hl:s.heap.IsList l (gi xs))(h1:0<xs.size->∀v h' tk,(gi xs)[iq (λi j=>m.gt (jp xs i) (jp xs j)) (xs.size-1)]?=O0 v->(∀b o,s.heap.get? b=O0 o->h'.get? b=O0 o)->Q v { s with heap:=h',toks:=tk })(h0:xs.size=0->∀h' tk,(∀b o,s.heap.get? b=O0 o->h'.get? b=O0 o)->Q I { s with heap:=h',toks:=tk }):
  ag (ai prog w) A (call (.builtin m.nm) [.ref l] [(dL "default",I)]) Q E s:=by
 refine PyProof.Rows.kmk_tree m.ki m.pb m.eb (m.ar _ _) ?_;show ag _ A.in1 (K2 m.nm ["key","default"] 0 ⟨[],[(dL "default",I)]⟩ >>= _) _ _ s;refine ae (AM (show K2 m.nm ["key","default"] 0 ⟨[],[(dL "default",I)]⟩=pure [W1,O0 I] from rfl) (ae (av ?_)));refine ae (iter_intList hl λs2 e Y O G=>?_);subst e;refine ae (kB ?_);have Z:(s.heap.push { cls:=.type "list_iterator",data:=.fields #[.ref l,.int 0 0] }).objs.size∉[s.heap.objs.size,l]:=λg=>ka _ (O _ g);have W:nV prog w A.in1.in1 s.heap.objs.size [s.heap.objs.size,l] [s.heap.objs.size] (gi xs).size (λi v=>(gi xs)[i]?=O0 v) (λi h=>h.IsListIter s.heap.objs.size l i/\h.IsList l (gi xs)):=AN (A:=A.in1.in1) T _ l G (gi xs);have U:nV prog w A.in1 s.heap.objs.size [s.heap.objs.size,l] [s.heap.objs.size] (gi xs).size (λi v=>(gi xs)[i]?=O0 v) (λi h=>h.IsListIter s.heap.objs.size l i/\h.IsList l (gi xs)):=AN (A:=A.in1) T _ l G (gi xs);have sz:(gi xs).size=xs.size:=by simp[gi]
 have S:∀b o,s.heap.get? b=O0 o->((s.heap.push { cls:=.type "list_iterator",data:=.fields #[.ref l,.int 0 0] }).push { cls:=.type "list",data:=.seq ([]:List ac).toArray }).get? b=O0 o:=λb o e=>bn _ (bn _ e);rw[m.nl];refine av ⟨pE m.pl _,jD m U (λi j=>m.gt (jp xs i) (jp xs j)) (m.cm (jp xs) (λ_ _=>E4)) _ Z (U.frame 0 _ _ Y λb hb o e=>bn _ e) (ce _ rfl) (λL v h' tk hP J=>?_) (λL h' tk J=>?_)⟩
 .refine h1 (by rw[<-sz];exact L) v h' tk (by rw[sz] at hP;exact hP) λb o e=>J b o ?_ ?_ (S b o e)
  .intro g;exact NI (bo e) (by rw[mI.mp g];exact ka _)
  .intro z;have q:b<s.heap.objs.size:=bo e;rw[iO] at z;exact NI (z▸q) (kG.mpr (lx _))
 .refine h0 (by rw[<-sz];exact L) h' tk λb o e=>J b o ?_ (S b o e);intro g;exact NI (bo e) (by rw[mI.mp g];exact ka _)
end
theorem Nh(g:Nat->Nat->Bool):∀k,iq g k<=k
 |0=>aE _
 |k+1=>by
  unfold iq;split
  .exact aE _
  .exact AK (Nh g k)
theorem Pi{G:Gx}{H:Hp}:∀{ds:List D}{xs:List V}{ns:List Int},be G H xs ds->Fp ds=O0 ns->xs=ns.map V.int
 |[],xs,ns,r,h=>by cases h;rw[r.nil_inv];rfl
 |d::ds,xs,ns,r,h=>by
  obtain⟨x,z,rfl,g,O⟩:=r.uncons;cases d with
  |int i=>
   simp only[Fp] at h;cases e:Fp ds with
   |none=>simp[e] at h
   |some I=>
    simp only[e,io] at h;cases h;cases g;rw[Pi O e];rfl
  |_=>simp[Fp] at h
def Xo:∀{us:List ac},cx (ns.map V.int) us->∃xs:Array (Int×Tok),us.toArray=gi xs/\xs.size=ns.length/\∀i,i<ns.length->jp xs i=ns.getD i 0:=by
 induction ns with
 |nil=>intro us r;cases r;exact⟨#[],by simp[gi],rfl,λi h=>by simp at h⟩
 |cons n ns G=>
  intro us r;rw[ba] at r;cases r with
  |cons z O=>
   obtain⟨tk,rfl⟩:=z;obtain⟨xs,S,L,J⟩:=G O;refine⟨⟨(n,tk)::xs.toList⟩,?_,by simp[L],λi I=>?_⟩
   .have g:=RI C9 S;simp only[gi,Kb] at g;simp only[gi];apply E5.mp;simp[g]
   .cases i with
    |zero=>simp[jp]
    |succ i=>
     have:=J i (by simpa using I);simp only[jp] at this ⊢;simpa using this
def rMm(m:Mm)(K:aI):V->V->Hp->VK->Prop:=λx y H Q=>∃p O,x=.ref p/\NS K H p (O.map V.int)/\Q (if O=[] then y else .int (m.N (λi=>O.getD i 0) (O.length-1))) H
section
variable {G:Gx}{a b:Expr}{fa fb:FE}{p kpos:Pos}
def xN(m:Mm)(hc:X.calm=O1){W:NY}{s:ah}{U:St}{H:Hp}{x y:V}{v u:ac}{Q:VK}(I:Inv X W U H s)(rx:cc x v)(Z:cc y u)(h:rMm m X.K x y H Q):
  ag (ai X.prog X.w) X.A (call (.builtin m.nm) [v] [(dL "default",u)]) (EP X W U Q) X.xe s:=by
 obtain⟨q,O,rfl,hs,k⟩:=h;cases rx;obtain⟨N0,rv,pl,hz⟩:=I.list hs;obtain⟨g,e1,J,e3⟩:=Xo rv;have hl:s.heap.IsList q (gi g):=by rw[<-e1];exact pl.isList
 refine jE m (I.ok.hd hc) hl (λT w h' tk hP S=>?_) (λT h' tk S=>?_)
 .have L:O≠[]:=λz=>by rw[z] at J;exact NI T (by rw[J];exact ka _)
  rw[ZH L] at k;obtain⟨t,rfl⟩:=E4 hP;refine⟨.int _,H,I.kept S,⟨t,?_⟩,k⟩;have S0:=Nh (λi j=>m.gt (jp g i) (jp g j)) (g.size-1);have q:=m.best (jp g) (g.size-1);rw[q,J];congr 1;have Y:0<O.length:=E6.mpr L;exact m.cong λi hi=>e3 i .(0)
 .have L:O=[]:=by
   rw[T] at J;exact pj.mp J.symm
  rw[WH L] at k;exact⟨y,H,I.kept S,Z,k⟩
def uo(m:Mm){x:Str}(hc:X.calm=O1)(hG:G.K=X.K)(hg:Gl X x)(hm:X.mg x=W1)(hv:cE x=O0 (.builtin m.nm))(ha:PU X G a fa)(hb:PF X G b fb)(hn:x≠"__name__":=by decide)(N0:(x==("__debug__":Str))=O2:=by decide)(he:aw [a] X.env=[(O2,eval a X.env)]:=by rfl)(hk:fR [⟨O0 (dL "default"),b,kpos⟩] X.env=[(O0 (dL "default"),eval b X.env)]:=by rfl):
  PF X G (.Call (.Name x p) [a] [⟨O0 (dL "default"),b,kpos⟩] pos) (bF (mmD m) fa fb):=λA π s σ H Q I h=>by
 obtain⟨ρ,d,o,e,k⟩:=h;obtain⟨dx,dy,e1,e2,g⟩:=Rg e;refine wx (P_ I hg hm hv ?_ hn N0);have hA:=Bw (X:=X) (@ha A) Dq he pos π s σ H (λS J=>∃v,S=[v]/\ab H J/\mu G A J v dx) I ⟨ρ,dx,o,e1,λv J T Z=>⟨v,rfl,T,Z⟩⟩;refine callWith_kw (la hA λus T q0=>?_) (by rw[he];rfl) (by rw[he];rfl) (by rw[hk];rfl) (by rw[hk];rfl);obtain⟨S,J,I1,rv,v,ev,O,Z⟩:=q0;subst ev;have hK:=qD (X:=X) (nm:=O0 (dL "default")) (kpos:=kpos) (@hb A) wQ pos π T σ J (λS z=>∃v,S=[v]/\ab J z/\im G (bm A z) v dy) I1 ⟨ρ,dy,o.mono O,e2,λv z s2 Y=>⟨v,rfl,s2,Y⟩⟩;refine la hK λks s2 q9=>?_;obtain⟨ws,z,I2,U,y,ey,L,Y⟩:=q9;subst ey;obtain⟨u,rfl,ru⟩:=SR rv;obtain⟨u2,rfl,W⟩:=SR U;rw[hk];have s0:=O.trans L;unfold mmD at g;cases dx with
 |lst ds=>
  simp only at g;cases ei:Fp ds with
  |none=>simp[ei] at g
  |some ns=>
   simp only[ei,io] at g;obtain⟨q,xs,rfl,h1,rr⟩:=(Z.mono L).lst;have ex:=Pi rr ei;subst ex;refine xN m hc I2 ru W ⟨q,ns,rfl,by rw[<-hG];exact h1,?_⟩
   by_cases nn:ns=[]
   .rw[WH nn] at g ⊢;cases g;exact k _ z s0 Y
   .rw[ZH nn] at g ⊢;cases g;exact k _ z s0 (.int _)
 |_=>cases g
def du(a v:ac):nN "max" ⟨[a],[(dL "default",v)]⟩:=by unfold nN;kernel_rfl
theorem TJ(val:Nat->Int):∀k,val (iq (λi j=>decide (val i > val j)) k)=Ya val k
 |0=>rfl
 |k+1=>by
  have g:=TJ val k;unfold iq Ya
  by_cases h:val (k+1) > Ya val k
  .rw[WH (by rw[g];exact QI h),WH h]
  .rw[ZH (by rw[g];simpa using h),ZH h];exact g
theorem QS{f g:Nat->Int}:∀{k:Nat},(∀i,i<=k->f i=g i)->Ya f k=Ya g k
 |0,h=>h 0 (aE _)
 |k+1,h=>by
  unfold Ya;rw[h (k+1) (aE _),QS λi z=>h i (AK z)]
def mMax:Mm:=⟨"max","max.loop",.Gt,λi j=>decide (i > j),Ya,by decide,PySem.F.plain_max_loop,PySem.F.entry_max_loop,PySem.F.kind_max,PySem.F.plain_max,PySem.F.entry_max,du,CmpOf.ints_gt,TJ,QS⟩
def qu(S:X.calm=O1)(Y:G.K=X.K)(W:Gl X x)(J:X.mg x=W1)(z:cE x=O0 (.builtin "max"))(U:PU X G a fa)(T:PF X G b fb)(I:x≠"__name__":=by decide)(g:(x==("__debug__":Str))=O2:=by decide)(O:aw [a] X.env=[(O2,eval a X.env)]:=by rfl)(L:fR [⟨O0 (dL "default"),b,kpos⟩] X.env=[(O0 (dL "default"),eval b X.env)]:=by rfl):
  PF X G (.Call (.Name x p) [a] [⟨O0 (dL "default"),b,kpos⟩] pos) (bF aG fa fb):=uo mMax S Y W J z U T I g O L
theorem Xp{H:Hp}:∀{ds:List D}{xs:List V}{ns:List Str},be G H xs ds->M6 ds=O0 ns->xs=ns.map V.str
 |[],xs,ns,r,h=>by cases h;rw[r.nil_inv];rfl
 |d::ds,xs,ns,r,h=>by
  obtain⟨x,z,rfl,g,O⟩:=r.uncons;cases d with
  |str i=>
   simp only[M6] at h;cases e:M6 ds with
   |none=>simp[e] at h
   |some I=>
    simp only[e,io] at h;cases h;cases g;rw[Xp O e];rfl
  |_=>simp[M6] at h
def qw(K:aI)(n T:String):tq K (.type n) (.type T)=tq [] (.type n) (.type T):=rfl
def TyX(K:aI)(H:Hp)(x:V)(n:String):Prop:=
 Sn K H x (.type n)∨(n="list"/\∃a xs,x=.ref a/\NS K H a xs)∨(n="tuple"/\∃a xs,x=.ref a/\NR K H a xs)
def xO{d:D}{n:String}(r:mu G A H v d)(h:tyD d=O0 n):TyX G.K H v n:=by
 cases d with
 |non=>cases h;rw[r.non];exact .inl .non
 |bl b=>cases h;rw[r.bl];exact .inl (.bl b)
 |int b=>cases h;rw[r.int];exact .inl (.int b)
 |str b=>cases h;rw[r.str];exact .inl (.str b)
 |lst z=>cases h;obtain⟨a,g,e,q,_⟩:=r.lst;exact .inr (.inl ⟨rfl,a,g,e,q⟩)
 |tup z=>cases h;obtain⟨a,g,e,q,_⟩:=r.tup;exact .inr (.inr ⟨rfl,a,g,e,q⟩)
 |_=>cases h
def jF(T:String):Dd X (.builtin "isinstance") (λxs H Q=>∃x n b,xs=[x,.ty T]/\TyX X.K H x n/\tq X.K (.type n) (.type T)=O0 b/\Q (.bl b) H):=by
 intro Y s W H xs Z Q I r h;obtain⟨x,n,b,rfl,ty,e,k⟩:=h;obtain⟨u,c,rfl,J,U⟩:=vals2 r;cases U
 rcases ty with ty | ⟨rfl,a,S,rfl,q⟩ | ⟨rfl,a,S,rfl,q⟩
 .exact dR I J ty e λtk=>⟨.bl b,H,I.tok _,rfl,k⟩
 .cases J;obtain⟨g,_,p,_⟩:=I.list q;obtain⟨o,L,O,_⟩:=p.isList;exact kq CM I.kIn ⟨o,L,O⟩ e (λz=>nomatch z) λtk=>⟨.bl b,H,I.tok _,rfl,k⟩
 .cases J;obtain⟨g,_,p,_⟩:=I.tuple q;obtain⟨o,L,O,_⟩:=(show s.heap.IsTuple a g.toArray from p);exact kq HU I.kIn ⟨o,L,O⟩ e (λz=>nomatch z) λtk=>⟨.bl b,H,I.tok _,rfl,k⟩
def TQ(T:String):Bool:=(["NoneType","bool","int","str","list","tuple"]:List String).all λn=>tq [] (.type n) (.type T)==O0 (n==T||(n=="bool"&&T=="int"))
def dw{T:String}(h:TQ T=O1){d:D}{n:String}(e:tyD d=O0 n):tq [] (.type n) (.type T)=O0 (n==T||(n=="bool"&&T=="int")):=by
 unfold TQ at h;rw[eS] at h;have m:n∈(["NoneType","bool","int","str","list","tuple"]:List String):=by
  cases d<;>simp[tyD] at e<;>subst e<;>simp
 simpa using h n m
def jG{t:Str}{T:String}(hT:TQ T=O1)(hG:G.K=X.K)(hg:Gl X x)(hm:X.mg x=W1)(hv:cE x=O0 (.builtin "isinstance"))(ht:Gl X t)(O:X.mg t=W1)(J:cE t=O0 (.type T))(ha:PU X G a fa)(hn:x≠"__name__":=by decide)(U:(x==("__debug__":Str))=O2:=by decide)(L:t≠"__name__":=by decide)(S:(t==("__debug__":Str))=O2:=by decide)(W:aw [a,.Name t tp] X.env=(O2,eval a X.env)::aw [.Name t tp] X.env:=by rfl)(z:aw [.Name t tp] X.env=[(O2,eval (.Name t tp) X.env)]:=by rfl):
  PF X G (.Call (.Name x p) [a,.Name t tp] [] pos) (uF (isiD T) fa):=λA=>Bt (K6 (jF T) hg hm hv (Bw (@ha A) (Bw (pR (v:=.ty T) ht O J rfl L S) Dq z) W) hn U W (by rw[z];rfl))<|by
 rintro σ H Q ⟨Y,d,o,e,k⟩
 obtain⟨dx,e1,I⟩:=Ez e;unfold isiD at I;cases g:tyD dx with
 |none=>simp[g] at I
 |some n=>
  simp only[g,io] at I;cases I;exact⟨Y,dx,o,e1,λv H1 Z r1=>⟨v,n,_,rfl,by rw[<-hG];exact xO r1 g,by rw[qw];exact dw hT g,k _ H1 Z (.bl _)⟩⟩
def qx:TQ "int"=O1:=by decide +kernel
def jH:TQ "bool"=O1:=by decide +kernel
end
def DP:cE "len"=O0 (.builtin "len"):=by decide +kernel
def TV:cE "max"=O0 (.builtin "max"):=by decide +kernel
def V5:cE "min"=O0 (.builtin "min"):=by decide +kernel
def M7:cE "isinstance"=O0 (.builtin "isinstance"):=by decide +kernel
def Mh:cE "sorted"=O0 (.builtin "sorted"):=by decide +kernel
def xP:cE "int"=O0 (.type "int"):=by decide +kernel
def qy:cE "bool"=O0 (.type "bool"):=by decide +kernel
def Rj:cE "list"=O0 (.type "list"):=by decide +kernel
def aL:cE "dict"=O0 (.type "dict"):=by decide +kernel
def xQ:cE "set"=O0 (.type "set"):=by decide +kernel
def Oh(N:List Str)(sc g:kS)(z:List Str):Bool:=
 g.names.all (λy=>y.2 != .cell)&&g.kind==.function&&g.names.all (λy=>y.2 != .local ||g.names.lookup y.1==O0 .local)&&z.all (λt=>g.names.lookup t==O0 .local)
  && g.names.all (λy=>y.2 != .local ||z.contains y.1||!N.contains y.1)&&g.names.all (λy=>y.2 != .free ||sc.names.lookup y.1==O0 .cell ||sc.names.lookup y.1==O0 .free)&&g.names.all (λy=>y.1 != nv)&&decide z.Nodup&&z.all (λt=>t != nv)
def qz{g:List Str}(I:g.Nodup){t:Str}(O:t∈g)(J:t≠nv):Uq (Br g N++g) t:=by
 have G:∀i:Nat,(Br g N)[i]?≠O0 t:=λi e=>by
  unfold Br at e;rw[ca] at e;cases q:N[i]? with
  |none=>rw[q] at e;cases e
  |some y=>
   rw[q] at e;have e:(if y∈g then nv else y)=t:=cy e;split at e
   .exact J e.symm
   .rename_i z;exact z (e▸O)
 have big:∀i:Nat,(Br g N++g)[i]?=O0 t->(Br g N).length<=i/\g[i-(Br g N).length]?=O0 t:=λi e=>by
  rcases xD i (Br g N).length with z | z
  .rw[kr z] at e;exact NI e (G i)
  .rw[ja z] at e;exact⟨z,e⟩
 intro i j a b;obtain⟨S,L⟩:=big i a;obtain⟨b1,b2⟩:=big j b;have:=N8 I L b2;omega
def TX{ts:List Str}(G:X.N=N)(hs:X.env.scope=sc)(h:Oh N sc scope ts=O1):mr X scope ts:=by
 unfold Oh at h;simp only[eD,eS,XI,UI,bne_iff_ne,Bool.or_eq_true,ne_eq] at h;obtain⟨⟨⟨⟨⟨⟨⟨⟨h1,Z⟩,Y⟩,W⟩,U⟩,T⟩,S⟩,L⟩,J⟩:=h;refine⟨h1,Z,λy g e=>?_,W,λy g e=>?_,λy g e=>?_,S,λt O=>qz L O (J t O)⟩
 .rcases Y y g with z | z
  .exact NI e z
  .exact z
 .rcases U y g with (z | z) | z
  .exact NI e z
  .exact .inl (by simpa using z)
  .right;rw[G];simpa using z
 .have I:∀x,X.env.kindOf x=sc.names.lookup x:=λx=>by rw[<-hs];rfl
  rw[I]
  rcases T y g with (z | z) | z
  .exact NI e z
  .exact .inl z
  .exact .inr z
abbrev aM (N:List Str) (sc scope:kS) (t:Str):Bool:=Oh N sc scope [t]
def d8{t:Str}(I:X.N=N)(hs:X.env.scope=sc)(h:aM N sc scope t=O1):QL X scope t:=TX I hs h
def q8{K:aI}{base:Heap}{G:Gx}{k:Nat}{f:Addr}:hQ P w K mg base CX0 k f fd ps (Nd G λ_=>W1):=by
 have I:∀g H Q E,¬ Nd G (λ_=>W1) g H Q E:=(by rintro g H Q E ⟨_,_,_,_,_,e,_⟩;exact nomatch e);exact⟨λg H Q E h=>NI h (I g H Q E),λA z s H J L g Q E _ _ _ _ h=>NI h (I g H Q E)⟩
def d9{G:Gx}{sl:Array (Option ac)}{g:Array ac}{xs:List Str}(h:G.K.lookup a=O0 ⟨.type "tuple",od,.seq g n,sl⟩)(hz:g.size<=sizeLine)(r:cx (xs.map V.str) g.toList):im G (λ_=>W1) (.ref a) (.tup (xs.map .str)):=by
 refine .tup (xs:=xs.map V.str) (.inr ⟨_,g,n,h,rfl,rfl,hz,r⟩) .(1) λi x d I J=>?_;rw[ca] at I J;cases e:xs[i]? with
 |none=>rw[e] at I;cases I
 |some z=>rw[e] at I J;cases I;cases J;exact .str z
end PV
namespace PySem
end PySem
namespace PV
open PySem PySem.Spec L2
open PyProof.Rows hiding St
section
variable {G:Gx}{a b c:Expr}{fa:FE}{es:List Expr}{fs:FA}
def PN(X:Cx)(G:Gx)(e:Expr)(f:FE):Prop:=∀⦃A⦄,PE X e (tN G A f)
def Hw(s:ab H H')(g:H p=W1):ab (bm A H) (bm (p::A) H'):=λb u h=>by
 unfold bm at h;split at h
 .cases h
 .rename_i I;rw[Ax]
  .exact s b u h
  .intro z
   rcases br.mp z with z | z
   .rw[z,g] at h;cases h
   .exact I z
def V6(h:SV X G es fs):PN X G (.List es pos) (Cs fs):=λA=>Bt (gj (@h A))<|by
 rintro W H Q ⟨J,d,o,e,k⟩
 unfold Cs at e;cases g:fs J with
 |none=>simp[g] at e
 |some I=>
  rw[g] at e;have O:(if I.length<=sizeLine then O0 (D.lst I) else W1)=O0 d:=e;split at O
  .rename_i U;cases O;exact⟨J,I,o,g,λT Y L S=>⟨by rw[S.1];exact U,λp z=>k p _ (L.trans (Ak z _)) (L.free z) ⟨T,Aj,S.mono (Hw (Ak z _) z)⟩⟩⟩
  .cases O
def NJ.fill{d:D}(t:NJ G A H q d)(s:ab H H')(J:H p=W1):NJ G (p::A) H' q d:=by
 have z:=Hw (A:=A) s J;cases d with
 |lst I=>obtain⟨g,q1,q2⟩:=t;exact⟨g,s _ _ q1,q2.mono z⟩
 |dk I=>obtain⟨g,q1,q2,q3⟩:=t;exact⟨g,s _ _ q1,q2,q3.mono z⟩
 |dt I=>obtain⟨g,q1,q2,q3⟩:=t;exact⟨g,s _ _ q1,q2,q3.mono z⟩
 |ob c L=>obtain⟨C,dx,g,q1,q2,q3⟩:=t;exact⟨C,dx,g,s _ _ q1,q2,q3.mono z⟩
 |_=>exact t.elim
def NJ.live{d:D}(t:NJ G A H q d):Nt (H q):=by
 cases d with
 |lst z=>obtain⟨g,q1,q2⟩:=t;rw[q1];exact Nt.lst
 |dk z=>obtain⟨g,q1,q2,q3⟩:=t;rw[q1];exact Nt.dK
 |dt z=>obtain⟨g,q1,q2,q3⟩:=t;rw[q1];exact Nt.dT
 |ob c L=>obtain⟨C,dx,g,q1,q2,q3⟩:=t;rw[q1];exact Nt.ins
 |_=>exact t.elim
def Bq{g:Type}{l:List g}{x z:g}(h:(l.set i x)[j]?=O0 z):(j=i/\z=x/\i<l.length)∨(j≠i/\l[j]?=O0 z):=by
 by_cases U:j=i
 .subst U
  by_cases Y:j<l.length
  .rw[mo Y] at h;exact .inl ⟨rfl,(cy h).symm,Y⟩
  .rw[pw (by simpa using kG.mp Y)] at h;cases h
 .rw[gX (cf U)] at h;exact .inr ⟨U,h⟩
def OR.setW{ρ:Rho}{d:D}(w:OR G A0 He A σ H ρ)(s:ab H H')(hp:H p=W1)(t:NJ G (p::A) H' p d)(i:Nat)(S0:i≠0):OR G A0 He (p::A) (σ.set i (O0 (.ref p))) H' (ρ.set i (.ow d)):=by
 have Z:=w.ok.fill (Hc:=H') s hp t.live;have W:He p=W1:=w.same.free hp;have N0:p∉A:=λz=>(w.ok.live p z).ne hp;refine⟨w.same.trans s,λa ha=>ck _ (w.sub a ha),λa ha=>?_,w.l0,⟨by rw[rS,rS];exact Z.len,Z.live,λj e h=>?_,λj e h=>?_,λj k e f q h1 L T S=>?_⟩,λj e q h1 L=>?_,λx e hx h0=>by rw[gX S0] at h0 ⊢;exact w.lt x e hx h0⟩
 .rcases br.mp ha with z | z
  .rw[z];exact .inr W
  .exact w.fr a z
 .rcases Bq h with ⟨_,O,_⟩ | ⟨U,O⟩
  .cases O
  .obtain⟨v,q1,q2⟩:=Z.fz j e O;exact⟨v,by rw[gX (cf U)];exact q1,q2⟩
 .rcases Bq h with ⟨U,O,Y⟩ | ⟨U,O⟩
  .cases O;subst U;exact⟨p,by rw[mo (by rw[w.ok.len];exact Y)],da,t⟩
  .obtain⟨v,q1,q2,q3⟩:=Z.ow j e O;exact⟨v,by rw[gX (cf U)];exact q1,q2,q3⟩
 .have no:∀(m:Nat) (g:D),ρ[m]?=O0 (.ow g)->σ[m]?=O0 (O0 (.ref q))->q≠p:=λm g a1 a2 z=>by
   obtain⟨v,b1,b2,_⟩:=w.ok.ow m g a1;rw[a2] at b1;cases b1;exact N0 (z▸b2)
  rcases Bq h1 with ⟨U,_,Y⟩ | ⟨U,O⟩
  .rcases Bq L with ⟨I,_,_⟩ | ⟨I,J⟩
   .rw[U,I]
   .exfalso;subst U;rw[mo (by rw[w.ok.len];exact Y)] at T;cases T;rw[gX (cf I)] at S;exact no k f J S rfl
  .rcases Bq L with ⟨I,_,Y⟩ | ⟨I,J⟩
   .exfalso;subst I;rw[mo (by rw[w.ok.len];exact Y)] at S;cases S;rw[gX (cf U)] at T;exact no j e O T rfl
   .rw[gX (cf U)] at T;rw[gX (cf I)] at S;exact w.ok.inj j k e f q O J T S
 .rcases Bq h1 with ⟨U,_,Y⟩ | ⟨U,O⟩
  .subst U;rw[mo (by rw[w.ok.len];exact Y)] at L;cases L;exact λz=>w.l0 p z W
  .rw[gX (cf U)] at L;exact w.ow0 j e q O L
def q9{ρ:Rho}{o:Sz}{D:SO}(g:i≠0)(w:OR G A0 He A σ H ρ)(e:setW i fa ρ=O0 o)(k:TF G A0 He D o):WJ (tN G A fa) (Es i) D σ H:=by
 unfold setW at e;cases z:fa ρ with
 |none=>simp[z] at e
 |some d=>
  simp only[z,io] at e;cases e;exact⟨ρ,d,w.ok,z,λp L I J t=>k _ _ ⟨p::A,w.setW I J t i g⟩⟩
def jJ{p:Pos}(h:∀te,PE X a te->PS X (.Assign [.Name x p] a pos) (WJ te (Es i)))(ha:PN X G a fa)(g:i≠0:=by decide):UR X G (.Assign [.Name x p] a pos) (setW i fa):=λS O J s z H D I ⟨L,o,⟨A,w⟩,e,k⟩=>
 h _ (@ha A) J s z H D I (q9 g w e k)
def OR.wr{ρ:Rho}{J d:D}{o:HO}(w:OR G A0 He A σ H ρ)(T:ρ[i]?=O0 (.ow J))(hs:σ[i]?=O0 (O0 (.ref p)))(t:NJ G A (gq H p o) p d):OR G A0 He A σ (gq H p o) (ρ.set i (.ow d)):=by
 obtain⟨q,h1,hA,_⟩:=w.ok.ow i J T;rw[hs] at h1;cases h1;have N0:He p=W1:=by
  rcases w.fr p hA with z | z
  .exact NI z (w.ow0 i J p T hs)
  .exact z
 have W:bm A (gq H p o)=bm A H:=Dt hA;refine⟨λb u h=>by rw[Al (Df h N0)];exact w.same b u h,w.sub,w.fr,w.l0,⟨by rw[rS];exact w.ok.len,λb hb=>?_,λj e h=>?_,λj e h=>?_,λj k e f q g1 g2 g3 g4=>?_⟩,λj e q g1 g2=>?_,λx e hx h0=>?_⟩
 .by_cases z:b=p
  .rw[z];exact t.live
  .rw[Al z];exact w.ok.live b hb
 .rcases Bq h with ⟨_,O,_⟩ | ⟨U,O⟩
  .cases O
  .rw[W];exact w.ok.fz j e O
 .rcases Bq h with ⟨U,O,hl⟩ | ⟨U,O⟩
  .cases O;subst U;exact⟨p,hs,hA,t⟩
  .obtain⟨q,q1,q2,q3⟩:=w.ok.ow j e O;have Z:q≠p:=λz=>U (w.ok.inj j i e J p O T (z▸q1) hs);refine⟨q,q1,q2,?_⟩;cases e with
   |lst ds=>obtain⟨I,S,L⟩:=q3;exact⟨I,by rw[Al Z];exact S,by rw[W];exact L⟩
   |dk ds=>obtain⟨I,S,L,Y⟩:=q3;exact⟨I,by rw[Al Z];exact S,L,by rw[W];exact Y⟩
   |dt ds=>obtain⟨I,S,L,Y⟩:=q3;exact⟨I,by rw[Al Z];exact S,L,by rw[W];exact Y⟩
   |ob c gs=>obtain⟨C,dx,I,S,L,Y⟩:=q3;exact⟨C,dx,I,by rw[Al Z];exact S,L,by rw[W];exact Y⟩
   |_=>exact q3.elim
 .have up:∀(m:Nat) (g:D),(ρ.set i (.ow d))[m]?=O0 (.ow g)->∃g',ρ[m]?=O0 (.ow g'):=λm g z=>by
   rcases Bq z with ⟨hm,_,_⟩ | ⟨_,O⟩
   .exact⟨J,by rw[hm];exact T⟩
   .exact⟨g,O⟩
  obtain⟨e',z1⟩:=up j e g1;obtain⟨f',z2⟩:=up k f g2;exact w.ok.inj j k e' f' q z1 z2 g3 g4
 .rcases Bq g1 with ⟨U,_,_⟩ | ⟨U,O⟩
  .subst U;exact w.ow0 j J q T g2
  .exact w.ow0 j e q O g2
 .rcases Bq h0 with ⟨U,_,_⟩ | ⟨_,O⟩
  .exact w.lt x J hx (by rw[U];exact T)
  .exact w.lt x e hx O
def QT{ρ:Rho}{d:D}(h:YR ρ i=O0 d):ρ[i]?=O0 (.ow d):=by
 unfold YR at h;split at h
 .rename_i e;cases h;exact e
 .cases h
def d_{g:D->D->Option D}{ρ:Rho}{o:Sz}(h:mutF g i fa ρ=O0 o):∃v x y,fa ρ=O0 v/\ρ[i]?=O0 (.ow x)/\g x v=O0 y/\o=.nx (ρ.set i (.ow y)):=by
 unfold mutF at h;cases I:fa ρ with
 |none=>simp[I] at h
 |some v=>
  cases z:YR ρ i with
  |none=>simp[I,z] at h
  |some x=>
   cases J:g x v with
   |none=>simp[I,z,J] at h
   |some y=>
    simp[I,z,J] at h;exact⟨v,x,y,rfl,QT z,J,h.symm⟩
theorem V7(hv:PE X (.Name x xpos) (Sb i))(ha:PF X G a fa)(g:eR (.Name x xpos) "append" X.env (eval (.Name x xpos) X.env)=eval (.Name x xpos) X.env:=by rfl)(L:((cS pos (aw [a] X.env)).all (λx=>!x.1)&&(ib pos (fR [] X.env)).all (λx=>x.1.isSome)&&decide ([a].length+([]:List hZ).length+(if ([]:List hZ).isEmpty then 0 else 1)<30))=O1:=by rfl)(z:(apos.endLine==pos.line)=O1:=by rfl)(hs:aw [a] X.env=[(O2,eval a X.env)]:=by rfl)(U:eJ (.Call (.Attribute (.Name x xpos) "append" apos) [a] [] pos) W1 p2.line X.env=pure O2:=by rfl):
  UR X G (.Expr (.Call (.Attribute (.Name x xpos) "append" apos) [a] [] pos) p2) (mutF ZI i fa):=by
 rintro A0 He π s Z H D I ⟨ρ,o,⟨A,w⟩,e,k⟩
 obtain⟨v,x0,y,e1,T,J,rfl⟩:=d_ e;refine Vm (iG AO E7 E8 Mg hv (Bw (@ha A) Dq hs) g L z hs rfl) U π s Z H D I ?_;unfold ZI at J;split at J
 .rename_i ds;split at J
  .rename_i hz;cases J;obtain⟨p,Y,hA,O,W,r⟩:=w.ok.ow i _ T;refine⟨_,Y,.inl ⟨rfl,O,.of W⟩,ρ,v,w.ok,e1,λu H1 S r1=>⟨p,O,u,rfl,rfl,S _ _ W,by rw[r.1];exact hz,?_⟩⟩;have w1:=w.mono S;refine k _ _ ⟨A,w1.wr T Y ⟨O++[u],Aj,?_⟩⟩;rw[Dt hA];exact (r.mono (BJ S)).append (.cons r1 .nil)
  .cases J
 .cases J
theorem Inv.frzK{kvs:List (Key×V)}(I:Inv X π σ H s)(e:H p=O0 (.dK kvs)):∃o,Inv X π σ (gq H p (.frz o (.dK kvs))) s:=by
 obtain⟨z,O,L,g,W⟩:=uc I.hok e;obtain⟨o,T,U,J,S⟩:=id W;exact⟨o,Rf (h':=s.heap) (t':=s.toks) I (by rw[e];exact ko) ⟨rfl,λ_ _=>rfl⟩ ⟨o,J⟩ ⟨J,z,O,L,g,W⟩⟩
theorem Inv.frzT(I:Inv X π σ H s)(e:H p=O0 (.dT kvs)):∃o,Inv X π σ (gq H p (.frz o (.dT kvs))) s:=by
 obtain⟨z,S,O,g,o,Z,ep,J,Y,W,U,T⟩:=I.hok p _ e;refine⟨o,Rf (h':=s.heap) (t':=s.toks) I (by rw[e];exact ko) ⟨rfl,λ_ _=>rfl⟩ ⟨o,J⟩ ⟨J,z,S,O,KT.keeps g λc ys L=>?_,o,Z,ep,J,Y,W,U,T⟩⟩;rw[Al (uU L e (λz=>nomatch z))];exact L
def OR.frzC{ρ:Rho}{d:D}(w:OR G A0 He A σ H ρ)(hi:ρ[i]?=O0 (.ow d))(h1:σ[i]?=O0 (O0 (.ref p)))(hA:p∈A)(L:∀b,b≠p->H' b=H b)(rp:ab (bm A H) (bm (A.filter λb=>decide (b≠p)) H')->bm (A.filter λb=>decide (b≠p)) H' p=H' p->im G (bm (A.filter λb=>decide (b≠p)) H') (.ref p) d):XT G A0 He σ H' (ρ.set i (.fz d)):=by
 have hn:=w.ow0 i d p hi h1;have g:∀b,b∈A.filter (λb=>decide (b≠p))↔b∈A/\b≠p:=λb=>by simp[dS]
 have W:ab (bm A H) (bm (A.filter λb=>decide (b≠p)) H'):=λb o h=>by
  unfold bm at h ⊢;split at h
  .cases h
  .rename_i I;have S:b≠p:=λz=>I (z▸hA);rw[ZH (λz=>I ((g b).mp z).1),L b S];exact h
 have rp:=rp W (Ax λz=>((g p).mp z).2 rfl);have N0:He p=W1:=(w.fr p hA).resolve_left hn;refine⟨A.filter λb=>decide (b≠p),λb o h=>?_,λb I=>(g b).mpr ⟨w.sub b I,λz=>hn (z▸I)⟩,λb I=>w.fr b ((g b).mp I).1,w.l0,⟨by rw[rS];exact w.ok.len,λb I=>?_,λj e h=>?_,λj e h=>?_,λj k e f q g1 g2 g3 g4=>?_⟩,λj e q g1 g2=>?_,λx e hx h0=>?_⟩
 .have S:b≠p:=λz=>by rw[z,N0] at h;cases h
  rw[L b S];exact w.same b o h
 .obtain⟨Z,z2⟩:=(g b).mp I;rw[L b z2];exact w.ok.live b Z
 .rcases Bq h with ⟨hj,O,_⟩ | ⟨hj,O⟩
  .cases O;subst hj;exact⟨_,h1,rp⟩
  .obtain⟨v,q1,q2⟩:=w.ok.fz j e O;exact⟨v,q1,q2.mono W⟩
 .rcases Bq h with ⟨_,O,_⟩ | ⟨hj,O⟩
  .cases O
  .obtain⟨q,q1,q2,q3⟩:=w.ok.ow j e O;have Y:q≠p:=λz=>hj (w.ok.inj j i e d p O hi (z▸q1) h1);refine⟨q,q1,(g q).mpr ⟨q2,Y⟩,?_⟩;cases e with
   |lst ds=>obtain⟨J,U,T⟩:=q3;exact⟨J,by rw[L q Y];exact U,T.mono W⟩
   |dk ds=>obtain⟨J,U,T,a3⟩:=q3;exact⟨J,by rw[L q Y];exact U,T,a3.mono W⟩
   |dt ds=>obtain⟨J,U,T,a3⟩:=q3;exact⟨J,by rw[L q Y];exact U,T,a3.mono W⟩
   |ob c gs=>obtain⟨C,dx,J,U,T,a3⟩:=q3;exact⟨C,dx,J,by rw[L q Y];exact U,T,a3.mono W⟩
   |_=>exact q3.elim
 .rcases Bq g1 with ⟨_,O,_⟩ | ⟨_,Z⟩
  .cases O
  .rcases Bq g2 with ⟨_,O,_⟩ | ⟨_,z2⟩
   .cases O
   .exact w.ok.inj j k e f q Z z2 g3 g4
 .rcases Bq g1 with ⟨_,O,_⟩ | ⟨_,Z⟩
  .cases O
  .exact w.ow0 j e q Z g2
 .rcases Bq h0 with ⟨_,O,_⟩ | ⟨_,Z⟩
  .cases O
  .exact w.lt x e hx Z
theorem XT.frz{π:NY}{s:ah}{A0:List Addr}{He:Hp}{O:St}{H:Hp}{ρ:Rho}(I:Inv X π O H s)(w:XT G A0 He O H ρ)(i:Nat):∃H',Inv X π O H' s/\XT G A0 He O H' (frz1 ρ i):=by
 unfold frz1;split
 .rename_i d J;obtain⟨A,w⟩:=w;obtain⟨p,U,T,t⟩:=w.ok.ow i d J;cases d with
  |lst ds=>
   obtain⟨W,S,L⟩:=t;exact⟨H,I,w.frzC J U T (λ_ _=>rfl) λg z=>.lst (.of (by rw[z];exact S)) (L.mono g).1 (L.mono g).2⟩
  |dk ds=>
   obtain⟨W,S,L,Y⟩:=t;obtain⟨o,I'⟩:=Inv.frzK I S;exact⟨_,I',w.frzC J U T (λb Z=>Al Z) λg z=>.dk (by rw[z];exact Aj) L (Y.mono g).2⟩
  |dt ds=>
   obtain⟨W,S,L,Y⟩:=t;obtain⟨o,I'⟩:=Inv.frzT I S;exact⟨_,I',w.frzC J U T (λb Z=>Al Z) λg z=>.dt (by rw[z];exact Aj) L (Y.mono g).2⟩
  |ob c gs=>
   obtain⟨C,dx,W,S,L,Y⟩:=t;exact⟨H,I,w.frzC J U T (λ_ _=>rfl) λg z=>.ob L.1 (by rw[z];exact S) L.2 (Y.mono g).2⟩
  |_=>exact t.elim
 .exact⟨H,I,w⟩
theorem aN{z:NY}{s:ah}{A0:List Addr}{J:Hp}{g:St}:∀(L:List Nat) {H:Hp}{ρ:Rho},Inv X z g H s->XT G A0 J g H ρ->∃H',Inv X z g H' s/\XT G A0 J g H' (L.foldl frz1 ρ)
 |[],H,_,I,w=>⟨H,I,w⟩
 |i::r,_,_,I,w=>let ⟨_,I1,w1⟩:=w.frz I i;aN r I1 w1
theorem QV{g:FS}(z:List Nat)(h:UR X G st g):UR X G st (fzS z g):=λT S O s J H D I ⟨L,o,ok,e,k⟩=>
 let ⟨H',I',ok'⟩:=aN z I ok
 @h T S O s J H' D I' ⟨z.foldl frz1 L,o,ok',e,k⟩
end
section
variable {A:aS}
def btx(w:bP):Bool:=w.params.followText "set-order"
def ObX(h:Heap)(a:Addr)(es:Array (Int×ac))(t:SetTable):Prop:=∃o ep,h.get? a=O0 o/\o.ExactSet/\o.data=.set es ep t
end
section
variable {A:aS}
theorem zY{T g z:String}{as:List ac}{Q1:ac->ah->Prop}(ft:TypeCalled T g z)(U:checkTypeCall T ⟨as,[]⟩=pure ())(I:gI (ai prog w) A.in1 (.call (.builtin g) ⟨.type T::as,[]⟩) (wants Q1 E) s)(J:∀ob s1,Q1 ob s1->s1.TypeIs ob T/\gI (ai prog w) A.in1 (.call (.builtin z) ⟨ob::as,[]⟩) (wants (λr s2=>r=.none/\Q ob s2) E) s1):ag (ai prog w) A (call (.type T) as) Q E s:=by
 obtain⟨S,L,g1⟩:=ft.mro;have g2:=ft.made;have g3:=ft.sub;have g4:=ft.notType;have Z:=ft.canCreate;refine CU (codeAny_of_tree (show ag _ _ (callAny (.type T) _) _ _ _ from av ⟨E9 _ (by decide +kernel),kK F.entry_type_call ?_⟩));rw[Around.under_plain (weight_type_call_type T as []) (units_type_call_type T as [])]
 repeat (any_goals (first | assumption | wp_step))
 refine qV I λr s1 q1=>?_
 match r,q1 with
 |.error _,q1=>exact q1
 |.ok .next,q1=>exact q1.elim
 |.ok .brk,q1=>exact q1.elim
 |.ok .cont,q1=>exact q1.elim
 |.ok (.ret ob),q1=>
  obtain⟨ty,G⟩:=J ob s1 q1;have Y:=ft.init.lookup;have W:=ft.init.bind ob
  repeat (any_goals (first | assumption | wp_step))
  refine qV G λO s2 q2=>?_
  match O,q2 with
  |.error _,q2=>exact q2
  |.ok .next,q2=>exact q2.elim
  |.ok .brk,q2=>exact q2.elim
  |.ok .cont,q2=>exact q2.elim
  |.ok (.ret v),⟨e,q2⟩=>
   subst e
   repeat (any_goals (first | assumption | wp_step))
theorem q_(v:ac){Q:ac->ah->Prop}(k:Q (.ref s.heap.objs.size) { s with heap:=s.heap.push { cls:=.type "set",dict:=W1,data:=.set #[] 0 (.fresh 0 0 (!btx w)) } }):gI (ai prog w) A (.call (.builtin "set.__new__") ⟨[.type "set",v],[]⟩) (wants Q E) s:=by
 have S:isSubtype (.type "set") (.type "set")=pure O1:=by rw[pS];kernel_rfl
 refine codeAny_of_tree (show ag _ A.in1 (do checkBuiltinCall "set.__new__" ⟨[.type "set",v],[]⟩;again (.builtin "set.__new__" ⟨[.type "set",v],[]⟩)) _ _ s from ?_);refine ae (AM (F.newCall_set_1 v) (av ⟨pE Ki _,kK F.entry_set_new ?_⟩));rw[rX Ki _];unfold eI.«set.__new__» Builtin.Frozenset.newClass;obtain⟨h,g,d,tk,z⟩:=s
 wp_walk
 refine uu (av ?_);dsimp only [newObj];exact ae (wpAny_alloc (av (av k)))
end
theorem Mi:AQ "set_iterator" "__next__" "set_iterator.__next__":=
 .of (owner:="set_iterator") (n:="__next__") (by rw[typeLookup_type,Kj];kernel_rfl) (by decide +kernel) (by decide +kernel) (by decide +kernel) (by first | exact .inl (by decide +kernel) | exact .inr (by decide +kernel)) (by rw[pS];kernel_rfl)
def Xq:xv table "set_iterator.__next__"=O0 eI.«set_iterator.__next__»:=entryFor_of_tree (by kernel_rfl)
def jK:Manifest.owners.lookup (String.ofList ['r','o','t','a','r','e','t','i','_','t','e','s'].reverse)=O0 Manifest.sig_set_iterator:=by kernel_rfl
theorem aO(a:ac):nN "set_iterator.__next__" ⟨[a],[]⟩:=by
 unfold nN;rw[signature?_of (id:="set_iterator.__next__") (n:=['_','_','t','x','e','n','_','_']) (o:=['r','o','t','a','r','e','t','i','_','t','e','s']) (by kernel_rfl) jK]
 kernel_rfl
section
variable {A:aS}{I T:Addr}{first:ac}{t:SetTable}
def Wp(h:Heap)(I q:Addr)(first:ac)(j n ep:Nat):Prop:=∃o,h.get? I=O0 o/\o.cls=.type "set_iterator"/\o.data=.fields #[first,.int j 0,.ref q,.int n 0,.int ep 0]
def LC(h:Heap)(q:Addr)(es:Array (Int×ac))(ep:Nat)(t:SetTable):Prop:=∃o,h.get? q=O0 o/\o.ExactSet/\o.data=.set es ep t
theorem Wp.ty(x:Wp s.heap I q first j n ep):s.TypeIs (.ref I) "set_iterator":=let ⟨o,g,c,_⟩:=x;⟨o,g,c⟩
def Wp.put0(x:Wp h I q first j n ep)(L:ac):Wp (h.update I (Ee (·.setIfInBounds 0 L))) I q L j n ep:=by
 obtain⟨o,g,c,d⟩:=x;exact⟨_,nX _ g (EA (uS d _)),(EB ..).trans c,by rw[uS d];simp⟩
def Wp.put1(x:Wp h I q first j n ep):Wp (h.update I (Ee (·.setIfInBounds 1 (fN ((j:Int)+1))))) I q first (j+1) n ep:=by
 obtain⟨o,g,c,d⟩:=x;exact⟨_,nX _ g (EA (uS d _)),(EB ..).trans c,by rw[uS d];simp[fN]⟩
def V8{a:Addr}(z:s.heap=h)(x:Wp h I q first j n ep){i:Nat}(G:i<5){v:ac}{Q:Unit->ah->Prop}(k:Q () { s with heap:=h.update I (Ee (·.setIfInBounds i v)) }):ag (ai prog w) A (setField (.ref I) i v) Q E s:=by
 subst z;obtain⟨o,g,_,d⟩:=x;exact EC g d (by simpa using G) k
theorem rA{sl:Int}{v:ac}{z:Nat}{Q:Option ac->ah->Prop}(x:Wp s.heap I q (.int sl 0) j n ep)(y:LC s.heap q es ep t)(L:t.fits es.size=O1)(J:es.size=n)(G:∀(B:aS) (U:ac->ah->Prop) (R:Option (ac×Nat)->ah->Prop),R (O0 (v,z)) s->ag (ai prog w) B (pT q sl.toNat j ep) R U s)(k:∀h',fh I s.heap h'->Wp h' I q (.int z 0) (j+1) n ep->Q (O0 v) { s with heap:=h' }):ag (ai prog w) A (gE (.ref I)) Q E s:=by
 obtain⟨o,g,c,d⟩:=id x;obtain⟨W,O,_,S⟩:=y;unfold gE;refine ae (AR (rf (name:=dL "__next__") x.ty Mi (iE Mi x.ty Xq ?_ (aO _))));unfold eI.«set_iterator.__next__»;refine ae (av (ae (wpAny_fieldsOf g d ?_)));dsimp only;refine ae (ED O S L ?_);rw[ZH (by rw[J];simp),gg,gg];refine ae (G _ _ _ ?_);refine ae (V8 (a:=I) rfl x .(2) (ae (V8 (a:=I) rfl (x.put0 (fN z)) .(2) (av ⟨v,rfl,av ?_⟩))));exact k _ ((xE ..).trans (xE ..)) (x.put0 (fN z)).put1
theorem rB{Q:Option ac->ah->Prop}{z:ah}(L:A.handled=W1)(k:∀h',(∀b o,z.heap.get? b=O0 o->h'.get? b=O0 o)->Q W1 { z with heap:=h' }):
  ag (ai prog w) A.in1 (newExc (.type "StopIteration") [] >>= λe=>(raiseNew e:Sem Fin)) (λG g=>∃v,G=Fin.done (Flow.ret v)/\ag (ai prog w) A (pure (O0 v)) Q E g)
   (λe g=>ag (ai prog w) A (zo e (.type "StopIteration") >>= λb=>if b=O1 then pure W1 else throw e) Q E g) z:=by
 refine ae ?_;simp only[newExc,newTuple];refine ae (kB ?_ (by size_fits));refine ae (m:=AS _ _) (AM (a:=fF) (by first | rfl | (simp only[AS];rfl)) (kB ?_ (by size_fits)));unfold raiseNew;refine ae (wpAny_handled ?_);rw[show A.in1.handled=W1 from L];refine ae (av (wpAny_throw ?_));have ty:∀(J:Heap) (ob:Obj),ob.cls=.type "StopIteration"->ob.isFreed=O2->Shared.TypeIs { z with heap:=J.push ob } (.ref J.objs.size) "StopIteration":=λJ ob c f=>⟨ob,ce _ f,c⟩;refine ae (sL (T:="StopIteration") (b:=O1) (ty _ _ rfl rfl) isSubtype_stop ?_);refine av (k _ λb o e=>?_);exact bn _ (bn _ e)
theorem rC{sl:Int}{Q:Option ac->ah->Prop}(L:A.handled=W1)(x:Wp s.heap I q (.int sl 0) j n ep)(y:LC s.heap q es ep t)(S:t.fits es.size=O1)(J:es.size=n)(z:∀(B:aS) (Y:ac->ah->Prop) (R:Option (ac×Nat)->ah->Prop),R W1 s->ag (ai prog w) B (pT q sl.toNat j ep) R Y s)(k:∀h',(∀b o,b≠I->s.heap.get? b=O0 o->h'.get? b=O0 o)->Q W1 { s with heap:=h' }):ag (ai prog w) A (gE (.ref I)) Q E s:=by
 obtain⟨o,g,c,d⟩:=id x;obtain⟨Z,U,_,W⟩:=y;unfold gE;refine ae (AR (rf (name:=dL "__next__") x.ty Mi (iE Mi x.ty Xq ?_ (aO _))));unfold eI.«set_iterator.__next__»;refine ae (av (ae (wpAny_fieldsOf g d ?_)));dsimp only;refine ae (ED U W S ?_);rw[ZH (by rw[J];simp),gg,gg];refine ae (z _ _ _ (ae (V8 (a:=I) rfl x .(2) (rB L λh' G=>k h' λb o O e=>G b o ?_))));exact (lP _ _ (cf O)).trans e
end
def jL{g:Type}(l:List g)(k:Nat):OP l W1 (O0 (k:Int))=l.take k:=by
 unfold OP HT.sIx;simp;rw[ZH .(0)]
 first | omega | (rw[List.take_eq_take_iff];omega)
def jM{g:Type}(l:List g)(k:Nat):OP l (O0 (k:Int)) W1=l.drop k:=by
 unfold OP HT.sIx;simp;rw[ZH .(0)]
 by_cases h:k<=l.length
 .rw[Kk h,DO .(1)]
 .rw[Kn .(0),Kt .(0),Kt .(0)];simp
def xR{g:Type}{xs:List g}{i:Int}(J:0<=i)(h1:i<xs.length):atI xs i=xs[i.toNat]?:=by
 unfold atI ixN;rw[WH J,WH h1];rfl
def Gp(i j:Int)(h:0<j):Nn (.int i) (.int j)=O0 (.int (i%j)):=by
 show (if 0<j then O0 (D.int (i%j)) else W1)=_;rw[WH h]
def Eh(i j:Int)(h:0<j)(g:j<1073741824):IK (.int i) (.int j)=O0 (.int (i/j)):=by
 show (if CDiv i j then O0 (D.int (i/j)) else W1)=_;rw[WH ⟨h,g⟩]
def aP(i j:Int)(h : -(2^64)<j/\j<2^64):Sj (.int i) (.int j)=O0 (.int (i*j)):=by
 show (if M5 i j then O0 (D.int (i*j)) else W1)=_;rw[WH (.inl (.inr h))]
def Rk(i j:Int)(h : -(2^64)<i/\i<2^64):Sj (.int i) (.int j)=O0 (.int (i*j)):=by
 show (if M5 i j then O0 (D.int (i*j)) else W1)=_;rw[WH (.inl (.inl h))]
def HR(i j:Int):rz (.int i) (.int j)=O0 (.int (i+j)):=gn _
def QW(i j:Int):SW (.int i) (.int j)=O0 (.int (i-j)):=gn _
def U9(i j:Int):ltD (.int i) (.int j)=O0 (.bl (decide (i<j))):=gn _
def aQ(i j:Int):gtD (.int i) (.int j)=O0 (.bl (decide (j<i))):=gn _
def aR(i j:Int):leD (.int i) (.int j)=O0 (.bl (decide (i<=j))):=gn _
def jN(i j:Int):geD (.int i) (.int j)=O0 (.bl (decide (j<=i))):=gn _
def TY(i j:Int):MY O2 (.int i) (.int j)=O0 (.bl (decide (i=j))):=gn _
def aU(i j:Int):MY O1 (.int i) (.int j)=O0 (.bl (!decide (i=j))):=gn _
def Oi(h:n<=10000000):n<=sizeLine:=d6 h .(2)
def V9{i j:List D}(h:i.length+j.length<=10000000):rz (.lst i) (.lst j)=O0 (.lst (i++j)):=by
 show (if _ then _ else _)=_;rw[WH (Oi h)]
theorem Oj{b:D->FS}{P:Nat->Rho->Prop}:∀{ds:List D}{ρ:Rho}(k:Nat),P k ρ->(∀(i:Nat) d ρ,ds[i]?=O0 d->P (k+i) ρ->∃z,b d ρ=O0 (.nx z)/\P (k+i+1) z)->∃z,MX b ds ρ=O0 (.nx z)/\P (k+ds.length) z
 |[],ρ,k,J,_=>⟨ρ,rfl,by simpa using J⟩
 |d::r,ρ,k,J,hs=>by
  obtain⟨S,U,T⟩:=hs 0 d ρ rfl (by simpa using J);obtain⟨g,O,G⟩:=Oj (ds:=r) (ρ:=S) (k+1) (by simpa using T) λi W z L I=>by
   have:=hs (i+1) W z (by simpa using L) (by rw[show k+(i+1)=k+1+i by omega];exact I);rw[show k+(i+1)+1=k+1+i+1 by omega] at this;exact this
  refine⟨g,?_,by rw[ci,show k+(r.length+1)=k+1+r.length by omega];exact G⟩;unfold MX;rw[U];exact O
def Rm{g:FI}{ga:FT}{fe:FE}{ρ:Rho}{ds out:List D}(h:g ρ=O0 ds)(hz:ds.length<=10000000)(J:Jo ρ ga fe ds=O0 out):BW g ga fe ρ=O0 (.lst out):=by
 unfold BW;rw[h];show (if ds.length<=sizeLine then (Jo ρ ga fe ds).map D.lst else W1)=_;rw[WH (Oi hz),J];rfl
def jO(o:Option Sz)(L:FS):Option Sz:=match o with | some (.nx z)=>L z | o=>o
def Et(g gs:FS)(ρ:Rho):dq g gs ρ=jO (g ρ) gs:=gn _
def OT(L:FS)(ρ:Rho):jO (O0 (.nx ρ)) L=L ρ:=gn _
def e_rt(L:FS)(d:D)(ρ:Rho):jO (O0 (.rt d ρ)) L=O0 (.rt d ρ):=gn _
def uq(ρ:Rho):Si ρ=O0 (.nx ρ):=gn _
def iteO(o:Option Bool)(g L:FS)(ρ:Rho):Option Sz:=match o with | some O1=>g ρ | some O2=>L ρ | none=>W1
def e_if(t:FT)(g L:FS)(ρ:Rho):QO t g L ρ=iteO (t ρ) g L ρ:=gn _
def ur(g L:FS)(ρ:Rho):iteO (O0 O1) g L ρ=g ρ:=gn _
def ut(g L:FS)(ρ:Rho):iteO (O0 O2) g L ρ=L ρ:=gn _
def setO(i:Nat)(ρ:Rho)(o:Option D):Option Sz:=o.map λd=>.nx (ρ.set i (.fz d))
def aV(i:Nat)(f:FE)(ρ:Rho):mf i f ρ=setO i ρ (f ρ):=gn _
def V_(i:Nat)(ρ:Rho)(d:D):setO i ρ (O0 d)=O0 (.nx (ρ.set i (.fz d))):=gn _
def retO(ρ:Rho)(o:Option D):Option Sz:=o.map λd=>.rt d ρ
def uv(f:FE)(ρ:Rho):fy f ρ=retO ρ (f ρ):=gn _
def jP(d:D)(ρ:Rho):retO ρ (O0 d)=O0 (.rt d ρ):=gn _
def uw(ρ:Rho)(o:Option D):Option Sz:=o.map λ_=>.nx ρ
def jQ(f:FE)(ρ:Rho):Gi f ρ=uw ρ (f ρ):=gn _
def aW(ρ:Rho)(d:D):uw ρ (O0 d)=O0 (.nx ρ):=gn _
def b2(g:D->D->Option D)(x y:Option D):Option D:=x.bind λx=>y.bind λy=>g x y
def e_b(g:D->D->Option D)(G z:FE)(ρ:Rho):bF g G z ρ=b2 g (G ρ) (z ρ):=gn _
def Xs(g:D->D->Option D)(x y:D):b2 g (O0 x) (O0 y)=g x y:=gn _
def b1(g:D->Option D)(x:Option D):Option D:=x.bind g
def e_u(g:D->Option D)(G:FE)(ρ:Rho):uF g G ρ=b1 g (G ρ):=gn _
def e_us(g:D->Option D)(x:D):b1 g (O0 x)=g x:=gn _
def cl1(g:List D->Option D)(x:Option (List D)):Option D:=x.bind g
def jR(g:List D->Option D)(fs:FA)(ρ:Rho):An g fs ρ=cl1 g (fs ρ):=gn _
def aX(g:List D->Option D)(ds:List D):cl1 g (O0 ds)=g ds:=gn _
def ux(x:Option D)(y:Option (List D)):Option (List D):=x.bind λd=>y.map (d::·)
def jT(G:FE)(fs:FA)(ρ:Rho):Aa G fs ρ=ux (G ρ) (fs ρ):=gn _
def aZ(d:D)(ds:List D):ux (O0 d) (O0 ds)=O0 (d::ds):=gn _
def Xr(ρ:Rho):am ρ=O0 []:=gn _
def tupO(o:Option (List D)):Option D:=o.bind λds=>if ds.length<=sizeLine then O0 (.tup ds) else W1
def lstO(o:Option (List D)):Option D:=o.bind λds=>if ds.length<=sizeLine then O0 (.lst ds) else W1
def uy(fs:FA)(ρ:Rho):OX fs ρ=tupO (fs ρ):=gn _
def jU(fs:FA)(ρ:Rho):Cs fs ρ=lstO (fs ρ):=gn _
def jV(a:D):tupO (O0 [a])=O0 (.tup [a]):=gn _
def jW(a b:D):tupO (O0 [a,b])=O0 (.tup [a,b]):=gn _
def ZK:lstO (O0 [])=O0 (.lst []):=gn _
def jX(a:D):lstO (O0 [a])=O0 (.lst [a]):=gn _
def jY(a b:D):lstO (O0 [a,b])=O0 (.lst [a,b]):=gn _
def jZ(a b c:D):lstO (O0 [a,b,c])=O0 (.lst [a,b,c]):=gn _
def jb(a b c d e:D):lstO (O0 [a,b,c,d,e])=O0 (.lst [a,b,c,d,e]):=gn _
def blO(o:Option D):Option Bool:=match o with | some (.bl b)=>O0 b | _=>W1
def e_bl(f:FE)(ρ:Rho):wh f ρ=blO (f ρ):=gn _
def uz(b:Bool):blO (O0 (.bl b))=O0 b:=gn _
def andO(o:Option Bool)(z:FT)(ρ:Rho):Option Bool:=match o with | some O1=>z ρ | some O2=>O0 O2 | none=>W1
def orO(o:Option Bool)(z:FT)(ρ:Rho):Option Bool:=match o with | some O1=>O0 O1 | some O2=>z ρ | none=>W1
def jc(a b:FT)(ρ:Rho):andT a b ρ=andO (a ρ) b ρ:=gn _
def aa(b:FT)(ρ:Rho):andO (O0 O1) b ρ=b ρ:=gn _
def aj(b:FT)(ρ:Rho):andO (O0 O2) b ρ=O0 O2:=gn _
def u0(a b:FT)(ρ:Rho):orT a b ρ=orO (a ρ) b ρ:=gn _
def jd(b:FT)(ρ:Rho):orO (O0 O1) b ρ=O0 O1:=gn _
def je(b:FT)(ρ:Rho):orO (O0 O2) b ρ=b ρ:=gn _
def jf(a:FT)(ρ:Rho):Pd a ρ=(a ρ).map (!·):=gn _
def andP(o:Option D)(z:FE)(ρ:Rho):Option D:=match o with | some (.bl O1)=>z ρ | some (.bl O2)=>O0 (.bl O2) | _=>W1
def orP(o:Option D)(z:FE)(ρ:Rho):Option D:=match o with | some (.bl O1)=>O0 (.bl O1) | some (.bl O2)=>z ρ | _=>W1
def notP(o:Option D):Option D:=match o with | some (.bl b)=>O0 (.bl (!b)) | _=>W1
def WD(a b:FE)(ρ:Rho):ZN a b ρ=andP (a ρ) b ρ:=gn _
def Rn(b:FE)(ρ:Rho):andP (O0 (.bl O1)) b ρ=b ρ:=gn _
def ak(b:FE)(ρ:Rho):andP (O0 (.bl O2)) b ρ=O0 (.bl O2):=gn _
def ao(a b:FE)(ρ:Rho):orF a b ρ=orP (a ρ) b ρ:=gn _
def WF(b:FE)(ρ:Rho):orP (O0 (.bl O1)) b ρ=O0 (.bl O1):=gn _
def WK(b:FE)(ρ:Rho):orP (O0 (.bl O2)) b ρ=b ρ:=gn _
def jg(a:FE)(ρ:Rho):notF a ρ=notP (a ρ):=gn _
def aq(b:Bool):notP (O0 (.bl b))=O0 (.bl (!b)):=gn _
def ifP(o:Option Bool)(G z:FE)(ρ:Rho):Option D:=match o with | some O1=>G ρ | some O2=>z ρ | none=>W1
def u9(t:FT)(a b:FE)(ρ:Rho):ifF t a b ρ=ifP (t ρ) a b ρ:=gn _
def jh(a b:FE)(ρ:Rho):ifP (O0 O1) a b ρ=a ρ:=gn _
def ji(a b:FE)(ρ:Rho):ifP (O0 O2) a b ρ=b ρ:=gn _
def sl3(f:Option D)(l h:Option (Option Int)):Option D:=f.bind λx=>l.bind λz=>h.bind λG=>slD x z G
def e_sl(f:FE)(l h:FO)(ρ:Rho):slF f l h ρ=sl3 (f ρ) (l ρ) (h ρ):=gn _
def u_(x:D)(l h:Option Int):sl3 (O0 x) (O0 l) (O0 h)=slD x l h:=gn _
def vA(ρ:Rho):noO ρ=O0 W1:=gn _
def somO(o:Option D):Option (Option Int):=match o with | some (.int i)=>O0 (O0 i) | _=>W1
def au(f:FE)(ρ:Rho):PY f ρ=somO (f ρ):=gn _
def Xu(i:Int):somO (O0 (.int i))=O0 (O0 i):=gn _
def TZ(o:Option Slot):Option D:=match o with | some (.fz d)=>O0 d | _=>W1
def getU(o:Option Slot):Option D:=match o with | some (.fz d)=>O0 d | some (.ow d)=>O0 d | _=>W1
def e_v(i:Nat)(ρ:Rho):vF i ρ=TZ (ρ[i]?):=gn _
def Qb(d:D):TZ (O0 (.fz d))=O0 d:=gn _
def e_vU(i:Nat)(ρ:Rho):vU i ρ=getU (ρ[i]?):=gn _
def vB(d:D):getU (O0 (.ow d))=O0 d:=gn _
def e_k(d:D)(ρ:Rho):kF d ρ=O0 d:=gn _
def rngO(o:Option D):Option (List D):=match o with | some (.int j)=>if -(2^62)<=j/\j<2^62 then O0 (Na j.toNat) else W1 | _=>W1
def Tc(f:FE)(ρ:Rho):NV f ρ=rngO (f ρ):=gn _
def Td(j:Int)(h : -(2^62)<=j/\j<2^62):rngO (O0 (.int j))=O0 (Na j.toNat):=by
 show (if _ then _ else _)=_;rw[WH h]
def forO(o:Option (List D))(tg:FG)(b:FS)(ρ:Rho):Option Sz:=o.bind λds=>MX (TR tg b) ds ρ
def Te(g:FI)(tg:FG)(b:FS)(ρ:Rho):Os g tg b ρ=forO (g ρ) tg b ρ:=gn _
def Ni(ds:List D)(tg:FG)(b:FS)(ρ:Rho):forO (O0 ds) tg b ρ=MX (TR tg b) ds ρ:=gn _
def ccO(o:Option Bool)(e:Option D)(r:Option (List D)):Option (List D):=match o with | some O1=>e.bind λy=>r.map (y::·) | some O2=>r | none=>W1
def J8(ρ:Rho)(ga:FT)(fe:FE)(d:D)(r:List D):Jo ρ ga fe (d::r)=ccO (ga (ρ++[.fz d])) (fe (ρ++[.fz d])) (Jo ρ ga fe r):=gn _
def jk(ρ:Rho):rc ρ=O0 O1:=gn _
def runO(o:Option Sz):Option D:=match o with | some (.rt d _)=>O0 d | some (.nx _)=>O0 .non | _=>W1
def Jt{g:Nat}{b:FS}{ds:List D}(h:ds.length=g):jl n g b ds=runO (b (Ce n ds)):=by
 unfold jl;rw[WH h];rfl
def jo(d:D)(ρ:Rho):runO (O0 (.rt d ρ))=O0 d:=gn _
def jq(ρ:Rho):runO (O0 (.nx ρ))=O0 .non:=gn _
def LK{g z:Type}(f:g->z)(x:g):Option.map f (O0 x)=O0 (f x):=gn _
def jr{g z:Type}(f:g->Option z)(x:g):Option.bind (O0 x) f=f x:=gn _
def DQ(n:Nat)(ds:List D):Ce n ds=ds.map .fz++x8 (n-ds.length) .un:=gn _
def truB(b:Bool):truD (.bl b)=O0 b:=gn _
def WL{g:Type}(l:List g)(k:Nat):atI l (k:Int)=l[k]?:=by
 unfold atI ixN;rw[WH .(0)]
 by_cases h:k<l.length
 .rw[WH .(0)];simp
 .rw[ZH .(0),pw .(0)];rfl
def e_tr(f:FE)(ρ:Rho):XW f ρ=(f ρ).bind truD:=gn _
def zZ(z:Str)(h:z.length<=10000000):Sk (.str z)=O0 (.int z.length):=by
 show (if z.length<=sizeLine then O0 (D.int z.length) else W1)=_;rw[WH (Oi h)]
def az(l:List D):Sk (.lst l)=O0 (.int l.length):=gn _
def rD(x:Str)(g:List Str):inD O2 (.str x) (.lst (g.map .str))=O0 (.bl (g.any (λy=>y==x))):=by
 have h:∀g:List Str,OS (g.map .str)=O0 (g.map V.str):=λg=>by
  induction g with
  |nil=>rfl
  |cons y r G=>simp[OS,UX,G]
 show ((UX (.str x)).bind λv=>(OS (g.map .str)).map λz=>D.bl (Yf v z))=_;rw[h];show O0 (D.bl (Yf (.str x) (g.map V.str)))=_;simp[Yf,EE,eW,To]
def LQ(n:Nat):(Na n).length=n:=by simp[Na]
def eE(ys:List Str):M6 (ys.map .str)=O0 ys:=by
 induction ys with
 |nil=>rfl
 |cons y r g=>simp[M6,g]
def vC(i:Nat)(ρ:Rho)(o:Option D):Option Sz:=o.map λd=>.nx (ρ.set i (.ow d))
def jt(i:Nat)(f:FE)(ρ:Rho):setW i f ρ=vC i ρ (f ρ):=gn _
def a_(i:Nat)(ρ:Rho)(d:D):vC i ρ (O0 d)=O0 (.nx (ρ.set i (.ow d))):=gn _
def mutO(g:D->D->Option D)(i:Nat)(ρ:Rho)(x v:Option D):Option Sz:=v.bind λv=>x.bind λx=>(g x v).map λy=>.nx (ρ.set i (.ow y))
def getW(o:Option Slot):Option D:=match o with | some (.ow d)=>O0 d | _=>W1
def vD(g:D->D->Option D)(i:Nat)(f:FE)(ρ:Rho):mutF g i f ρ=mutO g i ρ (getW ρ[i]?) (f ρ):=gn _
def ju(g:D->D->Option D)(i:Nat)(ρ:Rho)(x v:D):mutO g i ρ (O0 x) (O0 v)=(g x v).map λy=>.nx (ρ.set i (.ow y)):=gn _
def QX(d:D):getW (O0 (.ow d))=O0 d:=gn _
def forB(o:Option Sz)(b:D->FS)(r:List D):Option Sz:=match o with
  |some (.nx z)=>MX b r z
  |some (.ct z)=>MX b r z
  |some (.bk z)=>O0 (.nx z)
  |some (.rt e z)=>O0 (.rt e z)
  |none=>W1
def Ft(b:D->FS)(d:D)(r:List D)(ρ:Rho):MX b (d::r) ρ=forB (b d ρ) b r:=gn _
def Fz(b:D->FS)(r:List D)(ρ:Rho):forB (O0 (.nx ρ)) b r=MX b r ρ:=gn _
def bndO(o:Option Rho)(b:FS):Option Sz:=o.bind b
def Ts(tg:FG)(b:FS)(d:D)(ρ:Rho):TR tg b d ρ=bndO (tg d ρ) b:=gn _
def Kl(ρ:Rho)(b:FS):bndO (O0 ρ) b=b ρ:=gn _
def LR(i:Nat)(d:D)(ρ:Rho):Bx i d ρ=O0 (ρ.set i (.fz d)):=gn _
def J9(a:Str):ltS a a=O2:=by
 unfold ltS;exact OI (List.lt_irrefl _)
def QZ{a b:Str}(h1:ltS a b=O1)(g:ltS b c=O1):ltS a c=O1:=by
 unfold ltS at *;exact QI (List.lt_trans (SI h1) (SI g))
def bA{a b:Str}(h1:ltS a b=O2)(G:a≠b):ltS b a=O1:=by
 unfold ltS at *;have g:=of_decide_eq_false h1;have T:b.cps.toList<=a.cps.toList:=KA.mp g
 rcases Decidable.em (b.cps.toList<a.cps.toList) with h | h
 .exact QI h
 .exfalso;have z:a.cps.toList<=b.cps.toList:=KA.mp h;have e:a.cps.toList=b.cps.toList:=List.le_antisymm z T;apply G;cases a;cases b;simp at e;rw[e]
def Up(l:List Str):Prop:=l.Pairwise λa b=>ltS a b=O1
theorem Tf(x y:Str):∀l:List Str,y∈YY x l↔y=x∨y∈l
 |[]=>by simp[YY]
 |z::r=>by
  unfold YY;split
  .simp
  .split
   .rename_i _ e;subst e;simp
   .simp[Tf x y r];constructor
    .rintro (h | h | h)
     .exact .inr (.inl h)
     .exact .inl h
     .exact .inr (.inr h)
    .rintro (h | h | h)
     .exact .inr (.inl h)
     .exact .inl h
     .exact .inr (.inr h)
theorem bB(x:Str):∀{l:List Str},Up l->Up (YY x l)
 |[],_=>by simp[YY,Up]
 |z::r,h=>by
  obtain⟨J,O⟩:=kL.mp h;unfold YY;split
  .rename_i G;exact kL.mpr ⟨λy g=>by
    rcases br.mp g with rfl | g
    .exact G
    .exact QZ G (J y g),h⟩
  .rename_i L;split
   .exact h
   .rename_i I;refine kL.mpr ⟨λy g=>?_,bB x O⟩
    rcases (Tf x y r).mp g with rfl | g
    .exact bA (by simpa using L) I
    .exact J y g
def Ol(l:List Str):Up (Fx l):=by
 unfold Fx
 induction l with
 |nil=>exact AT
 |cons x r g=>exact bB x g
def Mj(y:Str)(l:List Str):y∈Fx l↔y∈l:=by
 unfold Fx
 induction l with
 |nil=>simp
 |cons x r g=>rw[AU,Tf,g];simp
def jw{l:List Str}(h:Up l):l.Nodup:=h.imp λ{a b} O e=>by
 subst e;rw[J9] at O;cases O
theorem sub_len:∀{l m:List Str},l.Nodup->(∀x∈l,x∈m)->l.length<=m.length
 |[],_,_,_=>eK _
 |x::r,m,h,hs=>by
  obtain⟨I,G⟩:=lI.mp h;have z:x∈m:=hs x da;have:=sub_len (l:=r) (m:=m.erase x) G λy g=>(AV (λe=>by subst e;exact I g)).mpr (hs y (ck _ g));rw[AW z] at this;have J:0<m.length:=ve z;simp;omega
theorem ZL:∀{l m:List Str},Up l->Up m->(∀x,x∈l↔x∈m)->l=m
 |[],[],_,_,_=>rfl
 |[],y::s,_,_,h=>by have:=(h y).mpr da;simp at this
 |x::r,[],_,_,h=>by have:=(h x).mp da;simp at this
 |x::r,y::s,J,I,h=>by
  obtain⟨S,L⟩:=kL.mp J;obtain⟨b1,b2⟩:=kL.mp I;have e:x=y:=by
   rcases br.mp ((h x).mp da) with e | G
   .exact e
   .rcases br.mp ((h y).mpr da) with e | g
    .exact e.symm
    .have:=QZ (S y g) (b1 x G);rw[J9] at this;cases this
  subst e;have:r=s:=ZL L b2 λz=>by
   constructor
   .intro O
    rcases br.mp ((h z).mp (ck _ O)) with e | q
    .subst e;have:=S z O;rw[J9] at this;cases this
    .exact q
   .intro O
    rcases br.mp ((h z).mpr (ck _ O)) with e | q
    .subst e;have:=b1 z O;rw[J9] at this;cases this
    .exact q
  rw[this]
theorem bC:AQ "set_iterator" "__iter__" "set_iterator.__iter__":=
 .of (owner:="set_iterator") (n:="__iter__") (by rw[typeLookup_type,Kj];kernel_rfl) (by decide +kernel) (by decide +kernel) (by decide +kernel) (by first | exact .inl (by decide +kernel) | exact .inr (by decide +kernel)) (by rw[pS];kernel_rfl)
def jz:xv table "set_iterator.__iter__"=O0 eI.«dict_keyiterator.__iter__»:=entryFor_alias (id':="dict_keyiterator.__iter__") (by kernel_rfl) rfl (by decide +kernel) (by kernel_rfl)
theorem rF(a:ac):nN "set_iterator.__iter__" ⟨[a],[]⟩:=by
 unfold nN;rw[signature?_of (id:="set_iterator.__iter__") (n:=['_','_','r','e','t','i','_','_']) (o:=['r','o','t','a','r','e','t','i','_','t','e','s']) (by kernel_rfl) jK]
 kernel_rfl
def WM:xv table "set.__iter__"=O0 eI.«frozenset.__iter__»:=entryFor_alias (id':="frozenset.__iter__") (by kernel_rfl) rfl (by decide +kernel) (by kernel_rfl)
section
variable {A:aS}{I T:Addr}{first:ac}{t:SetTable}
theorem Ie{g:Type}:∀{l:List g}{i:Nat}(h:i<l.length),(l[i]::l.eraseIdx i).Perm l
 |x::r,0,_=>xI _
 |x::r,i+1,h=>(KB x (r[i]'(by simpa using h)) _).trans (AX x (Ie (by simpa using h)))
def j5{g:Source}{Q:Nat->ah->Prop}(z:n≠0)(k:∀i d,i<n->Q i { s with drawn:=d }):ag M A (choose g n) Q E s:=λG p _=>by
 show Sem.wp M G (.choose g n .pure) _ _ p s;rw[Sem.wp_choose];exact⟨z,k _ _ (AY _ (KF z))⟩
theorem Tg{g:Type}{M:Model}:∀(m:Nat) (xs:List g) (s:ah) {Q:List g->ah->Prop},xs.length=m->(∀ys d,ys.Perm xs->Q ys { s with drawn:=d })->ag M A (drawOrder m xs) Q E s
 |0,xs,s,Q,Y,k=>by
  have:xs=[]:=pj.mp Y;subst this;exact av (k [] s.drawn (xI _))
 |m+1,[],s,Q,Y,k=>by simp at Y
 |m+1,x::r,s,Q,Y,k=>by
  show ag M A (choose .order (x::r).length >>= _) Q E s;refine ae (j5 .(1) λi d G=>?_);have W:(x::r)[i]?=O0 (x::r)[i]:=by simp
  simp only[W];refine ae (Tg m ((x::r).eraseIdx i) _ (by rw[KG,WH G];simp at Y ⊢;omega) λys J z=>av (k _ J ?_));exact (AX _ z).trans (Ie G)
def U_{g:Type}(f:Nat->Nat)(xs:Array g):(pV f xs).toList.Perm xs.toList:=by
 have L:∀(m k:Nat) (l:List g) (W:Array g),l.length=m->(EF f m k l W).toList.Perm (W.toList++l):=by
  intro m
  induction m with
  |zero=>intro k l W Y;have:l=[]:=pj.mp Y;subst this;simp[EF]
  |succ m z=>
   intro k l W Y;have G:f k%l.length<l.length:=AY _ .(0);have J:l[f k%l.length]?=O0 l[f k%l.length]:=by simp[G]
   unfold EF;simp only[J];refine (z _ _ _ (by rw[KG,WH G];omega)).trans ?_;rw[Array.toList_push,E1];exact List.Perm.append_left _ (Ie G)
 have:=L xs.size 0 xs.toList #[] .(1);simpa [pV] using this
theorem LC.keep(y:LC h q es ep t)(e:∀o,h.get? q=O0 o->h'.get? q=O0 o):LC h' q es ep t:=let ⟨o,g,r⟩:=y;⟨o,e o g,r⟩
theorem Wp.keep(x:Wp h I q first j n ep)(e:∀o,h.get? I=O0 o->h'.get? I=O0 o):Wp h' I q first j n ep:=let ⟨o,g,r⟩:=x;⟨o,e o g,r⟩
def rG(x:Wp s.heap I q first j n ep)(k:Q (.ref I) s):ag (ai prog w) A (om (.ref I)) Q E s:=by
 refine KI x.ty bC (iE bC x.ty jz ?_ (rF _));show ag _ _ (ret (.ref I)) _ _ s;exact av ⟨_,rfl,"set_iterator",_,x.ty,Mi.lookup,k⟩
end
section
variable {A:aS}{I T:Addr}
theorem j6{Q:Bool->ah->Prop}(ty:s.TypeIs (.ref q) "set")(k:Q O2 s):ag (ai prog w) A (KL (.ref q)) Q E s:=by
 unfold KL;refine ae (mT ty F.slot_set_len.lookup ?_);generalize L:("set.__len__":String)=sid
 wp_delta
 rw[show splitId sid=O0 ("set","__len__") by subst L;decide +kernel];subst L;refine ae (sL (T:="set") (b:=O1) ty (by rw[pS];kernel_rfl) ?_);refine wpAny_ite_split (λz=>NI z .(2)) λ_=>wpAny_ite_split (λ_=>ae (xh ty (av k))) λz=>NI (by decide +kernel) z
end
theorem Om:∀{r:List Str}{p:Str},KO p r=O1->(p::r).Nodup->Up (p::r)
 |[],p,_,_=>by simp[Up]
 |x::r,p,h,g=>by
  unfold KO at h;rw[eD] at h;obtain⟨G,z⟩:=h;obtain⟨n1,n2⟩:=lI.mp g;have u:=Om z n2;have lt:ltS p x=O1:=bA (by unfold ltS;simpa [PyProof.Rows.ltCps_eq] using G) (λe=>n1 (by rw[<-e];exact da));refine kL.mpr ⟨λy m=>?_,u⟩
  rcases br.mp m with e | m
  .rw[e];exact lt
  .exact QZ lt ((kL.mp u).1 y m)
def WN{l:List Str}(h:PyProof.Rows.sortedS l=O1)(g:l.Nodup):Up l:=by
 cases l with
 |nil=>exact AT
 |cons p r=>exact Om h g
open L2
section
variable {G:Gx}{a:Expr}{fa:FE}
theorem VB:∀{xs:List Str}{us:List ac},AZ us xs->cx (xs.map V.str) us
 |_,_,.nil=>.nil
 |_,_,.cons _ u r=>.cons ⟨u,rfl⟩ (VB r)
def j7{ds:List D}{g:List Str}(r:be G H xs ds)(h:M6 ds=O0 g):xs=g.map V.str:=Xp r h
end
def vb{g:Type}[DecidableEq g](k:g):List (g×D)->Option D
 |[]=>W1
 |p::r=>if p.1=k then O0 p.2 else vb k r
def UZ{g:Type}[DecidableEq g](k:g)(v:D):List (g×D)->List (g×D)
 |[]=>[]
 |p::r=>(p.1,if p.1=k then v else p.2)::UZ k v r
def QU{z:Type}[DecidableEq z](k:z)(v:D)(g:List (z×D)):List (z×D):=if (vb k g).isSome then UZ k v g else g++[(k,v)]
def Re:D->Option Key
 |.int i=>O0 (.inl i)
 |.str x=>O0 (.inr x)
 |_=>W1
def La:List D->Option (List Key)
 |[]=>O0 []
 |d::r=>(Re d).bind λk=>(La r).map (k::·)
section
variable {κ:Type} [DecidableEq κ] {G:Gx}
theorem Ml{k:κ}:∀{g:List (κ×D)}{kvs:List (κ×V)},kvs.map (·.1)=g.map (·.1)->be G H (kvs.map (·.2)) (g.map (·.2))->(∀d,vb k g=O0 d->∃v,Pv kvs k=O0 v/\im G H v d)/\(Pv kvs k).isSome=(vb k g).isSome
 |[],kvs,e,r=>by
  cases kvs with
  |nil=>exact⟨λd h=>by simp[vb] at h,rfl⟩
  |cons p q=>simp at e
 |p::g,kvs,e,r=>by
  cases kvs with
  |nil=>simp at e
  |cons q kvs=>
   rw[ba,ba] at e;injection e with J e2
   rw[ba,ba] at r;obtain⟨x,Y,W,S,O⟩:=r.uncons;injection W with U e5
   subst U e5;have T:=Ml (k:=k) e2 O
   by_cases h:p.1=k
   .have L:q.1=k:=J.trans h;rw[Oa L];refine⟨λd I=>?_,?_⟩
    .simp only[vb,WH h] at I;cases I;exact⟨_,rfl,S⟩
    .simp[vb,WH h]
   .have L:¬ q.1=k:=λz=>h (J.symm.trans z);rw[Ob L];simp only[vb,ZH h];exact T
theorem bD{k:κ}{v:V}{d:D}(S:im G H v d):∀{g:List (κ×D)}{kvs:List (κ×V)},kvs.map (·.1)=g.map (·.1)->be G H (kvs.map (·.2)) (g.map (·.2)) ->
  (kvs.map λI=>if I.1=k then (I.1,v) else I).map (·.1)=(UZ k d g).map (·.1)/\be G H ((kvs.map λI=>if I.1=k then (I.1,v) else I).map (·.2)) ((UZ k d g).map (·.2))
 |[],kvs,e,r=>by
  cases kvs with
  |nil=>exact⟨rfl,be.nil⟩
  |cons p q=>simp at e
 |p::g,kvs,e,r=>by
  cases kvs with
  |nil=>simp at e
  |cons q kvs=>
   rw[ba,ba] at e;injection e with O e2
   rw[ba,ba] at r;obtain⟨x,Z,Y,U,T⟩:=r.uncons;injection Y with W e5
   subst W e5;have J:=bD S (k:=k) e2 T
   by_cases h:p.1=k
   .have L:q.1=k:=O.trans h;refine⟨?_,?_⟩
    .simp only[ba,WH L,UZ];rw[J.1,O]
    .simp only[ba,WH L,UZ,WH h];exact .cons S J.2
   .have L:¬ q.1=k:=λz=>h (O.symm.trans z);refine⟨?_,?_⟩
    .simp only[ba,ZH L,UZ];rw[J.1,O]
    .simp only[ba,ZH L,UZ,ZH h];exact .cons U J.2
def WP{k:κ}{d:D}(J:im G H v d){g:List (κ×D)}{kvs:List (κ×V)}(e:kvs.map (·.1)=g.map (·.1))(r:be G H (kvs.map (·.2)) (g.map (·.2))):
  (Pw kvs k v).map (·.1)=(QU k d g).map (·.1)/\be G H ((Pw kvs k v).map (·.2)) ((QU k d g).map (·.2)):=by
 unfold Pw QU;rw[SQ,(Ml (k:=k) e r).2];split
 .exact bD J e r
 .rw[dP,dP,dP,dP,e];exact⟨rfl,r.append (.cons J .nil)⟩
end
def Xv{G:Gx}{d:D}{k:Key}(r:mu G A H v d)(h:Re d=O0 k):v=kV k:=by
 cases d with
 |int i=>cases h;exact r.int
 |str x=>cases h;exact r.str
 |_=>cases h
def Mp{G:Gx}{d:D}{k:Key}(r:im G H v d)(h:Re d=O0 k):v=kV k:=by
 cases d with
 |int i=>cases h;cases r;rfl
 |str x=>cases h;cases r;rfl
 |_=>cases h
theorem Qa{G:Gx}{H:Hp}:∀{ds:List D}{vs:List V}{ks:List Key},be G H vs ds->La ds=O0 ks->vs=ks.map kV
 |[],vs,ks,r,h=>by cases h;exact r.nil_inv
 |d::ds,vs,ks,r,h=>by
  obtain⟨x,L,rfl,I,O⟩:=r.uncons;cases g:Re d with
  |none=>simp[La,g] at h
  |some k=>
   cases z:La ds with
   |none=>simp[La,g,z] at h
   |some J=>
    simp[La,g,z] at h;subst h;rw[Mp I g,Qa O z];rfl
section
variable {G:Gx}{a b c:Expr}{fa fb:FE}
def Th:PN X G (.Dict [] [] pos) (kF (.dk [])):=λA=>Bt iK<|by
 rintro g H Q ⟨I,d,o,e,k⟩
 cases e;exact λp z=>k p _ (Ak z _) z ⟨[],Aj,rfl,be.nil⟩
def za:PN X G (.Dict [] [] pos) (kF (.dt [])):=λA=>Bt iM<|by
 rintro g H Q ⟨I,d,o,e,k⟩
 cases e;exact λp z=>k p _ (Ak z _) z ⟨[],Aj,rfl,be.nil⟩
theorem PN.pf(h:PN X G a fa):PF X G a fa:=λA π s σ H Q I ⟨ρ,d,o,e,k⟩=>
 la (@h A π s σ H (λv H'=>∃p,v=.ref p/\ab H H'/\H p=W1/\NJ G (p::A) H' p d) I ⟨ρ,d,o,e,λp H' U Z t=>⟨p,rfl,U,Z,t⟩⟩)<|by
  rintro u s1 ⟨v,g,I1,W,p,ev,U,Z,t⟩
  subst ev;have J:p∉A:=λz=>(o.live p z).ne Z;have up:∀ob,ab (bm (p::A) g) (bm A (gq g p ob)):=λob=>by
   rw[<-Dt (A:=p::A) (H:=g) (o:=ob) (da ..)];exact Ci λb L=>ck _ L
  have T:∀ob,ab H (gq g p ob):=λob b u L=>by
   rw[Al (λz:b=p=>by rw[z,Z] at L;cases L)];exact U b u L
  cases d with
  |lst ds=>
   obtain⟨xs,S,O⟩:=t;have q:=O.mono (Ci (A:=A) (B:=p::A) (H:=g) λb L=>ck _ L);exact⟨_,g,I1,W,k _ g U (.lst (.of (by rw[Ax J];exact S)) q.1 q.2)⟩
  |dk ds=>
   obtain⟨xs,S,O,Y⟩:=t;obtain⟨ob,I2⟩:=Inv.frzK I1 S;exact⟨_,_,I2,W,k _ _ (T _) (.dk (by rw[Ax J];exact Aj) O (Y.mono (up _)).2)⟩
  |dt ds=>
   obtain⟨xs,S,O,Y⟩:=t;obtain⟨ob,I2⟩:=Inv.frzT I1 S;exact⟨_,_,I2,W,k _ _ (T _) (.dt (by rw[Ax J];exact Aj) O (Y.mono (up _)).2)⟩
  |ob c gs=>
   obtain⟨C,dx,xs,S,O,Y⟩:=t;have q:=Y.mono (Ci (A:=A) (B:=p::A) (H:=g) λb L=>ck _ L);exact⟨_,g,I1,W,k _ g U (.ob O.1 (by rw[Ax J];exact S) O.2 q.2)⟩
  |_=>exact t.elim
def rDIn(g:Bool):R2:=λx y H Q=>∃a kvs k,y=.ref a/\Rd H a (.dK kvs)/\x=kV k/\Q (.bl (if g then !(Pv kvs k).isSome else (Pv kvs k).isSome)) H
def ZM(S:X.A.units+1<bv):NU X (de .In) (rDIn O2):=by
 intro O s J H x y v u Q I rx z h;obtain⟨a,g,k,rfl,e,rfl,q⟩:=h;cases z;exact d_in S I (.inl ⟨g,k,e,rfl,rfl⟩) rx λT L=>⟨.bl _,H,L,rfl,q⟩
def eF(S:X.A.units+1<bv):NU X (de .NotIn) (rDIn O1):=by
 intro O s J H x y v u Q I rx z h;obtain⟨a,g,k,rfl,e,rfl,q⟩:=h;cases z;exact qN S I (.inl ⟨g,k,e,rfl,rfl⟩) rx λT L=>⟨.bl _,H,L,rfl,q⟩
def inE(g:Bool)(x y:D):Option D:=match y with
 |.dk z=>(Re x).map λk=>.bl (if g then !(vb k z).isSome else (vb k z).isSome)
 |_=>inD g x y
def rH(g:Bool):Dk G (λx y H Q=>rInA G.K g x y H Q∨rDIn g x y H Q) (inE g):=by
 intro A H x y dx U d Q J rx I h k;unfold inE at h;split at h
 .rename_i L;cases e:Re dx with
  |none=>simp[e] at h
  |some q=>
   obtain⟨p,z,rfl,S,O,r⟩:=I.dk;have T:=(Ml (k:=q) O r).2;rw[e] at h;cases h;refine .inr ⟨p,z,q,rfl,S,Xv rx e,?_⟩;rw[T];exact k _ H (ab.refl H) (.bl _)
 .exact .inl (xH g A H x y dx U d Q J rx I h k)
def rDIx:R2:=λx y H Q=>∃a kvs k v,x=.ref a/\Rd H a (.dK kvs)/\y=kV k/\Pv kvs k=O0 v/\Q v H
theorem zb(hu:X.A.units+1<bv):IxR X rDIx:=by
 intro J L Z s Y H x y v u Q I rx ry h hs;obtain⟨a,U,k,z,rfl,e,rfl,l,q⟩:=h;cases rx;have g:DGet H a (kV k) (O0 z):=.inl ⟨U,k,e,rfl,l.symm⟩;have W:=Xd I g;unfold AC;refine ae ?_;rw[IR W.not_modules];refine ae (mT W EG.lookup ?_);have O:ag (ai X.prog X.w) X.A (xi L O2 (.ref a) u) (λr S=>ag (ai X.prog X.w) X.A (letTemporaryGo J (.ref a) r >>= λ_=>pure r) (EP X Z Y Q) X.xe S) X.xe s:=by
  rw[hs];exact wpAny_operating (dX hu I g ry λw' s3 I3 T=>ae (IS (av ⟨z,H,I3,T,q⟩)))
 first
  |exact av (ae O)
  |exact ae (av (ae O))
  |exact ae O
def kc(x y:D):Option D:=match x with
 |.dk g=>(Re y).bind λk=>vb k g
 |_=>ixD x y
def rJ:Dk G (λx y H Q=>rIx G.K x y H Q∨rDIx x y H Q) kc:=by
 intro A H x y dx I d Q L rx z h k;unfold kc at h;split at h
 .rename_i O;cases e:Re I with
  |none=>simp[e] at h
  |some q=>
   obtain⟨p,g,rfl,U,S,r⟩:=rx.dk;simp[e] at h;obtain⟨v,T,J⟩:=(Ml (k:=q) S r).1 d h;exact .inr ⟨p,g,q,v,rfl,U,Xv z e,T,k v H (ab.refl H) J⟩
 .exact .inl (ig A H x y dx I d Q L rx z h k)
theorem xT(S:X.A.units+1<bv)(W:G.K=X.K)(ha:PU X G a fa)(hb:PU X G b fb)(hs:OD b):PF X G (.Subscript a b pos) (bF kc fa fb):=
 λA=>Bt (uY (r:=λx y H Q=>rIx X.K x y H Q∨rDIx x y H Q) (h_.or (zb S)) (@ha A) (@hb A) hs) λ_ _ _ h=>Sv (by rw[<-W];exact rJ) h
def De(x y v:D):Option D:=match x with
 |.dk g=>(Re y).bind λk=>if g.length<sizeLine then O0 (.dk (QU k v g)) else W1
 |_=>W1
def putF(i:Nat)(I g:FE):FS:=λρ=>(g ρ).bind λv=>(I ρ).bind λy=>(YR ρ i).bind λx=>(De x y v).map λz=>.nx (ρ.set i (.ow z))
def eG{ρ:Rho}{o:Sz}(h:putF i fa fb ρ=O0 o):∃v y x z,fb ρ=O0 v/\fa ρ=O0 y/\ρ[i]?=O0 (.ow x)/\De x y v=O0 z/\o=.nx (ρ.set i (.ow z)):=by
 unfold putF at h;cases g:fb ρ with
 |none=>simp[g] at h
 |some v=>
  cases J:fa ρ with
  |none=>simp[g,J] at h
  |some y=>
   cases I:YR ρ i with
   |none=>simp[g,J,I] at h
   |some x=>
    cases U:De x y v with
    |none=>simp[g,J,I,U] at h
    |some z=>
     simp[g,J,I,U] at h;exact⟨v,y,x,z,rfl,rfl,QT I,U,h.symm⟩
theorem J_(hu:X.A.units+1<bv)(hv:PE X (.Name x xpos) (Sb i))(ha:PF X G a fa)(hb:PF X G b fb)(hs:eJ b (O0 (.Subscript (.Name x xpos) a spos)) pos.line X.env=pure O2:=by rfl):UR X G (.Assign [.Subscript (.Name x xpos) a spos] b pos) (putF i fa fb):=by
 rintro A0 He π s σ H D I ⟨O,o,⟨A,w⟩,e,k⟩
 obtain⟨v,y,x0,z,e1,e2,Y,g,rfl⟩:=eG e;refine Vu hu hv (@ha A) (@hb A) hs π s σ H D I ?_;unfold De at g;split at g
 .rename_i N0;cases U:Re y with
  |none=>simp[U] at g
  |some q=>
   simp only[U,dn] at g;split at g
   .rename_i hz;cases g;obtain⟨p,Z,hA,L,h2,W,r⟩:=w.ok.ow i _ Y;refine⟨O,v,w.ok,e1,λu H1 J r1=>⟨_,Z,O,y,(w.mono J).ok,e2,λyv H2 S r2=>?_⟩⟩;have ek:=Mp r2 U;subst ek;have hl:L.length<sizeLine:=by
     have:=RI eC W;rw[ay,ay] at this;omega
    refine⟨p,_,rfl,XU.k (S _ _ (J _ _ h2)) hl,?_⟩;have w2:=(w.mono J).mono S;have T:=WP (k:=q) (r1.mono (BJ S)) W (r.mono (BJ (J.trans S)));refine k _ _ ⟨A,w2.wr Y Z ⟨_,Aj,T.1,?_⟩⟩;rw[Dt hA];exact T.2
   .cases g
 .cases g
def VD:D->Option D
 |.dk g=>O0 (.dk g)
 |_=>W1
def ZP:Dd X (.type "dict") (λxs H Q=>∃a kvs,xs=[.ref a]/\Rd H a (.dK kvs)/\∀p,H p=W1->Q (.ref p) (gq H p (.dK kvs))):=by
 intro S s O H xs T Q I J h;obtain⟨a,kvs,rfl,e,q⟩:=h;obtain⟨u,rfl,z⟩:=J.one;cases z;exact iQ I e λp U g L=>⟨.ref p,_,L,rfl,q p g⟩
def bG{p:Pos}(Z:Gl X x)(Y:X.mg x=W1)(U:cE x=O0 (.type "dict"))(ha:PU X G a fa)(W:x≠"__name__":=by decide)(J:(x==("__debug__":Str))=O2:=by decide)(O:aw [a] X.env=[(O2,eval a X.env)]:=by rfl):PN X G (.Call (.Name x p) [a] [] pos) (uF VD fa):=
 λA=>Bt (Gk ZP Z Y U (Bw (@ha A) Dq O) W J O rfl)<|by
  rintro σ H Q ⟨S,d,o,e,k⟩
  obtain⟨x0,e1,I⟩:=Ez e;unfold VD at I;split at I
  .cases I;refine⟨S,_,o,e1,λv H1 L T=>?_⟩;obtain⟨q,g,rfl,h1,h2,r⟩:=T.dk;exact⟨q,g,rfl,h1,λp z=>k p _ (L.trans (Ak z _)) (L.free z) ⟨g,Aj,h2,r.mono (Hw (Ak z _) z)⟩⟩
  .cases I
end
theorem Oo{I G:Type}{R:I->G->Prop}:∀{xs:List I}{ys:List G}{i:Nat}{x:I}{y:G},mh R xs ys->xs[i]?=O0 x->ys[i]?=O0 y->R x y
 |_,_,i,x,y,.nil,h,_=>by simp at h
 |_,_,0,x,y,.cons r _,z,g=>by
  simp at z g;rw[<-z,<-g];exact r
 |_,_,i+1,x,y,.cons _ t,z,g=>Oo t (by simpa using z) (by simpa using g)
def Itd(a:Addr)(o:Obj)(kvs:List (Key×V)):It:=
 ⟨λi H=>H a=O0 (.frz o (.dK kvs))/\i<kvs.length,λi H x g=>g=H/\∃p,kvs[i]?=O0 p/\x=kV p.1,λi H=>H a=O0 (.frz o (.dK kvs))/\kvs.length<=i⟩
def relK{k:Key}(h:(Av P w).is k u=O1):cc (kV k) u:=by
 rcases Bm h with ⟨i,t,rfl,rfl⟩ | ⟨x,t,rfl,rfl⟩
 .exact⟨t,rfl⟩
 .exact⟨t,rfl⟩
def Qc{kvs:List (Key×V)}{es:Array xp}(I:Inv X π σ H s)(e:H a=O0 (.frz o (.dK kvs)))(L:o.data=.dict es ep):
  (a==gT)=O2/\∃vs,KV kvs vs/\s.heap.DictAt (Av X.prog X.w) a vs ep:=by
 obtain⟨J,z,S,vs,G,Z,W,Y,g,U,O,T⟩:=(show BX X.prog X.w H s.heap a (.frz o (.dK kvs)) from I.hok a _ e);rw[J] at g;cases g;rw[L] at O;cases O;exact⟨S,vs,G,o,es,J,U,L,T⟩
theorem eO{K:aI}(a it:Addr){o:Obj}{es:Array xp}{ep:Nat}(hd:o.data=.dict es ep)(kvs:List (Key×V)):XO P w K tg (Itd a o kvs) [it] it (λi h=>h.IsKeyIter it a i kvs.length ep) where
 mem:=by simp
 obj:=λi h U b L=>by
  have e:b=it:=by simpa using L
  subst e;obtain⟨o,e,c,d⟩:=U;exact⟨o,e,λv z=>by rw[d] at z;cases z⟩
 keep:=λi h W U k=>let ⟨o,e,c,d⟩:=U;⟨o,k it .(1) o e,c,d⟩
 item:=by
  intro X hP hw hK hc i π s σ H E I T U hg;subst hP hw hK;obtain⟨he,S⟩:=hg;obtain⟨hm,g,G,dd⟩:=Qc I he hd;have Y:kvs.length=g.length:=G.length;obtain⟨f0,f1,f2,f3,f4,f5⟩:=T it .(1);have hv:g[i]?=O0 (g[i]'(by omega)):=by simp[show i<g.length by omega]
  have hk:kvs[i]?=O0 (kvs[i]'S):=by simp[S]
  have N0:(kvs[i]'S).1=(g[i]'(by omega)).1:=(Oo G hk hv).1;refine wpAny_pyNext_dict_item (knd:=Av X.prog X.w) (kvs:=g) (k:=(g[i]'(by omega)).1) (v:=(g[i]'(by omega)).2) (by rw[<-Y];exact U) dd hv λZ W O J sb=>?_;rw[<-Y] at J;have I1:Inv X π σ H { s with heap:=W }:=I.turned (t':=s.toks) (λb o L e=>(sb.2 b L).trans e) f0 f1 f3 f4 f5;obtain⟨o1,e1,c1,d1⟩:=id J;exact⟨Z,rfl,XS (s:={ s with heap:=W }) e1 c1 d1 .(2) ⟨kV (kvs[i]'S).1,H,I1,by rw[N0];exact relK O,⟨rfl,_,hk,rfl⟩,J,λb L=>(T b L).1⟩⟩
 done:=by
  intro X hP hw hK hc i π s σ H E I T U hg;subst hP hw hK;obtain⟨he,S⟩:=hg;obtain⟨hm,g,G,dd⟩:=Qc I he hd;have Y:kvs.length=g.length:=G.length;obtain⟨f0,f1,f2,f3,f4,f5⟩:=T it .(1);exact wpAny_pyNext_dict_end (I.ok.hd hc) (by rw[<-Y];exact U) dd (by rw[pw];omega) λW eb=>⟨rfl,I.turned (t':=s.toks) (λb o L e=>eb b o L e) f0 f1 f3 f4 f5⟩
 self:=λ_ _ _ _ _ U h=>wpAny_pyIter_keyiter U h
section
variable {G:Gx}{a b:Expr}{fa:FE}{tl:TE}
def zc(I:TE):TI:=λz H R=>I z H λx g=>∃a o kvs,x=.ref a/\g a=O0 (.frz o (.dK kvs))/\R (Itd a o kvs) g
theorem rK{l:Expr}(hl:PE X l tl):PI X tg l (zc tl):=by
 intro Z s Y H R I h;refine la (hl Z s Y H _ I h) λv z q0=>?_;obtain⟨x,T,J,r1,q1⟩:=q0;obtain⟨a,o,g,e,U,q⟩:=q1;subst e;cases r1;obtain⟨_,_,_,_,_,o',es,ep,L,h1,W,_⟩:=(show BX X.prog X.w T z.heap a (.frz o (.dK g)) from J.hok a _ U);obtain⟨ho,_⟩:=(show BX X.prog X.w T z.heap a (.frz o (.dK g)) from J.hok a _ U);rw[ho] at L;cases L;obtain⟨hm,vs,O,dd⟩:=Qc J U W;have S:g.length=vs.length:=O.length;refine wpAny_pyIter_dict hm dd ?_;refine⟨z.heap.objs.size,[z.heap.objs.size],_,_,T,rfl,J.kept (t':=z.toks) λb o e=>bn _ e,eO a _ W g,⟨_,ce _ rfl,rfl,by rw[S];rfl⟩,λb hb=>?_,q⟩;have e:b=z.heap.objs.size:=by simpa using hb
 subst e;exact J.fpOk (aE _) (J.hok.fresh (aE _))
def UU:Key->D
 |.inl i=>.int i
 |.inr x=>.str x
def WQ(k:Key):im G H (kV k) (UU k):=by
 cases k with
 |inl i=>exact .int i
 |inr x=>exact .str x
def seqE(f:FE):FI:=λρ=>match f ρ with | some (.lst ds)=>O0 ds | some (.tup ds)=>O0 ds | some (.dk g)=>O0 (g.map λp=>UU p.1) | _=>W1
def j8{kvs:List (Key×V)}{g:List (Key×D)}(h:F1 p=O0 (.frz o (.dK kvs)))(e:kvs.map (·.1)=g.map (·.1)):Src G (Itd p o kvs) (g.map λp=>UU p.1) F1 F2:=by
 have Y:kvs.length=g.length:=by have:=RI eC e;rwa [ay,ay] at this
 refine⟨λi H s L=>⟨s _ _ h,by rw[Y];rwa [ay] at L⟩,λi H x U d s I y=>?_,λi H s L=>⟨s _ _ h,by rw[Y];rwa [ay] at L⟩⟩;obtain⟨T,q,Z,S⟩:=y;refine S9 ⟨T,?_⟩;have J:(kvs.map (·.1))[i]?=O0 q.1:=by rw[ca,Z];rfl
 rw[e,ca] at J;rw[ca] at I;cases O:g[i]? with
 |none=>rw[O] at I;cases I
 |some z=>
  rw[O] at J I;cases I;injection J with J
  rw[S,<-J];exact WQ _
def j9(W:G.K=X.K)(h:PF X G a fa):RU X G O2 tg a (seqE fa):=λA=>S_ (piOr (qi W h (A:=A)) (rK (@h A)))<|by
 rintro T H R ⟨z,U,o,e,k⟩
 unfold seqE at e;split at e
 .rename_i J g;cases e;exact .inl ⟨z,_,o,by unfold seqI;rw[g],k⟩
 .rename_i J g;cases e;exact .inl ⟨z,_,o,by unfold seqI;rw[g],k⟩
 .rename_i O g;cases e;refine .inr ⟨z,_,o,g,λv S I L=>?_⟩;cases L with
  |dk h l r=>exact⟨_,_,_,rfl,Am _ _ h,k _ S I (j8 h l)⟩
 .cases e
end
section
variable {A:aS}
theorem zf{l:Addr}{its:Array ac}(ne:l≠it):∀(m i:Nat) (s:ah) (Q:List ac->ah->Prop),s.heap.IsListIter it l i->s.heap.IsList l its->i+m=its.size ->
  (∀h',h'.IsListIter it l its.size->fh it s.heap h'->Q (its.toList.drop i) { s with heap:=h' })->ag (ai prog w) A (draw (.ref it) m) Q E s:=by
 intro m
 induction m with
 |zero=>
  intro i s Q L Y T k;refine av ?_;have O:i=its.size:=by omega
  have e:its.toList.drop i=[]:=by rw[List.drop_eq_nil_iff];simp[O]
  rw[<-e];exact k s.heap (O▸L) (EH ..)
 |succ m S=>
  intro i s Q L Y T k;have lt:i<its.size:=by omega
  refine ae (m:=gE (.ref it)) (HG L Y (x:=its[i]) (by simp[lt]) λW J g=>?_);have G:W.IsList l its:=let ⟨o,e,r⟩:=Y;⟨o,(g.2 l ne).trans e,r⟩;refine ae (wpAny_holding (S (i+1) _ _ J G .(0) λU I z=>av ?_));have e:its.toList.drop i=its[i]::its.toList.drop (i+1):=by simp[uk,lt]
  rw[<-e];exact k U I (g.trans z)
theorem rM{l:Addr}{its:Array ac}{Q:List ac->ah->Prop}(O:A.handled=W1)(Y:s.heap.IsList l its)(k:∀h',B0 s.heap.objs.size s.heap h'->Q its.toList { s with heap:=h' }):ag (ai prog w) A (unpackItems (.ref l) its.size W1) Q E s:=by
 have ne:l≠s.heap.objs.size:=by obtain⟨o,L,_⟩:=Y;exact bS (bo L)
 have ty:s.TypeIs (.ref l) "list":=let ⟨o,e,c,_⟩:=Y;⟨o,e,c⟩;unfold unpackItems notIterableAtAll;refine ae (ae (mT ty PySem.F.slot_list_iter.lookup (av ?_)));simp only[dQ,WI];refine ae (wpAny_holding (A7 Y ?_));have z:(s.heap.push { cls:=.type "list_iterator",data:=.fields #[.ref l,.int 0 0] }).IsList l its:=let ⟨o,e,r⟩:=Y;⟨o,bn _ e,r⟩;refine ae (wpAny_holding (zf ne its.size 0 _ _ ⟨_,ce _ rfl,rfl,rfl⟩ z .(0) λT J g=>?_));rw[JA,ZH .(1)];have G:T.IsList l its:=let ⟨o,e,r⟩:=z;⟨o,(g.2 l ne).trans e,r⟩;refine ae (wpAny_holding (HI O J G .(1) λS U=>?_));simp only[Option.isSome_none,dQ,WI];exact av (k S λb o I e=>U b o I ((g.2 b I).trans (bn _ e)))
end
section
variable {G:Gx}{a b:Expr}{fa:FE}{es:List Expr}
def gLst(K:aI)(n:Nat)(t:TGs):TG:=λv g H Q=>∃a xs,v=.ref a/\NS K H a xs/\xs.length=n/\t xs g H Q
theorem xU{k:Nat}{t:TGs}(hc:X.calm=O1)(h:PGs X es t)(Z:(iL es X.env).length=n:=by rfl)(J:(iL es X.env).findIdx? (·.1)=W1:=by rfl):PG X (.Tuple es k pos) (gLst X.K n t):=by
 intro O s L H v u Q I r z;obtain⟨a,T,rfl,Y,hl,z⟩:=z;cases r;obtain⟨g,S,W,hz⟩:=I.list Y;rw[assign_Tuple];refine ae (Ap ?_);unfold unpack;have e:(iL es X.env).length=g.toArray.size:=by simp[Z,<-hl,S.length]
 rw[e,J];refine ae (wpAny_holding (rM (I.ok.hd hc) W.isList λh' U=>?_));have I1:Inv X O L H { s with heap:=h' }:=I.kept (t':=s.toks) λb o e=>U b o (bS (bo e)) e;exact h O _ L H T _ Q I1 (by simpa using S) z
def PG.or{t t':TG}(h:PG X tg t)(h':PG X tg t'):PG X tg (λv σ H Q=>t v σ H Q∨t' v σ H Q):=λz s σ H v u Q I r q=>by
 rcases q with q | q
 .exact h z s σ H v u Q I r q
 .exact h' z s σ H v u Q I r q
abbrev FGs:=List D->Rho->Option Rho
def NN:FGs:=λds ρ=>match ds with | []=>O0 ρ | _=>W1
def A_(i:Nat)(g:FGs):FGs:=λds ρ=>match ds with | d::r=>g r (ρ.set i (.fz d)) | []=>W1
def NM(n:Nat)(g:FGs):FG:=λd ρ=>match d with
 |.tup ds=>if ds.length=n then g ds ρ else W1
 |.lst ds=>if ds.length=n then g ds ρ else W1
 |_=>W1
def tGDs(G:Gx)(A0:List Addr)(J:Hp)(g:FGs):TGs:=λvs O H Q=>∃A ρ ds I,OR G A0 J A O H ρ/\be G (bm A H) vs ds/\g ds ρ=O0 I/\∀z L,XT G A0 J z L I->Q z L
def PGDs(X:Cx)(G:Gx)(es:List Expr)(g:FGs):Prop:=∀⦃A0⦄ He,PGs X es (tGDs G A0 He g)
def G9:PGDs X G [] NN:=by
 rintro Y W J s g H L O Q I r ⟨A,T,U,z,w,S,e,k⟩
 unfold NN at e;split at e
 .cases e;exact Z2 J s g H L O Q I r ⟨S.nil_inv,k _ _ ⟨A,w⟩⟩
 .cases e
def BR{g:FGs}(h1:PG X e (Es i))(h2:PGDs X G es g)(hs:(iL (e::es) X.env).map (·.2)=ng e X.env::(iL es X.env).map (·.2):=by rfl):PGDs X G (e::es) (A_ i g):=by
 rintro A0 Z O s L H vs T Q I r ⟨A,ρ,ds,z,w,U,e,k⟩
 unfold A_ at e;split at e
 .rename_i d J;obtain⟨x,S,rfl,Y,W⟩:=U.uncons;exact R8 h1 (@h2 A0 Z) hs O s L H _ T Q I r ⟨x,S,rfl,A,_,J,z,w.set Y i,W,e,k⟩
 .cases e
def JP{k:Nat}{g:FGs}(hG:G.K=X.K)(hc:X.calm=O1)(h:PGDs X G es g)(Z:(iL es X.env).length=n:=by rfl)(J:(iL es X.env).findIdx? (·.1)=W1:=by rfl):PGD X G (.Tuple es k pos) (NM n g):=by
 rintro A0 He π s σ H v u Q I r ⟨A,U,d,z,w,W,e,k⟩
 refine PG.or (gK hc (@h A0 He) Z J) (xU hc (@h A0 He) Z J) π s σ H v u Q I r ?_;unfold NM at e;split at e
 .rename_i T;split at e
  .rename_i Y;cases W with
   |tup S L O=>exact .inl ⟨_,_,rfl,by rw[<-hG];exact Dj Am S,by rw[L];exact Y,A,U,T,z,w,⟨L,O⟩,e,k⟩
  .cases e
 .rename_i T;split at e
  .rename_i Y;cases W with
   |lst S L O=>exact .inr ⟨_,_,rfl,by rw[<-hG];exact Am.seq S,by rw[L];exact Y,A,U,T,z,w,⟨L,O⟩,e,k⟩
  .cases e
 .cases e
def UO(f:FE)(g:FG):FS:=λρ=>(f ρ).bind λd=>(g d ρ).map .nx
def WR{g:FG}(hg:PGD X G tg g)(ha:PF X G a fa)(hs:swapsWithSole [tg] a pos.line X.env=pure O2:=by rfl)(Z:swappedStores [tg] a X.env=pure W1:=by rfl)(h1:(iL [tg] X.env).map (·.2)=[ng tg X.env]:=by rfl):UR X G (.Assign [tg] a pos) (UO fa g):=by
 rintro A0 He U s T H D I ⟨z,o,⟨A,w⟩,e,k⟩
 unfold UO at e;cases J:fa z with
 |none=>simp[J] at e
 |some d=>
  cases S:g d z with
  |none=>simp[J,S] at e
  |some O=>
   simp[J,S] at e;subst e;exact wI (@ha A) (@hg A0 He) hs Z h1 U s T H D I ⟨z,d,w.ok,J,λv H1 W Y=>⟨A,z,d,O,w.mono W,Y,S,λL H' ok=>k L H' ok⟩⟩
def BP:Dd X (.builtin "len") (λxs H Q=>∃a kvs,xs=[V.ref a]/\Rd H a (.dK kvs)/\Q (.int kvs.length) H):=by
 intro O s g H xs S Q I J h;obtain⟨a,kvs,rfl,e,q⟩:=h;obtain⟨u,rfl,z⟩:=J.one;cases z;exact zT I e λt T L=>⟨.int kvs.length,H,L,⟨t,rfl⟩,q⟩
def uj:D->Option D
 |.dk g=>O0 (.int g.length)
 |d=>Sk d
def Bu:VS G (λxs H Q=>(∃x n,xs=[x]/\LenV G.K x H n/\Q (.int n) H)∨∃a kvs,xs=[V.ref a]/\Rd H a (.dK kvs)/\Q (.int kvs.length) H) uj:=by
 intro A H x dx d Q I rx h k;unfold uj at h;split at h
 .cases h;obtain⟨p,kvs,rfl,z,g,r⟩:=rx.dk;have Y:=RI eC g;rw[ay,ay] at Y;refine .inr ⟨p,kvs,rfl,z,?_⟩;rw[Y];exact k _ H (ab.refl H) (.int _)
 .exact .inl (Ri A H x dx d Q I rx h k)
end
def Iti(a:Addr)(o:Obj)(kvs:List (Key×V)):It:=
 ⟨λi H=>H a=O0 (.frz o (.dK kvs))/\i<kvs.length,λi H x g=>∃T p,H T=W1/\kvs[i]?=O0 p/\x=.ref T/\g=gq H T (.tup [kV p.1,p.2]),λi H=>H a=O0 (.frz o (.dK kvs))/\kvs.length<=i⟩
theorem ZQ{K:aI}(a it:Addr){o:Obj}{es:Array xp}{ep:Nat}(hd:o.data=.dict es ep)(kvs:List (Key×V)):
  XO P w K (.Tuple elts x1 tp) (Iti a o kvs) [it] it (λi h=>∃ok L,IsItemIter h it a i kvs.length ep ok L) where
 mem:=by simp
 obj:=λi h U b J=>by
  have e:b=it:=by simpa using J
  subst e;obtain⟨ok,L,e⟩:=U;exact⟨_,e,λv z=>by
   have z':Cf _=Co v:=z;cases z'⟩
 keep:=λi h h' U k=>let ⟨ok,L,e⟩:=U;⟨ok,L,k it .(1) _ e⟩
 item:=by
  intro X hP hw hK hc i π s σ H E I hf U hg;subst hP hw hK;obtain⟨he,O⟩:=hg;obtain⟨ok,L,U⟩:=U;obtain⟨hm,g,G,dd⟩:=Qc I he hd;have Y:kvs.length=g.length:=G.length;obtain⟨Z,f1,f2,f3,f4,f5⟩:=hf it .(1);have hv:g[i]?=O0 (g[i]'(by omega)):=by simp[show i<g.length by omega]
  have hk:kvs[i]?=O0 (kvs[i]'O):=by simp[O]
  obtain⟨X0,T0⟩:=Oo G hk hv;have S:it<s.heap.objs.size:=bo U;refine wpAny_pyNext_items_item (knd:=Av X.prog X.w) (kvs:=g) (k:=(g[i]'(by omega)).1) (v:=(g[i]'(by omega)).2) (by rw[<-Y];exact U) dd hv λkey h1 T S0 ht hz kk=>?_;refine⟨_,rfl,wpAny_letOwnedTupleGo_items (s:={ s with heap:=h1 }) S0 λh2 N0 sb=>?_⟩;have hT:H s.heap.objs.size=W1:=I.hok.fresh (aE _);have rk:cc (kV (kvs[i]'O).1) key:=by rw[X0];exact relK T
  have I1:Inv X π σ (gq H s.heap.objs.size (.tup [kV (kvs[i]'O).1,(kvs[i]'O).2])) { s with heap:=s.heap.push { cls:=.type "tuple",data:=.seq #[key,(g[i]'(by omega)).2] } }:=
   I.laid (a:=s.heap.objs.size) (t':=s.toks) (λb u e=>bn _ e) (aE _) ⟨by show 2<=sizeLine;decide,[key,(g[i]'(by omega)).2],.cons rk (.cons T0 .nil),_,ce _ rfl,rfl,_,rfl⟩
  have kp:∀b u,b≠it->(s.heap.push { cls:=.type "tuple",data:=.seq #[key,(g[i]'(by omega)).2] }).get? b=O0 u->h2.get? b=O0 u:=λb u J e=>by
   refine (sb.2 b J).trans ?_
   rcases EI e with ⟨rfl,rfl⟩ | e'
   .exact ht
   .exact kk b u J e'
  have I2:=L2.Inv.turned (t':=s.toks) (it:=it) (h':=h2) I1 kp (by rw[Al (bS S)];exact Z) f1 f3 f4 f5;refine⟨.ref s.heap.objs.size,_,I2,rfl,⟨_,_,hT,hk,rfl,rfl⟩,⟨key,(g[i]'(by omega)).2,by rw[Y];exact N0⟩,λb J=>?_⟩;have e:b=it:=by simpa using J
  subst e;rw[Al (bS S)];exact Z
 done:=by
  intro X hP hw hK hc i π s σ H E I hf U hg;subst hP hw hK;obtain⟨he,O⟩:=hg;obtain⟨ok,L,U⟩:=U;obtain⟨hm,g,G,dd⟩:=Qc I he hd;have Y:kvs.length=g.length:=G.length;obtain⟨Z,f1,f2,f3,f4,f5⟩:=hf it .(1);exact wpAny_pyNext_items_end (I.ok.hd hc) (by rw[<-Y];exact U) dd (by rw[pw];omega) λh' eb=>⟨rfl,I.turned (t':=s.toks) (λb o J e=>eb b o J e) Z f1 f3 f4 f5⟩
 self:=by rintro _ _ _ _ _ ⟨ok,L,U⟩ h;exact PySem.W.kcp_self U h
section
variable {G:Gx}{a b:Expr}{fa:FE}{tl:TE}
def xV(I:TE):TI:=λz H R=>I z H λx g=>∃a o kvs,x=.ref a/\g a=O0 (.frz o (.dK kvs))/\R (Iti a o kvs) g
theorem j_{l:Expr}{J:Pos}(hl:PE X l tl)(S:eR l "items" X.env (eval l X.env)=eval l X.env:=by rfl)(O:(apos.endLine==J.line)=O1:=by rfl):
  PI X (.Tuple elts x1 tp) (.Call (.Attribute l "items" apos) [] [] J) (xV tl):=by
 intro π s σ H R I h;refine KP (T:="dict") (id:="dict.items") S rfl O F.plainAttrs_dict KS F.type_dict_items (la (hl π s σ H _ I h) λv z q0=>?_);obtain⟨x,Y,W,r1,q1⟩:=q0;obtain⟨a,o,g,e,hq,q⟩:=q1;subst e;cases r1;obtain⟨_,_,_,_,_,o',es,ep,U,h1,h2,_⟩:=(show BX X.prog X.w Y z.heap a (.frz o (.dK g)) from W.hok a _ hq);obtain⟨ho,_⟩:=(show BX X.prog X.w Y z.heap a (.frz o (.dK g)) from W.hok a _ hq);rw[ho] at U;cases U;obtain⟨hm,Z,N0,dd⟩:=Qc W hq h2;have S0:g.length=Z.length:=N0.length;have L:=dd.dictOf;refine⟨L.typeIs,L.mapOf.noDict,?_⟩;show ag _ _ (rb J (.builtin "dict.items") [.ref a] [] []) _ _ z;refine method_meetsIn KS F.entry_dict_items rfl (PySem.evalArgs_none ⟨rfl,L.typeIs,F.args_dict_items_1 _,_,meets_dict_items (Av X.prog X.w) a hm,⟨Z,L⟩,?_⟩);have I2:Inv X π σ Y { z with heap:=z.heap.push { cls:=.type "dict_items",data:=.fields #[.ref a] } }:=W.kept (t':=z.toks) λb o e=>bn _ e;refine wpAny_pyIter_items (knd:=Av X.prog X.w) (kvs:=Z) (s:={ z with heap:=z.heap.push { cls:=.type "dict_items",data:=.fields #[.ref a] } }) ⟨_,ce _ rfl,rfl,rfl⟩ (dd.push _) ?_;refine⟨(z.heap.push { cls:=.type "dict_items",data:=.fields #[.ref a] }).objs.size,[(z.heap.push { cls:=.type "dict_items",data:=.fields #[.ref a] }).objs.size],_,_,Y,rfl,I2.kept (t':=z.toks) λb o e=>bn _ e,ZQ a _ h2 g,⟨.none,.none,?_⟩,λb hb=>?_,q⟩
 .rw[S0];exact ce _ rfl
 .have e:b=(z.heap.push { cls:=.type "dict_items",data:=.fields #[.ref a] }).objs.size:=by simpa using hb
  subst e;exact I2.fpOk (aE _) (I2.hok.fresh (aE _))
def Qd(f:FE):FI:=λρ=>match f ρ with | some (.dk g)=>O0 (g.map λp=>.tup [UU p.1,p.2]) | _=>W1
def kE{g z:Type}{f:g->z}{l:List g}{y:z}(h:(l.map f)[i]?=O0 y):∃x,l[i]?=O0 x/\f x=y:=by
 rw[ca] at h;exact kx.mp h
def eQ{kvs:List (Key×V)}{g:List (Key×D)}(h:F1 p=O0 (.frz o (.dK kvs)))(e:kvs.map (·.1)=g.map (·.1))(r:be G F2 (kvs.map (·.2)) (g.map (·.2))):
  Src G (Iti p o kvs) (g.map λp=>.tup [UU p.1,p.2]) F1 F2:=by
 have Y:kvs.length=g.length:=by have:=RI eC e;rwa [ay,ay] at this
 refine⟨λi H s J=>⟨s _ _ h,by rw[Y];rwa [ay] at J⟩,λi H x H' d s hd y=>?_,λi H s J=>⟨s _ _ h,by rw[Y];rwa [ay] at J⟩⟩;obtain⟨T,q,U,Z,rfl,rfl⟩:=y;obtain⟨z,O,rfl⟩:=kE hd;have I:(kvs.map (·.1))[i]?=O0 q.1:=by rw[ca,Z];rfl
 rw[e,ca,O] at I;injection I with I
 have S:im G F2 q.2 z.2:=r.2 i q.2 z.2 (by rw[ca,Z];rfl) (by rw[ca,O];rfl);refine⟨Ak U _,λB W L=>?_⟩;have rr:be G (bm B H) [kV q.1,q.2] [UU z.1,z.2]:=.cons (by rw[<-I];exact WQ _) (.cons (S.mono L) .nil);exact Fq W U rr
def VF{top:Bool}{J:Pos}(h:PF X G a fa)(g:eR a "items" X.env (eval a X.env)=eval a X.env:=by rfl)(z:(apos.endLine==J.line)=O1:=by rfl):
  RU X G O2 (.Tuple elts x1 tp) (.Call (.Attribute a "items" apos) [] [] J) (Qd fa):=λA=>S_ (j_ (@h A) g z)<|by
 rintro W H R ⟨I,Y,o,e,k⟩
 unfold Qd at e;split at e
 .rename_i S T;cases e;refine⟨I,_,o,T,λv U L O=>?_⟩;cases O with
  |dk h l r=>exact⟨_,_,_,rfl,Am _ _ h,k _ U L (eQ h l ⟨by have:=RI eC l;rwa [ay,ay] at this ⊢,r⟩)⟩
 .cases e
end
section
variable {G:Gx}{b:Expr}{fb:FE}{es:List Expr}{fs:FA}
theorem WT{P:cw}{w:bP}:∀{kvs:List (Key×V)}{us:List ac},us.length=kvs.length->(∀(j:Nat) u,us[j]?=O0 u->∃p,kvs[j]?=O0 p/\(Av P w).is p.1 u=O1)->cx (kvs.map λp=>kV p.1) us
 |[],us,Y,_=>by
  have:us=[]:=xL Y;subst this;exact .nil
 |p::kvs,[],Y,_=>by simp at Y
 |p::kvs,u::us,Y,h=>by
  obtain⟨q,g,I⟩:=h 0 u rfl;simp at g;subst g;exact .cons (relK I) (WT (P:=P) (w:=w) (by simpa using Y) λj v z=>by simpa using h (j+1) v (by simpa using z))
theorem KC(hc:X.calm=O1):Dd X (.type "list") (λxs H Q=>∃p kvs,xs=[.ref p]/\Rd H p (.dK kvs)/\∀l,H l=W1->Q (.ref l) (gq H l (.lst (kvs.map λq=>kV q.1)))):=by
 intro π s σ H xs us Q I r h;obtain⟨p,kvs,rfl,e,q⟩:=h;obtain⟨u,rfl,ru⟩:=r.one;cases ru;obtain⟨z,hd,O,g,L⟩:=Oc I.hok e;obtain⟨Z,L⟩:=L.dictAt;have Y:kvs.length=O.length:=g.length;refine PySem.W.kdl_call (KU (knd:=Av X.prog X.w) (kvs:=O) (ep:=Z) hd) (I.ok.hd hc) L .(0) λh' tk J c' kp hn S=>?_;have va:cx (kvs.map λq=>kV q.1) J.toList:=by
  refine WT (P:=X.prog) (w:=X.w) (by simp[S.1,Y]) λj u hu=>?_;obtain⟨k,x,T,h2⟩:=S.2 j u (by simpa using hu);have U:j<kvs.length:=by rw[Y];exact (iF.mp T).1
  refine⟨kvs[j],by simp[U],?_⟩;rw[(Oo g (by simp[U]) T).1];exact h2
 exact⟨.ref s.heap.objs.size,_,I.laid (t':=tk) kp (aE _) (show BX X.prog X.w _ h' _ (.lst (kvs.map λq=>kV q.1)) from⟨by rw[ay];exact z,J.toList,c',va,by simpa using hn⟩),rfl,q _ (I.hok.fresh (aE _))⟩
def QY:D->Option D
 |.dk g=>O0 (.lst (g.map λp=>UU p.1))
 |d=>iV d
theorem kI{H:Hp}:∀{kvs:List (Key×V)}{g:List (Key×D)},kvs.map (·.1)=g.map (·.1)->be G H (kvs.map λq=>kV q.1) (g.map λp=>UU p.1)
 |[],[],_=>be.nil
 |[],_::_,h=>by simp at h
 |_::_,[],h=>by simp at h
 |p::kvs,q::g,h=>by
  rw[ba,ba] at h;injection h with z h2
  exact .cons (by show im G H (kV p.1) (UU q.1);rw[z];exact WQ _) (kI h2)
def Qe:VS G (λxs H Q=>(∃p ys,xs=[.ref p]/\(NS G.K H p ys∨NR G.K H p ys)/\∀l,H l=W1->Q (.ref l) (gq H l (.lst ys)))∨∃p kvs,xs=[.ref p]/\Rd H p (.dK kvs)/\∀l,H l=W1->Q (.ref l) (gq H l (.lst (kvs.map λq=>kV q.1)))) QY:=by
 intro A H x dx d Q I rx h k;unfold QY at h;split at h
 .cases h;obtain⟨p,kvs,rfl,z,g,r⟩:=rx.dk;exact .inr ⟨p,kvs,rfl,z,λl Y=>k _ _ (Ak Y _) (Du I Y (kI g))⟩
 .exact .inl (iz A H x dx d Q I rx h k)
def Oq(x:D)(ds:List D)(v:D):Option D:=match x with
 |.dt g=>(La ds).bind λk=>if g.length<sizeLine/\ds.length<=sizeLine then O0 (.dt (QU k v g)) else W1
 |_=>W1
def Xw(i:Nat)(I:FA)(g:FE):FS:=λρ=>(g ρ).bind λv=>(I ρ).bind λy=>(YR ρ i).bind λx=>(Oq x y v).map λz=>.nx (ρ.set i (.ow z))
def ZR{ρ:Rho}{o:Sz}(h:Xw i fs fb ρ=O0 o):∃v y x z,fb ρ=O0 v/\fs ρ=O0 y/\ρ[i]?=O0 (.ow x)/\Oq x y v=O0 z/\o=.nx (ρ.set i (.ow z)):=by
 unfold Xw at h;cases g:fb ρ with
 |none=>simp[g] at h
 |some v=>
  cases J:fs ρ with
  |none=>simp[g,J] at h
  |some y=>
   cases I:YR ρ i with
   |none=>simp[g,J,I] at h
   |some x=>
    cases U:Oq x y v with
    |none=>simp[g,J,I,U] at h
    |some z=>
     simp[g,J,I,U] at h;exact⟨v,y,x,z,rfl,rfl,QT I,U,h.symm⟩
theorem kJ(hu:X.A.units+1<bv)(hv:PE X (.Name x xpos) (Sb i))(ha:SV X G es fs)(hb:PF X G b fb)(hs:eJ b (O0 (.Subscript (.Name x xpos) (.Tuple es x1 tp) spos)) pos.line X.env=pure O2:=by rfl):UR X G (.Assign [.Subscript (.Name x xpos) (.Tuple es x1 tp) spos] b pos) (Xw i fs fb):=by
 rintro A0 He π s σ H D I ⟨W,o,⟨A,w⟩,e,k⟩
 obtain⟨v,y,x0,z,e1,e2,hi,g,rfl⟩:=ZR e;refine Vu hu hv (Y7 (@ha A)) (@hb A) hs π s σ H D I ?_;unfold Oq at g;split at g
 .rename_i N0;cases U:La y with
  |none=>simp[U] at g
  |some q=>
   simp only[U,dn] at g;split at g
   .rename_i hz;cases g;obtain⟨p,h1,hA,L,h2,hk,r⟩:=w.ok.ow i _ hi;refine⟨W,v,w.ok,e1,λu H1 J r1=>⟨_,h1,W,y,(w.mono J).ok,e2,λvs H2 S Y=>⟨by rw[Y.1];exact hz.2,λT hT=>?_⟩⟩⟩;have ek:=Qa Y U;subst ek;have hl:L.length<sizeLine:=by
     have:=RI eC hk;rw[ay,ay] at this;omega
    have O:ab H2 (gq H2 T (.tup (q.map kV))):=Ak hT _;refine⟨p,_,rfl,XU.t (O _ _ (S _ _ (J _ _ h2))) Aj hl,?_⟩;have w2:=((w.mono J).mono S).mono O;have Z:=WP (k:=q) (r1.mono (BJ (S.trans O))) hk (r.mono (BJ (J.trans (S.trans O))));refine k _ _ ⟨A,w2.wr hi h1 ⟨_,Aj,Z.1,?_⟩⟩;rw[Dt hA];exact Z.2
   .cases g
 .cases g
end
section
variable {G:Gx}{a c:Expr}{fa:FE}{fs:FA}{src:FI}
def RU.top(h:RU X G O2 tg a src):RU X G O1 tg a src:=λA=>S_ (@h A) λW H R ⟨I,S,o,e,k⟩=>
 ⟨I,S,o,e,λJ T L g=>k J T L ⟨λi H s z=>g.go i H (Am.trans s) z,λi H x U d s O y=>g.yld i H x U d (Am.trans s) O y,λi H s z=>g.stop i H (Am.trans s) z⟩⟩
theorem mu.ob{A:List Addr}{H:Hp}{v:V}{c:Str}{L:List (Str×D)}(r:mu G A H v (.ob c L)):∃a C dx fs,v=.ref a/\G.cl c=O0 C/\H a=O0 (.ins C dx fs)/\fs.map (·.1)=L.map (·.1)/\be G (bm A H) (fs.map (·.2)) (L.map (·.2)):=by
 rcases r with r | ⟨a,e,C,dx,fs,h,k,r⟩
 .cases r with
  |ob J h l r=>
   have Y:=RI eC l;rw[ay,ay] at Y;exact⟨_,_,_,_,rfl,J,Am _ _ h,l,by rw[ay,ay];exact Y,r⟩
 .exact⟨a,C,dx,fs,e,k.1,h,k.2,r⟩
def fx(f:Str):D->Option D
 |.ob _ L=>L.lookup f
 |_=>W1
theorem Qf{H:Hp}{f:Str}{d:D}:∀{L:List (Str×D)}{fs:List (Str×V)},fs.map (·.1)=L.map (·.1)->be G H (fs.map (·.2)) (L.map (·.2))->L.lookup f=O0 d->∃v,fs.lookup f=O0 v/\im G H v d
 |[],fs,e,r,h=>by simp at h
 |p::L,[],e,r,h=>by simp at e
 |p::L,q::fs,e,r,h=>by
  rw[ba,ba] at e r;injection e with I e2
  obtain⟨x,T,S,g,O⟩:=r.uncons;injection S with U e5
  subst U e5;obtain⟨Y,W⟩:=p;obtain⟨q1,q2⟩:=q;simp only at I g;subst I
  by_cases z:f=q1
  .subst z;simp only[bX,YI,EJ] at h ⊢;subst h;exact⟨q2,rfl,g⟩
  .have J:(f==q1)=O2:=beq_eq_false_iff_ne.mpr z;simp only[bX,J] at h ⊢;exact Qf e2 O h
def Ba(g:∀c C,G.cl c=O0 C->On X.K C/\BV X.K C f)(he:PU X G a fa)(S:eR a f X.env (eval a X.env)=eval a X.env:=by rfl):PF X G (.Attribute a f pos) (uF (fx f) fa):=
 λA=>Bt (Y4 (@he A) S)<|by
  rintro Z H Q ⟨I,d,o,e,k⟩
  obtain⟨x0,W,z⟩:=Ez e;unfold fx at z;split at z
  .rename_i cn gs;refine⟨I,_,o,W,λv Y L O=>?_⟩;obtain⟨p,C,dx,fs,rfl,J,h,l,r⟩:=O.ob;obtain⟨v,U,T⟩:=Qf (f:=f) (d:=d) l r z;exact⟨_,_,_,_,v,rfl,h,(g _ _ J).1,(g _ _ J).2,U,k v Y L T⟩
  .cases z
end
def Its(x:Str):It:=⟨λi _=>i<x.cps.size,λi H y g=>g=H/\∃c,x.cps[i]?=O0 c/\y=.str ⟨#[c]⟩,λi _=>x.cps.size<=i⟩
theorem Xy{K:aI}(it:Addr)(x:Str)(t:Tok)(ty:String)(W:∀A:aS,A.handled=W1->nV P w A it [it] [it] x.cps.size (SignAt x) (λi h=>h.IsStrIter it ty x t i))(hn:["enumerate","zip","dict_itemiterator","dict_reverseitemiterator","odict_iterator","itertools.zip_longest","itertools.pairwise"].contains ty=O2)(T:∀(A:aS),A.handled=W1->∀(i:Nat) (s:ah) (Q:Option ac->ah->Prop) (E:ac->ah->Prop),s.heap.IsStrIter it ty x t i->x.cps[i]?=W1->(∀h',B0 it s.heap h'->Q W1 { s with heap:=h' })->ag (ai P w) A (gE (.ref it)) Q E s)(self:∀(A:aS) (i:Nat) (s:ah) (Q:ac->ah->Prop) (E:ac->ah->Prop),s.heap.IsStrIter it ty x t i->Q (.ref it) s->ag (ai P w) A (om (.ref it)) Q E s):
  XO P w K tg (Its x) [it] it (λi h=>h.IsStrIter it ty x t i) where
 mem:=by simp
 obj:=λi h U b g=>by
  have e:b=it:=by simpa using g
  subst e;obtain⟨o,e,c,d⟩:=U;exact⟨o,e,λv z=>by rw[d] at z;cases z⟩
 keep:=λi h h' U k=>let ⟨o,e,c,d⟩:=U;⟨o,k it .(1) o e,c,d⟩
 item:=by
  intro X hP L Y S i π s σ H E I J U O;subst hP L Y;obtain⟨f0,f1,f2,f3,f4,Z⟩:=J it .(1);refine (W X.A (I.ok.hd S)).item i s _ _ O U λv h' tk hv G kk=>?_;obtain⟨c,u,e1,rfl⟩:=hv;have I1:Inv X π σ H { s with heap:=h',toks:=tk }:=I.turned (λb o g e=>kk b o (by simpa using g) e) f0 f1 f3 f4 Z;obtain⟨o1,e2,c1,d1⟩:=id G;exact⟨_,rfl,XS (s:={ s with heap:=h',toks:=tk }) e2 c1 d1 hn ⟨.str ⟨#[c]⟩,H,I1,⟨u,rfl⟩,⟨rfl,c,e1,rfl⟩,G,λb g=>(J b g).1⟩⟩
 done:=by
  intro X hP L Y S i π s σ H E I J U O;subst hP L Y;obtain⟨f0,f1,f2,f3,f4,Z⟩:=J it .(1);exact T X.A (I.ok.hd S) i s _ _ U (by rw[Array.getElem?_eq_none_iff];exact O) λh' eb=>⟨rfl,I.turned (t':=s.toks) (λb o g e=>eb b o g e) f0 f1 f3 f4 Z⟩
 self:=λA i s Q E U h=>self A i s Q E U h
section
variable {G:Gx}{a b c:Expr}{fa:FE}{tl:TE}
def iStr(z:TE):TI:=λg H R=>z g H λx I=>∃y,x=.str y/\R (Its y) I
theorem xW{l:Expr}(hl:PE X l tl):PI X tg l (iStr tl):=by
 intro S s W H R I h;refine la (hl S s W H _ I h) λv z q0=>?_;obtain⟨x,O,g,Z,q1⟩:=q0;obtain⟨y,e,q⟩:=q1;subst e;obtain⟨t,e⟩:=(show ∃t,v=sP y t from Z);subst e;have fp:∀b∈[z.heap.objs.size],VT X S O b:=λb hb=>by
  have e:b=z.heap.objs.size:=by simpa using hb
  subst e;exact g.fpOk (aE _) (g.hok.fresh (aE _))
 cases T:y.cps.all (·<128)
 .exact wpAny_pyIter_wide T ⟨z.heap.objs.size,[z.heap.objs.size],_,_,O,rfl,g.kept (t':=z.toks) λb o e=>bn _ e,
   Xy _ y t "str_iterator" (λA Y=>Walks.strWide Y _ y t) .(2) (λ_ L _ _ _ _ U J k=>wpAny_pyNext_wide_end L U J k) (λ_ _ _ _ _ U h=>wpAny_pyIter_striter_wide U h),⟨_,ce _ rfl,rfl,rfl⟩,fp,q⟩
 .exact wpAny_pyIter_ascii T ⟨z.heap.objs.size,[z.heap.objs.size],_,_,O,rfl,g.kept (t':=z.toks) λb o e=>bn _ e,
   Xy _ y t "str_ascii_iterator" (λA Y=>Walks.strAscii Y _ y t) .(2) (λ_ L _ _ _ _ U J k=>wpAny_pyNext_ascii_end L U J k) (λ_ _ _ _ _ U h=>wpAny_pyIter_striter_ascii U h),⟨_,ce _ rfl,rfl,rfl⟩,fp,q⟩
def Xz(x:Str):List D:=x.cps.toList.map λc=>.str ⟨#[c]⟩
def rN:Src G (Its x) (Xz x) F1 F2:=by
 have Y:(Xz x).length=x.cps.size:=by unfold Xz;simp
 refine⟨λi H s g=>by rw[Y] at g;exact g,λi H y J d s I q=>?_,λi H s g=>by rw[Y] at g;exact g⟩;obtain⟨q1,c,q2,q3⟩:=q;refine S9 ⟨q1,?_⟩;obtain⟨z,O,rfl⟩:=kE I;have e:x.cps[i]?=O0 z:=by simpa using O
 rw[e] at q2;cases q2;rw[q3];exact .str _
def nq(f:FE):FI:=λρ=>match f ρ with | some (.str x)=>O0 (Xz x) | _=>seqE f ρ
def BK(W:G.K=X.K)(h:PF X G a fa):RU X G O2 tg a (nq fa):=λA=>S_ (piOr (j9 W h (A:=A)) (xW (@h A)))<|by
 rintro O H R ⟨g,S,o,e,k⟩
 unfold nq at e;split at e
 .rename_i x J;cases e;refine .inr ⟨g,_,o,J,λv L z I=>?_⟩;cases I;exact⟨_,rfl,k _ L z rN⟩
 .exact .inl ⟨g,_,o,e,k⟩
def Rl:List D->Option (List Bool)
 |[]=>O0 []
 |.bl i::r=>(Rl r).map (i::·)
 |_::_=>W1
theorem bH{H:Hp}:∀{ds:List D}{xs:List V}{bs:List Bool},be G H xs ds->Rl ds=O0 bs->xs=bs.map V.bl
 |[],xs,bs,r,h=>by cases h;exact r.nil_inv
 |d::ds,xs,bs,r,h=>by
  obtain⟨x,I,rfl,g,O⟩:=r.uncons;cases d with
  |bl i=>
   cases e:Rl ds with
   |none=>simp[Rl,e] at h
   |some z=>
    simp[Rl,e] at h;subst h;cases g;rw[bH O e];rfl
  |_=>simp[Rl] at h
theorem Qg(hc:X.calm=O1):Dd X (.builtin "all") (λxs H Q=>∃(p:Addr) (bs:List Bool),xs=[.ref p]/\NS X.K H p (bs.map V.bl)/\Q (.bl (bs.all id)) H):=by
 intro π s σ H xs us Q I r h;obtain⟨p,bs,rfl,hs,k⟩:=h;obtain⟨u,rfl,O⟩:=r.one;cases O;obtain⟨g,U,pl,hz⟩:=I.list hs;have Y:=pl.isList;have S:p≠s.heap.objs.size:=by obtain⟨o,ho,_⟩:=Y;exact bS (bo ho)
 have z:bs.length=g.length:=by have:=U.length;rwa [ay] at this
 refine call_all_walk (A7 Y ?_);refine⟨_,_,_,_,_,_,λi=>bs.getD i O1,rfl,AN (A:=X.A.in1) (I.ok.hd hc) s.heap.objs.size p S g.toArray,⟨⟨_,ce _ rfl,rfl,rfl⟩,Y.push _⟩,?_,λh' tk kk=>?_⟩
 .intro i v s' Q' E' hv hq;have J:g[i]?=O0 v:=by simpa using hv
  have hlt':i<bs.length:=by rw[z];exact (iF.mp J).1
  obtain⟨u',Z,O⟩:=U.get (i:=i) (x:=.bl (bs[i]'hlt')) (by rw[ca];simp[hlt']);rw[J] at Z;cases Z;cases (show v=qB (bs[i]'hlt') from O);have e:bs.getD i O1=bs[i]'hlt':=by simp[EK,hlt']
  have L:Q' (bs.getD i O1) s':=hq;rw[e] at L;exact jS L
 .refine⟨.bl (bs.all id),H,I.kept (λb o e=>kk b o ?_ (bn _ e)),?_,k⟩
  .intro T;have:b=s.heap.objs.size:=by simpa using T
   exact NI (bo e) (by rw[this];exact ka _)
  .show qB _=qB _;congr 1;rw[cr,<-z];rw[kg,eS,eS];constructor
   .intro q b T;obtain⟨i,J,rfl⟩:=B1 T;have:=q i (d4.mpr J);simpa [EK,J] using this
   .intro q i J;have W:=d4.mp J;have:=q (bs[i]'W) (gu W);simpa [EK,W] using this
def allD:D->Option D
 |.lst ds=>(Rl ds).map λbs=>.bl (bs.all id)
 |_=>W1
def WW:VS G (λxs H Q=>∃(p:Addr) (bs:List Bool),xs=[.ref p]/\NS G.K H p (bs.map V.bl)/\Q (.bl (bs.all id)) H) allD:=by
 intro A H x dx d Q J rx h k;unfold allD at h;split at h
 .rename_i I;cases e:Rl I with
  |none=>simp[e] at h
  |some bs=>
   rw[e] at h;cases h;obtain⟨p,xs,rfl,g,r⟩:=rx.lst;have z:=bH r e;subst z;exact⟨p,bs,rfl,g,k _ H (ab.refl H) (.bl _)⟩
 .cases h
def ZS:cE "all"=O0 (.builtin "all"):=by decide +kernel
end
section
variable {G:Gx}{a b:Expr}{fa:FE}
def Pf(g:Bool):D->Option D
 |.non=>O0 (.bl (!g))
 |_=>O0 (.bl g)
def Ro{d:D}(r:mu G A H v d):(decide (v=.non))=(match d with | .non=>O1 | _=>O2):=by
 rcases r with r | ⟨p,e,r⟩
 .cases r<;>simp
 .subst e;cases d<;>first | exact r.elim | simp
def xX(ha:PU X G a fa):PF X G (.Compare a [.Is] [.Constant .none j p'] pos) (uF (Pf O2) fa):=λA=>Bt (gD (gC (@ha A)))<|by
 rintro T H Q ⟨I,d,o,e,k⟩
 obtain⟨g,S,O⟩:=Ez e;refine⟨I,g,o,S,λv z J L=>?_⟩;show Q (.bl (decide (v=.non))) z;rw[Ro L];cases g<;>(cases O;exact k _ z J (.bl _))
def rP(ha:PU X G a fa):PF X G (.Compare a [.IsNot] [.Constant .none j p'] pos) (uF (Pf O1) fa):=λA=>Bt (gD (Z0 (@ha A)))<|by
 rintro T H Q ⟨I,d,o,e,k⟩
 obtain⟨g,S,O⟩:=Ez e;refine⟨I,g,o,S,λv z J L=>?_⟩;show Q (.bl (!decide (v=.non))) z;rw[Ro L];cases g<;>(cases O;exact k _ z J (.bl _))
def rQ(ha:PU X G a fa):Sr X G (.Compare a [.Is] [.Constant .none j p'] pos) (wh (uF (Pf O2) fa)):=λA=>Xf (gF (gC (@ha A)))<|by
 rintro T H Q ⟨z,b,o,e,k⟩
 obtain⟨g,O,L⟩:=Ez (Sw e);refine⟨z,g,o,O,λv S I J=>⟨_,rfl,?_⟩⟩;rw[Ro J];cases g<;>(cases L;exact k S I)
def kO(ha:PU X G a fa):Sr X G (.Compare a [.IsNot] [.Constant .none j p'] pos) (wh (uF (Pf O1) fa)):=λA=>Xf (gF (Z0 (@ha A)))<|by
 rintro T H Q ⟨z,b,o,e,k⟩
 obtain⟨g,O,L⟩:=Ez (Sw e);refine⟨z,g,o,O,λv S I J=>⟨_,rfl,?_⟩⟩;rw[Ro J];cases g<;>(cases L;exact k S I)
end
section
variable {G:Gx}{b c:Expr}
def Oy(x d:D):Bool:=match Ps 62 d x with | some b=>b | none=>O2
def SS(x d:D):Bool:=(Ps 62 d x).isSome
def rInP(G:Gx)(g:Bool):R2:=λx y H Q=>∃(A:List Addr) (as ds:List D),mu G A H x (.tup as)/\mu G A H y (.lst ds)/\ds.all (SS (.tup as))=O1/\Q (.bl (if g then !ds.any (Oy (.tup as)) else ds.any (Oy (.tup as)))) H
open Classical in
def bI(hG:G.K=X.K)(hu:X.A.units+64<bv){π:NY}{s:ah}{σ:St}{H:Hp}{A:List Addr}{x:V}{u:ac}{as ds:List D}{xs:List V}{g:List ac}(I:Inv X π σ H s)(rx:mu G A H x (.tup as))(ru:cc x u)(r:be G (bm A H) xs ds)(v:cx xs g)(hk:ds.all (SS (.tup as))=O1):
  ∃e:ac->Bool,(∀y,y∈g.toArray->mB X.A.in1 s y u (e y))/\g.toArray.any e=ds.any (Oy (.tup as)):=by
 have Z:im G H x (.tup as):=by
  rcases rx with q | ⟨p,_,q⟩
  .exact q.mono Am
  .exact q.elim
 have one:∀(i:Nat) y,g[i]?=O0 y->∃d,ds[i]?=O0 d/\mB X.A.in1 s y u (Oy (.tup as) d):=λi y L=>by
  have J:i<g.length:=(iF.mp L).1;have z:i<xs.length:=by rw[v.length];exact J
  have S:i<ds.length:=by rw[<-r.1];exact z
  obtain⟨y',W,U⟩:=v.get (i:=i) (x:=xs[i]) (by simp[z]);rw[L] at W;cases W;refine⟨ds[i],by simp[S],?_⟩;have kn:SS (.tup as) ds[i]=O1:=eS.mp hk _ (gu S);unfold SS at kn;obtain⟨b,hb⟩:=D1.mp kn;have eb:Oy (.tup as) ds[i]=b:=by unfold Oy;rw[hb]
  rw[eb];exact S6 I hG 62 X.A.in1 (by show X.A.units+1+62<bv;omega) hb ((r.2 i _ _ (by simp[z]) (by simp[S])).mono Am) Z U ru
 refine⟨λy=>decide (∃(i:Nat) (d:D),g[i]?=O0 y/\ds[i]?=O0 d/\Oy (.tup as) d=O1),λy L=>?_,?_⟩
 .by_cases h:∃(i:Nat) (d:D),g[i]?=O0 y/\ds[i]?=O0 d/\Oy (.tup as) d=O1
  .obtain⟨i,d,W,U,h3⟩:=id h;obtain⟨d',Y,T⟩:=one i y W;rw[U] at Y;cases Y;rw[h3] at T;show mB X.A.in1 s y u (decide (∃(i:Nat) (d:D),g[i]?=O0 y/\ds[i]?=O0 d/\Oy (.tup as) d=O1));rw[QI h];exact T
  .obtain⟨i,J,rfl⟩:=B1 (show y∈g by simpa using L);have O:g[i]?=O0 g[i]:=db J;obtain⟨d,Y,T⟩:=one i _ O;have h6:Oy (.tup as) d=O2:=by
    cases q:Oy (.tup as) d with
    |false=>rfl
    |true=>exact NI ⟨i,d,O,Y,q⟩ h
   rw[h6] at T;show mB X.A.in1 s g[i] u (decide (∃(j:Nat) (d:D),g[j]?=O0 g[i]/\ds[j]?=O0 d/\Oy (.tup as) d=O1));rw[OI h];exact T
 .rw[kg,KW];rw[show g.toArray.any (λy=>decide (∃(i:Nat) (d:D),g[i]?=O0 y/\ds[i]?=O0 d/\Oy (.tup as) d=O1))=g.any (λy=>decide (∃(i:Nat) (d:D),g[i]?=O0 y/\ds[i]?=O0 d/\Oy (.tup as) d=O1)) by simp,KW];constructor
  .rintro⟨y,L,h⟩;obtain⟨i,d,W,U,h3⟩:=SI h;exact⟨d,oS U,h3⟩
  .rintro⟨d,S,h⟩;obtain⟨i,J,rfl⟩:=B1 S;have z:i<g.length:=by rw[<-v.length,r.1];exact J
   exact⟨g[i],gu z,QI ⟨i,_,db z,db J,h⟩⟩
def kW(W:G.K=X.K)(T:X.A.units+64<bv):NU X (de .In) (rInP G O2):=by
 intro π s σ H x y v u Q I rx g h;obtain⟨A,as,ds,J,O,U,k⟩:=h;obtain⟨c,ys,rfl,Z,q2⟩:=O.lst;cases g;obtain⟨L,z,S,_⟩:=I.list (by rw[<-W];exact Z);obtain⟨e,Y,ea⟩:=bI W T I J rx q2 z U;exact IG e S.isList Y ⟨.bl _,H,I,rfl,by rw[ea];exact k⟩
def eU(W:G.K=X.K)(T:X.A.units+64<bv):NU X (de .NotIn) (rInP G O1):=by
 intro π s σ H x y v u Q I rx g h;obtain⟨A,as,ds,J,O,U,k⟩:=h;obtain⟨c,ys,rfl,Z,q2⟩:=O.lst;cases g;obtain⟨L,z,S,_⟩:=I.list (by rw[<-W];exact Z);obtain⟨e,Y,ea⟩:=bI W T I J rx q2 z U;exact IH e S.isList Y ⟨.bl _,H,I,rfl,by rw[ea];exact k⟩
def PZ(g:Bool)(x y:D):Option D:=match x,y with
 |.tup as,.lst ds=>if ds.all (SS (.tup as))=O1 then O0 (.bl (if g then !ds.any (Oy (.tup as)) else ds.any (Oy (.tup as)))) else W1
 |x,y=>inE g x y
def WX(g:Bool):Dk G (λx y H Q=>(rInA G.K g x y H Q∨rDIn g x y H Q)∨rInP G g x y H Q) (PZ g):=by
 intro A H x y dx L d Q I rx z h k;unfold PZ at h;split at h
 .split at h
  .rename_i J;cases h;exact .inr ⟨A,_,_,rx,z,J,k _ H (ab.refl H) (.bl _)⟩
  .cases h
 .exact .inl (rH g A H x y _ _ d Q I rx z h k)
end
end PV
namespace PySem
open PySem.Spec
end PySem
namespace PV
open PySem L2
abbrev FZ:=Rho->Option (D×Rho)
abbrev FZA:=Rho->Option (List D×Rho)
open PySem.Spec
open PyProof.Rows hiding St
def X3:cE "tuple"=O0 (.type "tuple"):=by decide +kernel
def Gx.lend(G:Gx)(x:Addr):Gx:={ G with lent:=O0 x }
section
variable {G:Gx}{x:Addr}
def NJ.sub{d:D}(t:NJ G B H a d)(h:∀a∈A,a∈B):NJ G A H a d:=by
 cases d with
 |lst z=>obtain⟨g,q1,q2⟩:=t;exact⟨g,q1,q2.mono (Ci h)⟩
 |dk z=>obtain⟨g,q1,q2,q3⟩:=t;exact⟨g,q1,q2,q3.mono (Ci h)⟩
 |dt z=>obtain⟨g,q1,q2,q3⟩:=t;exact⟨g,q1,q2,q3.mono (Ci h)⟩
 |ob c L=>obtain⟨C,dx,g,q1,q2,q3⟩:=t;exact⟨C,dx,g,q1,q2,q3.mono (Ci h)⟩
 |_=>exact t.elim
def Lb(x:Addr)(H g:Hp):Prop:=∀b o,b≠x->H b=O0 o->g b=O0 o
def Hx(I:x∈A)(s:Lb x H H'):ab (bm A H) (bm A H'):=λb o h=>by
 unfold bm at h ⊢;split at h
 .cases h
 .rename_i g;rw[ZH g];exact s b o (λz=>g (z▸I)) h
def NJ.other{d:D}(t:NJ G A H q d)(Z:q≠x)(J:x∈A)(s:Lb x H H'):NJ G A H' q d:=by
 have z:=Hx J s;cases d with
 |lst I=>obtain⟨g,q1,q2⟩:=t;exact⟨g,s _ _ Z q1,q2.mono z⟩
 |dk I=>obtain⟨g,q1,q2,q3⟩:=t;exact⟨g,s _ _ Z q1,q2,q3.mono z⟩
 |dt I=>obtain⟨g,q1,q2,q3⟩:=t;exact⟨g,s _ _ Z q1,q2,q3.mono z⟩
 |ob c L=>obtain⟨C,dx,g,q1,q2,q3⟩:=t;exact⟨C,dx,g,s _ _ Z q1,q2,q3.mono z⟩
 |_=>exact t.elim
end
abbrev Ef:=List (Str×Bool×D)
abbrev Po:=Rho->Ef->Option (Rho×Ef)
abbrev FTE:=Rho->Ef->Option Bool
def Pe(ρ:Rho):Bool:=ρ.all λz=>match z with | .ow _=>O2 | _=>O1
def OQ(g:FS):Po:=λρ G=>match g ρ with | some (.nx z)=>if Pe z=O1 then O0 (z,G) else W1 | _=>W1
def Gj(f:Str)(fe:FE):Po:=λρ G=>(fe ρ).bind λd=>if (G.lookup f).isNone=O1/\G.length<1000 then O0 (ρ,G++[(f,O2,d)]) else W1
def Ld(f:Str)(fe:FE):Po:=λρ G=>(fe ρ).bind λd=>if (G.lookup f).isNone=O1/\G.length<1000 then O0 (ρ,G++[(f,O1,d)]) else W1
def OZ(f:Str)(d:D):Ef->Ef
 |[]=>[]
 | (g,b,x)::r=>if g=f then (g,b,d)::r else (g,b,x)::OZ f d r
def RJ(f:Str)(I g:FE):Po:=λρ G=>(g ρ).bind λv=>(I ρ).bind λk=>match G.lookup f with | some (O1,d)=>(De d k v).map λd'=>(ρ,OZ f d' G) | _=>W1
def Ti(t:FT):FTE:=λρ _=>t ρ
def inTE(f:Str)(I:FE):FTE:=λρ G=>(I ρ).bind λk=>match G.lookup f with | some (O1,.dk g)=>(Re k).map λq=>(vb q g).isSome | _=>W1
def orTE(a b:FTE):FTE:=λρ G=>match a ρ G with | some O1=>O0 O1 | some O2=>b ρ G | none=>W1
def ifE(t:FTE):Po:=λρ G=>match t ρ G with | some O2=>O0 (ρ,G) | _=>W1
def nilE:Po:=λρ G=>O0 (ρ,G)
def Dr(g L:Po):Po:=λρ G=>(g ρ G).bind λr=>L r.1 r.2
def JQ(tg:FG)(b:Po):List D->Po
 |[],ρ,G=>O0 (ρ,G)
 |d::r,ρ,G=>(tg d ρ).bind λS=>if Pe S=O1 then (b S G).bind λq=>JQ tg b r q.1 q.2 else W1
def forE(g:FI)(tg:FG)(b:Po):Po:=λρ G=>(g ρ).bind λds=>JQ tg b ds ρ G
def Le(n:Nat)(x:Addr)(ds:List D):Rho:=Ce n (.adr x::ds)
def SY(n g:Nat)(b:Po)(x:Addr)(ds:List D):Option Ef:=if ds.length+1=g then (b (Le n x ds) []).map (·.2) else W1
def finE(c:Str)(G:Ef):D:=.ob c (G.map λp=>(p.1,p.2.2))
open Classical in
noncomputable def mkI(c:Str)(g:Addr->List D->Option Ef)(fs:FA):FE:=λρ=>(fs ρ).bind λds=>(g 0 ds).bind λG=>if ∀x,g x ds=O0 G then O0 (finE c G) else W1
end PV
variable {g:List PV.D->Option PV.D}{G:PV.Gx}{ds:List PV.D}{ρ:PV.Rho}{kds:List (L2.Key×PV.D)}{src:PV.FI}{fg:PV.FG}{ga ft:PV.FT}{fe:PV.FE}{gs:List (sD×PV.D)}{ε:PV.Ef}
namespace PV
open PySem PySem.Spec L2
open PyProof.Rows hiding St
def By(h:Pe ρ=O1)(i:Nat)(d:D):ρ[i]?≠O0 (.ow d):=λe=>by
 unfold Pe at h;rw[eS] at h;have:=h _ (oS e);cases this
inductive tu (G:Gx) (A0 A:List Addr) (H:Hp) (x:Addr):List (Str×V)->Ef->List Addr->Prop
 |nil:tu G A0 A H x [] [] []
 |pl {f:Str}{v:V}{d:D}{fs:List (Str×V)}{ε:Ef}{as:List Addr}:im G (bm A H) v d->tu G A0 A H x fs ε as->tu G A0 A H x ((f,v)::fs) ((f,O2,d)::ε) as
 |ow {f:Str}{a:Addr}{d:D}{fs:List (Str×V)}{ε:Ef}{as:List Addr}:a∈A->a∉A0->a≠x->a∉as->NJ G A H a d->tu G A0 A H x fs ε as->tu G A0 A H x ((f,.ref a)::fs) ((f,O1,d)::ε) (a::as)
section
variable {A':List Addr}{x:Addr}{fs:List (Str×V)}{as:List Addr}
theorem tu.mp(h:tu G A0 A H x fs ε as)(r:∀v d,im G (bm A H) v d->im G (bm A' H') v d)(t:∀a∈as,∀d,NJ G A H a d->NJ G A' H' a d)(s:∀a∈as,a∈A->a∈A'):tu G A0 A' H' x fs ε as:=by
 induction h with
 |nil=>exact .nil
 |pl J _ z=>exact .pl (r _ _ J) (z t s)
 |ow U O T L S _ z=>exact .ow (s _ da U) O T L (t _ da _ S) (z (λa I=>t a (ck _ I)) (λa I=>s a (ck _ I)))
theorem tu.names(h:tu G A0 A H x fs ε as):fs.map (·.1)=ε.map (·.1):=by
 induction h with
 |nil=>rfl
 |pl _ _ z=>simp[z]
 |ow _ _ _ _ _ _ z=>simp[z]
def tu.len(h:tu G A0 A H x fs ε as):fs.length=ε.length:=by
 have:=RI eC h.names;simpa using this
theorem tu.ne(h:tu G A0 A H x fs ε as):∀a∈as,a∈A/\a∉A0/\a≠x:=by
 induction h with
 |nil=>intro a J;cases J
 |pl _ _ I=>exact I
 |ow O L T _ _ _ I=>
  intro a J
  rcases br.mp J with z | z
  .subst z;exact⟨O,L,T⟩
  .exact I a z
theorem Qh{f:Str}{v:V}:∀{fs:List (Str×V)},fs.lookup f=W1->L2.putF f v fs=fs++[(f,v)]
 |[],_=>rfl
 | (g,y)::r,h=>by
  by_cases I:f=g
  .subst I;simp[bX] at h
  .have J:(f==g)=O2:=beq_eq_false_iff_ne.mpr I;simp only[bX,J] at h;show (if g=f then (g,v)::r else (g,y)::L2.putF f v r)=_;rw[ZH (λz=>I z.symm),Qh h];rfl
def tu.none(h:tu G A0 A H x fs ε as)(e:ε.lookup f=W1):fs.lookup f=W1:=by
 induction h with
 |nil=>rfl
 | @pl g v d fs ε as _ _ I=>
  by_cases z:f=g
  .subst z;simp[bX] at e
  .have J:(f==g)=O2:=beq_eq_false_iff_ne.mpr z;simp only[bX,J] at e ⊢;exact I e
 | @ow g a d fs ε as _ _ _ _ _ _ I=>
  by_cases z:f=g
  .subst z;simp[bX] at e
  .have J:(f==g)=O2:=beq_eq_false_iff_ne.mpr z;simp only[bX,J] at e ⊢;exact I e
theorem tu.snocP{d:D}(h:tu G A0 A H x fs ε as)(r:im G (bm A H) v d):tu G A0 A H x (fs++[(f,v)]) (ε++[(f,O2,d)]) as:=by
 induction h with
 |nil=>exact .pl r .nil
 |pl J _ z=>exact .pl J z
 |ow O L T I S _ z=>exact .ow O L T I S z
def tu.snocO{d:D}(h:tu G A0 A H x fs ε as)(h1:a∈A)(U:a∉A0)(S:a≠x)(J:a∉as)(t:NJ G A H a d):tu G A0 A H x (fs++[(f,.ref a)]) (ε++[(f,O1,d)]) (as++[a]):=by
 induction h with
 |nil=>exact .ow h1 U S (λz=>nomatch z) t .nil
 |pl L _ I=>exact .pl L (I J)
 | @ow g b e fs ε as q1 q2 q3 T Y _ I=>
  have O:a≠b:=λz=>J (by simp[z]);refine .ow q1 q2 q3 (λz=>?_) Y (I λz=>J (ck _ z))
  rcases dA.mp z with z | z
  .exact T z
  .simp at z;exact O z.symm
def tu.get{d:D}(h:tu G A0 A H x fs ε as)(e:ε.lookup f=O0 (O1,d)):∃a,fs.lookup f=O0 (.ref a)/\a∈as/\a∈A/\a∉A0/\a≠x/\NJ G A H a d:=by
 induction h with
 |nil=>cases e
 | @pl g v U fs ε as _ _ I=>
  by_cases z:f=g
  .subst z;simp[bX] at e
  .have J:(f==g)=O2:=beq_eq_false_iff_ne.mpr z;simp only[bX,J] at e ⊢;exact I e
 | @ow g a U fs ε as O L T _ S _ I=>
  by_cases z:f=g
  .subst z;simp only[bX,YI,EJ,sM,true_and] at e ⊢;subst e;exact⟨a,rfl,da,O,L,T,S⟩
  .have J:(f==g)=O2:=beq_eq_false_iff_ne.mpr z;simp only[bX,J] at e ⊢;obtain⟨W,q1,q2,q3⟩:=I e;exact⟨W,q1,ck _ q2,q3⟩
def tu.wr{d d':D}(h:tu G A0 A H x fs ε as)(e:ε.lookup f=O0 (O1,d))(L:fs.lookup f=O0 (.ref a))(sx:Lb a H H')(Y:a∈A)(t:NJ G A H' a d'):tu G A0 A H' x fs (OZ f d' ε) as:=by
 have U:=Hx Y sx
 induction h with
 |nil=>cases e
 | @pl g v d2 fs ε as rv S O=>
  by_cases I:f=g
  .subst I;simp[bX] at e
  .have T:(f==g)=O2:=beq_eq_false_iff_ne.mpr I;simp only[bX,T] at e L;unfold OZ;rw[ZH (λz=>I z.symm)];exact .pl (rv.mono U) (O e L)
 | @ow g b d2 fs ε as h1 Z W J h5 S O=>
  by_cases I:f=g
  .subst I;simp only[bX,YI,EJ,V.ref.injEq] at L;subst L;unfold OZ;rw[WH rfl];refine .ow h1 Z W J t (S.mp (λv d r=>r.mono U) (λc hc d t'=>t'.other (λz=>J (by rw[<-z];exact hc)) Y sx) λ_ _ z=>z)
  .have T:(f==g)=O2:=beq_eq_false_iff_ne.mpr I;simp only[bX,T] at e L;obtain⟨a',q1,q2,_⟩:=S.get e;rw[L] at q1;cases q1;unfold OZ;rw[ZH (λz=>I z.symm)];exact .ow h1 Z W J (h5.other (λz=>J (z▸q2)) Y sx) (O e L)
end
structure VU (G:Gx) (c:Str) (A0:List Addr) (He:Hp) (x:Addr) (A:List Addr) (σ:St) (H:Hp) (ρ:Rho) (ε:Ef):Prop where
 w:OR G A0 He A σ H ρ
 no:Pe ρ=O1
 xA:x∈A
 x0:x∉A0
 s0:ρ[0]?=O0 (.fz (.adr x))
 ob:∃C dx fs as,H x=O0 (.ins C dx fs)/\G.cl c=O0 C/\tu G A0 A H x fs ε as
def ZY(G:Gx)(c:Str)(A0:List Addr)(J:Hp)(x:Addr)(z:St)(H:Hp)(ρ:Rho)(I:Ef):Prop:=∃A,VU G c A0 J x A z H ρ I
section
variable {x:Addr}
theorem VU.at0(o:VU G c A0 He x A σ H ρ ε):σ[0]?=O0 (O0 (.ref x)):=by
 obtain⟨v,I,z⟩:=o.w.ok.fz 0 _ o.s0;cases z;exact I
theorem VU.mono(o:VU G c A0 He x A σ H ρ ε)(s:ab H H'):VU G c A0 He x A σ H' ρ ε:=by
 obtain⟨C,dx,fs,as,J,I,T⟩:=o.ob;exact⟨o.w.mono s,o.no,o.xA,o.x0,o.s0,C,dx,fs,as,s _ _ J,I,T.mp (λv d r=>r.mono (BJ s)) (λa L d t=>t.mono s) λ_ _ z=>z⟩
def kZ(s:ab H H')(fr:∀a∈B,a∈A∨H a=W1):ab (bm A H) (bm B H'):=λb u h=>by
 unfold bm at h;split at h
 .cases h
 .rename_i I;rw[Ax]
  .exact s b u h
  .intro z
   rcases fr b z with q | q
   .exact I q
   .rw[q] at h;cases h
def NJ.plain{d:D}(t:NJ G A H a d)(s:ab H H')(p:ab (bm A H) (bm B H')):NJ G B H' a d:=by
 cases d with
 |lst I=>obtain⟨z,q1,q2⟩:=t;exact⟨z,s _ _ q1,q2.mono p⟩
 |dk I=>obtain⟨z,q1,q2,q3⟩:=t;exact⟨z,s _ _ q1,q2,q3.mono p⟩
 |dt I=>obtain⟨z,q1,q2,q3⟩:=t;exact⟨z,s _ _ q1,q2,q3.mono p⟩
 |ob c L=>obtain⟨C,dx,z,q1,q2,q3⟩:=t;exact⟨C,dx,z,s _ _ q1,q2,q3.mono p⟩
 |_=>exact t.elim
theorem VU.frame(o:VU G c A0 He x A σ H ρ ε):XT G A H σ H ρ:=⟨A,ab.refl H,λ_ h=>h,λa h=>.inl h,λa z=>(o.w.ok.live a z).ne,o.w.ok,λi d a h _=>NI h (By o.no i d),λy d _ h=>NI h (By o.no 0 d)⟩
def VU.unframe{J:St}{z:Rho}(o:VU G c A0 He x A σ H ρ ε)(w:XT G A H J H' z)(L:Pe z=O1)(W:z[0]?=O0 (.fz (.adr x))):ZY G c A0 He x J H' z ε:=by
 obtain⟨B,w⟩:=w;have O:ab (bm A H) (bm B H'):=kZ w.same w.fr;obtain⟨C,dx,fs,as,U,S,T⟩:=o.ob;refine⟨B,⟨o.w.same.trans w.same,λa I=>w.sub a (o.w.sub a I),λa I=>?_,o.w.l0,w.ok,λi d a h _=>NI h (By L i d),λy d _ h=>NI h (By L 0 d)⟩,L,w.sub x o.xA,o.x0,W,C,dx,fs,as,w.same _ _ U,S,T.mp (λv d r=>r.mono O) (λa I d t=>t.plain w.same O) λa _ I=>w.sub a I⟩
 rcases w.fr a I with q | q
 .exact o.w.fr a q
 .exact .inr (o.w.same.free q)
theorem VU.wr{ε':Ef}(o:VU G c A0 He x A σ H ρ ε)(I:p∈A)(S:p∉A0)(sx:Lb p H H')(L:Nt (H' p))(ob:∃C dx fs as,H' x=O0 (.ins C dx fs)/\G.cl c=O0 C/\tu G A0 A H' x fs ε' as):VU G c A0 He x A σ H' ρ ε':=by
 have W:He p=W1:=(o.w.fr p I).resolve_left S;have J:=Hx I sx;refine⟨⟨λb u h=>sx b u (Df h W) (o.w.same b u h),o.w.sub,o.w.fr,o.w.l0,⟨o.w.ok.len,λb O=>?_,λj e h=>?_,λj e h=>NI h (By o.no j e),λi j d e a h _ _ _=>NI h (By o.no i d)⟩,λi d a h _=>NI h (By o.no i d),λy d _ h=>NI h (By o.no 0 d)⟩,o.no,o.xA,o.x0,o.s0,ob⟩
 .by_cases z:b=p
  .rw[z];exact L
  .exact (o.w.ok.live b O).mono λu e=>sx b u z e
 .obtain⟨v,q1,q2⟩:=o.w.ok.fz j e h;exact⟨v,q1,q2.mono J⟩
end
def tE(G:Gx)(c:Str)(A0:List Addr)(J:Hp)(x:Addr)(g:Po):TS:=λD O H=>∃ρ I r,ZY G c A0 J x O H ρ I/\g ρ I=O0 r/\∀z L,ZY G c A0 J x z L r.1 r.2->D.nx z L
def PSE(X:Cx)(G:Gx)(c:Str)(st:Stmt)(g:Po):Prop:=∀⦃A0⦄ He x,PS X st (tE G c A0 He x g)
def PSEs(X:Cx)(G:Gx)(c:Str)(st:List Stmt)(g:Po):Prop:=∀⦃A0⦄ He x,UQ X st (tE G c A0 He x g)
def tTE(G:Gx)(c:Str)(A0:List Addr)(L:Hp)(x:Addr)(t:FTE):TT:=λJ H Q=>∃A ρ z b,VU G c A0 L x A J H ρ z/\t ρ z=O0 b/\∀I,ab H I->Q b I
def PTE(X:Cx)(G:Gx)(c:Str)(e:Expr)(t:FTE):Prop:=∀⦃A0⦄ He x,PT X e (tTE G c A0 He x t)
def PWE(X:Cx)(G:Gx)(c:Str)(e:Expr)(t:FTE):Prop:=∀⦃A0⦄ He x,PW X e (tTE G c A0 He x t)
section
variable {a b k it:Expr}{fa fb:FE}{p px:Pos}{il:List Stmt}{g gs:Po}{gp:FS}{ta tb:FTE}{tp:FT}
def X4(h1:PSE X G c st g)(h2:PSEs X G c il gs):PSEs X G c (st::il) (Dr g gs):=by
 rintro S O x W s U H D I ⟨J,L,r,o,e,k⟩
 refine K4 (@h1 S O x) (@h2 S O x) W s U H D I ?_;unfold Dr at e;cases z:g J L with
 |none=>simp[z] at e
 |some q=>
  simp only[z,dn] at e;exact⟨J,L,q,o,z,λT Z Y=>⟨q.1,q.2,r,Y,e,k⟩⟩
def bJ(h1:PSE X G c st g):PSEs X G c [st] g:=λS z x=>Vl (@h1 S z x)
def Ot(h:UR X G st gp)(U:∀ρ z,gp ρ=O0 (.nx z)->z[0]?=ρ[0]?):PSE X G c st (OQ gp):=by
 rintro A0 Z x S s O H D I ⟨ρ,Y,r,⟨A,o⟩,e,k⟩
 unfold OQ at e;split at e
 .rename_i z L;split at e
  .rename_i T;cases e;refine @h A H S s O H D I ⟨ρ,_,o.frame,L,λJ W w=>k J W (o.unframe w T (by rw[U ρ z L];exact o.s0))⟩
  .cases e
 .cases e
theorem X5(h:Sr X G e tp):PTE X G c e (Ti tp):=λT S x=>λL s z H Q I ⟨A,J,O,b,o,e,k⟩=>@h A L s z H Q I ⟨J,b,o.w.ok,e,k⟩
def rT(h:PTE X G c a ta):PWE X G c (.BoolOp .Or [a] pos) ta:=λS z x=>gG (@h S z x)
def xZ{il:List Expr}(ha:PTE X G c a ta)(hb:PWE X G c (.BoolOp .Or (b::il) pos) tb):PWE X G c (.BoolOp .Or (a::b::il) pos) (orTE ta tb):=λT O x=>iW (uV (@ha T O x) (@hb T O x))<|by
 rintro Y H Q ⟨A,I,J,d,o,e,k⟩
 unfold orTE at e;split at e
 .rename_i L;cases e;exact⟨A,I,J,_,o,L,λS z=>WU (k S z)⟩
 .rename_i L;exact⟨A,I,J,_,o,L,λS z=>VO ⟨A,I,J,d,o.mono z,e,λW U=>k W (z.trans U)⟩⟩
 .cases e
theorem PWE.pt(h:PWE X G c a ta):PTE X G c a ta:=λS z x=>(@h S z x).pt
theorem xf{Y:Pos}(hu:X.A.units+1<bv)(z:∀c C,G.cl c=O0 C->On X.K C/\BV X.K C f)(hv:PE X (.Name x px) (Sb 0))(ha:PF X G a fa)(hb:eR (.Name x px) f X.env (eval (.Name x px) X.env)=eval (.Name x px) X.env:=by rfl)(hm:fw .In (.Attribute (.Name x px) f Y)=O2:=by rfl):PTE X G c (.Compare a [.In] [.Attribute (.Name x px) f Y] pos) (inTE f fa):=by
 rintro A0 He y π s Z H Q I ⟨A,S,ε,d,o,e,k⟩
 refine Z7 (ZM hu) (@ha A) (Y4 hv hb) hm π s Z H Q I ?_;unfold inTE at e;cases O:fa S with
 |none=>simp[O] at e
 |some U=>
  simp only[O,dn] at e;split at e
  .rename_i N0 e2;cases L:Re U with
   |none=>simp[L] at e
   |some q=>
    simp only[L,io] at e;cases e;refine⟨S,U,o.w.ok,O,λv H1 T r1=>?_⟩;obtain⟨C,dx,fs,as,h1,W,h3⟩:=(o.mono T).ob;obtain⟨p,q1,q2,q3,q4,q5,J,t1,t2,t3⟩:=h3.get e2;refine⟨_,o.at0,y,C,dx,fs,_,rfl,h1,(z _ _ W).1,(z _ _ W).2,q1,p,J,q,rfl,.of t1,Mp r1 L,?_⟩;rw[(Ml (k:=q) t2 t3).2];exact⟨_,rfl,k H1 T⟩
  .cases e
def kh(ht:PTE X G c e ta)(h1:RS X G s1 badF):PSE X G c (.If e s1 [] pos) (ifE ta):=by
 rintro S J x O s z H D I ⟨L,T,r,⟨A,o⟩,e,k⟩
 refine Z1 (@ht S J x) (@h1 S J) JM O s z H D I ?_;unfold ifE at e;split at e
 .rename_i U;cases e;exact⟨A,L,T,_,o,U,λW s1=>VO (k z W ⟨A,o.mono s1⟩)⟩
 .cases e
def Ju(L:∀c C,G.cl c=O0 C->On X.K C/\BV X.K C f)(hv:PE X (.Name x px) (Sb 0))(ha:PF X G a fa)(U:eJ a (O0 (.Attribute (.Name x px) f pos')) pos.line X.env=pure O2:=by rfl):
  PSE X G c (.Assign [.Attribute (.Name x px) f pos'] a pos) (Gj f fa):=by
 rintro A0 He y π s σ H D I ⟨W,ε,r,⟨A,o⟩,e,k⟩
 refine gf hv (@ha A) U π s σ H D I ?_;unfold Gj at e;cases S:fa W with
 |none=>simp[S] at e
 |some d=>
  simp only[S,dn] at e;split at e
  .rename_i Z;cases e;refine⟨W,d,o.w.ok,S,λu H1 s1 r1=>?_⟩;have J:=o.mono s1;obtain⟨C,dx,fs,as,h1,O,T⟩:=J.ob;have hn:=T.none (sd.mp Z.1);refine⟨_,o.at0,y,C,dx,fs,rfl,h1,(L _ _ O).1,(L _ _ O).2,by rw[T.len];exact Z.2,?_⟩;rw[Qh hn];have sx:Lb y H1 (gq H1 y (.ins C dx (fs++[(f,u)]))):=λb w hb hw=>by rw[Al hb];exact hw
   have Y:=Hx J.xA sx;refine k _ _ ⟨A,J.wr J.xA J.x0 sx (by rw[Aj];exact Nt.ins) ⟨C,dx,_,as,Aj,O,?_⟩⟩;exact (T.mp (λv d r=>r.mono Y) (λp hp d t=>t.other (T.ne p hp).2.2 J.xA sx) λ_ _ z=>z).snocP (r1.mono Y)
  .cases e
def Tj(U:∀c C,G.cl c=O0 C->On X.K C/\BV X.K C f)(hv:PE X (.Name x px) (Sb 0))(ha:PN X G a fa)(T0:eJ a (O0 (.Attribute (.Name x px) f pos')) pos.line X.env=pure O2:=by rfl):
    PSE X G c (.Assign [.Attribute (.Name x px) f pos'] a pos) (Ld f fa):=by
  rintro A0 He y π s σ H D I ⟨ρ,ε,r,⟨A,o⟩,e,k⟩
  refine gf hv (@ha A) T0 π s σ H D I ?_;unfold Ld at e;cases e1:fa ρ with
  |none=>simp[e1] at e
  |some d=>
    simp only[e1,dn] at e;split at e
    . rename_i hz
      cases e;refine⟨ρ,d,o.w.ok,e1,λq W J Z t=>?_⟩;obtain⟨C,dx,fs,as,h1,h2,h3⟩:=o.ob;have L:q∉A:=λz=>(o.w.ok.live q z).ne Z;have Y:ab (bm A H) (bm (q::A) W):=Hw J Z;have hn:=h3.none (sd.mp hz.1);have S0:q∉A0:=λz=>L (o.w.sub q z);have T:q≠y:=λz=>L (z▸o.xA);have N0:q∉as:=λz=>L (h3.ne q z).1;have S:VU G c A0 He y (q::A) σ W ρ ε:=⟨⟨o.w.same.trans J,λa ha=>ck _ (o.w.sub a ha),λa ha=>by
          rcases br.mp ha with z | z
          . rw[z];exact .inr (o.w.same.free Z)
          . exact o.w.fr a z,o.w.l0,o.w.ok.fill J Z t.live,λi d a h _=>NI h (By o.no i d),λy d _ h=>NI h (By o.no 0 d)⟩,o.no,ck _ o.xA,o.x0,o.s0,C,dx,fs,as,J _ _ h1,h2,
          h3.mp (λv d r=>r.mono Y) (λp O d t=>t.plain J Y) λp _ O=>ck _ O⟩
      have g1:=J _ _ h1;have g2:=h2;have g3:tu G A0 (q::A) W y fs ε as:=h3.mp (λv d r=>r.mono Y) (λp O d t=>t.plain J Y) λp _ O=>ck _ O;have X0:=g3.none (sd.mp hz.1);refine⟨_,o.at0,y,C,dx,fs,rfl,g1,(U _ _ g2).1,(U _ _ g2).2,by rw[g3.len];exact hz.2,?_⟩;rw[Qh X0];have sx:Lb y W (gq W y (.ins C dx (fs++[(f,.ref q)]))):=λb w hb hw=>by rw[Al hb];exact hw
      have sm:=Hx S.xA sx;refine k _ _ ⟨q::A,S.wr S.xA S.x0 sx (by rw[Aj];exact Nt.ins) ⟨C,dx,_,as++[q],Aj,g2,?_⟩⟩;exact (g3.mp (λv d r=>r.mono sm) (λp O d t=>t.other (g3.ne p O).2.2 S.xA sx) λ_ _ z=>z).snocO da S0 T N0 (t.other T S.xA sx)
    . cases e
def X6{ap:Pos}(hu:X.A.units+1<bv)(L:∀c C,G.cl c=O0 C->On X.K C/\BV X.K C f)(hv:PE X (.Name x px) (Sb 0))(ha:PF X G a fa)(hb:PF X G b fb)(z:eR (.Name x px) f X.env (eval (.Name x px) X.env)=eval (.Name x px) X.env:=by rfl)(hs:eJ b (O0 (.Subscript (.Attribute (.Name x px) f ap) a spos)) pos.line X.env=pure O2:=by rfl):PSE X G c (.Assign [.Subscript (.Attribute (.Name x px) f ap) a spos] b pos) (RJ f fa fb):=by
 rintro A0 He y π s σ H D I ⟨O,ε,r,⟨A,o⟩,e,k⟩
 refine Vu hu (Y4 hv z) (@ha A) (@hb A) hs π s σ H D I ?_;unfold RJ at e;cases T:fb O with
 |none=>simp[T] at e
 |some v=>
  cases e2:fa O with
  |none=>simp[T,e2] at e
  |some Y=>
   simp only[T,e2,dn] at e;split at e
   .rename_i d e3;cases U:De d Y v with
    |none=>simp[U] at e
    |some d'=>
     simp only[U,io] at e;cases e;unfold De at U;split at U
     .rename_i S0;cases e5:Re Y with
      |none=>simp[e5] at U
      |some q=>
       simp only[e5,dn] at U;split at U
       .rename_i hz;cases U;refine⟨O,v,o.w.ok,T,λu H1 s1 r1=>?_⟩;have W:=o.mono s1;obtain⟨C,dx,fs,as,Z,h2,h3⟩:=W.ob;obtain⟨p,q1,q2,q3,q4,q5,J,t1,t2,t3⟩:=h3.get e3;refine⟨_,o.at0,y,C,dx,fs,_,rfl,Z,(L _ _ h2).1,(L _ _ h2).2,q1,O,Y,W.w.ok,e2,λyv H2 S r2=>?_⟩;have ek:=Mp r2 e5;subst ek;have o2:=W.mono S;obtain⟨C',X0,T0,N0,g1,g2,g3⟩:=o2.ob;rw[S _ _ Z] at g1;cases g1;have hl:J.length<sizeLine:=by
         have:=RI eC t2;rw[ay,ay] at this;omega
        refine⟨p,_,rfl,XU.k (S _ _ t1) hl,?_⟩;have pk:=WP (k:=q) (r1.mono (BJ S)) t2 (t3.mono (BJ S));have sx:Lb p H2 (gq H2 p (.dK (Pw J q u))):=λb w hb hw=>by rw[Al hb];exact hw
        refine k _ _ ⟨A,o2.wr q3 q4 sx (by rw[Aj];exact Nt.dK) ⟨C,dx,fs,N0,by rw[Al (cf q5)];exact S _ _ Z,g2,?_⟩⟩;refine g3.wr e3 q1 sx q3 ⟨_,Aj,pk.1,?_⟩;rw[Dt q3];exact pk.2
       .cases U
     .cases U
   .cases e
theorem VU.frameW{x:Addr}(o:VU G c A0 He x A σ H ρ ε):OR G A H A σ H ρ:=⟨ab.refl H,λ_ h=>h,λa h=>.inl h,λa z=>(o.w.ok.live a z).ne,o.w.ok,λi d a h _=>NI h (By o.no i d),λy d _ h=>NI h (By o.no 0 d)⟩
theorem bK{gb:Po}(hp:ti (ai X.prog X.w) X.A X.env X.xe)(hc:X.calm=O1)(hi:RU X G O2 tg it src)(hg:PGD X G tg fg)(hk:∀d ρ L,fg d ρ=O0 L->L[0]?=ρ[0]?)(hb:PSEs X G c body gb)(hs:∀x,lc it X.env x=pure x:=by intro _;rfl):PSE X G c (.For tg it body [] pos) (forE src fg gb):=by
 rintro S Z x π s W H D I ⟨ρ,ε,r,⟨A,o⟩,e,k⟩
 cases e1:src ρ with
 |none=>simp[forE,e1] at e
 |some O=>
  have e':JQ fg gb O ρ ε=O0 r:=by simpa [forE,e1] using e
  have U1:UQ X body (λD W H=>∃S Z x,tE G c S Z x gb D W H):=(by rintro π s W H D I ⟨S,Z,x,q⟩;exact @hb S Z x π s W H D I q);have S1:PG X tg (λv W H Q=>∃S Z,tGD G S Z fg v W H Q):=(by rintro π s W H v u Q I r ⟨S,Z,q⟩;exact @hg S Z π s W H v u Q I r q);refine Yv hp hc (@hi A) S1 U1 hs π s W H D I ⟨ρ,O,o.w.ok,e1,λJ H1 s1 sr=>?_⟩;have o1:=o.mono s1;obtain⟨X0,w2⟩:=o1.w.here;generalize X1:bm (A.filter λa=>decide (a∉S)) H1=Hf at X0 w2;have k2:∀z H',ZY G c S Hf x z H' r.1 r.2->D.nx z H':=(by rintro z H' ⟨B,q⟩;exact k z H' ⟨B,q.w.base X0 o.w.l0,q.no,q.xA,q.x0,q.s0,q.ob⟩);refine⟨λi m z H'=>m=O.length-i/\i<=O.length/\∃L T,ZY G c S Hf x z H' L T/\JQ fg gb (O.drop i) L T=O0 r,⟨O.length,by simp,eK _,ρ,ε,⟨A,w2,o1.no,o1.xA,o1.x0,o1.s0,o1.ob⟩,by simpa using e'⟩,?_⟩;rintro i m N1 H3 ⟨rfl,Q2,S0,T0,⟨B,o3⟩,U⟩;have pl:ab (bm A H1) (bm B H3):=by rw[<-X1] at o3;exact OR.plain o.w.sub o3.w
  by_cases Y:i<O.length
  .right;have hd:O[i]?=O0 O[i]:=by simp[Y]
   have ed:O.drop i=O[i]::O.drop (i+1):=uk Y;rw[ed] at U;unfold JQ at U;refine⟨sr.go i H3 (pl.trans Am) Y,λz H'=>∃L T,ZY G c S Hf x z H' L T/\JQ fg gb (O.drop (i+1)) L T=O0 r,λz H' q=>⟨O.length-(i+1),by omega,rfl,Y,q⟩,λy H' yy=>?_⟩;obtain⟨sy,rx⟩:=sr.yld i H3 y H' _ (pl.trans Am) hd yy;have o4:=o3.mono sy;cases e4:fg O[i] S0 with
   |none=>simp[e4] at U
   |some N0=>
    simp only[e4,dn] at U;split at U
    .rename_i no;refine⟨B,H',B,S0,O[i],N0,o4.frameW,rx B o3.w.ok.live pl,e4,λY1 H5 P1=>?_⟩;cases e5:gb N0 T0 with
     |none=>simp[e5] at U
     |some q=>
      simp only[e5,dn] at U;exact⟨S,Hf,x,N0,T0,q,o4.unframe P1 no (by rw[hk _ _ _ e4];exact o4.s0),e5,λz H' o'=>⟨q.1,q.2,o',U⟩⟩
    .cases U
  .left;have ei:i=O.length:=by omega
   subst ei;rw[AJ] at U;cases U;exact⟨sr.stop _ H3 (pl.trans Am) (aE _),k2 N1 H3 ⟨B,o3⟩⟩
end
def Tn:b∈A.filter (λb=>decide (b≠p))↔b∈A/\b≠p:=by simp[dS]
def rU{d:D}(I:Inv X π σ H s)(hA:a∈A)(t:NJ G A H a d):
  ∃H',Inv X π σ H' s/\(∀b,b≠a->H' b=H b)/\ab (bm A H) (bm (A.filter λb=>decide (b≠a)) H')/\im G (bm (A.filter λb=>decide (b≠a)) H') (.ref a) d:=by
 have O:∀H':Hp,(∀b,b≠a->H' b=H b)->ab (bm A H) (bm (A.filter λb=>decide (b≠a)) H'):=λH' hh b u h=>by
  unfold bm at h;split at h
  .cases h
  .rename_i L;rw[Ax (λz=>L (Tn.mp z).1),hh b (λz=>L (z▸hA))];exact h
 have at0:∀H':Hp,bm (A.filter λb=>decide (b≠a)) H' a=H' a:=λH'=>Ax (λz=>(Tn.mp z).2 rfl);cases d with
 |lst Z=>
  obtain⟨U,T,S⟩:=t;have J:=O H λ_ _=>rfl;exact⟨H,I,λ_ _=>rfl,J,.lst (.of (by rw[at0];exact T)) (S.mono J).1 (S.mono J).2⟩
 |dk Z=>
  obtain⟨U,T,S,Y⟩:=t;obtain⟨o,W⟩:=Inv.frzK I T;have J:=O _ λb L=>Al (o:=.frz o (.dK U)) L;exact⟨_,W,λb L=>Al L,J,.dk (by rw[at0];exact Aj) S (Y.mono J).2⟩
 |dt Z=>
  obtain⟨U,T,S,Y⟩:=t;obtain⟨o,W⟩:=Inv.frzT I T;have J:=O _ λb L=>Al (o:=.frz o (.dT U)) L;exact⟨_,W,λb L=>Al L,J,.dt (by rw[at0];exact Aj) S (Y.mono J).2⟩
 |ob c gs=>
  obtain⟨C,dx,U,T,S,Y⟩:=t;have J:=O H λ_ _=>rfl;exact⟨H,I,λ_ _=>rfl,J,.ob S.1 (by rw[at0];exact T) S.2 (Y.mono J).2⟩
 |_=>exact t.elim
def tu.frz{X:Cx}{G:Gx}{A0 A:List Addr}{π:NY}{s:ah}{σ:St}{H:Hp}{x:Addr}{fs:List (Str×V)}{W:Ef}{as:List Addr}(h:tu G A0 A H x fs W as)(I:Inv X π σ H s):
  ∃H' O,Inv X π σ H' s/\(∀b,b∉as->H' b=H b)/\(∀b,b∈O↔b∈A/\b∉as)/\ab (bm A H) (bm O H')/\be G (bm O H') (fs.map (·.2)) (W.map λp=>p.2.2):=by
 induction h with
 |nil=>exact⟨H,A,I,λ_ _=>rfl,λb=>by simp,ab.refl _,.nil⟩
 |pl rv _ ih=>
  obtain⟨H',O,i1,T,S,J,i5⟩:=ih;exact⟨H',O,i1,T,S,J,.cons (rv.mono J) i5⟩
 | @ow f a d fs W as h1 h2 h3 h4 t _ ih=>
  obtain⟨H1,A1,i1,T,S,J,i5⟩:=ih;have ha:a∈A1:=(S a).mpr ⟨h1,h4⟩;have U:H1 a=H a:=T a h4;have t1:NJ G A1 H1 a d:=by
   cases d with
   |lst ds=>obtain⟨L,q1,q2⟩:=t;exact⟨L,by rw[U];exact q1,q2.mono J⟩
   |dk ds=>obtain⟨L,q1,q2,q3⟩:=t;exact⟨L,by rw[U];exact q1,q2,q3.mono J⟩
   |dt ds=>obtain⟨L,q1,q2,q3⟩:=t;exact⟨L,by rw[U];exact q1,q2,q3.mono J⟩
   |ob c gs=>obtain⟨C,dx,L,q1,q2,q3⟩:=t;exact⟨C,dx,L,by rw[U];exact q1,q2,q3.mono J⟩
   |_=>exact t.elim
  obtain⟨H2,j1,j2,j3,j4⟩:=rU i1 ha t1;refine⟨H2,A1.filter λb=>decide (b≠a),j1,λb hb=>?_,λb=>?_,J.trans j3,.cons j4 (i5.mono j3)⟩
  .rw[j2 b (λz=>hb (by simp[z])),T b (λz=>hb (ck _ z))]
  .rw[Tn,S b];simp only[br,not_or];exact⟨(by rintro ⟨⟨p1,Z⟩,Y⟩;exact ⟨p1,Y,Z⟩),(by rintro ⟨p1,Y,Z⟩;exact ⟨⟨p1,Z⟩,Y⟩)⟩
theorem VU.whole{x:Addr}(o:VU G c A0 He x A σ H ρ ε)(I:Inv X π σ H s):
  ∃H',Inv X π σ H' s/\ab He H'/\im G (bm A0 H') (.ref x) (finE c ε):=by
 obtain⟨C,dx,fs,as,h1,h2,T⟩:=o.ob;obtain⟨H',A',Z,L,Y,i4,W⟩:=T.frz I;have U:x∉as:=λz=>(T.ne x z).2.2 rfl;refine⟨H',Z,λb u J=>?_,?_⟩
 .rw[L b (λz=>?_)]
  .exact o.w.same b u J
  .obtain⟨q1,q2,_⟩:=T.ne b z;rw[(o.w.fr b q1).resolve_left q2] at J;cases J
 .have S:∀a∈A0,a∈A':=λa O=>(Y a).mpr ⟨o.w.sub a O,λz=>(T.ne a z).2.1 O⟩;have en:fs.map (·.1)=(ε.map λp=>(p.1,p.2.2)).map (·.1):=by
   rw[T.names,cb];rfl
  have es:(ε.map λp=>(p.1,p.2.2)).map (·.2)=ε.map λp=>p.2.2:=by rw[cb];rfl
  refine .ob h2 (by rw[Ax o.x0,L x U];exact h1) en ?_;rw[es];exact (W.mono (Ci S)).2
def tEI(G:Gx)(c:Str)(A0:List Addr)(L:Hp)(x:Addr)(g:Po):TS:=λD O H=>∃ρ J r,ZY G c A0 L x O H ρ J/\g ρ J=O0 r/\∀z I,ab L I->im G (bm A0 I) (.ref x) (finE c r.2)->D.nx z I
def PSI(X:Cx)(G:Gx)(c:Str)(st:List Stmt)(g:Po):Prop:=∀⦃A0⦄ He x,UQ X st (tEI G c A0 He x g)
def bL:PSI X G c [] nilE:=by
 rintro W U x L s z H D I ⟨S,T,r,⟨A,o⟩,e,k⟩
 cases e;obtain⟨J,O,q1,q2⟩:=o.whole I;exact JM L s z J D O (k z J q1 q2)
def Dl{il:List Stmt}{g O:Po}(h1:PSE X G c st g)(h2:PSI X G c il O):PSI X G c (st::il) (Dr g O):=by
 rintro T S x Y s W H D I ⟨J,L,r,o,e,k⟩
 refine K4 (@h1 T S x) (@h2 T S x) Y s W H D I ?_;unfold Dr at e;cases z:g J L with
 |none=>simp[z] at e
 |some q=>
  simp only[z,dn] at e;exact⟨J,L,q,o,z,λU H' Z=>⟨q.1,q.2,r,Z,e,k⟩⟩
def spI(G:Gx)(c:Str)(g:Addr->List D->Option Ef):Sp:=λvs H Q _=>∃A x z ds J C dx,vs=.ref x::z/\(∀a∈A,Nt (H a))/\x∉A/\H x=O0 (.ins C dx [])/\G.cl c=O0 C/\be G (bm (x::A) H) z ds/\g x ds=O0 J ∧
 ∀I,Lb x H I->im G (bm A I) (.ref x) (finE c J)->Q .non I
def Gq(n:Nat)(ds:List D):Pe (Ce n ds)=O1:=by
 unfold Pe Ce;rw[eS];intro z O
 rcases dA.mp O with q | q
 .obtain⟨d,_,rfl⟩:=bb.mp q;rfl
 .rw[(List.mem_replicate.mp q).2]
def fn_I{base:Heap}{f:Addr}{k:Nat}{b:Po}(F:Fun G.K x qual st f fd)(S:bc N ps (Ab st))(hl:ps.length<=N.length)(Y:∀(cdv:ac) (A:aS) (I:List Env) (s:ah) (H:Hp) (E:XK),Room k (A.deeper (g9 qual (Ab st) s.heap.objs.size f cdv))->PSI (Qr CX0 P w G.K mg base N qual (Ab st) f cdv A I s H E).nox G c (Bf st) b):
  hQ P w G.K mg base CX0 (k+1) f fd ps (spI G c (SY N.length ps.length b)):=by
 refine F.ok S (λvs H Q E h=>?_) (λcdv A I s H vs Q E hr h=>?_)
 .obtain⟨A,x,L,O,ε,C,dx,rfl,U,W,Z,hc,r,e,_⟩:=h;unfold SY at e;split at e
  .rename_i hz;rw[ci,r.1];exact hz
  .cases e
 .obtain⟨A1,x,L,O,ε,C,dx,rfl,U,W,Z,hc,r,e,k⟩:=h;unfold SY at e;split at e
  .rename_i hz;have T:∀a∈x::A1,Nt (H a):=λa J=>by
    rcases br.mp J with z | z
    .rw[z,Z];exact Nt.ins
    .exact U a z
   have r':be G (bm (x::A1) H) (.ref x::L) (.adr x::O):=.cons (.adr x) r;obtain⟨B,w⟩:=K_ (N:=N) T r' (by rw[ci,r.1];omega);cases e1:b (Le N.length x O) [] with
   |none=>simp[e1] at e
   |some q=>
    simp only[e1,io] at e;cases e;have hzz:=Y cdv A I s H E hr;refine⟨_,@hzz A1 (bm [x] H) x,Le N.length x O,[],q,?_,e1,λN0 H' s' rv=>k H' (λb o Y ho=>s' b o (by rw[Ax (by simpa using Y)];exact ho)) rv⟩;refine⟨B,⟨Am,λa J=>w.sub a (ck _ J),λa J=>?_,λa J=>?_,w.ok,λi d a h _=>NI h (By (Gq _ _) i d),λy d _ h=>NI h (By (Gq _ _) 0 d)⟩,Gq _ _,w.sub x da,W,rfl,C,dx,[],[],Z,hc,.nil⟩
    .rcases w.fr a J with z | z
     .rcases br.mp z with z | z
      .right;unfold bm;rw[WH (by simp[z])]
      .exact .inl z
     .right;unfold bm;split
      .rfl
      .exact z
    .rw[Ax (λz=>W (by simp at z;rw[<-z];exact J))];exact (U a J).ne
  .cases e
section
variable {a b:Expr}{p:Pos}{es:List Expr}{fs:FA}
def ZV{k:Nat}{f:Addr}{g:Addr->List D->Option Ef}{cn:Str}(T0:G.cl cn=O0 C)(M:Mk X.K C f)(F:hQ X.prog X.w X.K X.mg X.base CX0 k f fd ps (spI G cn g))(hr:Room (k+1) X.A)(hg:Gl X x)(hm:X.mg x=O0 (.ref C))(I:MZ X.K fd ps [])(ha:SV X G (a::es) fs)(S0:(x==("__debug__":Str))=O2:=by decide)(he:aw (a::es) X.env=(O2,eval a X.env)::aw es X.env:=by rfl)(Y:(cS pos (aw es X.env)).any (·.1)=O2:=by rfl):
  PF X G (.Call (.Name x p) (a::es) [] pos) (mkI cn g fs):=λA=>Bt (Z9 M F hr hg hm I .nil RD (@ha A) S0 he Y)<|by
 rintro σ H Q ⟨ρ,d,o,e,k⟩
 unfold mkI at e;cases S:fs ρ with
 |none=>simp[S] at e
 |some ds=>
  cases e3:g 0 ds with
  |none=>simp[S,e3] at e
  |some ε=>
   simp only[S,e3,dn] at e;split at e
   .rename_i L;cases e;refine⟨ρ,ds,o,S,λvs H1 U rv=>λy dx O N0 Z=>?_⟩;have T:ab H1 (gq (gq H1 dx (.own y)) y (.ins C dx [])):=(Ak N0 _).trans (Ak (by rw[Al (cf Z)];exact O) _);have J:=(o.mono U).live;refine⟨A,y,vs,ds,ε,C,dx,by rw[fI],λb I=>?_,λz=>(J y z).ne O,Aj,T0,rv.mono (Hw T O),L y,λH' sx W=>?_⟩
    .exact (J b I).mono λu e=>T _ _ e
    .refine⟨rfl,k _ H' (λb u I=>sx b u (λz=>?_) (T _ _ (U _ _ I))) W⟩;have:=U _ _ I;rw[z,O] at this;cases this
   .cases e
end
def Rp{f:FE}(ρ z:Rho)(h:Gi f ρ=O0 (.nx z)):z[0]?=ρ[0]?:=by
 unfold Gi at h;cases e:f ρ with
 |none=>simp[e] at h
 |some d=>simp[e] at h;rw[h]
def K0s(g:FGs):Prop:=∀ds ρ z,g ds ρ=O0 z->z[0]?=ρ[0]?
def kj:K0s NN:=λJ I z h=>by
 unfold NN at h;split at h
 .cases h;rfl
 .cases h
def Rq{g:FGs}(I:i≠0)(W:K0s g):K0s (A_ i g):=λL J z h=>by
 unfold A_ at h;split at h
 .rw[W _ _ _ h,gX I]
 .cases h
def km{g:FGs}(W:K0s g)(d:D)(ρ z:Rho)(h:NM n g d ρ=O0 z):z[0]?=ρ[0]?:=by
 unfold NM at h;split at h
 .split at h
  .exact W _ _ _ h
  .cases h
 .split at h
  .exact W _ _ _ h
  .cases h
 .cases h
end PV
namespace PV
open PySem PySem.W PySem.Calls PyProof.Rows L2
def ZW:∀(ns:List Int) (i:Int),i∈ns->i6 i<=EL (ns.map tJ):=by
 intro ns
 induction ns with
 |nil=>intro i h;cases h
 |cons n r z=>
  intro i h;rw[ba];show i6 i<=EM (.int n)+1+EL (r.map tJ)
  rcases br.mp h with q | q
  .subst q;have:EM (.int i)=i6 i:=by unfold EM i6;rfl
   omega
  .have:=z i q;omega
def rW{l:OpenLaw}{q:cw}{XP:(Str->Option ac)->Heap->Prop}{YP:bP->Heap->Prop}{d:DefRec}(hn:l.most=O0 n)(T0:d.params.defaults=[])(call:∀(w:bP) (I z:ah) (mg mb:Str->Option ac) (W:Addr) (o:Obj) (pm cd doc:ac) (a:Addr) (vs:List ac) (ns:List Int),
   Ground q loose [] XP w I mg mb z.heap->YP w z.heap ->
   z.heap.get? W=O0 o->o.data=.func (docDef d.name d.params d.body d.scope pm cd doc)->z.heap.CodeRec cd d.name->mg d.name=O0 (.ref W) ->
   z.heap.get? a=O0 { cls:=.type "list",data:=.seq vs.toArray }->rh vs ns->ns.length<=n->(∀i∈ns,i6 i<=1048576)->z.gens=#[] ->
   gI (ai l.prog w) rq (.call (.ref W) ⟨[.ref a],[]⟩) (λr Z=>r=.ok (.ret (.bool O1))/\OldK z.heap Z.heap/\Z.os=z.os/\nc Z.gens) z):
  WalkO q loose XP YP l.row.toRowW d [] (λf vs=>EN f vs):=by
 intro w I z mg mb G Y W o pm cd doc dV kV ho hd X0 hD S0 hg P1 N1 as L T S1 N0 U1;obtain rfl:dV=.none:=Dflts.none hD T0;obtain rfl:kV=.none:=Dflts.noKw hD;obtain⟨a,vs,ns,rfl,rfl,O,J,S⟩:=Att.dZ hn L N0;have hb:∀i∈ns,i6 i<=1048576:=λi hi=>by
  have h1:=ZW ns i hi;have h2:EL (ns.map tJ)<=1048576:=by
   have U:L0 (.list (ns.map tJ))=O1:=eS.mp T _ (da ..);unfold L0 at U;rw[eD] at U;exact SI U.2
  omega
 refine enter_call (qV (call w I z mg mb W o pm cd doc a vs ns G Y ho (fd_plain hd) X0 S0 O J S hb hg) λr Z hq=>?_);obtain⟨rfl,h2,U,h4⟩:=hq;exact⟨.inl ⟨.bool O1,.bool O1,[],rfl,λ_=>rfl,.bool O1,Att.dg l _,λ_=>⟨AT,λ_ hm=>(nomatch hm)⟩⟩,h2,U,h4⟩
theorem k_{l:PySem.W.OpenLaw}{k:Nat}{q:cw}{XP:(Str->Option ac)->Heap->Prop}{YP:bP->Heap->Prop}{d:DefRec}{K:Params->aI}{CX:bP->CXT}{sp:bP->Sp}(hn:l.most=O0 n)(N0:n<=sizeLine)(T0:d.params.defaults=[])(hr:Room k rq)(hY:∀(w:bP) (h:Heap),YP w h->(K w.params).In h)(F:∀(w:bP) (mg:Str->Option ac) (S:Addr) (h:Heap),(K w.params).In h->h.Ns gv mg->mg d.name=O0 (.ref S) ->
   ∃fd:lj,(∀(s:ah) (u:ac),wq s fd ⟨[u],[]⟩ [(x,u)]) ∧
    ∀base:Heap,(K w.params).In base->base.Ns gv mg->hQ l.prog w (K w.params) mg base (CX w) k S fd [x] (sp w))(Z:∀(w:bP) (H:Hp) (a:Addr) (ns:List Int),ns.length<=n->(∀i∈ns,i6 i<=1048576)->Only H->NS (K w.params) H a (ns.map V.int)->sp w [.ref a] H (λv _=>v=.bl O1) λ_ _ _=>False)(X0:∀(w:bP) (H:Hp) (s:ah) (e:ac) (U:ah),CX w [] H s (λ_ _ _=>False) e U->False):
  PySem.W.WalkO q loose XP YP l.row.toRowW d [] (λf vs=>EN f vs):=by
 refine rW hn T0 λw N1 L mg mb S o pm cd S1 a vs ns G Y ho hd P1 S0 O J z I hg=>?_;have KX:=hY w _ Y;obtain⟨fd,hb,hF⟩:=F w mg S _ KX G.T.g S0;exact iR KX G.T.g G.T.b G.T.builtins G.T.nolimit hg O J (d6 z N0) hr hF hb (λH hO hS=>Z w H a ns z I hO hS) λH e U=>X0 w H L e U
end PV
namespace PySem
open PySem.Spec
end PySem
namespace PV
open PySem PySem.Spec L2
open PyProof.Rows hiding St
section
theorem mu.dt{A:List Addr}{H:Hp}{v:V}{z:List (List Key×D)}(r:mu G A H v (.dt z)):∃a kvs,v=.ref a/\Rd H a (.dT kvs)/\kvs.map (·.1)=z.map (·.1)/\be G (bm A H) (kvs.map (·.2)) (z.map (·.2)):=by
 rcases r with r | ⟨a,e,kvs,h,k,r⟩
 .cases r with
  |dt h k r=>
   refine⟨_,_,rfl,.inr ⟨_,Am _ _ h⟩,k,?_,r⟩;have:=RI eC k;rw[ay,ay] at this ⊢;exact this
 .exact⟨a,kvs,e,.of h,k,r⟩
end
structure FunD (K:aI) (x qual:Str) (st:Stmt) (f:Addr) (fd:lj):Prop where
 ex:∃(oc:ac) (od:Option Addr) (dV kV doc pm:ac) (an:Option Addr) (cdv ct:ac) (osl:Array (Option ac)),
  fd=ii x qual (Eg st) (Bf st) (Ab st) dV kV doc pm an cdv ct/\K.lookup f=O0 ⟨oc,od,.func fd,osl⟩/\pd K cdv qual=O1
 kp:ia K (.ref f)=O1
def rY{K:aI}{f:Addr}{z kV:ac}(l:K.lookup f=O0 ⟨oc,od,.func (ii x qual (Eg st) (Bf st) (Ab st) z kV doc pm an cdv ct),osl⟩)(c:pd K cdv qual=O1)(k:ia K (.ref f)=O1):FunD K x qual st f (ii x qual (Eg st) (Bf st) (Ab st) z kV doc pm an cdv ct):=⟨⟨oc,od,z,kV,doc,pm,an,cdv,ct,osl,rfl,l,c⟩,k⟩
def zg{base:Heap}{f:Addr}{k:Nat}{b:FS}(F:FunD G.K x qual st f fd)(S:bc N ps (Ab st))(hl:ps.length<=N.length)(hb:∀(cdv:ac) (A:aS) (z:List Env) (s:ah) (H:Hp) (E:XK),Room k (A.deeper (g9 qual (Ab st) s.heap.objs.size f cdv))->RS (Qr CX0 P w G.K mg base N qual (Ab st) f cdv A z s H E).nox G (Bf st) b):
  hQ P w G.K mg base CX0 (k+1) f fd ps (Nd G (jl N.length ps.length b)):=by
 obtain⟨oc,od,dV,kV,S0,pm,an,cdv,ct,N0,rfl,lk,J⟩:=F.ex;refine gw lk J S (λvs H Q E h=>?_) (λA z s H vs Q E hr h=>?_)
 .obtain⟨A,L,d,W,r,e,_⟩:=h;unfold jl at e;split at e
  .rename_i O;rw[r.1];exact O
  .cases e
 .obtain⟨A0,L,d,W,r,e,k⟩:=h;unfold jl at e;split at e
  .rename_i O;have hzz:=hb cdv A z s H E hr;refine⟨_,(@hzz A0 H).nox,Ce N.length L,?_⟩;cases I:b (Ce N.length L) with
   |none=>simp[I] at e
   |some o=>
    refine⟨o,K_ W r (by rw[r.1,O];exact hl),rfl,?_⟩;cases o with
    |nx U=>
     simp only[I] at e;cases e;rintro Y T ⟨A,w⟩;exact k _ T w.same .non
    |rt d' Z=>
     simp only[I] at e;cases e;exact λv Y T A w r'=>k v T w.same (r'.mono (Ci w.sub))
    |bk U=>simp[I] at e
    |ct U=>simp[I] at e
  .cases e
def KD(k:List (Key×D))(x:Str):kc (.dk k) (.str x)=vb (.inr x) k:=gn _
def bM(l:List (Key×D)):uj (.dk l)=O0 (.int l.length):=gn _
def bN(z:Bool)(x:Int)(k:List (Key×D)):PZ z (.int x) (.dk k)=O0 (.bl (if z then !(vb (.inl x) k).isSome else (vb (.inl x) k).isSome)):=gn _
def Lf(o:Option D):Option (List D):=match o with | some (.str x)=>O0 (Xz x) | some (.lst ds)=>O0 ds | some (.tup ds)=>O0 ds | some (.dk z)=>O0 (z.map λp=>UU p.1) | _=>W1
def C_(f:FE)(ρ:Rho):nq f ρ=Lf (f ρ):=by
 unfold nq seqE Lf;cases f ρ with
 |none=>rfl
 |some d=>cases d<;>rfl
def E_(l:List D):Lf (O0 (.lst l))=O0 l:=gn _
def Rr(l:List D):Lf (O0 (.tup l))=O0 l:=gn _
def KH(l:List (Key×D)):Lf (O0 (.dk l))=O0 (l.map λp=>UU p.1):=gn _
def putO(i:Nat)(ρ:Rho)(x y v:Option D):Option Sz:=v.bind λv=>y.bind λy=>x.bind λx=>(De x y v).map λz=>.nx (ρ.set i (.ow z))
def Tp(i:Nat)(I z:FE)(ρ:Rho):putF i I z ρ=putO i ρ (getW ρ[i]?) (I ρ) (z ρ):=gn _
def Nj(i:Nat)(ρ:Rho)(x y v:D):putO i ρ (O0 x) (O0 y) (O0 v)=(De x y v).map λz=>.nx (ρ.set i (.ow z)):=gn _
def vG(i:Nat)(ρ:Rho)(x:Option D)(y:Option (List D))(v:Option D):Option Sz:=v.bind λv=>y.bind λy=>x.bind λx=>(Oq x y v).map λz=>.nx (ρ.set i (.ow z))
def xg(i:Nat)(I:FA)(z:FE)(ρ:Rho):Xw i I z ρ=vG i ρ (getW ρ[i]?) (I ρ) (z ρ):=gn _
def rZ(i:Nat)(ρ:Rho)(x:D)(y:List D)(v:D):vG i ρ (O0 x) (O0 y) (O0 v)=(Oq x y v).map λz=>.nx (ρ.set i (.ow z)):=gn _
def frzO(ρ:Rho)(i:Nat)(o:Option Slot):Rho:=match o with | some (.ow d)=>ρ.set i (.fz d) | _=>ρ
def zj(g:FS)(ρ:Rho):fzS [] g ρ=g ρ:=gn _
def zm(i:Nat)(z:List Nat)(g:FS)(ρ:Rho):fzS (i::z) g ρ=fzS z g (frzO ρ i ρ[i]?):=gn _
def xj(ρ:Rho)(i:Nat)(d:D):frzO ρ i (O0 (.ow d))=ρ.set i (.fz d):=gn _
def Mq(i j:Nat)(a b:D)(ρ:Rho):NM 2 (A_ i (A_ j NN)) (.tup [a,b]) ρ=O0 ((ρ.set i (.fz a)).set j (.fz b)):=gn _
def Tq(x:Str):UU (.inr x)=.str x:=gn _
theorem Qi{I:Type}[DecidableEq I]{k:I}:∀{l:List (I×D)},k∉l.map (·.1)->vb k l=W1
 |[],_=>rfl
 |p::r,h=>by
  unfold vb;rw[ba,br,not_or] at h;rw[ZH (λz=>h.1 z.symm)];exact Qi h.2
theorem WY{I:Type}[DecidableEq I]{k:I}{d:D}:∀{l:List (I×D)},(l.map (·.1)).Nodup->(k,d)∈l->vb k l=O0 d
 |[],_,h=>by cases h
 |p::r,J,h=>by
  unfold vb;rw[ba,lI] at J
  rcases br.mp h with q | q
  .subst q;rw[WH rfl]
  .rw[ZH (λz=>J.1 (by rw[z];exact bb.mpr ⟨(k,d),q,rfl⟩))];exact WY J.2 q
def Nl{z:Type}[DecidableEq z]{k:z}{v:D}{l:List (z×D)}(h:k∉l.map (·.1)):QU k v l=l++[(k,v)]:=by
 unfold QU;rw[Qi h];rfl
def Nk(k:List (Key×D))(x:Str)(v:D)(Y:k.length<=1000000):De (.dk k) (.str x) v=O0 (.dk (QU (.inr x) v k)):=by
 show (if k.length<sizeLine then O0 (D.dk (QU (.inr x) v k)) else W1)=_;rw[WH (nI Y .(2))]
def xm(k:List (Key×D))(x:Int)(v:D)(Y:k.length<=1000000):De (.dk k) (.int x) v=O0 (.dk (QU (.inl x) v k)):=by
 show (if k.length<sizeLine then O0 (D.dk (QU (.inl x) v k)) else W1)=_;rw[WH (nI Y .(2))]
def xn(k:List (List Key×D))(x y:Int)(v:D)(Y:k.length<=1000000):Oq (.dt k) [.int x,.int y] v=O0 (.dt (QU [.inl x,.inl y] v k)):=by
 show (if k.length<sizeLine/\2<=sizeLine then O0 (D.dt (QU [.inl x,.inl y] v k)) else W1)=_;rw[WH ⟨nI Y .(2),by decide⟩]
def Rt{g:FS}{z:Rho}(h:g ρ=O0 (.nx z))(I:Pe z=O1):OQ g ρ ε=O0 (z,ε):=by
 unfold OQ;rw[h];show (if Pe z=O1 then O0 (z,ε) else W1)=_;rw[WH I]
def vH(r:Option (Rho×Ef))(L:Po):Option (Rho×Ef):=r.bind λr=>L r.1 r.2
def Dw(g gs:Po)(ρ:Rho)(z:Ef):Dr g gs ρ z=vH (g ρ z) gs:=gn _
def Cm(L:Po)(ρ:Rho)(ε:Ef):vH (O0 (ρ,ε)) L=L ρ ε:=gn _
def ZX(ρ:Rho)(z:Ef):nilE ρ z=O0 (ρ,z):=gn _
def lA{tg:FG}{b:Po}(h:src ρ=O0 ds):forE src tg b ρ ε=JQ tg b ds ρ ε:=by
 unfold forE;rw[h];rfl
section
variable {a b:Expr}{fa fb:FE}{es:List Expr}{fs:FA}
def vr(i:Nat){x:Str}(L:X.N[i]?=O0 x:=by rfl)(z:Xt X.env.scope x:=by first | exact df rfl | exact cq (df rfl) | exact cq (cq rfl))(I:(x==("__debug__":Str))=O2:=by decide)(J:(x==("__classdict__":Str))=O2:=by decide):PF X G (.Name x pos) (vF i):=wg i (pv i L z I J)
def vp(i:Nat){x:Str}(L:X.N[i]?=O0 x:=by rfl)(z:Xt X.env.scope x:=by first | exact df rfl | exact cq (df rfl) | exact cq (cq rfl))(I:(x==("__debug__":Str))=O2:=by decide)(J:(x==("__classdict__":Str))=O2:=by decide):PU X G (.Name x pos) (vF i):=PF.pu (vr i L z I J)
def vq(i:Nat){x:Str}(L:X.N[i]?=O0 x:=by rfl)(z:Xt X.env.scope x:=by first | exact df rfl | exact cq (df rfl) | exact cq (cq rfl))(I:(x==("__debug__":Str))=O2:=by decide)(J:(x==("__classdict__":Str))=O2:=by decide):PU X G (.Name x pos) (vU i):=wj i (pv i L z I J)
def pU{f:FE}(h:PF X G e f):PU X G e f:=PF.pu h
def iP{i j}:PU X G (.Constant (.int i) j pos) (kF (.int i)):=PF.pu Su
def iX{k:Nat}(J:Room k X.A)(I:PU X G a fa)(z:PU X G b fb)(W:G.K=X.K:=by rfl)(hs:OD b:=by exact λ_ _=>rfl):PF X G (.Subscript a b pos) (bF kc fa fb):=xT (Hk J) W I z hs
def iD(I:PU X G a fa)(z:PU X G b fb)(W:G.K=X.K:=by rfl)(hs:OD b:=by exact λ_ _=>rfl):PF X G (.Subscript a b pos) (bF ixD fa fb):=zW W I z hs
def OU(I:PU X G a fa)(z:PU X G b fb)(W:G.K=X.K:=by rfl):PF X G (.BinOp a .Add b pos) (bF rz fa fb):=Gn qX (by rw[<-W];exact qY) I z
def bSub(I:PU X G a fa)(z:PU X G b fb):PF X G (.BinOp a .Sub b pos) (bF SW fa fb):=Gn wM qQ I z
def bMul(I:PU X G a fa)(z:PU X G b fb):PF X G (.BinOp a .Mult b pos) (bF Sj fa fb):=Gn qR qT I z
def UN(I:PU X G a fa)(z:PU X G b fb):PF X G (.BinOp a .FloorDiv b pos) (bF IK fa fb):=Gn p_ iZ I z
def Pm(I:PU X G a fa)(z:PU X G b fb):PF X G (.BinOp a .Mod b pos) (bF Nn fa fb):=Gn wN qU I z
def cEq{k:Nat}(J:Room k X.A)(I:PU X G a fa)(z:PU X G b fb)(W:G.K=X.K:=by rfl):PF X G (.Compare a [.Eq] [b] pos) (bF (MY O2) fa fb):=Vv (iu W J.unitsW) (ZJ O2) I z (K5 _)
def tEq{k:Nat}(J:Room k X.A)(I:PU X G a fa)(z:PU X G b fb)(W:G.K=X.K:=by rfl):Sr X G (.Compare a [.Eq] [b] pos) (wh (bF (MY O2) fa fb)):=IW (iu W J.unitsW) (ZJ O2) I z (K5 _)
def tNe{k:Nat}(J:Room k X.A)(I:PU X G a fa)(z:PU X G b fb)(W:G.K=X.K:=by rfl):Sr X G (.Compare a [.NotEq] [b] pos) (wh (bF (MY O1) fa fb)):=IW (xM W J.unitsW) (ZJ O1) I z (K5 _)
def cIn{k:Nat}(J:Room k X.A)(L:PU X G a fa)(I:PU X G b fb)(W:G.K=X.K:=by rfl)(z:fw .In b=O2:=by with_unfolding_all rfl):PF X G (.Compare a [.In] [b] pos) (bF (PZ O2) fa fb):=Vv ((ik.or (ZM (Hk J))).or (kW W J.units)) (by rw[<-W];exact WX O2) L I z
def tIn{k:Nat}(J:Room k X.A)(L:PU X G a fa)(I:PU X G b fb)(W:G.K=X.K:=by rfl)(z:fw .In b=O2:=by with_unfolding_all rfl):Sr X G (.Compare a [.In] [b] pos) (wh (bF (PZ O2) fa fb)):=IW ((ik.or (ZM (Hk J))).or (kW W J.units)) (by rw[<-W];exact WX O2) L I z
def tNi{k:Nat}(J:Room k X.A)(L:PU X G a fa)(I:PU X G b fb)(W:G.K=X.K:=by rfl)(z:fw .NotIn b=O2:=by with_unfolding_all rfl):Sr X G (.Compare a [.NotIn] [b] pos) (wh (bF (PZ O1) fa fb)):=IW ((di.or (eF (Hk J))).or (eU W J.units)) (by rw[<-W];exact WX O1) L I z
def tLt(I:PU X G a fa)(z:PU X G b fb):Sr X G (.Compare a [.Lt] [b] pos) (wh (bF ltD fa fb)):=IW uW ie I z (K5 _)
def tGt(I:PU X G a fa)(z:PU X G b fb):Sr X G (.Compare a [.Gt] [b] pos) (wh (bF gtD fa fb)):=IW zL ww I z (K5 _)
def tGe(I:PU X G a fa)(z:PU X G b fb):Sr X G (.Compare a [.GtE] [b] pos) (wh (bF geD fa fb)):=IW zM wy I z (K5 _)
def sF(O:X.N.Nodup)(i:Nat){x:Str}{p:Pos}(L:PF X G a fa)(I:X.N[i]?=O0 x:=by rfl)(z:Loc X.env.scope x:=by first | exact df rfl | exact cq rfl)(hs:eJ a (O0 (.Name x p)) pos.line X.env=pure O2:=by rfl)(J:X.fn x=O1∨X.env.scope.names.lookup x=O0 .local :=by first | exact .inl rfl | exact .inr rfl | assumption):UR X G (.Assign [.Name x p] a pos) (mf i fa):=ql (λ_ h=>Ys O I z h hs J) L
def sW(S:X.N.Nodup)(i:Nat){x:Str}{p:Pos}(O:PN X G a fa)(J:X.N[i]?=O0 x:=by rfl)(I:Loc X.env.scope x:=by first | exact df rfl | exact cq rfl)(hs:eJ a (O0 (.Name x p)) pos.line X.env=pure O2:=by rfl)(L:X.fn x=O1∨X.env.scope.names.lookup x=O0 .local :=by first | exact .inl rfl | exact .inr rfl | assumption)(z:i≠0:=by decide):UR X G (.Assign [.Name x p] a pos) (setW i fa):=jJ (λ_ h=>Ys S J I h hs L) O z
def gN(L:X.N.Nodup)(i:Nat){x:Str}(I:X.N[i]?=O0 x:=by rfl)(z:Loc X.env.scope x:=by first | exact df rfl | exact cq rfl)(J:X.fn x=O1∨X.env.scope.names.lookup x=O0 .local :=by first | exact .inl rfl | exact .inr rfl | assumption):PG X (.Name x pos) (Es i):=pX L I z J
def cO{t:Str}(I:X.N=N)(hs:X.env.scope=sc)(h:aM N sc scope t=O1:=by decide +kernel):QL X scope t:=d8 I hs h
abbrev nT (N:List Str) (t:Str):List Str:=N++[t]
structure Dx (K:aI) (mg:Str->Option ac) (x:Str) (st:Stmt) (ps:List Str) where
 f:Addr
 fd:lj
 F:FunD K x x st f fd
 B:MZ K fd ps []
 m:mg x=O0 (.ref f)
abbrev Sa (P:cw) (w:bP) (base:Heap) {K:aI}{mg:Str->Option ac}{x:Str}{st:Stmt}{ps:List Str}(d:Dx K mg x st ps) (k:Nat) (sp:Sp):Prop:=hQ P w K mg base CX0 k d.f d.fd ps sp
theorem fX{k:Nat}{p:Pos}{d:Dx X.K X.mg x st ps}(F:hQ X.prog X.w X.K X.mg X.base CX0 k d.f d.fd ps (Nd G g))(L:Room k' X.A)(S:SV X G (a::es) fs)(I:k<=k':=by omega)(W:Gl X x:=by rfl)(J:(x==("__debug__":Str))=O2:=by decide)(O:aw (a::es) X.env=(O2,eval a X.env)::aw es X.env:=by rfl)(z:(cS pos (aw es X.env)).any (·.1)=O2:=by rfl):PF X G (.Call (.Name x p) (a::es) [] pos) (An g fs):=zX F (L.mono I) W d.m d.F.kp d.B S J O z
end
section
variable {K:aI}{f:Addr}{dV kV:ac}
theorem Sm{base:Heap}{k:Nat}{b:FS}(d:Dx G.K mg x st ps)(S:bc N ps (Ab st))(I:∀(cdv:ac) (A:aS) (z:List Env) (s:ah) (H:Hp) (E:XK),Room k (A.deeper (g9 x (Ab st) s.heap.objs.size d.f cdv))->RS (Qr CX0 P w G.K mg base N x (Ab st) d.f cdv A z s H E).nox G (Bf st) b)(Y:ps.length<=N.length:=by decide):
  hQ P w G.K mg base CX0 (k+1) d.f d.fd ps (Nd G (jl N.length ps.length b)):=zg d.F S Y I
def dx(X:K.In h)(N:h.Ns gv mg)(a:B2 K gv x=O0 (O0 (.ref f)))(l:K.lookup f=O0 ⟨oc,od,.func (ii x x (Eg st) (Bf st) (Ab st) .none kV doc pm an cdv ct),osl⟩)(c:pd K cdv x=O1)(k:ia K (.ref f)=O1)(b:∀(kV doc pm:ac) (an:Option Addr) (cdv ct:ac) (us:List ac),us.length=ps.length->wv (ii x x (Eg st) (Bf st) (Ab st) .none kV doc pm an cdv ct) ⟨us,[]⟩=pure (ps.zip us)):Dx K mg x st ps:=⟨f,_,rY l c k,(Sd l c k).binds b,se X N a⟩
structure Ix (K:aI) (C:Addr) (qual:Str) (st:Stmt) (ps:List Str) where
 f:Addr
 fd:lj
 F:Fun K "__init__" qual st f fd
 B:MZ K fd ps []
 mM:Mk K C f
def ix(X:K.In h)(m:CH K C=O1)(z:ia K (.ref C)=O1)(a:fA K (.ref C) "__init__"=O0 (O0 (.ref f)))(i:qS K (.ref f)=O1)(l:K.lookup f=O0 ⟨oc,od,.func (ii "__init__" qual (Eg st) (Bf st) (Ab st) .none kV doc pm an cdv ct),osl⟩)(c:pd K cdv qual=O1)(k:ia K (.ref f)=O1)(b:∀(kV doc pm:ac) (an:Option Addr) (cdv ct:ac) (us:List ac),us.length=ps.length->wv (ii "__init__" qual (Eg st) (Bf st) (Ab st) .none kV doc pm an cdv ct) ⟨us,[]⟩=pure (ps.zip us)):Ix K C qual st ps:=⟨f,_,Sd l c k,(Sd l c k).binds b,m,a,i,z⟩
structure Sx (mg:Str->Option ac) (x:Str) (f:Tok->ac) where
 t:Tok
 m:mg x=O0 (f t)
structure Kx (G:Gx) (mg:Str->Option ac) (x:Str) (c:D) where
 a:Addr
 m:mg x=O0 (.ref a)
 r:im G (λ_=>W1) (.ref a) c
def sx{t:Tok}{f:Tok->ac}(X:K.In h)(N:h.Ns gv mg)(a:B2 K gv x=O0 (O0 (f t))):Sx mg x f:=⟨t,se X N a⟩
def cls(X:K.In h)(J:wl K C nv=O1)(L:A9 K C=O1)(I:CD K C=O1)(z:fA K (.ref C) "__setattr__"=O0 (O0 (.builtin "object.__setattr__"))):On K C:=⟨J,L,I,z⟩
end
def X7:D->Option D
 |.int i=>if 0<=i/\i<=1000000 then O0 (.lst (Na i.toNat)) else W1
 |_=>W1
theorem bO{z:Type}(f:z->Bool):∀l:List z,Rl (l.map λx=>.bl (f x))=O0 (l.map f)
 |[]=>rfl
 |x::r=>by rw[ba,Rl,bO f r];rfl
section
variable {a:Expr}{fa:FE}{es:List Expr}{fs:FA}
theorem eX:Dd X (.type "range") (λxs H Q=>∃i:Int,xs=[.int i]/\∀l,H l=W1->Q (.ref l) (gq H l (.rng 0 i))):=by
 intro L s J H xs O Q I r h;obtain⟨i,rfl,q⟩:=h;obtain⟨u,rfl,z⟩:=r.one;obtain⟨t,rfl⟩:=z;refine call_range_1 ?_;exact⟨.ref s.heap.objs.size,_,I.laid (λb o e=>bn _ e) (aE _) (show BX X.prog X.w _ _ _ (.rng 0 i) from⟨_,_,_,ce _ rfl⟩),rfl,q _ (I.hok.fresh (aE _))⟩
theorem bQ:∀{xs:List V}{us:List ac},us.length=xs.length->(∀(j:Nat) x u,xs[j]?=O0 x->us[j]?=O0 u->cc x u)->cx xs us
 |[],us,Y,_=>by
  rw[xL Y];exact .nil
 |x::r,[],Y,_=>by simp at Y
 |x::r,u::us,Y,h=>.cons (h 0 x u rfl rfl) (bQ (by simpa using Y) λj y v a b=>h (j+1) y v (by simpa using a) (by simpa using b))
theorem Ur(hc:X.calm=O1):Dd X (.type "list") (λxs H Q=>∃(p:Addr) (n:Nat),xs=[.ref p]/\H p=O0 (.rng 0 n)/\n<=1000000/\∀l,H l=W1->Q (.ref l) (gq H l (.lst ((bg n).map λ(k:Nat)=>V.int k)))):=by
 intro π s σ H xs us Q I r h;obtain⟨p,n,rfl,e,hn,q⟩:=h;obtain⟨u,rfl,U⟩:=r.one;cases U;obtain⟨t,u,v,Z⟩:=(show BX X.prog X.w H s.heap p (.rng 0 n) from I.hok p _ e);have W:HK 0 n 1=(n:Int):=by rw[rangeSize_one];split<;>omega
 refine call_list_range (I.ok.hd hc) Z (small_one .(2) .(2) .(0) .(0)) W .(0) λh' tk J c' Y z L=>?_;have T:cx ((bg n).map λ(k:Nat)=>V.int k) J.toList:=by
  refine bQ (by simp[L.1]) λj x u O S=>?_;obtain⟨tk,rfl⟩:=L.2 j u (by simpa using S);have hj:j<n:=by
   have:=(iF.mp S).1;rw[gy,L.1] at this;exact this
  rw[ca,xS hj] at O;cases O;exact⟨tk,by simp⟩
 exact⟨.ref s.heap.objs.size,_,I.laid (t':=tk) Y (aE _) (show BX X.prog X.w _ h' _ (.lst _) from⟨by rw[ay,mN];exact d6 hn .(2),J.toList,c',T,by simpa using z⟩),rfl,q _ (I.hok.fresh (aE _))⟩
def lC:cE "range"=O0 (.type "range"):=by decide +kernel
def sE{p q:Pos}(hg:Gl X "list")(hm:X.mg "list"=W1)(W:Gl X "range")(I:X.mg "range"=W1)(ha:PU X G a fa)(hc:X.calm=O1:=by rfl)(Y:aw [a] X.env=[(O2,eval a X.env)]:=by rfl)(L:aw [.Call (.Name "range" q) [a] [] pos2] X.env=[(O2,eval (.Call (.Name "range" q) [a] [] pos2) X.env)]:=by rfl):
  PN X G (.Call (.Name "list" p) [.Call (.Name "range" q) [a] [] pos2] [] pos) (uF X7 fa):=λA=>Bt (Gk (Ur hc) hg hm Rj (Bw (Gk eX W I lC (Bw (@ha A) Dq Y) .(2) .(2) Y rfl) Dq L) .(2) .(2) L rfl)<|by
 rintro σ H Q ⟨Z,d,o,e,k⟩
 obtain⟨dx,e1,J⟩:=Ez e;refine⟨Z,dx,o,e1,λv H1 T r1=>?_⟩;unfold X7 at J;split at J
 .rename_i i;split at J
  .rename_i hi;cases J;rw[r1.int];refine⟨i,rfl,λl hl=>⟨l,i.toNat,rfl,by rw[Aj,EQ hi.1],by omega,λm I=>?_⟩⟩;have o1:=(o.mono T);have n1:l≠m:=λz=>by rw[<-z,Aj] at I;cases I
   have U:H1 m=W1:=by rw[Al (cf n1)] at I;exact I
   refine k m _ (T.trans ((Ak hl _).trans (Ak I _))) (T.free U) ⟨(bg i.toNat).map λ(k:Nat)=>V.int k,Aj,by simp[Na],λj x d O S=>?_⟩;unfold Na at S;rw[ca] at O S;cases q:(bg i.toNat)[j]? with
   |none=>rw[q] at O;cases O
   |some z=>rw[q] at O S;cases O;cases S;exact .int z
  .cases J
 .cases J
def sG{p q:Pos}(L:Gl X "list")(J:X.mg "list"=W1)(W:Gl X "range")(I:X.mg "range"=W1)(T:PU X G a fa)(S:X.calm=O1:=by rfl)(O:aw [a] X.env=[(O2,eval a X.env)]:=by rfl)(z:aw [.Call (.Name "range" q) [a] [] pos2] X.env=[(O2,eval (.Call (.Name "range" q) [a] [] pos2) X.env)]:=by rfl):
  PF X G (.Call (.Name "list" p) [.Call (.Name "range" q) [a] [] pos2] [] pos) (uF X7 fa):=PN.pf (sE L J W I T S O z)
end
section
variable {A:aS}{T:String}{r d:Addr}{P:Nat->ac->Prop}{OK:Heap->Prop}
theorem X8{R:List ac->ah->Prop}(K:PySem.W.KdlSrc prog w T r d n P OK)(hh:A.handled=W1)(L:OK s.heap)(hn:n<=sizeLine)(h:∀(h':Heap) (tk:Nat) (U:Array ac),(∀b o,s.heap.get? b=O0 o->h'.get? b=O0 o)->s.heap.objs.size<=h'.objs.size->ItemsOf P U n->R U.toList { s with heap:=h',toks:=tk }):
  ag (ai prog w) A (sg (.ref r)) R E s:=by
 obtain⟨hr,hd⟩:=K.there _ L;have gS:(s.heap.push { cls:=.type "list",data:=.seq ([]:List ac).toArray }).get? s.heap.objs.size=O0 { cls:=.type "list",data:=.seq #[] }:=ce _ rfl;unfold sg;refine ae (B3 (kK ER ?_));rw[rX PySem.F.plain_proto_collect _];show ag _ A.in1 (xt [] >>= λl=>again (.builtin "list.__iadd__" ⟨[l,.ref r],[]⟩)) _ _ s;refine ae (kB (av ⟨pE L1 _,kK ES ?_⟩));rw[rX L1 _];show ag _ A.in1 (y0 (.ref s.heap.objs.size) (.ref r) (.ref s.heap.objs.size)) _ _ _;have Z:=PySem.W.kdl_extend (A:=A) (s:={ s with heap:=s.heap.push { cls:=.type "list",data:=.seq ([]:List ac).toArray } }) K
  (R:=λq Y=>∃(h':Heap) (tk:Nat) (z:Array ac) (J:Nat),q=.ok (.ret (.ref s.heap.objs.size))/\Y={ s with heap:=h',toks:=tk }/\(∀b o,s.heap.get? b=O0 o->h'.get? b=O0 o)/\h'.get? s.heap.objs.size=O0 { cls:=.type "list",dict:=W1,data:=.seq z J,slots:=#[] }/\ItemsOf P z n)
  hh (K.keep _ _ L λb _ o e=>bn _ e) s.heap.objs.size (ol hr) (ol hd) (.ref s.heap.objs.size) 0 gS
  (λh' tk z J O I S=>⟨h',tk,z,J,rfl,rfl,λb o e=>O b o (bS (bo e)) (bn _ e),I,S⟩) hn
 refine hJ Z (λN0 Y x=>?_) λe Y x=>?_
 .cases N0 with
  |done f=>
   obtain⟨h',tk,z,J,e,rfl,O,I,S⟩:=x;cases e;show ag _ A (load s.heap.objs.size >>= _) _ _ _;exact ae (wc I (av (h h' tk z O (sQ (bo I)) S)))
  |again c=>
   refine⟨x.1,qV x.2 λr2 s2 y=>?_⟩;obtain⟨h',tk,z,J,e,rfl,O,I,S⟩:=y;cases e;show ag _ A (load s.heap.objs.size >>= _) _ _ _;exact ae (wc I (av (h h' tk z O (sQ (bo I)) S)))
 .obtain⟨h',tk,z,J,e,_⟩:=x;cases e
end
section
variable {A:aS}
theorem eY{ks:List Str}{v:ac}(nd:ks.Nodup)(O:ks.length<=60)(J:∀(R:List ac->ah->Prop) (E':ac->ah->Prop),(∀(vs:List ac) (h':Heap) (tk:Nat),AZ vs ks->s.heap.objs.size<=h'.objs.size->(∀b o,s.heap.get? b=O0 o->h'.get? b=O0 o)->R vs { s with heap:=h',toks:=tk })->ag (ai prog w) A.in1 (sg v) R E' s)(k:∀(its:List ac) (e:Nat) (l:Addr) (h':Heap) (tk:Nat),AZ its (Fx ks)->h'.get? l=O0 (qa "list" its.toArray e)->s.heap.objs.size<=l->(∀b o,s.heap.get? b=O0 o->h'.get? b=O0 o)->Q (.ref l) { s with heap:=h',toks:=tk }):
  ag (ai prog w) A (call (.builtin "sorted") [v]) Q E s:=by
 refine ET EU EV EW (EZ _) ?_;unfold eI.«sorted»;refine ae (m:=F0 "sorted" 1 1 _) (av (ae (J _ _ λvs I tk U le Y=>?_)));have z:vs.length<=60:=by rw[U.length];exact O
 refine ae (vi ?_ (d6 z .(2)));have S:(I.push { cls:=.type "list",data:=.seq vs.toArray }).get? I.objs.size=O0 (qa "list" vs.toArray 0):=ce _ rfl;refine ae (wpAny_holding (iE F3 ⟨_,S,rfl⟩ F4 (PyProof.Rows.list_sort_treeK PyProof.Rows.strKind_oneLt S U.keysOf (λa b r e=>PyProof.Rows.keyKind_strs (by rw[<-e];exact U)) .(0) λL a1 a2=>⟨_,rfl,?_⟩) (F5 _)));obtain⟨Z,o1,T,o3⟩:=PyProof.Rows.sorted_out_str U a1 a2;have e:Z=Fx ks:=ZL (WN o3 (T.nodup_iff.mpr nd)) (Ol ks) λy=>by rw[Mj,T.mem_iff]
 subst e;obtain⟨c,J⟩:∃c,(PyProof.Rows.sortedHeap (I.push { cls:=.type "list",data:=.seq vs.toArray }) I.objs.size vs ((F6 L).map (·.2))).get? I.objs.size=O0 (qa "list" ((F6 L).map (·.2)).toList.toArray c):=by
  obtain⟨c,J⟩:=F7 (out:=(F6 L).map (·.2)) S;exact⟨c,by rw[J,Array.toArray_toList]⟩
 refine av ⟨_,rfl,k _ c _ _ tk o1 J le λb o g=>?_⟩;have W:=bo (Y b o g);rw[F8 (bS W) (by rw[iO];exact mE W)];exact bn _ (Y b o g)
end
open L2
section
variable {a:Expr}{p:Pos}
theorem Ou:∀{z:List Str}{us:List ac},cx (z.map V.str) us->AZ us z
 |[],_,.nil=>.nil
 |_::_,_,.cons r t=>by obtain⟨u,rfl⟩:=r;exact .cons _ _ (Ou t)
theorem M8(hc:X.calm=O1):Dd X (.builtin "sorted") (λxs H Q=>∃p kvs J,xs=[.ref p]/\Rd H p (.dK kvs)/\kvs.map (λq=>kV q.1)=J.map V.str/\J.Nodup/\J.length<=60/\∀l,H l=W1->Q (.ref l) (gq H l (.lst ((Fx J).map V.str)))):=by
 intro π s σ H xs us Q I r h;obtain⟨p,kvs,J,rfl,e,ez,nd,hz,k⟩:=h;obtain⟨u,rfl,ru⟩:=r.one;cases ru;obtain⟨z,hd,Y,L,W⟩:=Oc I.hok e;obtain⟨ep,W⟩:=W.dictAt;have hl:kvs.length=Y.length:=L.length;refine eY (ks:=J) nd hz (λR E' hR=>X8 (KU (knd:=Av X.prog X.w) (kvs:=Y) (ep:=ep) hd) (I.ok.hd hc) W .(0) λh' tk U S O hi=>hR _ h' tk ?_ O S) λT e2 l h' tk hS g O S=>?_
 .have Z:cx (kvs.map λq=>kV q.1) U.toList:=by
   refine WT (P:=X.prog) (w:=X.w) (by simp[hi.1,hl]) λj u hu=>?_;obtain⟨k,x,h1,h2⟩:=hi.2 j u (by simpa using hu);have hj:j<kvs.length:=by rw[hl];exact (iF.mp h1).1
   refine⟨kvs[j],by simp[hj],?_⟩;rw[(Oo L (by simp[hj]) h1).1];exact h2
  rw[ez] at Z;exact Ou Z
 .have hv:=VB hS;refine⟨.ref l,_,I.laid (a:=l) (o:=.lst ((Fx J).map V.str)) (t':=tk) S O ⟨?_,T,e2,hv,g⟩,rfl,k l (I.hok.fresh O)⟩;rw[ay];have:=sub_len (jw (Ol J)) (m:=J) λy m=>(Mj y J).mp m;exact d6 this (d6 hz .(2))
def sdkL(I:List (Key×D)):Option D:=(M6 (I.map λp=>UU p.1)).bind λz=>if z.Nodup/\z.length<=60 then O0 (.lst ((Fx z).map .str)) else W1
def sdkD:D->Option D
 |.dk z=>sdkL z
 |_=>W1
def bR:VS G (λxs H Q=>∃p kvs I,xs=[.ref p]/\Rd H p (.dK kvs)/\kvs.map (λq=>kV q.1)=I.map V.str/\I.Nodup/\I.length<=60/\∀l,H l=W1->Q (.ref l) (gq H l (.lst ((Fx I).map V.str)))) sdkD:=by
 intro A H x dx d Q W r e k;cases dx with
 |dk L=>
  have e:sdkL L=O0 d:=e;obtain⟨p,kvs,rfl,J,O,Z⟩:=r.dk;unfold sdkL at e;cases S:M6 (L.map λp=>UU p.1) with
  |none=>rw[S] at e;cases e
  |some I=>
   rw[S] at e;have T:(if I.Nodup/\I.length<=60 then O0 (D.lst ((Fx I).map .str)) else W1)=O0 d:=e;split at T
   .rename_i U;cases T;refine⟨p,kvs,I,rfl,J,j7 (G:=G) (H:=bm A H) (kI O) S,U.1,U.2,λl Y=>k _ _ (Ak Y _) (Du W Y ⟨by simp,λi v d J O=>?_⟩)⟩;rw[ca] at J O;cases q:(Fx I)[i]? with
    |none=>rw[q] at J;cases J
    |some z=>rw[q] at J O;cases J;cases O;exact .str z
   .cases T
 |_=>cases e
end
open EX
section
variable {a ob:Expr}{es:List Expr}{fs:FA}{fo:FE}{p:Pos}
def CT(c m:Str):D->Bool
 |.ob z L=>z==c&&(L.lookup m).isNone
 |_=>O2
def DR(c m:Str)(g:List D->Option D)(z:FE)(fs:FA):FE:=λρ=>(z ρ).bind λo=>if CT c m o=O1 then (fs ρ).bind λds=>g (o::ds) else W1
def Mr{fs:List (Str×V)}(h:fs.map (·.1)=gs.map (·.1))(n:gs.lookup m=W1):fs.lookup m=W1:=by
 induction fs generalizing gs with
 |nil=>rfl
 |cons p r z=>
  cases gs with
  |nil=>cases h
  |cons q t=>
   obtain⟨a,b⟩:=p;obtain⟨J,L⟩:=q;simp only[ba,zv] at h;obtain⟨rfl,I⟩:=h;simp only[bE] at n ⊢;split at n
   .cases n
   .exact z I n
end
end PV
namespace EX
open PySem PySem.W PyProof.Rows PySem.Calls
open PySem.Spec
section
variable {A:aS}{K:Frag}{x:Addr}{ox:Obj}{od:Option Obj}{v:ac}
open Builtin Builtin.ObjectAttr in
end
end EX
namespace EX
open PySem PySem.Spec L2
open PyProof.Rows hiding St
abbrev bmV:List ac:=[.type "ValueError",.type "Exception",.type "BaseException",.type "object"]
def excX(K:aI)(C:Addr):Bool:=match K.lookup C with
 |some ⟨.type "type",_,.cls cd,sl⟩=>(match cd.mro,sl.toList with
  |.ref I::z,[_,_,_,_,O0 (.builtin n),_]=>I==C&&n=="ValueError.__new__"&&!cd.hasDel&&PySem.W.tailIn K bmV z
  |_,_=>O2)
 |_=>O2
structure XC (K:aI) (C R:Addr):Prop where
 obj:excX K C=O1
 sa:fA K (.ref C) "__setattr__"=O0 (O0 (.builtin "object.__setattr__"))
 ga:fA K (.ref C) "__getattribute__"=O0 (O0 (.builtin "BaseException.__getattribute__"))
 gt:fA K (.ref C) "__getattr__"=O0 W1
 cd:(PySem.W.clsIn K C).any (λcd=>cd.mro==[.ref C,.ref R,.type "ValueError",.type "Exception",.type "BaseException",.type "object"]&&cd.hasDict)=O1
end EX
namespace PV
open PySem PySem.Spec L2 EX
open PyProof.Rows hiding St
end PV
namespace EX
open PySem PySem.Spec L2
open PyProof.Rows hiding St
section
variable {e R:Addr}{K:aI}
abbrev Cx.tr (X:Cx) (E:ac->ah->Prop) (pn:NY):Cx:={ X with xe:=E,pn:=pn }
end
end EX
namespace PV
open PySem PySem.Spec L2 EX
open PyProof.Rows hiding St
end PV
namespace EX
open PySem PySem.W PySem.Spec PyProof.Rows PySem.Calls
end EX
namespace PV
open PySem PySem.Spec L2 EX
open PyProof.Rows hiding St
structure Mx (K:aI) (C:Addr) (m qual:Str) (st:Stmt) (ps:List Str) where
 f:Addr
 fd:lj
 F:Fun K m qual st f fd
 B:MZ K fd ps []
 me:Meth K C m f
structure Rx (K:aI) (mg:Str->Option ac) (rn:Str) where
 R:Addr
 m:mg rn=O0 (.ref R)
 x:excX K R=O1
 h1:CL K (.ref R) "__getattribute__"=O0 (O0 (.builtin "type.__getattribute__"))
 h2:L3 K R (.type "type")=O1
 h3:L4 K (.ref R) (.type "type") "__init__"=O0 (.val (.builtin "ValueError.__init__"))
structure Xx (G:Gx) (mg:Str->Option ac) (R:Addr) (cn f qual:Str) (st:Stmt) (ps:List Str) where
 C:Addr
 fi:Addr
 fd:lj
 g:G.xcl cn=O0 C
 xc:XC G.K C R
 hi:fA G.K (.ref C) "__init__"=O0 (O0 (.ref fi))
 hf:qS G.K (.ref fi)=O1
 kp:ia G.K (.ref C)=O1
 na:BV G.K C f
 m:mg cn=O0 (.ref C)
 F:Fun G.K "__init__" qual st fi fd
 B:MZ G.K fd ps []
section
variable {a ob:Expr}{es:List Expr}{fs:FA}{fa fo:FE}{p np cpos:Pos}
theorem mO{k:Nat}{d:Mx X.K C m qual st ps}{pl:Sem Bool}(W:G.cl c=O0 C)(cl:On X.K C)(F:hQ X.prog X.w X.K X.mg X.base CX0 k d.f d.fd ps (Nd G g))(hr:Room k' X.A)(ho:PF X G ob fo)(L:k<=k':=by omega)(ht:eval (.Call (.Attribute ob m apos) [] [] pos) X.env=(do
   let ov <-eval ob X.env
   nh apos.atName
   let (f,first) <-li [ov] (oB ov m pl)
   rb pos f first (cS pos (aw [] X.env)) (ib pos (fR [] X.env))):=by rfl):
  PF X G (.Call (.Attribute ob m apos) [] [] pos) (DR c m g fo am):=λA=>Bt (gk (@ho A) cl d.me F (hr.mono L) d.B .nil RD ht)<|by
 rintro σ H Q ⟨J,dd,o,e,k⟩
 unfold DR at e;cases O:fo J with
 |none=>simp[O] at e
 |some I=>
  rw[O] at e;have S:(if CT c m I=O1 then (am J).bind λds=>g (I::ds) else W1)=O0 dd:=e;split at S
  .rename_i z;have e2:g [I]=O0 dd:=S;refine⟨J,I,o,O,λv H1 T r1=>?_⟩;cases I with
   |ob c' gs=>
    simp only[CT,eD,UI,sd] at z;obtain⟨rfl,hn⟩:=z;cases r1 with
    |ob Y Z U r2=>
     rw[W] at Y;cases Y;exact⟨_,_,_,rfl,Am _ _ Z,Mr U hn,A,[.ob c' gs],dd,(o.mono T).live,.cons (.ob W Z U r2) .nil,e2,λv H3 s3 r4=>k v H3 (T.trans s3) r4⟩
   |_=>simp[CT] at z
  .cases S
end
section
variable {K:aI}{cn:Str}{f R:Addr}{kV:ac}{l:List (Str×Addr)}
def mx(X:K.In h)(a:fA K (.ref C) m=O0 (O0 (.ref f)))(i:qS K (.ref f)=O1)(z:K.lookup f=O0 ⟨oc,od,.func (ii m qual (Eg st) (Bf st) (Ab st) .none kV doc pm an cdv ct),osl⟩)(c:pd K cdv qual=O1)(k:ia K (.ref f)=O1)(b:∀(kV doc pm:ac) (an:Option Addr) (cdv ct:ac) (us:List ac),us.length=ps.length->wv (ii m qual (Eg st) (Bf st) (Ab st) .none kV doc pm an cdv ct) ⟨us,[]⟩=pure (ps.zip us)):Mx K C m qual st ps:=⟨f,_,Sd z c k,(Sd z c k).binds b,a,i,k⟩
def rx(X:K.In h)(N:h.Ns gv mg)(a:B2 K gv x=O0 (O0 (.ref R)))(e:excX K R=O1)(h1:CL K (.ref R) "__getattribute__"=O0 (O0 (.builtin "type.__getattribute__")))(z:L3 K R (.type "type")=O1)(T:L4 K (.ref R) (.type "type") "__init__"=O0 (.val (.builtin "ValueError.__init__"))):Rx K mg x:=⟨R,se X N a,e,h1,z,T⟩
end
def zp:R2:=λx y H Q=>∃a kvs k b,y=.ref a/\Rd H a (.dT kvs)/\x=.ref b/\H b=O0 (.tup (k.map kV))/\Q (.bl (Pv kvs k).isSome) H
def inTO(ds:Option (List D))(y:Option D):Option D:=ds.bind λds=>y.bind λy=>match y with
 |.dt z=>if ds.length<=sizeLine then (La ds).map λk=>.bl (vb k z).isSome else W1
 |_=>W1
def inTF(fs:FA)(z:FE):FE:=λρ=>inTO (fs ρ) (z ρ)
section
variable {b:Expr}{fb:FE}{es:List Expr}{fs:FA}
def sH(S:X.A.units+1<bv):NU X (de .In) zp:=by
 intro U s T H x y v u Q I rx J h;obtain⟨a,z,k,b,rfl,e,rfl,L,q⟩:=h;cases J;exact d_in S I (.inr ⟨z,k,b,e,rfl,L,rfl⟩) rx λW O=>⟨.bl _,H,O,rfl,q⟩
def lD{x1}{k:Nat}(hr:Room k X.A)(ha:SV X G es fs)(hb:PU X G b fb)(hm:fw .In b=O2:=by with_unfolding_all rfl):PF X G (.Compare (.Tuple es x1 p1) [.In] [b] pos) (inTF fs fb):=λA=>Bt (Z6 (sH (Hk hr)) (Y7 (@ha A)) (@hb A) hm)<|by
 rintro σ H Q ⟨I,d,o,e,k⟩
 unfold inTF inTO at e;cases J:fs I with
 |none=>simp[J] at e
 |some L=>
  cases U:fb I with
  |none=>simp[J,U] at e
  |some y=>
   rw[J,U] at e;cases y with
   |dt z=>
    have O:(if L.length<=sizeLine then (La L).map λk=>D.bl (vb k z).isSome else W1)=O0 d:=e;split at O
    .rename_i hz;cases T:La L with
     |none=>simp[T] at O
     |some ks=>
      rw[T] at O;cases O;refine⟨I,L,o,J,λxs H1 Z r1=>⟨by rw[r1.1];exact hz,λp hp=>?_⟩⟩;have ex:=Qa r1 T;have Y:ab H1 (gq H1 p (.tup xs)):=Ak hp _;refine⟨I,.dt z,o.mono (Z.trans Y),U,λv H3 W r3=>?_⟩;obtain⟨a,S,rfl,h1,h2,r⟩:=r3.dt;have h3:=(Ml (k:=ks) h2 r).2;refine⟨a,S,ks,p,rfl,h1,rfl,by rw[W _ _ Aj,ex],?_⟩;rw[h3];exact k _ H3 ((Z.trans Y).trans W) (.bl _)
    .cases O
   |_=>cases e
end
def Xx.lend{G:Gx}{I:Str->Option ac}{R y:Addr}{J f z:Str}{st:Stmt}{ps:List Str}(x:Xx G I R J f z st ps):Xx (G.lend y) I R J f z st ps:=⟨x.C,x.fi,x.fd,x.g,x.xc,x.hi,x.hf,x.kp,x.na,x.m,x.F,x.B⟩
theorem Fun.d{K:aI}{f:Addr}(F:Fun K x qual st f fd):FunD K x qual st f fd:=⟨let ⟨oc,od,kV,q⟩:=F.ex;⟨oc,od,.none,kV,q⟩,F.kp⟩
end PV
namespace L2
theorem Fun.d{K:aI}{x z:sD}{st:BG}{f:vt}{fd:GE}(F:Fun K x z st f fd):PV.FunD K x z st f fd:=PV.Fun.d F
end L2
namespace PV
open PySem PySem.Spec L2
section
variable {es l1:List Expr}{a b c:Expr}
def RK{k j}:aw (.Constant k j pos::es) env=(O2,eval (.Constant k j pos) env)::aw es env:=rfl
def Ov{x}:aw (.Name x pos::es) env=(O2,eval (.Name x pos) env)::aw es env:=rfl
def Ig{o}:aw (.BinOp a o b pos::es) env=(O2,eval (.BinOp a o b pos) env)::aw es env:=rfl
def Ao:aw (.Subscript a b pos::es) env=(O2,eval (.Subscript a b pos) env)::aw es env:=rfl
def B_{x}:aw (.Attribute a x pos::es) env=(O2,eval (.Attribute a x pos) env)::aw es env:=rfl
def Tr{x}:aw (.Tuple l1 x pos::es) env=(O2,eval (.Tuple l1 x pos) env)::aw es env:=rfl
def sI:aw (.List l1 pos::es) env=(O2,eval (.List l1 pos) env)::aw es env:=rfl
def Gz{k}:aw (.Call a l1 k pos::es) env=(O2,eval (.Call a l1 k pos) env)::aw es env:=rfl
def G_{g sc}:aw (.ListComp a g sc pos::es) env=(O2,eval (.ListComp a g sc pos) env)::aw es env:=rfl
end
section
variable {es:List Expr}{fs:FA}
def iS{i j}(h:SV X G es fs):SV X G (.Constant (.str i) j pos::es) (Aa (kF (.str i)) fs):=Af wk h RK
def iI{i j}(h:SV X G es fs):SV X G (.Constant (.int i) j pos::es) (Aa (kF (.int i)) fs):=Af Su h RK
end
open PyProof.Rows hiding St
open EX
end PV
namespace EX
open PySem PySem.W PySem.Spec PyProof.Rows PySem.Calls
section
variable {A:aS}{K:Frag}{x:Addr}{ox:Obj}{v:ac}
open Builtin Builtin.ObjectAttr in
end
end EX
namespace EX
open PySem PySem.Spec L2
open PyProof.Rows hiding St
end EX
namespace PV
open PySem PySem.Spec L2 EX
open PyProof.Rows hiding St
structure Xx2 (G:Gx) (mg:Str->Option ac) (R:Addr) (cn f g qual:Str) (st:Stmt) (ps:List Str) where
 C:Addr
 fi:Addr
 fd:lj
 gc:G.xcl cn=O0 C
 xc:XC G.K C R
 hi:fA G.K (.ref C) "__init__"=O0 (O0 (.ref fi))
 hf:qS G.K (.ref fi)=O1
 kp:ia G.K (.ref C)=O1
 na:BV G.K C f
 nb:BV G.K C g
 m:mg cn=O0 (.ref C)
 F:Fun G.K "__init__" qual st fi fd
 B:MZ G.K fd ps []
end PV
namespace EX
open PySem PySem.Spec L2
open PyProof.Rows hiding St
end EX
namespace PV
open PySem PySem.Spec L2 EX
open PyProof.Rows hiding St
def Of{P:List Str}(a:sc.kind=.function:=by rfl)(b:sc.isCoroutine=O2:=by rfl)(c:sc.isGenerator=O2:=by rfl)(d:N.Nodup:=by decide +kernel)(e:N.take P.length=P:=by rfl)(f:∀x∈P,sc.names.lookup x=O0 .local ∨sc.names.lookup x=O0 .cell :=by decide +kernel)(g:∀y∈sc.names,y.2≠.free :=by decide +kernel):bc N P sc:=⟨a,b,c,d,e,f,g⟩
def fk{es:List Expr}{fs:FA}{z:Pos}(i:Nat)(h:SV X G es fs)(O:X.N[i]?=O0 x:=by rfl)(I:Xt X.env.scope x:=by first | exact df rfl | exact cq (df rfl) | exact cq (cq rfl))(L:(x==("__debug__":Str))=O2:=by decide)(J:(x==("__classdict__":Str))=O2:=by decide):SV X G (.Name x z::es) (Aa (vF i) fs):=Af (vr i O I L J) h Ov
def vI{z:Type}{us:List z}(h:us.length=1):∃a,us=[a]:=by
 cases us with
 |nil=>cases h
 |cons a r=>exact⟨a,by rw[xL (y9 h)]⟩
def vJ{I:Type}{us:List I}(h:us.length=2):∃a b,us=[a,b]:=by
 cases us with
 |nil=>cases h
 |cons z r=>
  obtain⟨a,rfl⟩:=vI (y9 h);exact⟨z,a,rfl⟩
def vK{I:Type}{us:List I}(h:us.length=3):∃a b c,us=[a,b,c]:=by
 cases us with
 |nil=>cases h
 |cons z r=>
  obtain⟨a,b,rfl⟩:=vJ (y9 h);exact⟨z,a,b,rfl⟩
def vL{I:Type}{us:List I}(h:us.length=4):∃a b c d,us=[a,b,c,d]:=by
 cases us with
 |nil=>cases h
 |cons z r=>
  obtain⟨a,b,c,rfl⟩:=vK (y9 h);exact⟨z,a,b,c,rfl⟩
def zq{I:Type}{us:List I}(h:us.length=5):∃a b c d e,us=[a,b,c,d,e]:=by
 cases us with
 |nil=>cases h
 |cons z r=>
  obtain⟨a,b,c,d,rfl⟩:=vL (y9 h);exact⟨z,a,b,c,d,rfl⟩
abbrev EO:=Sum (Rho×Ef) (D×Rho)
abbrev FEz:=Rho->Ef->Option EO
open Classical in
section
open PySem PySem.Spec L2
end
open PySem PySem.Spec L2 EX
open PyProof.Rows hiding St
section
variable {a ob:Expr}{es:List Expr}{fs:FA}{fo:FE}
theorem mA{k:Nat}{d:Mx X.K C m qual st ps}{pl:Sem Bool}(hc:G.cl c=O0 C)(cl:On X.K C)(F:hQ X.prog X.w X.K X.mg X.base CX0 k d.f d.fd ps (Nd G g))(hr:Room k' X.A)(ho:PF X G ob fo)(ha:SV X G (a::es) fs)(Y:k<=k':=by omega)(U:aw (a::es) X.env=(O2,eval a X.env)::aw es X.env:=by rfl)(W:(cS pos (aw es X.env)).any (·.1)=O2:=by rfl)(ht:eval (.Call (.Attribute ob m apos) (a::es) [] pos) X.env=(do
   let ov <-eval ob X.env
   nh apos.atName
   let (f,first) <-li [ov] (oB ov m pl)
   rb pos f first (cS pos (aw (a::es) X.env)) (ib pos (fR [] X.env))):=by rfl):
  PF X G (.Call (.Attribute ob m apos) (a::es) [] pos) (DR c m g fo fs):=λA=>Bt (Vq (@ho A) cl d.me F (hr.mono Y) d.B .nil RD (@ha A) U W ht)<|by
 rintro σ H Q ⟨I,dd,o,e,k⟩
 unfold DR at e;cases e0:fo I with
 |none=>simp[e0] at e
 |some J=>
  rw[e0] at e;have O:(if CT c m J=O1 then (fs I).bind λL=>g (J::L) else W1)=O0 dd:=e;split at O
  .rename_i z;cases Z:fs I with
   |none=>simp[Z] at O
   |some L=>
    have e2:g (J::L)=O0 dd:=by simpa [Z] using O
    refine⟨I,J,o,e0,λv H1 T r1=>?_⟩;cases J with
    |ob c' gs=>
     simp only[CT,eD,UI,sd] at z;obtain⟨rfl,hn⟩:=z;cases r1 with
     |ob hC h1 l1 r2=>
      rw[hc] at hC;cases hC;refine⟨_,_,_,rfl,Am _ _ h1,Mr l1 hn,I,L,o.mono T,Z,λvs H2 S r3=>?_⟩;refine⟨A,.ob c' gs::L,dd,((o.mono T).mono S).live,?_,e2,λv H3 s3 r4=>k v H3 ((T.trans S).trans s3) r4⟩;rw[fI];exact .cons (im.mono (.ob hc h1 l1 r2) (BJ S)) r3
    |_=>simp[CT] at z
  .cases O
end
abbrev Mu:=List (Addr×D)
def tx(z:Mu):List Addr:=z.map (·.1)
abbrev KM:=Sz->Mu->Prop
abbrev FM:=Rho->Mu->KM->Prop
structure Nc (G:Gx) (A0:List Addr) (He Hb:Hp) (A:List Addr) (σ:St) (H:Hp) (ρ:Rho) (μ:Mu):Prop where
 w:OR G (tx μ++A0) Hb A σ H ρ
 sb:ab He Hb
 l0:∀a∈A0,He a≠W1
 nf:∀a∈tx μ,He a=W1
 nd:(tx μ).Nodup
 top:∀p∈μ,NJ G A H p.1 p.2
def ZU(G:Gx)(A0:List Addr)(J:Hp)(z:St)(H:Hp)(ρ:Rho)(I:Mu):Prop:=∃A L,Nc G A0 J L A z H ρ I
def NJ.keep{O:List Addr}{d:D}(t:NJ G A H a d)(e:H' a=H a)(s:ab (bm A H) (bm O H')):NJ G O H' a d:=by
 cases d with
 |lst I=>obtain⟨z,S,L⟩:=t;exact⟨z,by rw[e];exact S,L.mono s⟩
 |dk I=>obtain⟨z,S,L,Y⟩:=t;exact⟨z,by rw[e];exact S,L,Y.mono s⟩
 |dt I=>obtain⟨z,S,L,Y⟩:=t;exact⟨z,by rw[e];exact S,L,Y.mono s⟩
 |ob c J=>obtain⟨C,dx,z,S,L,Y⟩:=t;exact⟨C,dx,z,by rw[e];exact S,L,Y.mono s⟩
 |_=>exact t.elim
def Jg{μ:Mu}{p:Addr×D}(h:p∈μ):p.1∈tx μ:=bb.mpr ⟨p,h,rfl⟩
def lE{μ:Mu}(h:a∈tx μ):∃d,(a,d)∈μ:=by
 obtain⟨p,I,z⟩:=bb.mp h;exact⟨p.2,by rw[<-z];exact I⟩
def OO{μ:Mu}{d:D}(h:μ.lookup a=O0 d):(a,d)∈μ:=by
 induction μ with
 |nil=>cases h
 |cons p r z=>
  rw[bX] at h;cases q:(a==p.1) with
  |true=>
   rw[q] at h;cases h;rw[eq_of_beq q];exact da
  |false=>
   rw[q] at h;exact ck _ (z h)
def YO(a:Addr)(c:D)(z:Mu):Mu:=z.map λp=>if p.1=a then (a,c) else p
def ZZ(a:Addr)(c:D)(μ:Mu):tx (YO a c μ)=tx μ:=by
 unfold tx YO;rw[cb];refine kH λp _=>?_;show (if p.1=a then (a,c) else p).1=p.1;split
 .rename_i h;exact h.symm
 .rfl
section
theorem Nc.mono(o:Nc G A0 He Hb A σ H ρ μ)(s:ab H H'):Nc G A0 He Hb A σ H' ρ μ:=
 ⟨o.w.mono s,o.sb,o.l0,o.nf,o.nd,λp h=>(o.top p h).mono s⟩
theorem Nc.set{v:V}{d:D}(o:Nc G A0 He Hb A σ H ρ μ)(r:im G (bm A H) v d)(i:Nat):Nc G A0 He Hb A (σ.set i (O0 v)) H (ρ.set i (.fz d)) μ:=
 ⟨o.w.set r i,o.sb,o.l0,o.nf,o.nd,o.top⟩
theorem Nc.inA(o:Nc G A0 He Hb A σ H ρ μ){a:Addr}(h:a∈tx μ):a∈A:=o.w.sub a (kU _ h)
def Nc.n0(o:Nc G A0 He Hb A σ H ρ μ){a:Addr}(h:a∈tx μ):a∉A0:=λz=>o.l0 a z (o.nf a h)
theorem Nc.same(o:Nc G A0 He Hb A σ H ρ μ):ab He H:=o.sb.trans o.w.same
theorem Nc.fr(o:Nc G A0 He Hb A σ H ρ μ){a:Addr}(h:a∈A):a∈A0∨He a=W1:=by
 rcases o.w.fr a h with z | z
 .rcases dA.mp z with z | z
  .exact .inr (o.nf a z)
  .exact .inl z
 .exact .inr (o.sb.free z)
theorem Nc.lift(o:Nc G A0 He Hb A σ H ρ μ):∃Hf,OR G (tx μ++A0) Hf A σ H ρ/\∀O I H' J,OR G (tx μ++A0) Hf O I H' J->Nc G A0 He Hf O I H' J μ:=by
 obtain⟨T,U⟩:=o.w.here;refine⟨_,U,λO I H' J L=>⟨L,o.sb.trans T,o.l0,o.nf,o.nd,λp S=>?_⟩⟩;have t:=o.top p S;refine t.keep ?_ (OR.plain o.w.sub L);cases e:H p.1 with
 |none=>exact NI e t.live.ne
 |some u=>
  refine L.same p.1 u ?_;rw[Ax (λz=>by
   have:=(dS.mp z).2;exact (SI this) (kU _ (Jg S)))]
  exact e
theorem Nc.new{c:D}(o:Nc G A0 He Hb A σ H ρ μ)(s:ab H H')(L:H p=W1)(t:NJ G (p::A) H' p c):ZU G A0 He σ H' ρ ((p,c)::μ)/\p∉tx μ/\Nc G A0 He (λb=>if b=p then H' b else Hb b) (p::A) σ H' ρ ((p,c)::μ):=by
 have I:p∉A:=λz=>(o.w.ok.live p z).ne L;have O:p∉tx μ:=λz=>I (o.inA z);have m:Nc G A0 He (λb=>if b=p then H' b else Hb b) (p::A) σ H' ρ ((p,c)::μ):=by
  refine⟨⟨λb u h=>?_,λa J=>?_,λa J=>?_,λa J=>?_,o.w.ok.fill s L t.live,λi d a U T=>?_,o.w.lt⟩,λb u h=>?_,o.l0,λa J=>?_,?_,λq Y=>?_⟩
  .by_cases q:b=p
   .simp only[q,VI] at h ⊢;exact h
   .simp only[q,WI] at h;exact s b u (o.w.same b u h)
  .rcases br.mp J with z | z
   .rw[z];exact da
   .exact ck _ (o.w.sub a z)
  .rcases br.mp J with z | z
   .rw[z];exact .inl da
   .rcases o.w.fr a z with q | q
    .exact .inl (ck _ q)
    .right;have:a≠p:=λe=>I (e▸z);simp only[this,WI];exact q
  .rcases br.mp J with z | z
   .have W:a=p:=z;simp only[W,VI];exact t.live.ne
   .have:a≠p:=λe=>I (e▸o.w.sub a z);simp only[this,WI];exact o.w.l0 a z
  .intro z
   rcases br.mp z with z | z
   .obtain⟨q,q1,q2,_⟩:=o.w.ok.ow i d U;rw[T] at q1;cases q1;exact I ((show a=p from z)▸q2)
   .exact o.w.ow0 i d a U T z
  .have S:=o.sb b u h;have:b≠p:=λe=>by
    rw[e] at S;rw[o.w.same p u S] at L;cases L
   simp only[this,WI];exact S
  .rcases br.mp J with z | z
   .rw[z];exact o.same.free L
   .exact o.nf a z
  .exact lI.mpr ⟨O,o.nd⟩
  .rcases br.mp Y with z | z
   .rw[z];exact t
   .exact (o.top q z).fill s L
 exact⟨⟨_,_,m⟩,O,m⟩
theorem Nc.wr{c:D}(o:Nc G A0 He Hb A σ H ρ μ)(U:q∈tx μ)(sx:Lb q H H')(t:NJ G A H' q c):Nc G A0 He (λb=>if b=q then H' b else Hb b) A σ H' ρ (YO q c μ):=by
 have Y:=o.inA U;have S:=Hx Y sx;have I:∀(i:Nat) (d:D) (a:Addr),ρ[i]?=O0 (.ow d)->σ[i]?=O0 (O0 (.ref a))->a≠q:=λi d a h1 h2 z=>o.w.ow0 i d a h1 h2 (z▸kU _ U);have J:OR G (tx μ++A0) (λb=>if b=q then H' b else Hb b) A σ H' ρ:=by
  refine⟨λb u h=>?_,o.w.sub,λa L=>?_,λa L=>?_,⟨o.w.ok.len,λb Z=>?_,λj e h=>?_,λj e h=>?_,o.w.ok.inj⟩,o.w.ow0,o.w.lt⟩
  .by_cases z:b=q
   .simp only[z,VI] at h ⊢;exact h
   .simp only[z,WI] at h;exact sx b u z (o.w.same b u h)
  .by_cases z:a=q
   .exact .inl (z▸kU _ U)
   .rcases o.w.fr a L with y | y
    .exact .inl y
    .right;simp only[z,WI];exact y
  .by_cases z:a=q
   .simp only[z,VI];exact t.live.ne
   .simp only[z,WI];exact o.w.l0 a L
  .by_cases z:b=q
   .rw[z];exact t.live
   .exact (o.w.ok.live b Z).mono λu e=>sx b u z e
  .obtain⟨v,q1,q2⟩:=o.w.ok.fz j e h;exact⟨v,q1,q2.mono S⟩
  .obtain⟨a,q1,q2,q3⟩:=o.w.ok.ow j e h;exact⟨a,q1,q2,q3.other (I j e a h q1) Y sx⟩
 refine⟨by rw[ZZ];exact J,λb u h=>?_,o.l0,by rw[ZZ];exact o.nf,by rw[ZZ];exact o.nd,λp W=>?_⟩
 .have:b≠q:=λe=>by
   rw[e,o.nf q U] at h;cases h
  simp only[this,WI];exact o.sb b u h
 .obtain⟨T,h0,O⟩:=bb.mp W;split at O
  .rw[<-O];exact t
  .rename_i z;rw[<-O];exact (o.top T h0).other z Y sx
theorem Nc.at(o:Nc G A0 He Hb A σ H ρ μ){i:Nat}{a:Addr}(h:ρ[i]?=O0 (.fz (.adr a))):σ[i]?=O0 (O0 (.ref a)):=by
 obtain⟨v,q1,q2⟩:=o.w.ok.fz i _ h;cases q2;exact q1
end
def Nm(I:Mu):List Nat->List Addr->Rho->Option Rho
 |[],_,ρ=>O0 ρ
 |j::J,z,ρ=>match ρ[j]? with
  |some (.fz (.adr a))=>if a∈z then W1 else (I.lookup a).bind λc=>Nm I J (a::z) (ρ.set j (.ow c))
  |_=>W1
theorem VG{G:Gx}{A:List Addr}{U:St}{H:Hp}{S:Mu}(inA:∀p∈S,p.1∈A)(top:∀p∈S,NJ G A H p.1 p.2):∀(js:List Nat) (seen:List Addr) (ρ I:Rho),Pt G A U H ρ->(∀(i:Nat) (d:D) (a:Addr),ρ[i]?=O0 (.ow d)->U[i]?=O0 (O0 (.ref a))->a∉tx S∨a∈seen)->Nm S js seen ρ=O0 I->Pt G A U H I
 |[],_,ρ,I,o,_,e=>by cases e;exact o
 |j::js,seen,ρ,I,o,hs,e=>by
  unfold Nm at e;split at e
  .rename_i a ej;split at e
   .cases e
   .rename_i na;cases el:S.lookup a with
    |none=>rw[el] at e;cases e
    |some c=>
     rw[el] at e;have hm:=OO el;obtain⟨v,q1,q2⟩:=o.fz j _ ej;cases q2;have ne:∀(i:Nat) (d:D) (b:Addr),ρ[i]?=O0 (.ow d)->U[i]?=O0 (O0 (.ref b))->b≠a:=λi d b T J z=>by
      rcases hs i d b T J with y | y
      .exact y (z▸Jg hm)
      .exact na (z▸y)
     refine VG inA top js (a::seen) _ I ⟨by rw[rS];exact o.len,o.live,λi d h=>?_,λi d h=>?_,λi k d f b T J Y W=>?_⟩ (λi d b T J=>?_) e
     .rcases Bq h with ⟨_,O,_⟩ | ⟨_,O⟩
      .cases O
      .exact o.fz i d O
     .rcases Bq h with ⟨hj,O,_⟩ | ⟨_,O⟩
      .cases O;subst hj;exact⟨a,q1,inA _ hm,top _ hm⟩
      .exact o.ow i d O
     .rcases Bq T with ⟨L,_,_⟩ | ⟨L,Z⟩<;>rcases Bq J with ⟨hk,_,_⟩ | ⟨hk,z2⟩
      .rw[L,hk]
      .subst L;rw[q1] at Y;cases Y;exact NI rfl (ne k f _ z2 W)
      .subst hk;rw[q1] at W;cases W;exact NI rfl (ne i d _ Z Y)
      .exact o.inj i k d f b Z z2 Y W
     .rcases Bq T with ⟨L,_,_⟩ | ⟨L,Z⟩
      .subst L;rw[q1] at J;cases J;exact .inr da
      .exact (hs i d b Z J).imp id λy=>ck _ y
  .cases e
theorem Nc.view{I:Mu}(o:Nc G A0 He Hb A σ H ρ I){J:List Nat}{ρ':Rho}(e:Nm I J [] ρ=O0 ρ'):Pt G A σ H ρ':=
 VG (λp h=>o.inA (Jg h)) o.top J [] ρ ρ' o.w.ok (λi d a O L=>.inl λz=>o.w.ow0 i d a O L (kU _ z)) e
abbrev FXM:=Rho->Mu->(D->Mu->Prop)->Prop
def puM(g:FS):FM:=λρ z K=>∃o,g ρ=O0 o/\K o z
def thM(L:FM)(K:KM):KM:=λo z=>match o with | .nx ρ=>L ρ z K | o=>K o z
def OM(g L:FM):FM:=λρ z K=>g ρ z (thM L K)
def nxM:FM:=λρ z K=>K (.nx ρ) z
def vwM{α:Type}(J:List Nat)(f:Rho->Option α)(ρ:Rho)(z:Mu):Option α:=(Nm z J [] ρ).bind f
def ifM(J:List Nat)(t:FT)(g L:FM):FM:=λρ z K=>match vwM J t ρ z with | some O1=>g ρ z K | some O2=>L ρ z K | none=>False
def bdM(L:FM)(K:KM):KM:=λo z=>match o with | .nx ρ=>L ρ z K | .ct ρ=>L ρ z K | .bk ρ=>K (.nx ρ) z | .rt e ρ=>K (.rt e ρ) z
def VH(tg:FG)(b:FM):List D->FM
 |[],ρ,z,K=>K (.nx ρ) z
 |d::r,ρ,z,K=>∃S,tg d ρ=O0 S/\b S z (bdM (VH tg b r) K)
def forM(z:FI)(tg:FG)(b:FM):FM:=λρ I K=>∃ds,z ρ=O0 ds/\VH tg b ds ρ I K
def newX(f:FE):FXM:=λρ z K=>∃c,f ρ=O0 c/\∀p,p∉tx z->K (.adr p) ((p,c)::z)
abbrev GM:=List D->Mu->(D->Mu->Prop)->Prop
def calX(g:GM)(fs:FA):FXM:=λρ z K=>∃ds,fs ρ=O0 ds/\g ds z K
def RL(i:Nat)(h:FXM):FM:=λρ I K=>h ρ I λd z=>K (.nx (ρ.set i (.fz d))) z
def VJ(h:FXM):FM:=λρ I K=>h ρ I λ_ z=>K (.nx ρ) z
def vM(h:FXM):FM:=λρ I K=>h ρ I λd z=>K (.rt d ρ) z
def mutX(i:Nat)(J:List Nat)(g:D->List D->Option (D×D))(fs:FA):FXM:=λρ z K=>∃ds a c v I,vwM J fs ρ z=O0 ds/\ρ[i]?=O0 (.fz (.adr a))/\z.lookup a=O0 c/\g c ds=O0 (v,I)/\K v (YO a I z)
def finM(K:D->Mu->Prop):KM:=λo z=>match o with | .rt d _=>K d z | .nx _=>K .non z | _=>False
def runM(n I:Nat)(b:FM):GM:=λds z K=>ds.length=I/\b (Ce n ds) z (finM K)
def Qj(G:Gx)(A0:List Addr)(J:Hp)(D:SO):Sz->Mu->Prop
 |.nx ρ,I=>∀z H,ZU G A0 J z H ρ I->D.nx z H
 |.rt d ρ,I=>∀v z H A L,Nc G A0 J L A z H ρ I->im G (bm A H) v d->D.rt v H
 |.bk ρ,I=>∀z H,ZU G A0 J z H ρ I->D.bk z H
 |.ct ρ,I=>∀z H,ZU G A0 J z H ρ I->D.ct z H
def tM(G:Gx)(A0:List Addr)(J:Hp)(g:FM):TS:=λD L H=>∃ρ I K,ZU G A0 J L H ρ I/\g ρ I K/\∀o z,K o z->Qj G A0 J D o z
def PSM(X:Cx)(G:Gx)(st:Stmt)(g:FM):Prop:=∀⦃A0⦄ He,PS X st (tM G A0 He g)
def TK(X:Cx)(G:Gx)(st:List Stmt)(g:FM):Prop:=∀⦃A0⦄ He,UQ X st (tM G A0 He g)
def tMX(G:Gx)(A0:List Addr)(O:Hp)(h:FXM):TE:=λJ H Q=>∃ρ L K,ZU G A0 O J H ρ L/\h ρ L K/\∀v I d z A S,K d z->Nc G A0 O S A J I ρ z->im G (bm A I) v d->Q v I
def PMX(X:Cx)(G:Gx)(e:Expr)(h:FXM):Prop:=∀⦃A0⦄ He,PE X e (tMX G A0 He h)
section
theorem Nc.base(o:Nc G A0 Hf Hb A σ H ρ μ)(s:ab He Hf)(z:∀a∈A0,He a≠W1):Nc G A0 He Hb A σ H ρ μ:=
 ⟨o.w,s.trans o.sb,z,λa h=>s.free (o.nf a h),o.nd,o.top⟩
theorem Nc.here(o:Nc G A0 He Hb A σ H ρ μ):ab He (bm (A.filter λa=>decide (a∉A0)) H)/\∃Hc,Nc G A0 (bm (A.filter λa=>decide (a∉A0)) H) Hc A σ H ρ μ:=by
 have J:∀b,b∈(A.filter λa=>decide (a∉A0))↔b∈A/\b∉A0:=λb=>by simp[dS]
 have L:ab He (bm (A.filter λa=>decide (a∉A0)) H):=λb u h=>by
  rw[Ax]
  .exact o.same b u h
  .intro z;obtain⟨Z,Y⟩:=(J b).mp z
   rcases o.fr Z with q | q
   .exact Y q
   .rw[q] at h;cases h
 obtain⟨T,U⟩:=o.w.here;refine⟨L,_,U,λb u h=>?_,λa I h=>?_,λa I=>?_,o.nd,o.top⟩
 .unfold bm at h ⊢;split at h
  .cases h
  .rename_i O;rw[ZH]
   .exact h
   .intro z;have S:=dS.mp z;refine O ((J b).mpr ⟨S.1,λy=>?_⟩);exact (SI S.2) (hU _ y)
 .rw[Ax (λz=>((J a).mp z).2 I)] at h;exact (o.w.ok.live a (o.w.sub a (hU _ I))).ne h
 .unfold bm;rw[WH ((J a).mpr ⟨o.inA I,o.n0 I⟩)]
def Nc.plain(sub:∀a∈A0,a∈B)(o:Nc G A0 (bm (B.filter λa=>decide (a∉A0)) H1) Hb A σ H ρ μ):ab (bm B H1) (bm A H):=λb u h=>by
 unfold bm at h;split at h
 .cases h
 .rename_i I;have e:bm (B.filter λa=>decide (a∉A0)) H1 b=O0 u:=by
   rw[Ax (λz=>I (dS.mp z).1)];exact h
  rw[Ax]
  .exact o.same b u e
  .intro z
   rcases o.fr z with q | q
   .exact I (sub b q)
   .rw[q] at e;cases e
theorem Qj.base{O:Hp}{D:SO}{o:Sz}(k:Qj G A0 He D o μ)(s:ab He O)(I:∀a∈A0,He a≠W1):Qj G A0 O D o μ:=by
 cases o with
 |nx J=>rintro z H ⟨A,L,w⟩;exact k z H ⟨A,L,w.base s I⟩
 |rt d J=>exact λv z H A L w r=>k v z H A L (w.base s I) r
 |bk J=>rintro z H ⟨A,L,w⟩;exact k z H ⟨A,L,w.base s I⟩
 |ct J=>rintro z H ⟨A,L,w⟩;exact k z H ⟨A,L,w.base s I⟩
theorem Nc.subA0(o:Nc G A0 He Hb A σ H ρ μ):∀a∈A0,a∈A:=λa h=>o.w.sub a (hU _ h)
theorem Nc.ends{D:SO}(S:∀O I H' J,OR G (tx μ++A0) Hf O I H' J->Nc G A0 He Hf O I H' J μ){o:Sz}(k:Qj G A0 He D o μ):TF G (tx μ++A0) Hf D o:=by
 cases o with
 |nx L=>rintro z H ⟨A,w⟩;exact k z H ⟨A,Hf,S _ _ _ _ w⟩
 |rt d L=>exact λv z H A w r=>k v z H A Hf (S _ _ _ _ w) r
 |bk L=>rintro z H ⟨A,w⟩;exact k z H ⟨A,Hf,S _ _ _ _ w⟩
 |ct L=>rintro z H ⟨A,w⟩;exact k z H ⟨A,Hf,S _ _ _ _ w⟩
end
section
variable {a b c:Expr}{fa:FE}{il:List Stmt}{gp:FS}{g gs gb:FM}{h:FXM}
def Wa:TK X G [] nxM:=by rintro T S J s z H D I ⟨L,O,K,ok,e,k⟩;exact JM J s z H D I (k _ _ e z H ok)
theorem Cp(h1:PSM X G st g)(h2:TK X G il gs):TK X G (st::il) (OM g gs):=by
 rintro S O Y s U H D I ⟨W,Z,K,ok,e,k⟩
 refine K4 (@h1 S O) (@h2 S O) Y s U H D I ⟨W,Z,_,ok,e,λo J q=>?_⟩;cases o with
 |nx z=>exact λT H' L=>⟨z,J,K,L,q,k⟩
 |rt d z=>exact k _ _ q
 |bk z=>exact k _ _ q
 |ct z=>exact k _ _ q
def Ms(h1:PSM X G st g):TK X G [st] g:=λS z=>Vl (@h1 S z)
def Ih(h:UR X G st gp):PSM X G st (puM gp):=by
 rintro U Y L s z H D I ⟨J,O,K,⟨A,Z,w⟩,⟨o,e,q⟩,k⟩
 obtain⟨T,W,S⟩:=w.lift;exact @h (tx O++U) T L s z H D I ⟨J,o,⟨A,W⟩,e,Nc.ends S (k _ _ q)⟩
def Tt{L:Type}{J:List Nat}{f:Rho->Option L}{I:Mu}{d:L}(e:vwM J f ρ I=O0 d):∃z,Nm I J [] ρ=O0 z/\f z=O0 d:=by
 unfold vwM at e;cases O:Nm I J [] ρ with
 |none=>rw[O] at e;cases e
 |some z=>rw[O] at e;exact⟨z,rfl,e⟩
def xq(js:List Nat)(ht:Sr X G c ga)(h1:TK X G s1 g)(h2:TK X G s2 gs):PSM X G (.If c s1 s2 pos) (ifM js ga g gs):=by
 rintro Y U π s Z H D I ⟨S,T,K,⟨A,W,w⟩,e,k⟩
 refine Z1 (@ht A) (@h1 Y U) (@h2 Y U) π s Z H D I ?_;unfold ifM at e;split at e
 .rename_i O;obtain⟨z,L,J⟩:=Tt O;exact⟨z,_,w.view L,J,λH1 s1=>WU ⟨S,T,K,⟨A,W,w.mono s1⟩,e,k⟩⟩
 .rename_i O;obtain⟨z,L,J⟩:=Tt O;exact⟨z,_,w.view L,J,λH1 s1=>VO ⟨S,T,K,⟨A,W,w.mono s1⟩,e,k⟩⟩
 .exact e.elim
theorem sJ{it:Expr}(hp:ti (ai X.prog X.w) X.A X.env X.xe)(hc:X.calm=O1)(hi:RU X G O2 tg it src)(hg:PGD X G tg fg)(hb:TK X G body gb)(hs:∀x,lc it X.env x=pure x:=by intro _;rfl):PSM X G (.For tg it body [] pos) (forM src fg gb):=by
 rintro S He π s Y H D I ⟨ρ,μ,K,⟨A,Hb,w⟩,⟨L,e1,e⟩,k⟩
 have X1:UQ X body (λD Y H=>∃S He,tM G S He gb D Y H):=(by rintro π s Y H D I ⟨S,He,q⟩;exact @hb S He π s Y H D I q);have U1:PG X tg (λv Y H Q=>∃S He,tGD G S He fg v Y H Q):=(by rintro π s Y H v u Q I r ⟨S,He,q⟩;exact @hg S He π s Y H v u Q I r q);refine Yv hp hc (@hi A) U1 X1 hs π s Y H D I ⟨ρ,L,w.w.ok,e1,λJ H1 s1 sr=>?_⟩;obtain⟨X0,Hc,w2⟩:=(w.mono s1).here;have k2:∀o μ',K o μ'->Qj G S _ D o μ':=λo μ' q=>(k o μ' q).base X0 w.l0;generalize Y1:bm (A.filter λa=>decide (a∉S)) H1=Hf at X0 w2 k2;refine⟨λi m z W=>m=L.length-i/\i<=L.length/\∃O μ',ZU G S Hf z W O μ'/\VH fg gb (L.drop i) O μ' K,⟨L.length,by simp,eK _,ρ,μ,⟨A,Hc,w2⟩,by simpa using e⟩,?_⟩;rintro i m N1 H3 ⟨rfl,S2,P1,T0,⟨B,Hd,w3⟩,e3⟩;have pl:ab (bm A H1) (bm B H3):=by rw[<-Y1] at w3;exact Nc.plain w.subA0 w3
 by_cases Z:i<L.length
 .right;have hd:L[i]?=O0 L[i]:=by simp[Z]
  have ed:L.drop i=L[i]::L.drop (i+1):=uk Z;rw[ed] at e3;obtain⟨N0,e4,e5⟩:=e3;refine⟨sr.go i H3 (pl.trans Am) Z,λz W=>∃O μ',ZU G S Hf z W O μ'/\VH fg gb (L.drop (i+1)) O μ' K,λz W q=>⟨L.length-(i+1),by omega,rfl,Z,q⟩,λx W y=>?_⟩;obtain⟨sy,rx⟩:=sr.yld i H3 x W _ (pl.trans Am) hd y;obtain⟨Hg,w4,up⟩:=(w3.mono sy).lift;refine⟨tx T0++S,Hg,B,P1,L[i],N0,w4,rx B w3.w.ok.live pl,e4,λQ2 H5 ⟨A5,S1⟩=>⟨S,Hf,N0,T0,_,⟨A5,Hg,up _ _ _ _ S1⟩,e5,λo5 S0 q5=>?_⟩⟩;cases o5 with
  |nx T=>exact λz W U=>⟨T,S0,U,q5⟩
  |ct T=>exact λz W U=>⟨T,S0,U,q5⟩
  |bk T=>exact λz W U=>k2 _ _ q5 z W U
  |rt d5 T=>exact k2 _ _ q5
 .left;have ei:i=L.length:=by omega
  subst ei;rw[AJ] at e3;exact⟨sr.stop _ H3 (pl.trans Am) (aE _),k2 _ _ e3 N1 H3 ⟨B,Hd,w3⟩⟩
def sO(ha:PN X G a fa):PMX X G a (newX fa):=λA0 Y L s z H Q I ⟨J,W,K,⟨A,Z,w⟩,⟨c,e,q⟩,k⟩=>
 @ha A L s z H Q I ⟨J,c,w.w.ok,e,λp U O T t=>by
  obtain⟨_,S,m⟩:=w.new O T t;exact k _ U _ _ _ _ (q p S) m (.adr p)⟩
def lF{p:Pos}(T:∀te,PE X a te->PS X (.Assign [.Name x p] a pos) (WJ te (Es i)))(ha:PMX X G a h):PSM X G (.Assign [.Name x p] a pos) (RL i h):=λY U L s z H D I ⟨J,S,K,ok,e,k⟩=>
 T _ (@ha Y U) L s z H D I ⟨J,S,_,ok,e,λv Z d O A W q w r=>k _ _ q _ _ ⟨A,W,w.set r i⟩⟩
def Tv(ha:PMX X G a h)(hs:eJ a W1 pos.line X.env=pure O2:=by rfl):PSM X G (.Expr a pos) (VJ h):=λW T L s z H D I ⟨J,S,K,ok,e,k⟩=>
 Vm (@ha W T) hs L s z H D I ⟨J,S,_,ok,e,λv Y d O A U q w r=>k _ _ q _ _ ⟨A,U,w⟩⟩
def lG(ha:PMX X G a h):PSM X G (.Return (O0 a) pos) (vM h):=λY T L s z H D I ⟨J,S,K,ok,e,k⟩=>
 gJ (@ha Y T) L s z H D I ⟨J,S,_,ok,e,λv W d O A U q w r=>k _ _ q v z W A U w r⟩
def SndM(G:Gx)(r:V->List V->Hp->VK->Prop)(g:D->List D->Option (D×D)):Prop:=∀(A:List Addr) (H:Hp) (l:Addr) (vs:List V) (c:D) (ds:List D) (v J:D) (Q:VK),(∀a∈A,Nt (H a))->l∈A->NJ G A H l c->be G (bm A H) vs ds->g c ds=O0 (v,J)->(∀I z,Lb l H z->NJ G A z l J->im G (bm A z) I v->Q I z)->r (.ref l) vs H Q
def sS{T id:String}{r:V->List V->Hp->VK->Prop}{gm:D->List D->Option (D×D)}{es:List Expr}{fs:FA}(js:List Nat)(pa:DI T)(S:AQ T name id)(Y:typeOf (.builtin id)=pure (.type "method_descriptor"))(hm:MtM X id r)(sn:SndM G r gm)(tv:∀(A:List Addr) (H:Hp) (l:Addr) (c:D) (ds:List D) (vc:D×D),gm c ds=O0 vc->NJ G A H l c->tyV X.K T (.ref l) H)(hv:PE X (.Name x xpos) (Sb i))(ha:SV X G (e::es) fs)(L:eR (.Name x xpos) name X.env (eval (.Name x xpos) X.env)=eval (.Name x xpos) X.env:=by rfl)(O:((cS pos (aw (e::es) X.env)).all (λx=>!x.1)&&(ib pos (fR [] X.env)).all (λx=>x.1.isSome)&&decide ((e::es).length+([]:List hZ).length+(if ([]:List hZ).isEmpty then 0 else 1)<30))=O1:=by rfl)(J:(apos.endLine==pos.line)=O1:=by rfl)(hs:aw (e::es) X.env=(O2,eval e X.env)::aw es X.env:=by rfl)(Z:(cS pos (aw es X.env)).any (·.1)=O2:=by rfl):
  PMX X G (.Call (.Attribute (.Name x xpos) name apos) (e::es) [] pos) (mutX i js gm fs):=by
 rintro A0 He π s σ H Q I ⟨ρ,μ,K,⟨A,Hb,w⟩,⟨ds,l,c,v,c',e1,hi,hl,e2,q⟩,k⟩
 obtain⟨U,e3,e4⟩:=Tt e1;have z:=OO hl;refine iG pa S Y hm hv (@ha A) L O J hs Z π s σ H Q I ⟨_,w.at hi,tv _ _ _ _ _ _ e2 (w.top _ z),U,ds,w.view e3,e4,λvs H1 s1 r1=>?_⟩;have W:=w.mono s1;exact sn A H1 l vs c ds v c' Q W.w.ok.live (w.inA (Jg z)) (W.top _ z) r1 e2 λvv H' sx t rv=>k vv H' v _ A _ q (W.wr (Jg z) sx t) rv
end
def spM(G:Gx)(g:GM):Sp:=λvs H Q _=>∃A ds I K,(∀a∈A,Nt (H a))/\(tx I).Nodup/\(∀p∈I,p.1∈A/\NJ G A H p.1 p.2)/\be G (bm A H) vs ds/\g ds I K ∧
 ∀v J O z d,K d z->(∀b u,b∉tx I->H b=O0 u->J b=O0 u)->(∀a∈A,a∉tx I->a∈O)->(∀a∈O,Nt (J a))->(tx z).Nodup->(∀p∈z,p.1∈O/\NJ G O J p.1 p.2)->(∀a∈tx z,a∈tx I∨H a=W1)->im G (bm O J) v d->Q v J
theorem eZ{vs:List V}{μ:Mu}(live:∀a∈A,Nt (H a))(U:(tx μ).Nodup)(Z:∀p∈μ,p.1∈A/\NJ G A H p.1 p.2)(r:be G (bm A H) vs ds)(Y:vs.length<=N.length):Nc G (A.filter λa=>decide (a∉tx μ)) (bm (tx μ) H) H A (start N vs) H (Ce N.length ds) μ:=by
 have inA:∀a∈tx μ,a∈A:=λa h=>by obtain⟨d,hd⟩:=lE h;exact (Z _ hd).1
 have S:∀a,a∈(A.filter λa=>decide (a∉tx μ))↔a∈A/\a∉tx μ:=λa=>by simp[dS]
 obtain⟨A1,w⟩:=K_ (N:=N) live r Y;have J:∀a,a∈tx μ++(A.filter λa=>decide (a∉tx μ))↔a∈A:=λa=>by
  rw[dA,S];constructor
  .rintro (h | h)
   .exact inA a h
   .exact h.1
  .intro h
   by_cases z:a∈tx μ
   .exact .inl z
   .exact .inr ⟨h,z⟩
 have L:∀(i:Nat) (d:D),(Ce N.length ds)[i]?≠O0 (.ow d):=λi d h=>by
  unfold Ce at h
  by_cases T:i<ds.length
  .rw[kr (by simpa using T),ca] at h;cases e:ds[i]? with
   |none=>rw[e] at h;cases h
   |some d=>rw[e] at h;cases h
  .rw[ja (by simpa using kG.mp T),As] at h;split at h<;>cases h
 have O:Pt G A (start N vs) H (Ce N.length ds):=by
  refine⟨w.ok.len,live,λi d h=>?_,λi d h=>NI h (L i d),λi j d e a h _ _ _=>NI h (L i d)⟩;obtain⟨v,q1,q2⟩:=w.ok.fz i d h;exact⟨v,q1,q2.mono (Ci w.sub)⟩
 refine⟨⟨ab.refl H,λa I=>(J a).mp I,λa I=>.inl ((J a).mpr I),λa I=>(live a ((J a).mp I)).ne,O,λi d a h _=>NI h (L i d),λx d _ h=>NI h (L 0 d)⟩,Am,λa I=>?_,λa I=>?_,U,λp W=>(Z p W).2⟩
 .rw[Ax ((S a).mp I).2];exact (live a ((S a).mp I).1).ne
 .unfold bm;rw[WH I]
def fn_M{base:Heap}{f:Addr}{k:Nat}{b:FM}(F:FunD G.K x qual st f fd)(S:bc N ps (Ab st))(hl:ps.length<=N.length)(hb:∀(cdv:ac) (A:aS) (J:List Env) (s:ah) (H:Hp) (E:XK),Room k (A.deeper (g9 qual (Ab st) s.heap.objs.size f cdv))->TK (Qr CX0 P w G.K mg base N qual (Ab st) f cdv A J s H E).nox G (Bf st) b):
  hQ P w G.K mg base CX0 (k+1) f fd ps (spM G (runM N.length ps.length b)):=by
 obtain⟨oc,od,dV,kV,X0,pm,an,cdv,ct,T0,rfl,lk,S0⟩:=F.ex;refine gw lk S0 S (λvs H Q E h=>?_) (λA J s H vs Q E hr h=>?_)
 .obtain⟨A,ds,L,K,lv,nd,ct,r,e,_⟩:=h;rw[r.1];exact e.1
 .obtain⟨A1,ds,L,K,lv,nd,ct,r,e,k⟩:=h;have hzz:=hb cdv A J s H E hr;have W:∀(U:St) (H':Hp) (Y:List Addr) (T:Hp) (O:Rho) (I:Mu) (v:V) (d:D),Nc G (A1.filter λa=>decide (a∉tx L)) (bm (tx L) H) T Y U H' O I->im G (bm Y H') v d->K d I->Q v H':=λU H' Y T O I v d w rv kd=>by
   refine k v H' Y I d kd (λb u nb hb=>w.same b u (by rw[Ax nb];exact hb)) (λa ha na=>w.subA0 a (by simp[dS,ha,na])) w.w.ok.live w.nd (λp hp=>⟨w.inA (Jg hp),w.top p hp⟩) (λa ha=>?_) rv;have:=w.nf a ha
   by_cases z:a∈tx L
   .exact .inl z
   .rw[Ax z] at this;exact .inr this
  refine⟨_,(@hzz (A1.filter λa=>decide (a∉tx L)) (bm (tx L) H)).nox,Ce N.length ds,L,_,⟨A1,H,eZ lv nd ct r (by rw[r.1,e.1];exact hl)⟩,e.2,λo I q=>?_⟩;cases o with
  |nx O=>rintro Z H' ⟨A,T,w⟩;exact W Z H' A T O I .non .non w .non q
  |rt d' N0=>exact λv Z H' A T w r'=>W Z H' A T N0 I v d' w r' q
  |bk O=>exact q.elim
  |ct O=>exact q.elim
def zr{base:Heap}{f:Addr}{k:Nat}{b:FM}(F:FunD G.K x qual st f fd)(S:bc N ps (Ab st))(hl:ps.length<=N.length)(J:∀(cdv:ac) (A:aS) (I:List Env) (s:ah) (H:Hp) (E:XK),Room k (A.deeper (g9 qual (Ab st) s.heap.objs.size f cdv))->TK (Qr CX0 P w G.K mg base N qual (Ab st) f cdv A I s H E).nox G (Bf st) b)(hg:∀ds d,g ds=O0 d->runM N.length ps.length b ds [] λd' _=>d'=d):
  hQ P w G.K mg base CX0 (k+1) f fd ps (Nd G g):=
 (fn_M F S hl J).imp λvs H Q E ⟨A,ds,d,Z,r,e,q⟩=>⟨A,ds,[],_,Z,IT,λp hp=>(nomatch hp),r,hg ds d e,λv H' A' L d' e' O T Y W S0 N0 U=>by
  subst e';exact q v H' (λb u J=>O b u (λz=>nomatch z) J) (U.mono (Ci λa ha=>T a ha (λz=>nomatch z)))⟩
section
variable {a b c:Expr}{p:Pos}{es:List Expr}{fs:FA}{g:FM}
theorem lH{μ:Mu}{vs:List V}{gm:GM}{K:D->Mu->Prop}{Q:VK}{E:XK}(W:Nc G A0 He Hb A σ H1 ρ μ)(r1:be G (bm A H1) vs ds)(e2:gm ds μ K)(k:∀v H' d μ' A Hb,K d μ'->Nc G A0 He Hb A σ H' ρ μ'->im G (bm A H') v d->Q v H'):spM G gm vs H1 Q E:=by
 refine⟨A,ds,μ,K,W.w.ok.live,W.nd,λp hp=>⟨W.inA (Jg hp),W.top p hp⟩,r1,e2,λv H' A' μ' d kd sm sb lv nd ct fr rv=>?_⟩;have Y:∀z,z∈(A.filter λa=>decide (a∉tx μ))++tx μ'↔(z∈A/\z∉tx μ)∨z∈tx μ':=λz=>by simp[dS]
 generalize S0:(A.filter λa=>decide (a∉tx μ))++tx μ'=A2 at Y;have sub:∀z∈A2,z∈A':=λz O=>by
  rcases (Y z).mp O with h | h
  .exact sb z h.1 h.2
  .obtain⟨d,hd⟩:=lE h;exact (ct _ hd).1
 have pl:ab (bm A H1) (bm A2 H'):=λb u I=>by
  unfold bm at I;split at I
  .cases I
  .rename_i Z;rw[Ax]
   .exact sm b u (λz=>Z (W.inA z)) I
   .intro z
    rcases (Y b).mp z with h | h
    .exact Z h.1
    .rcases fr b h with y | y
     .exact Z (W.inA y)
     .rw[y] at I;cases I
 have U:∀(i:Nat) (e:D) (q:Addr),ρ[i]?=O0 (.ow e)->σ[i]?=O0 (O0 (.ref q))->q∈A->q∉tx μ/\q∉tx μ'/\q∉A0:=λi e q T h2 h3=>by
  have n:=W.w.ow0 i e q T h2;have n1:q∉tx μ:=λz=>n (kU _ z);refine⟨n1,λz=>?_,λz=>n (hU _ z)⟩
  rcases fr q z with y | y
  .exact n1 y
  .exact (W.w.ok.live q h3).ne y
 have L:∀z,z∈A->z∉tx μ->H' z=H1 z:=λz O nz=>by
  cases e:H1 z with
  |none=>exact NI e (W.w.ok.live z O).ne
  |some u=>exact sm z u nz e
 have N0:Pt G A2 σ H' ρ:=by
  refine⟨W.w.ok.len,λz O=>lv z (sub z O),λi e h=>?_,λi e h=>?_,W.w.ok.inj⟩
  .obtain⟨v,q1,q2⟩:=W.w.ok.fz i e h;exact⟨v,q1,q2.mono pl⟩
  .obtain⟨q,q1,q2,q3⟩:=W.w.ok.ow i e h;have n:=U i e q h q1 q2;exact⟨q,q1,(Y q).mpr (.inl ⟨q2,n.1⟩),q3.keep (L q q2 n.1) pl⟩
 have S:∀z,z∈(A2.filter λa=>decide (a∉tx μ'++A0))↔z∈A2/\z∉tx μ'++A0:=λz=>by simp[dS]
 have J:∀z∈tx μ'++A0,z∈A2:=λz O=>by
  rcases dA.mp O with h | h
  .exact (Y z).mpr (.inr h)
  .exact (Y z).mpr (.inl ⟨W.subA0 z h,λy=>W.n0 y h⟩)
 refine k v H' d μ' A2 (bm (A2.filter λa=>decide (a∉tx μ'++A0)) H') kd ⟨⟨Am,J,λz O=>?_,λz O h=>?_,N0,λi e q T h2 z=>?_,W.w.lt⟩,λb u I=>?_,W.l0,λz O=>?_,nd,λq hq=>((ct q hq).2).sub sub⟩ (rv.mono (Ci sub))
 .by_cases y:z∈tx μ'++A0
  .exact .inl y
  .right;unfold bm;rw[WH ((S z).mpr ⟨O,y⟩)]
 .rw[Ax (λy=>((S z).mp y).2 O)] at h;exact (lv z (sub z (J z O))).ne h
 .obtain⟨q',q1,q2,_⟩:=W.w.ok.ow i e T;rw[h2] at q1;cases q1;have n:=U i e q T h2 q2
  rcases dA.mp z with y | y
  .exact n.2.1 y
  .exact n.2.2 y
 .have T:=W.same b u I;have Z:b∉tx μ:=λz=>by rw[W.nf b z] at I;cases I
  rw[Ax]
  .exact sm b u Z T
  .intro z;obtain⟨z1,z2⟩:=(S b).mp z
   rcases (Y b).mp z1 with y | y
   .rcases W.fr y.1 with x | x
    .exact z2 (hU _ x)
    .rw[x] at I;cases I
   .exact z2 (kU _ y)
 .rcases fr z O with y | y
  .exact W.nf z y
  .exact W.same.free y
def lJ{k:Nat}{f:Addr}{L:GM}(F:hQ X.prog X.w X.K X.mg X.base CX0 k f fd ps (spM G L))(hr:Room k X.A)(hg:Gl X x)(hm:X.mg x=O0 (.ref f))(hk:ia X.K (.ref f)=O1)(hb:MZ X.K fd ps [])(ha:SV X G (a::es) fs)(J:(x==("__debug__":Str))=O2:=by decide)(he:aw (a::es) X.env=(O2,eval a X.env)::aw es X.env:=by rfl)(z:(cS pos (aw es X.env)).any (·.1)=O2:=by rfl):
  PMX X G (.Call (.Name x p) (a::es) [] pos) (calX L fs):=by
 rintro A0 He T s O H Q I ⟨S,μ,K,⟨A,Hb,w⟩,⟨ds,e1,e2⟩,k⟩
 refine Z8 F hr hg hm hk hb .nil RD (@ha A) J he z T s O H Q I ⟨S,ds,w.w.ok,e1,λU H1 Y Z=>?_⟩;have W:=w.mono Y;show spM G L (U++[]) H1 Q E0;rw[fI];exact lH W Z e2 k
end
def UM:cE "enumerate"=O0 (.type "enumerate"):=by decide +kernel
section
variable {a:Expr}{fa:FE}{p:Pos}{ta:TA}
def enD:Nat->List D->List D
 |_,[]=>[]
 |n,d::r=>.tup [.int (n:Nat),d]::enD (n+1) r
theorem Ru:∀(n:Nat) (ds:List D),(enD n ds).length=ds.length
 |_,[]=>rfl
 |n,d::r=>by rw[enD,ci,ci,Ru]
theorem bT:∀(n:Nat) (ds:List D) (i:Nat) (d:D),(enD n ds)[i]?=O0 d->∃e,ds[i]?=O0 e/\d=.tup [.int ((n+i:Nat):Int),e]
 |_,[],i,d,h=>by simp[enD] at h
 |n,x::r,0,d,h=>by simp[enD] at h;exact⟨x,rfl,by rw[<-h];simp⟩
 |n,x::r,i+1,d,h=>by
  simp only[enD,kN] at h ⊢;obtain⟨e,I,z⟩:=bT (n+1) r i d h;exact⟨e,I,by rw[z];congr 3;omega⟩
end
section
open PySem.MeetsSeq PySem.SeqAt
end
def remL(x:D):List D->Option (List D)
 |[]=>W1
 |d::r=>match Ps 62 d x with | some O1=>O0 r | some O2=>(remL x r).map (d::·) | none=>W1
section
def remM:D->List D->Option (D×D)
 |.lst ds,[x]=>if ds.all (λd=>(Ps 62 d x).isSome)=O1 then (remL x ds).map λes=>(.non,.lst es) else W1
 |_,_=>W1
def VQ:D->List D->Option (D×D)
 |.lst ds,[x]=>if ds.length<sizeLine then O0 (.non,.lst (ds++[x])) else W1
 |_,_=>W1
def X_:SndM G aA VQ:=λA H l vs c ds v c' Q lv Y t r e k=>by
 unfold VQ at e;split at e
 .rename_i Z x;split at e
  .rename_i S;cases e;obtain⟨I,U,z⟩:=t;obtain⟨y,ys,rfl,J,O⟩:=r.uncons;have W:=O.nil_inv;subst W;refine⟨l,I,y,rfl,rfl,U,by rw[z.1];exact S,k _ _ (λb o L T=>by rw[Al L];exact T) ⟨_,Aj,?_⟩ .non⟩;rw[Dt Y];exact z.append (.cons J .nil)
  .cases e
 .cases e
def xr{l:Addr}(t:NJ G A H l (.lst ds)):tyV X.K "list" (.ref l) H:=by
 obtain⟨z,h,_⟩:=t;exact .inl ⟨rfl,z,.of h⟩
def lK(A:List Addr)(H:Hp)(l:Addr)(c:D)(ds:List D)(z:D×D)(e:VQ c ds=O0 z)(t:NJ G A H l c):tyV X.K "list" (.ref l) H:=by
 unfold VQ at e;split at e
 .exact xr t
 .cases e
end
def bd2:D->Option (List D)
 |.tup [a,b]=>O0 [a,b]
 |_=>W1
def YB(z:FI)(ga:FT)(fe:FE):FE:=Ib bd2 z ga fe
section
variable {t u:Str}{elt iter:Expr}{ifs:List Expr}{pt:Pos}{k1:Nat}
def bnd2{N:Nat}:Bnd G N 2 bd2 (gTup G.K 2 (XR (Es N) (XR (Es (N+1)) gNil))):=λA I Y H x d es Q hl Z e r k=>by
 unfold bd2 at e;split at e
 .rename_i a b;cases e;cases r with
  |tup h l q=>
   rename_i c O;obtain⟨x,ys,rfl,W,U⟩:=(show be G (bm A H) O [a,b] from⟨l,q⟩).uncons;obtain⟨y,zs,rfl,T,S⟩:=U.uncons;have e0:=S.nil_inv;subst e0
   match Y,Z with
   |[L,J],_=>
   refine⟨c,[x,y],rfl,Dj Am h,rfl,x,[y],rfl,?_⟩;refine⟨y,[],rfl,rfl,?_⟩;have z:((I++[L,J]).set N (O0 x)).set (N+1) (O0 y)=I++[O0 x,O0 y]:=by
    rw[<-hl,DZ _ _ (aE _),rL];show (I++[O0 x,J]).set (I.length+1) (O0 y)=_;rw[DZ _ _ (lx _),show I.length+1-I.length=1 by omega];rfl
   show Q (((I++[L,J]).set N (O0 x)).set (N+1) (O0 y)) H;rw[z];exact k [x,y] rfl (.cons W (.cons T .nil))
 .cases e
theorem gTwo{L:List Str}(W:G.K=X.K)(Z:Br [t,u] X.N++[t,u]=L)(c:mr X scope [t,u])(J:X.calm=O1)(S:ah)(O:Hp)(fp:List Addr):PG (Bg X scope L S O fp) (.Tuple [.Name t p1,.Name u p2] k1 pt) (gTup G.K 2 (XR (Es X.N.length) (XR (Es (X.N.length+1)) gNil))):=by
 subst Z;rw[W];have at0:(Br [t,u] X.N++[t,u])[X.N.length]?=O0 t:=by unfold Br;rw[ja (by rw[ay];exact aE _),ay,rL];rfl
 have z:(Br [t,u] X.N++[t,u])[X.N.length+1]?=O0 u:=by unfold Br;rw[ja (by rw[ay];exact lx _),ay,Nat.add_sub_cancel_left];rfl
 have lt:=AF (env:=X.env) (c.tl t .(1));have I:=AF (env:=X.env) (c.tl u .(1));exact gK J (R8 (Ss (c.nd t .(1)) at0 (.inl lt) (.inr lt)) (R8 (Ss (c.nd u .(1)) z (.inl I) (.inr I)) Z2 rfl) rfl) rfl rfl
def lL(L:List Str)(Z:Br [t,u] X.N++[t,u]=L)(c:mr X scope [t,u])(J:X.calm=O1)(W:G.K=X.K)(I:RU X G O1 (.Tuple [.Name t p1,.Name u p2] k1 pt) iter src)(T:∀s2 z fp,PFTs (Bg X scope L s2 z fp) G ifs ga)(U:∀s2 z fp,PF (Bg X scope L s2 z fp) G elt fe)(hs:∀x,lc iter X.env x=pure x:=by intro _;rfl):PN X G (.ListComp elt [⟨.Tuple [.Name t p1,.Name u p2] k1 pt,iter,ifs,0⟩] scope pos) (YB src ga fe):=
 λA=>Xn L Z c J I (gTwo W Z c J) bnd2 T U hs A
def cO2{t u:Str}(I:X.N=N)(hs:X.env.scope=sc)(h:Oh N sc scope [t,u]=O1:=by decide +kernel):mr X scope [t,u]:=TX I hs h
end
open Classical in
noncomputable def theD(g:GM)(P:List D->D->Prop):List D->Option D:=λds=>if h:∃d,g ds [] (λd' _=>d'=d)/\P ds d then O0 (choose h) else W1
def sU{g:GM}{P:List D->D->Prop}{d:D}(h:theD g P ds=O0 d):g ds [] (λd' _=>d'=d):=by
 unfold theD at h;split at h
 .rename_i q;cases h;exact (F9 q).1
 .cases h
def sV{g:GM}{P:List D->D->Prop}{d:D}(h:g ds [] λd' _=>d'=d)(p:P ds d):∃e,theD g P ds=O0 e/\P ds e:=by
 have q:∃d,g ds [] (λd' _=>d'=d)/\P ds d:=⟨d,h,p⟩;exact⟨Classical.choose q,dif_pos q,(F9 q).2⟩
section
variable {a:Expr}{es:List Expr}{fs:FA}{h:FXM}
theorem fM{k:Nat}{p:Pos}{d:Dx X.K X.mg x st ps}{g:GM}(F:hQ X.prog X.w X.K X.mg X.base CX0 k d.f d.fd ps (spM G g))(L:Room k' X.A)(S:SV X G (a::es) fs)(I:k<=k':=by omega)(W:Gl X x:=by rfl)(J:(x==("__debug__":Str))=O2:=by decide)(O:aw (a::es) X.env=(O2,eval a X.env)::aw es X.env:=by rfl)(z:(cS pos (aw es X.env)).any (·.1)=O2:=by rfl):PMX X G (.Call (.Name x p) (a::es) [] pos) (calX g fs):=lJ F (L.mono I) W d.m d.F.kp d.B S J O z
def sXM(O:X.N.Nodup)(i:Nat){x:Str}{p:Pos}(L:PMX X G a h)(I:X.N[i]?=O0 x:=by rfl)(z:Loc X.env.scope x:=by first | exact df rfl | exact cq rfl)(hs:eJ a (O0 (.Name x p)) pos.line X.env=pure O2:=by rfl)(J:X.fn x=O1∨X.env.scope.names.lookup x=O0 .local :=by first | exact .inl rfl | exact .inr rfl | assumption):PSM X G (.Assign [.Name x p] a pos) (RL i h):=lF (λ_ h=>Ys O I z h hs J) L
def mApp(L:List Nat)(O:PE X (.Name x xpos) (Sb i))(S:SV X G [a] fs)(I:eR (.Name x xpos) "append" X.env (eval (.Name x xpos) X.env)=eval (.Name x xpos) X.env:=by rfl)(J:((cS pos (aw [a] X.env)).all (λx=>!x.1)&&(ib pos (fR [] X.env)).all (λx=>x.1.isSome)&&decide ([a].length+([]:List hZ).length+(if ([]:List hZ).isEmpty then 0 else 1)<30))=O1:=by rfl)(z:(apos.endLine==pos.line)=O1:=by rfl)(hs:aw [a] X.env=[(O2,eval a X.env)]:=by rfl):PMX X G (.Call (.Attribute (.Name x xpos) "append" apos) [a] [] pos) (mutX i L VQ fs):=
 sS L AO E7 E8 Mg X_ lK O S I J z hs rfl
end
theorem fnDM{base:Heap}{k:Nat}{b:FM}{Pr:List D->D->Prop}(d:Dx G.K mg x st ps)(S:bc N ps (Ab st))(I:∀(cdv:ac) (A:aS) (z:List Env) (s:ah) (H:Hp) (E:XK),Room k (A.deeper (g9 x (Ab st) s.heap.objs.size d.f cdv))->TK (Qr CX0 P w G.K mg base N x (Ab st) d.f cdv A z s H E).nox G (Bf st) b)(Y:ps.length<=N.length:=by decide):
  hQ P w G.K mg base CX0 (k+1) d.f d.fd ps (Nd G (theD (runM N.length ps.length b) Pr)):=zr d.F S Y I λJ L h=>sU h
open PySem.Calls
def WO(z:Mu):D->D
 |.adr a=>(match z.lookup a with | some (.lst ds)=>.lst ds | _=>.adr a)
 |d=>d
def JR(I:Mu):Slot->Slot
 |.fz d=>.fz (WO I d)
 |z=>z
def Wb{I:Mu}(o:Nc G A0 He Hb A σ H ρ I){v:V}{d:D}(r:im G (bm A H) v d):im G (bm (A.filter λa=>decide (a∉tx I)) H) v (WO I d):=by
 have S:ab (bm A H) (bm (A.filter λa=>decide (a∉tx I)) H):=Ci λa U=>(dS.mp U).1;have O:=r.mono S;unfold WO;split
 .rename_i a;split
  .rename_i ds Y;cases r;have J:=OO Y;obtain⟨Z,W,L⟩:=o.top _ J;have T:a∉(A.filter λa=>decide (a∉tx I)):=λz=>(SI (dS.mp z).2) (Jg J);exact .lst (.of (by rw[Ax T];exact W)) L.1 (L.mono S).2
  .exact O
 .exact O
theorem Nc.lend{μ:Mu}(o:Nc G A0 He Hb A σ H ρ μ):Pt G (A.filter λa=>decide (a∉tx μ)) σ H (ρ.map (JR μ)):=by
 have TZ:∀{i:Nat}{d:D},(ρ.map (JR μ))[i]?=O0 (.ow d)->ρ[i]?=O0 (.ow d):=λ{i d} O=>by
  rw[ca] at O;cases q:ρ[i]? with
  |none=>rw[q] at O;cases O
  |some y=>
   rw[q] at O;cases y with
   |fz d=>cases O
   |ow d=>cases O;rfl
   |un=>cases O
 refine⟨by rw[ay];exact o.w.ok.len,λa J=>o.w.ok.live a (dS.mp J).1,λi d O=>?_,λi d O=>?_,λi j d e a W U S L=>o.w.ok.inj i j d e a (TZ W) (TZ U) S L⟩
 .rw[ca] at O;cases q:ρ[i]? with
  |none=>rw[q] at O;cases O
  |some y=>
   rw[q] at O;cases y with
   |fz Y=>
    cases O;obtain⟨v,q1,q2⟩:=o.w.ok.fz i Y q;exact⟨v,q1,Wb o q2⟩
   |ow d=>cases O
   |un=>cases O
 .obtain⟨a,q1,q2,q3⟩:=o.w.ok.ow i d (TZ O);have T:a∉tx μ:=λz=>o.w.ow0 i d a (TZ O) q1 (kU _ z);exact⟨a,q1,dS.mpr ⟨q2,QI T⟩,q3.sub λb I=>(dS.mp I).1⟩
def ifL(t:FT)(g L:FM):FM:=λρ z K=>match t (ρ.map (JR z)) with | some O1=>g ρ z K | some O2=>L ρ z K | none=>False
section
variable {a b c:Expr}{fa fb:FE}{p:Pos}{es:List Expr}{fs:FA}{g gs gb:FM}{h:FXM}
def bU(ht:Sr X G c ga)(h1:TK X G s1 g)(h2:TK X G s2 gs):PSM X G (.If c s1 s2 pos) (ifL ga g gs):=by
 rintro T O W s U H D I ⟨L,z,K,⟨A,S,w⟩,e,k⟩
 refine Z1 (@ht (A.filter λa=>decide (a∉tx z))) (@h1 T O) (@h2 T O) W s U H D I ?_;unfold ifL at e;split at e
 .rename_i J;exact⟨_,_,w.lend,J,λY s1=>WU ⟨L,z,K,⟨A,S,w.mono s1⟩,e,k⟩⟩
 .rename_i J;exact⟨_,_,w.lend,J,λY s1=>VO ⟨L,z,K,⟨A,S,w.mono s1⟩,e,k⟩⟩
 .exact e.elim
end
open PySem.SetTable (below insertAt Probe Met)
abbrev RO (l:List Nat):Prop:=l.Pairwise (·<·)
theorem Tw(xs:Array Nat)(J:RO xs.toList)(j:Nat):∀(f lo hi:Nat),hi-lo<=f->lo<=hi->hi<=xs.size->(∀i (h:i<xs.size),i<lo->xs[i]<j)->(∀i (h:i<xs.size),hi<=i->j<=xs[i]) ->
  lo<=below.go xs j f lo hi/\below.go xs j f lo hi<=hi/\(∀i (h:i<xs.size),i<below.go xs j f lo hi->xs[i]<j)/\(∀i (h:i<xs.size),below.go xs j f lo hi<=i->j<=xs[i])
 |0,lo,hi,Z,Y,hs,I,z=>by
  have:lo=hi:=by omega
  subst this;exact⟨aE _,aE _,I,z⟩
 |f+1,lo,hi,Z,Y,hs,I,z=>by
  have mono:∀a b (T:a<xs.size) (S:b<xs.size),a<=b->xs[a]<=xs[b]:=λa b T S O=>by
   rcases L5 O with h | h
   .have:=vj.mp J a b (by simpa using T) (by simpa using S) h;simp at this;omega
   .subst h;exact aE _
  have U:below.go xs j (f+1) lo hi=if lo<hi then (if xs.getD ((lo+hi)/2) j<j then below.go xs j f ((lo+hi)/2+1) hi else below.go xs j f lo ((lo+hi)/2)) else lo:=rfl
  by_cases c:lo<hi
  .have L:(lo+hi)/2<xs.size:=by omega
   have gd:xs.getD ((lo+hi)/2) j=xs[(lo+hi)/2]:=by simp[L]
   rw[U,WH c,gd]
   by_cases d:xs[(lo+hi)/2]<j
   .simp only[WH d];obtain⟨a,b,e,g⟩:=Tw xs J j f ((lo+hi)/2+1) hi .(0) .(0) hs (λi h W=>nI (mono i _ h L .(0)) d) z;exact⟨by omega,b,e,g⟩
   .simp only[ZH d];obtain⟨a,b,e,g⟩:=Tw xs J j f lo ((lo+hi)/2) .(0) .(0) .(0) I (λi h W=>by have:=mono _ i L h W;omega);exact⟨a,by omega,e,g⟩
  .rw[U,ZH c];have:lo=hi:=by omega
   subst this;exact⟨aE _,aE _,I,z⟩
def Ox(xs:Array Nat)(J:RO xs.toList)(j:Nat):below xs j<=xs.size/\(∀i (h:i<xs.size),i<below xs j->xs[i]<j)/\(∀i (h:i<xs.size),below xs j<=i->j<=xs[i]):=by
 have:=Tw xs J j xs.size 0 xs.size .(0) .(0) (aE _) (λ_ _ h=>by omega) (λi h L=>by omega);exact this.2
def below_at(xs:Array Nat)(J:RO xs.toList){i j:Nat}(h:xs[i]?=O0 j):below xs j=i:=by
 obtain⟨z,e⟩:=Fa.mp h;obtain⟨L,b1,b2⟩:=Ox xs J j
 rcases B4 (below xs j) i with c | c | c
 .have I:=b2 (below xs j) .(0) (aE _);have:=vj.mp J (below xs j) i (by simp;omega) (by simpa using z) c;simp at this;omega
 .exact c
 .have:=b1 i z c;omega
def VL{t:SetTable}(J:RO t.place.toList){i j:Nat}(h:t.place[i]?=O0 j):t.slot j=.live i:=by
 unfold L6;rw[below_at _ J h];simp[h]
def Za{t:SetTable}(I:t.dummies=#[]){j:Nat}(h:j∉t.place.toList):t.slot j=.empty:=by
 unfold L6;have L:¬ (t.place[below t.place j]?==O0 j)=O1:=λz=>by
  have:=eq_of_beq z;exact h (by have:=Array.mem_of_getElem? this;simpa using this)
 have J:L7 t.dummies j=O2:=by rw[I];rfl
 simp only[L,J];rfl
def ZO(m:Nat)(p:Probe):Probe:=if p.more > 0 then { p with j:=p.j+1,more:=p.more-1 } else { p with j:=(kP m p.i p.perturb).1,more:=eB m (kP m p.i p.perturb).1-(kP m p.i p.perturb).1,i:=(kP m p.i p.perturb).1,perturb:=(kP m p.i p.perturb).2 }
def lO(t:SetTable)(p:Probe):t.advance p=ZO t.mask p:=by
 unfold SetTable.advance ZO;split<;>rfl
def UY(m:Nat)(p:Probe):Nat->Probe
 |0=>p
 |n+1=>UY m (ZO m p) n
theorem VM(m:Nat):∀(n:Nat) (p:Probe),(UY m p n).dummy=p.dummy
 |0,_=>rfl
 |n+1,p=>by
  show (UY m (ZO m p) n).dummy=_;rw[VM m n];unfold ZO;split<;>rfl
theorem YC(t:SetTable)(z:Nat->Int)(h:Int):∀(n f:Nat) (p:Probe),n<f->(∀k,k<n->∃i,t.slot (UY t.mask p k).j=.live i/\z i≠h)->t.slot (UY t.mask p n).j=.empty->qc t z h f p=O0 (.empty (UY t.mask p n).j p.dummy)
 |0,f+1,p,_,_,e=>by
  unfold qc;have e:t.slot p.j=.empty:=e;rw[e];rfl
 |n+1,f+1,p,O,I,e=>by
  obtain⟨i,s,d⟩:=I 0 .(0);have s:t.slot p.j=.live i:=s;have J:=YC t z h n f (ZO t.mask p) .(0) (λk L=>I (k+1) .(0)) e;unfold qc;rw[s];show (if (z i==h)=O1 then _ else qc t z h f (t.advance p))=_;rw[ZH (by simpa using d),lO,J];rw[show (ZO t.mask p).dummy=p.dummy from VM t.mask 1 p];rfl
theorem bV(t:SetTable)(z:Nat->Int)(h:Int):∀(n f:Nat) (p:Probe) (i:Nat),n<f->(∀k,k<n->∃i,t.slot (UY t.mask p k).j=.live i/\z i≠h)->t.slot (UY t.mask p n).j=.live i->z i=h->∃I,qc t z h f p=O0 (.candidate (UY t.mask p n).j i I)
 |0,f+1,p,i,_,_,e,g=>by
  unfold qc;have e:t.slot p.j=.live i:=e;rw[e];show ∃I,(if (z i==h)=O1 then _ else _)=_;rw[WH (by simpa using g)];exact⟨_,rfl⟩
 |n+1,f+1,p,O,T,J,e,g=>by
  obtain⟨i,s,d⟩:=J 0 .(0);have s:t.slot p.j=.live i:=s;obtain⟨I,L⟩:=bV t z h n f (ZO t.mask p) O .(0) (λk S=>J (k+1) .(0)) e g;unfold qc;rw[s];show ∃I,(if (z i==h)=O1 then _ else qc t z h f (t.advance p))=_;rw[ZH (by simpa using d),lO,L];exact⟨I,rfl⟩
def NL(m:Nat)(h:Int)(n:Nat):Nat:=(UY m { j:=gL h%(m+1),more:=eB m (gL h%(m+1))-gL h%(m+1),i:=gL h%(m+1),perturb:=gL h,dummy:=W1 } n).j
def Cov(m:Nat)(h:Int):Prop:=∀j,j<=m->∃n,n<10*kQ m/\NL m h n=j
structure Tab (t:SetTable) (hs:List Int):Prop where
 len:t.place.toList.length=hs.length
 rise:RO t.place.toList
 dum:t.dummies=#[]
 mask:∀j∈t.place.toList,j<=t.mask
 room:hs.length<=t.mask
 far:∀q∈t.place.toList.zip hs,∃n,n<10*kQ t.mask/\NL t.mask q.2 n=q.1/\∀k,k<n->NL t.mask q.2 k∈t.place.toList
def least{P:Nat->Prop}(h:P n):∃m,m<=n/\P m/\∀k,k<m->¬ P k:=by
 induction n using Nat.strongRecOn with
 |ind n z=>
  by_cases c:∃k,k<n/\P k
  .obtain⟨k,I,T⟩:=c;obtain⟨m,a,b,d⟩:=z k I T;exact⟨m,by omega,b,d⟩
  .exact⟨n,aE _,h,λk I T=>c ⟨k,I,T⟩⟩
def Wc{t:SetTable}{hs:List Int}(T:Tab t hs){j:Nat}(h:j∈t.place.toList):∃i,i<hs.length/\t.place.toList[i]?=O0 j/\t.slot j=.live i:=by
 obtain⟨i,z,e⟩:=si.mp h;have O:t.place.toList[i]?=O0 j:=by rw[db z,e]
 exact⟨i,by rw[<-T.len];exact z,O,VL T.rise (by simpa using O)⟩
theorem TL:∀{l m:List Nat},l.Nodup->(∀x∈l,x∈m)->l.length<=m.length
 |[],m,_,_=>eK _
 |x::l,m,L,h=>by
  obtain⟨n1,n2⟩:=lI.mp L;have J:=h x .(1);have O:=TL (m:=m.erase x) n2 λy I=>(AV (show y≠x from λz=>n1 (z▸I))).mpr (h y (by simp[I]));rw[AW J] at O;have:=ve J;simp;omega
def e_{m:Nat}(L:RO l)(O:l.length<=m):∃j,j<=m/\j∉l:=by
 refine B5 λc=>?_;have sub:∀j,j<=m->j∈l:=λj U=>B5 λz=>c ⟨j,U,z⟩;have I:(bg (m+1)).Nodup:=ya;have:(bg (m+1)).length<=l.length:=by
  refine TL I λx J=>sub x ?_;have:=d4.mp J;omega
 rw[mN] at this;omega
theorem We{t:SetTable}{hs:List Int}(T:Tab t hs)(J:Nat->Int)(he:∀i h,hs[i]?=O0 h->J i=h)(nd:hs.Nodup){i:Nat}{h:Int}(L:hs[i]?=O0 h):∃j O,t.probe J h (t.probeStart h)=O0 (.candidate j i O):=by
 have Y:i<t.place.toList.length:=by rw[T.len];exact (iF.mp L).1
 have hz:(t.place.toList[i],h)∈t.place.toList.zip hs:=by
  refine yi.mpr ⟨i,?_⟩;rw[yk];exact⟨db Y,L⟩
 obtain⟨n,hn,Z,hb⟩:=T.far _ hz;simp only at Z hb;obtain⟨m,hm,⟨I,s1,g1⟩,hk⟩:=least (P:=λn=>∃i,t.slot (NL t.mask h n)=.live i/\J i=h) (n:=n) ⟨i,by rw[Z];exact VL T.rise (by simp[Y]),he i h L⟩;have N0:∀k,k<m->∃i,t.slot (NL t.mask h k)=.live i/\J i≠h:=λk W=>by
  obtain⟨i2,_,_,s2⟩:=Wc T (hb k .(0));exact⟨i2,s2,λz=>hk k W ⟨i2,s2,z⟩⟩
 obtain⟨O,e⟩:=bV t J h m (10*kQ t.mask) (t.probeStart h) I .(0) N0 s1 g1;have S:NL t.mask h m∈t.place.toList:=by
  rcases L5 hm with c | c
  .exact hb m c
  .rw[c,Z];exact gu Y
 obtain⟨i3,U,p3,s3⟩:=Wc T S;have ei:I=i3:=by
  have:=s1.symm.trans s3;injection this
 subst ei;have g3:=he I _ (db U);have:I=i:=by
  have e1:hs[I]?=O0 h:=by rw[db U,<-g3,g1]
  exact (Fc U nd).mp (e1.trans L.symm)
 subst this;exact⟨_,O,e⟩
theorem YD{t:SetTable}{hs:List Int}(T:Tab t hs)(L:Nat->Int)(Z:∀i h,hs[i]?=O0 h->L i=h){h:Int}(Y:h∉hs)(cv:Cov t.mask h):∃n,n<10*kQ t.mask/\NL t.mask h n∉t.place.toList/\(∀k,k<n->NL t.mask h k∈t.place.toList)/\t.probe L h (t.probeStart h)=O0 (.empty (NL t.mask h n) W1):=by
 obtain⟨j,W,O⟩:=e_ (m:=t.mask) T.rise (by rw[T.len];exact T.room);obtain⟨n0,S,e0⟩:=cv j W;obtain⟨n,hn,p,U⟩:=least (P:=λn=>NL t.mask h n∉t.place.toList) (n:=n0) (by rw[e0];exact O);have J:∀k,k<n->NL t.mask h k∈t.place.toList:=λk I=>B5 λz=>U k I z;refine⟨n,by omega,p,J,?_⟩;refine YC t L h n (10*kQ t.mask) (t.probeStart h) .(0) (λk I=>?_) (Za T.dum p);obtain⟨i,l,p',s⟩:=Wc T (J k I);refine⟨i,s,λz=>Y ?_⟩;have:=Z i _ (db l);rw[z] at this;rw[this];exact gu l
def Tz{z:Type}(xs:Array z)(p:Nat)(x:z):(insertAt xs p x).toList=xs.toList.take p++x::xs.toList.drop p:=by
 unfold insertAt;simp;rw[DO];simp
def Zb{xs:Array Nat}(L:RO xs.toList){j:Nat}(O:j∉xs.toList):(∀a∈xs.toList.take (below xs j),a<j)/\∀a∈xs.toList.drop (below xs j),j<a:=by
 obtain⟨T,b1,b2⟩:=Ox xs L j;refine⟨λa J=>?_,λa J=>?_⟩
 .obtain⟨i,I,rfl⟩:=si.mp J;rw[ic] at I;rw[L8];have:=b1 i (by simp at I;omega) .(0);simpa using this
 .have S:a∈xs.toList:=L9 J;obtain⟨i,I,rfl⟩:=si.mp J;rw[re] at I;rw[List.getElem_drop];have:=b2 (below xs j+i) (by simp at I;omega) .(0);have ne:¬ xs.toList[below xs j+i]'(by omega)=j:=λz=>O (z▸gu _);simp at this ne ⊢;omega
def lQ{J I:Type}{l:List J}{m:List I}{p:Nat}{q:J×I}(h:q∈(l.take p).zip (m.take p)):q∈l.zip m:=by
 obtain⟨i,z⟩:=yi.mp h;rw[yk] at z;have L:i<p:=by
  have:=(iF.mp z.1).1;rw[ic] at this;omega
 rw[D2 L,D2 L] at z;exact yi.mpr ⟨i,yk.mpr z⟩
def lR{I z:Type}{l:List I}{m:List z}{p:Nat}{q:I×z}(h:q∈(l.drop p).zip (m.drop p)):q∈l.zip m:=by
 obtain⟨i,J⟩:=yi.mp h;rw[yk,DL,DL] at J;exact yi.mpr ⟨p+i,yk.mpr J⟩
theorem Tab.put{t:SetTable}{hs:List Int}(T:Tab t hs){h:Int}{n j:Nat}(hn:n<10*kQ t.mask)(ej:NL t.mask h n=j)(hj:j∉t.place.toList)(hm:j<=t.mask)(hb:∀k,k<n->NL t.mask h k∈t.place.toList)(rm:hs.length+1<=t.mask):
  Tab (t.put j).1 (hs.take (t.put j).2++h::hs.drop (t.put j).2)/\(t.put j).2<=hs.length:=by
 have O:(t.put j).2=below t.place j:=rfl;have Y:(t.put j).1.place.toList=t.place.toList.take (below t.place j)++j::t.place.toList.drop (below t.place j):=Tz _ _ _;have J:(t.put j).1.mask=t.mask:=rfl;have hd:(t.put j).1.dummies=#[]:=by
  show (if L7 t.dummies j then _ else t.dummies)=_;rw[T.dum];rfl
 obtain⟨b0,b1,b2⟩:=Ox t.place T.rise j;obtain⟨s1,s2⟩:=Zb T.rise hj;have len:=T.len;have W:below t.place j<=hs.length:=by rw[<-len];simpa using b0
 have sub:∀x∈t.place.toList,x∈(t.put j).1.place.toList:=λx I=>by
  rw[Y];rw[<-B6 (below t.place j) t.place.toList] at I
  rcases dA.mp I with I | I
  .exact kU _ I
  .exact hU _ (ck _ I)
 refine⟨⟨?_,?_,hd,?_,?_,?_⟩,by rw[O];exact W⟩
 .rw[Y,O];simp only[eA,ic,ci,re];omega
 .rw[Y];have r:=T.rise;rw[<-B6 (below t.place j) t.place.toList] at r;obtain⟨r1,r2,r3⟩:=Lc.mp r;refine Lc.mpr ⟨r1,kL.mpr ⟨s2,r2⟩,λa Z b S=>?_⟩
  rcases br.mp S with z | z
  .rw[z];exact s1 a Z
  .exact r3 a Z b z
 .intro x I;rw[Y] at I;rw[J]
  rcases dA.mp I with I | I
  .exact T.mask x (Fh I)
  .rcases br.mp I with z | z
   .rw[z];exact hm
   .exact T.mask x (L9 z)
 .rw[J,O];simp only[eA,ic,ci,re];omega
 .intro q U;rw[Y,O,List.zip_append (by simp only[ic];omega),zt] at U;rw[J];have L:∀q∈t.place.toList.zip hs,∃n,n<10*kQ t.mask/\NL t.mask q.2 n=q.1/\∀k,k<n->NL t.mask q.2 k∈(t.put j).1.place.toList:=λq U=>by
   obtain⟨n,a,b,c⟩:=T.far q U;exact⟨n,a,b,λk J=>sub _ (c k J)⟩
  rcases dA.mp U with U | U
  .exact L q (lQ U)
  .rcases br.mp U with z | z
   .rw[z];exact⟨n,hn,ej,λk J=>sub _ (hb k J)⟩
   .exact L q (lR z)
def stA(m i pt:Nat):Probe:={ j:=i,more:=eB m i-i,i:=i,perturb:=pt,dummy:=W1 }
theorem Oz(m:Nat):∀(a b:Nat) (p:Probe),UY m p (a+b)=UY m (UY m p a) b
 |0,b,p=>by rw[mP];rfl
 |a+1,b,p=>by
  rw[Nat.add_right_comm];exact Oz m a b (ZO m p)
theorem Wf(m i pt:Nat):∀(k L:Nat),k<=L->∀c,UY m { j:=i+c,more:=L,i:=i,perturb:=pt,dummy:=W1 } k={ j:=i+c+k,more:=L-k,i:=i,perturb:=pt,dummy:=W1 }
 |0,L,_,c=>rfl
 |k+1,L,h,c=>by
  show UY m (ZO m _) k=_;have:ZO m { j:=i+c,more:=L,i:=i,perturb:=pt,dummy:=W1 }={ j:=i+(c+1),more:=L-1,i:=i,perturb:=pt,dummy:=W1 }:=by
   unfold ZO;rw[WH (show L > 0 by omega)];simp[zn]
  rw[this,Wf m i pt k (L-1) .(0) (c+1)];simp;omega
def T3(m i pt:Nat):UY m (stA m i pt) (eB m i-i+1)=stA m (kP m i pt).1 (kP m i pt).2:=by
 rw[Oz];have:=Wf m i pt (eB m i-i) (eB m i-i) (aE _) 0;rw[Ll] at this;unfold stA;rw[this];show ZO m _=_;unfold ZO;rw[ZH .(1)]
def Wg(m i pt k:Nat)(h:k<=eB m i-i):(UY m (stA m i pt) k).j=i+k:=by
 have:=Wf m i pt k (eB m i-i) h 0;rw[Ll] at this;unfold stA;rw[this]
def T4(m i:Nat):eB m i+1-i<=10/\i<=eB m i:=by
 unfold eB;split<;>omega
def Full(z:Array (Option Nat))(j:Nat):Prop:=(z.getD j (O0 0)).isNone=O2
theorem bW(m:Nat)(I:Array (Option Nat)):∀(f i pt j:Nat),yn m I f i pt=O0 j->∃n,n<10*f/\(UY m (stA m i pt) n).j=j/\(I.getD j (O0 0)).isNone=O1/\∀k,k<n->Full I (UY m (stA m i pt) k).j
 |0,i,pt,j,h=>by cases h
 |f+1,i,pt,j,h=>by
  obtain⟨Y,W⟩:=T4 m i;unfold yn at h;cases e:(bg (eB m i+1-i)).find? λk=>(I.getD (i+k) (O0 0)).isNone with
  |some k=>
   rw[e] at h;obtain rfl:i+k=j:=cy h;have S:=B7 e;rw[d4] at S;have T:=Fk e;refine⟨k,by omega,Wg m i pt k .(0),T,λJ U=>?_⟩;rw[Wg m i pt J .(0)];obtain⟨as,bs,O,L⟩:=(List.find?_eq_some_iff_append.mp e).2;have:J∈as:=by
    have Z:as.length=k:=by
     have:=RI (λl=>l[as.length]?) O;simp only[ja (aE _),rL,ku] at this;rw[xS (by
      have:=RI eC O;simp at this;omega)] at this
     exact cy this
    have:=RI (λl=>l[J]?) O;simp only[kr (show J<as.length by omega)] at this;rw[xS .(0)] at this;exact oS this.symm
   have:=L J this;unfold Full;simpa using this
  |none=>
   rw[e] at h;obtain⟨n,a,b,c,d⟩:=bW m I f _ _ j h;refine⟨eB m i-i+1+n,by omega,by rw[Oz,T3];exact b,c,λk S=>?_⟩
   by_cases z:k<=eB m i-i
   .rw[Wg m i pt k z];have:=Fn.mp e k (by rw[d4];omega);exact Lm.mpr this
   .have L:k=eB m i-i+1+(k-(eB m i-i+1)):=by omega
    rw[L,Oz,T3];exact d _ .(0)
def Np(m:Nat)(j:Nat):Nat->Nat->Nat->Bool
 |0,_,_=>O2
 |f+1,i,pt=>(decide (i<=j)&&decide (j<=eB m i))||Np m j f (kP m i pt).1 (kP m i pt).2
theorem VN(m:Nat)(z:Array (Option Nat))(j:Nat)(U:(z.getD j (O0 0)).isNone=O1):∀(f i pt:Nat),Np m j f i pt=O1->∃x,yn m z f i pt=O0 x
 |0,i,pt,h=>by cases h
 |f+1,i,pt,h=>by
  obtain⟨I,O⟩:=T4 m i;unfold yn;cases e:(bg (eB m i+1-i)).find? λk=>(z.getD (i+k) (O0 0)).isNone with
  |some k=>exact⟨_,rfl⟩
  |none=>
   unfold Np at h
   rcases Lo.mp h with h | h
   .rw[eD,XI,XI] at h;have:=Fn.mp e (j-i) (by rw[d4];omega);rw[show i+(j-i)=j by omega] at this;exact NI U this
   .exact VN m z j U f _ _ h
theorem bY(m j:Nat):∀(f i pt:Nat),Np m j f i pt=O1->∃n,n<10*f/\(UY m (stA m i pt) n).j=j
 |0,i,pt,h=>by cases h
 |f+1,i,pt,h=>by
  obtain⟨z,O⟩:=T4 m i;unfold Np at h
  rcases Lo.mp h with h | h
  .rw[eD,XI,XI] at h;exact⟨j-i,by omega,by rw[Wg m i pt (j-i) .(0)];omega⟩
  .obtain⟨n,a,b⟩:=bY m j f _ _ h;exact⟨eB m i-i+1+n,by omega,by rw[Oz,T3];exact b⟩
def VW(m:Nat)(h:Int):Prop:=∀j,j<=m->Np m j (kQ m) (gL h%(m+1)) (gL h)=O1
def VW.cov{m:Nat}{h:Int}(c:VW m h):Cov m h:=λj U=>bY m j _ _ _ (c j U)
theorem xu{m:Nat}{p:Probe}(h:p.j+p.more<=m):(ZO m p).j+(ZO m p).more<=m:=by
 unfold ZO;split
 .simp;omega
 .have Y:(kP m p.i p.perturb).1<=m:=sk (AY _ (vk m));obtain⟨z,O⟩:=T4 m (kP m p.i p.perturb).1;have:eB m (kP m p.i p.perturb).1<=m:=by
   unfold eB;split<;>omega
  simp;omega
theorem lU{m:Nat}:∀(n:Nat) {p:Probe},p.j+p.more<=m->(UY m p n).j<=m
 |0,p,h=>by show p.j<=m;omega
 |n+1,p,h=>lU n (xu h)
def Wh(m:Nat)(h:Int)(n:Nat):NL m h n<=m:=by
 refine lU n ?_;have Y:gL h%(m+1)<=m:=sk (AY _ (vk m));obtain⟨z,O⟩:=T4 m (gL h%(m+1));have:eB m (gL h%(m+1))<=m:=by
  unfold eB;split<;>omega
 show gL h%(m+1)+(eB m (gL h%(m+1))-gL h%(m+1))<=m;omega
structure Ow (m:Nat) (ow:Array (Option Nat)) (hs:List Int):Prop where
 size:ow.size=m+1
 own:∀i,i<hs.length->∃j:Nat,ow[j]?=O0 (O0 i)
 lt:∀(j i:Nat),ow[j]?=O0 (O0 i)->i<hs.length
 inj:∀(j k i:Nat),ow[j]?=O0 (O0 i)->ow[k]?=O0 (O0 i)->j=k
 far:∀(j i:Nat) (h:Int),ow[j]?=O0 (O0 i)->hs[i]?=O0 h->∃n,n<10*kQ m/\NL m h n=j/\∀k,k<n->∃x,ow[NL m h k]?=O0 (O0 x)
def VP{m:Nat}(hz:ow.size=m+1){j:Nat}(U:j<=m)(h:Full ow j):∃x,ow[j]?=O0 (O0 x):=by
 have Y:j<ow.size:=by omega
 unfold Full at h;rw[show ow.getD j (O0 0)=ow[j] by simp[Y]] at h;cases e:ow[j] with
 |none=>rw[e] at h;cases h
 |some x=>exact⟨x,by simp[Y,e]⟩
def Ow.free{m:Nat}{hs:List Int}(O:Ow m ow hs)(hl:hs.length<=m):∃j,j<=m/\(ow.getD j (O0 0)).isNone=O1:=by
 refine B5 λc=>?_;have L:∀j,j<=m->∃x,ow[j]?=O0 (O0 x):=λj U=>VP O.size U (by
  unfold Full;exact Lm.mpr λz=>c ⟨j,U,z⟩)
 have W:((bg (m+1)).map λj=>(ow.getD j W1).getD 0).Nodup:=by
  rw[lS,iA];refine qf (R:=λa b=>a<b) (λ{a b} T S Y z=>?_) Lu;have T:=d4.mp T;have S:=d4.mp S;obtain⟨x,I⟩:=L a .(0);obtain⟨y,J⟩:=L b .(0);have ex:(ow.getD a W1).getD 0=x:=by simp[I]
  have Z:(ow.getD b W1).getD 0=y:=by simp[J]
  rw[ex,Z] at z;subst z;have:=O.inj a b x I J;omega
 have:=TL (m:=bg hs.length) W λy J=>by
  obtain⟨j,U,rfl⟩:=bb.mp J;obtain⟨x,I⟩:=L j (by have:=d4.mp U;omega);rw[show (ow.getD j W1).getD 0=x by simp[I]];exact d4.mpr (O.lt j x I)
 simp at this;omega
def Rv(m:Nat)(z:Option (Array (Option Nat)×Nat))(h:Int):Option (Array (Option Nat)×Nat):=do
 let (owner,k) <-z
 let j <-yn m owner (kQ m) (gL h%(m+1)) (gL h)
 pure (owner.setIfInBounds j (O0 k),k+1)
def Ow.add{m:Nat}{hs:List Int}(O:Ow m ow hs)(hl:hs.length<=m){h:Int}(cv:VW m h):∃T,Rv m (O0 (ow,hs.length)) h=O0 (T,(hs++[h]).length)/\Ow m T (hs++[h]):=by
 obtain⟨j0,Y,f0⟩:=O.free hl;obtain⟨j,e⟩:=VN m ow j0 f0 _ _ _ (cv j0 Y);obtain⟨n,hn,hj,fr,bf⟩:=bW m ow _ _ _ j e;have ej:NL m h n=j:=hj;have jm:j<=m:=ej▸Wh m h n;have U:j<ow.size:=by rw[O.size];omega
 have nj:ow[j]?=O0 W1:=by
  rw[show ow.getD j (O0 0)=ow[j] by simp[U]] at fr;have:ow[j]=W1:=by simpa using fr
  simp[U,this]
 have J:∀k,(ow.setIfInBounds j (O0 hs.length))[k]?=if j=k then O0 (O0 hs.length) else ow[k]?:=λk=>by
  rw[Array.getElem?_setIfInBounds]
  by_cases c:j=k
  .subst c;simp[U]
  .simp[c]
 refine⟨ow.setIfInBounds j (O0 hs.length),?_,⟨by simp[O.size],λi Z=>?_,λk i I=>?_,λa b i S L=>?_,λk i g I W=>?_⟩⟩
 .unfold Rv;simp only[Lv,dn,e];simp
 .rw[eA,xk] at Z
  by_cases c:i=hs.length
  .exact⟨j,by rw[J,WH rfl,c]⟩
  .obtain⟨k,I⟩:=O.own i .(0);refine⟨k,?_⟩;rw[J,ZH (λz=>?_),I];rw[<-z,nj] at I;cases I
 .rw[J] at I;rw[eA,xk]
  by_cases c:j=k
  .rw[WH c] at I;have:=cy (cy I);omega
  .rw[ZH c] at I;have:=O.lt k i I;omega
 .rw[J] at S L
  by_cases c:j=a
  .by_cases d:j=b
   .omega
   .rw[WH c] at S;rw[ZH d] at L;have:=cy (cy S);have:=O.lt b i L;omega
  .by_cases d:j=b
   .rw[ZH c] at S;rw[WH d] at L;have:=cy (cy L);have:=O.lt a i S;omega
   .rw[ZH c] at S;rw[ZH d] at L;exact O.inj a b i S L
 .rw[J] at I;have up:∀k:Nat,(∃x,ow[k]?=O0 (O0 x))->∃x,(ow.setIfInBounds j (O0 hs.length))[k]?=O0 (O0 x):=by
   rintro k ⟨x,hx⟩
   rw[J]
   by_cases c:j=k
   .exact⟨_,WH c⟩
   .exact⟨x,by rw[ZH c,hx]⟩
  by_cases c:j=k
  .rw[WH c] at I;have ei:=cy (cy I);subst ei;rw[ja (aE _),rL] at W;have eg:h=g:=by simpa using W
   subst eg;exact⟨n,hn,by rw[ej];exact c,λk I=>up _ (VP O.size (Wh m h k) (bf k I))⟩
  .rw[ZH c] at I;have Z:=O.lt k i I;rw[kr Z] at W;obtain⟨n',a,b,d⟩:=O.far k i g I W;exact⟨n',a,b,λk I=>up _ (d k I)⟩
theorem YF(m:Nat):∀(r hs:List Int) (ow:Array (Option Nat)),Ow m ow hs->hs.length+r.length<=m->(∀h∈r,VW m h)->∃T,r.foldl (Rv m) (O0 (ow,hs.length))=O0 (T,(hs++r).length)/\Ow m T (hs++r)
 |[],hs,ow,O,_,_=>⟨ow,by simp,by simpa using O⟩
 |h::r,hs,ow,O,Y,J=>by
  simp only[ci] at Y;obtain⟨I,S,Z⟩:=O.add .(0) (J h .(1));obtain⟨z,L,U⟩:=YF m r (hs++[h]) I Z (by simp;omega) λg W=>J g (by simp[W]);refine⟨z,?_,by simpa using U⟩;rw[List.foldl_cons,S,L];simp
def fB(m:Nat)(hs:Array Int)(Y:hs.size<=m)(J:∀h∈hs.toList,VW m h):∃ow,LA m hs=O0 ow/\Ow m ow hs.toList:=by
 have z:∀(j i:Nat),(yA (m+1) (W1:Option Nat))[j]?=O0 (O0 i)->False:=λj i U=>by
  rw[Array.getElem?_replicate] at U;split at U
  .cases U
  .cases U
 have L:Ow m (yA (m+1) W1) []:=⟨by simp,λi I=>by simp at I,λj i U=>(z j i U).elim,λj k i U=>(z j i U).elim,λj i h U=>(z j i U).elim⟩;obtain⟨ow,e,O⟩:=YF m hs.toList [] _ L (by simpa using Y) J;refine⟨ow,?_,by simpa using O⟩;have:LA m hs=(hs.foldl (Rv m) (O0 (yA (m+1) W1,0))).map (·.1):=rfl;rw[this,<-Array.foldl_toList];rw[show (O0 (yA (m+1) W1,0):Option (Array (Option Nat)×Nat))=O0 (yA (m+1) W1,([]:List Int).length) from rfl,e];rfl
def sX(m fi mv:Nat)(ld pl:Bool)(es:Array (Int×ac))(hl:es.size<=m)(hc:∀e∈es.toList,VW m e.1):∃t ord,LB m fi mv ld pl (es.map (·.1))=O0 (t,ord)/\t.mask=m/\t.led=ld/\t.plain=pl/\(ord.filterMap (es[·]?)).toList.Perm es.toList/\Tab t ((ord.filterMap (es[·]?)).toList.map (·.1)):=by
 obtain⟨L,e,O⟩:=fB m (es.map (·.1)) (by simpa using hl) (λh hh=>by
  rw[Kb] at hh;obtain⟨x,Y,rfl⟩:=bb.mp hh;exact hc x Y)
 have T:(es.map (·.1)).toList.length=es.size:=by simp
 generalize I:((bg (m+1)).filterMap λj=>(L.getD j W1).map (j,·))=live;have S:∀(j i:Nat),(j,i)∈live↔L[j]?=O0 (O0 i):=λj i=>by
  rw[<-I,CA];constructor
  .rintro⟨k,Z,ek⟩;have Z:=d4.mp Z;have hs:k<L.size:=by rw[O.size];exact Z
   rw[show L.getD k W1=L[k] by simp[hs]] at ek;cases ec:L[k] with
   |none=>rw[ec] at ek;cases ek
   |some x=>
    rw[ec] at ek;have:=cy ek;simp only[sM] at this;obtain⟨rfl,rfl⟩:=this;simp[hs,ec]
  .intro h;obtain⟨hs,eh⟩:=Fa.mp h;refine⟨j,d4.mpr (by rw[<-O.size];exact hs),?_⟩;rw[show L.getD j W1=L[j] by simp[hs],eh];rfl
 have J:RO (live.map (·.1)):=by
  rw[<-I,RO,iA];refine List.Pairwise.filterMap _ (R:=λa b=>a<b) (λa b N0 x Y y hy=>?_) Lu;obtain⟨u,_,rfl⟩:=kx.mp Y;obtain⟨v,_,rfl⟩:=kx.mp hy;exact N0
 have nd:(live.map (·.2)).Nodup:=by
  rw[lS,iA];rw[RO,iA] at J;refine qf (λ{a b} ha hb N0 z=>?_) J;have h1:=(S a.1 a.2).mp ha;have h2:=(S b.1 b.2).mp hb;rw[<-z] at h2;have:=O.inj _ _ _ h1 h2;omega
 have lt:∀q∈live,q.2<es.size:=λq U=>by
  have:=O.lt q.1 q.2 ((S q.1 q.2).mp U)
  rwa [T] at this
 have W:(live.map (·.2)).Perm (bg es.size):=by
  refine (List.perm_ext_iff_of_nodup nd ya).mpr λi=>?_;rw[d4];constructor
  .intro h;obtain⟨q,U,rfl⟩:=bb.mp h;exact lt q U
  .intro h;obtain⟨j,hj⟩:=O.own i (by rw[T];exact h);exact bb.mpr ⟨(j,i),(S j i).mpr hj,rfl⟩
 have fm:((live.map (·.2)).toArray.filterMap (es[·]?)).toList=live.map λq=>es.getD q.2 (0,.none):=by
  rw[Array.toList_filterMap];show (live.map (·.2)).filterMap _=_;rw[Da];have:∀l:List (Nat×Nat),(∀q∈l,q.2<es.size)->l.filterMap ((λi=>es[i]?) ∘ λx=>x.2)=l.map λq=>es.getD q.2 (0,.none):=λl=>by
   induction l with
   |nil=>intro _;rfl
   |cons q r ih=>
    intro h;have U:=h q .(1);rw[List.filterMap_cons_some (b:=es.getD q.2 (0,.none)) (by simp[U]),ih λy hy=>h y (by simp[hy])];rfl
  exact this live lt
 refine⟨{ mask:=m,place:=(live.map (·.1)).toArray,dummies:=#[],finger:=fi,led:=ld,moves:=mv,plain:=pl },(live.map (·.2)).toArray,?_,rfl,rfl,rfl,?_,?_⟩
 .unfold LB;rw[e];simp only[Lv,dn,I];rfl
 .rw[fm];have e1:(live.map λq=>es.getD q.2 (0,.none))=(live.map (·.2)).map λi=>es.getD i (0,.none):=by rw[cb];rfl
  have e2:(bg es.size).map (λi=>es.getD i (0,.none))=es.toList:=by
   apply LD
   .simp
   .intro i h1 h2;simp at h1;simp[h1]
  rw[e1,<-e2];exact W.map _
 .rw[fm,cb];have zl:∀l:List (Nat×Nat),(l.map (·.1)).zip (l.map ((λx:Int×ac=>x.1) ∘ λq=>es.getD q.2 (0,.none)))=l.map λq=>(q.1,(es.getD q.2 (0,.none)).1):=λl=>by
   induction l with
   |nil=>rfl
   |cons q r ih=>rw[ba,ba,zt,ih];rfl
  refine⟨by simp,J,rfl,λj hj=>?_,?_,λq U=>?_⟩
  .have hj:j∈live.map (·.1):=hj;obtain⟨p,hp,rfl⟩:=bb.mp hj;have:=(Fa.mp ((S p.1 p.2).mp hp)).1;rw[O.size] at this;show p.1<=m;omega
  .rw[ay];have:=W.length_eq;rw[ay,mN] at this;show live.length<=m;omega
  .have U:q∈(live.map (·.1)).zip (live.map ((λx:Int×ac=>x.1) ∘ λq=>es.getD q.2 (0,.none))):=U;rw[zl] at U;obtain⟨p,hp,rfl⟩:=bb.mp U;have hm:=(S p.1 p.2).mp hp;have S0:=lt p hp;obtain⟨n,a,b,c⟩:=O.far p.1 p.2 (es.getD p.2 (0,.none)).1 hm (by simp[S0]);refine⟨n,a,b,λk Z=>?_⟩;obtain⟨x,Y⟩:=c k Z;exact bb.mpr ⟨(_,x),(S _ x).mpr Y,rfl⟩
abbrev jn:=Nat×Nat
def kk(p:jn):List Key:=[.inl (p.1:Int),.inl (p.2:Int)]
def hP(p:jn):Int:=BH (zk [(p.1:Int),(p.2:Int)])
def SL(p:jn):Prop:=p.1<5/\p.2<5
def covB(m:Nat)(h:Int):Bool:=(bg (m+1)).all λj=>Np m j (kQ m) (gL h%(m+1)) (gL h)
def all5:((bg 5).all λa=>(bg 5).all λb=>covB 7 (hP (a,b))&&covB 31 (hP (a,b)))=O1:=by decide +kernel
def dif5:((bg 25).all λa=>(bg 25).all λb=>a==b||!(hP (a/5,a%5)==hP (b/5,b%5)))=O1:=by decide +kernel
def cov5{p:jn}(h:SL p):VW 7 (hP p)/\VW 31 (hP p):=by
 have:=eS.mp (eS.mp all5 p.1 (d4.mpr h.1)) p.2 (d4.mpr h.2);rw[eD] at this;exact⟨λj U=>eS.mp this.1 j (d4.mpr .(0)),λj U=>eS.mp this.2 j (d4.mpr .(0))⟩
def inj5{p q:jn}(h:SL p)(k:SL q)(e:hP p=hP q):p=q:=by
 obtain⟨a,b⟩:=p;obtain⟨c,d⟩:=q;obtain⟨S,O⟩:a<5/\b<5:=h;obtain⟨L,J⟩:c<5/\d<5:=k;have:=eS.mp (eS.mp dif5 (5*a+b) (d4.mpr .(0))) (5*c+d) (d4.mpr .(0));rw[show (5*a+b)/5=a by omega,show (5*a+b)%5=b by omega,show (5*c+d)/5=c by omega,show (5*c+d)%5=d by omega,e] at this;simp at this;have I:a=c:=by omega
 have z:b=d:=by omega
 rw[I,z]
section
variable {A:aS}
def sY{p:jn}(h:SL p):vx (Av prog w) (kk p)=hP p:=by
 have e:∀n:Nat,n<5->(Av prog w).hash (.inl (n:Int))=(n:Int):=λn z=>by
  match n,z with
  |0,_=>rfl
  |1,_=>rfl
  |2,_=>rfl
  |3,_=>rfl
  |4,_=>rfl
 unfold vx hP kk;simp only[ba,fE,e p.1 h.1,e p.2 h.2]
def xx{p q:jn}(e:kk p=kk q):p=q:=by
 unfold kk at e;injection e with I z
 injection z with z _
 have L:=w9 I;have J:=w9 z;exact rd .(0) .(0)
abbrev SK (prog:cw) (w:bP) (h:Heap) (p:jn) (b:Addr):Prop:=SL p/\zi (Av prog w) h (kk p) b
def SK.keep{g:Heap}{p:jn}(x:SK prog w h p b)(k:∀o,h.get? b=O0 o->g.get? b=O0 o):SK prog w g p b:=by
 obtain⟨i,o,z,n,I,r⟩:=x;exact⟨i,o,z,n,k o I,r⟩
def SK.ne{p:jn}{t:SetTable}(x:SK prog w h p b)(g:h.get? a=O0 o)(d:o.data=.set es ep t):b≠a:=λz=>by
 subst z;obtain⟨_,O,L,n,I,_,J,_⟩:=x;cases g.symm.trans I;cases d.symm.trans J
structure FP (prog:cw) (w:bP) (h:Heap) (es:Array (Int×ac)) (t:SetTable) (qs:List (jn×Addr)):Prop where
 ent:es.toList=qs.map λx=>(hP x.1,aT x.2)
 isp:∀x∈qs,SK prog w h x.1 x.2
 nd:(qs.map (·.1)).Nodup
 tab:Tab t (es.toList.map (·.1))
 msk:(t.mask=7/\qs.length<=4)∨(t.mask=31/\qs.length<=18)
 led:btx w=O2->t.led=O1
 pln:t.plain=O1
def UP(prog:cw)(w:bP)(B:Addr->Prop)(h:Heap)(a:Addr)(ps:List jn):Prop:=∃es t qs,ObX h a es t/\FP prog w h es t qs/\(qs.map (·.1)).Perm ps/\∀x∈qs,B x.2
def FP.len{t:SetTable}{qs:List (jn×Addr)}(f:FP prog w h es t qs):es.size=qs.length:=by
 have:=RI eC f.ent;simpa using this
theorem FP.fits{h:Heap}{es:Array (Int×ac)}{t:SetTable}{qs:List (jn×Addr)}(f:FP prog w h es t qs):t.fits es.size=O1:=by
 have l:=f.tab.len;rw[ay,gy,gy] at l;have r:=f.tab.room;rw[ay,gy] at r;unfold LF LG;rw[f.tab.dum];simp[l,r]
def FP.hs{t:SetTable}{qs:List (jn×Addr)}(f:FP prog w h es t qs):es.toList.map (·.1)=qs.map λx=>hP x.1:=by
 rw[f.ent,cb];rfl
def FP.hnd{t:SetTable}{qs:List (jn×Addr)}(f:FP prog w h es t qs):(es.toList.map (·.1)).Nodup:=by
 rw[f.hs];have I:=f.nd;rw[lS,iA] at I ⊢;exact qf (λ{a b} L J O z=>O (inj5 (f.isp a L).1 (f.isp b J).1 z)) I
theorem FP.keep{h g:Heap}{es:Array (Int×ac)}{t:SetTable}{qs:List (jn×Addr)}(f:FP prog w h es t qs)(k:∀x∈qs,∀o,h.get? x.2=O0 o->g.get? x.2=O0 o):FP prog w g es t qs:=⟨f.ent,λx z=>(f.isp x z).keep (k x z),f.nd,f.tab,f.msk,f.led,f.pln⟩
def FP.odd{t:SetTable}{qs:List (jn×Addr)}(f:FP prog w h es t qs):t.gaveWay=O2:=by
 unfold SetTable.gaveWay
 rcases f.msk with ⟨e,_⟩ | ⟨e,_⟩<;>rw[e]<;>rfl
def FP.cov{t:SetTable}{qs:List (jn×Addr)}(f:FP prog w h es t qs){p:jn}(z:SL p):VW t.mask (hP p):=by
 rcases f.msk with ⟨e,_⟩ | ⟨e,_⟩<;>rw[e]
 .exact (cov5 z).1
 .exact (cov5 z).2
def bZ(n:Nat){p:jn}{b:Addr}{Q:Bool->ah->Prop}(x:SK prog w s.heap p b)(k:Q O2 s):ag (ai prog w) A (B8 (n+1) (.ref b)) Q E s:=by
 have ty:=x.2.typeIs;obtain⟨_,o,L,m,g,_,d,i⟩:=x;unfold B8;refine ae (xh ty ?_);show ag _ _ (if ("tuple"=="tuple")=O1 then _ else _) _ _ s;rw[WH (show (("tuple":String)=="tuple")=O1 by decide)];refine ae (av ?_);simp only[kR,dQ,WI];refine ae (n9 g d ?_);dsimp only;refine ae ?_;rw[<-vS];refine qr _ (λr q z=>q.1=W1/\z=s/\∀v∈r,BN v=O1) _ ?_ ?_ _ _ ⟨rfl,rfl,i.byValue⟩
 .rintro v r q z ⟨e,rfl,I⟩;have J:=I v .(1);have:B8 n v=pure O2:=by
   cases v with
   |ref a=>cases J
   |_=>first | rfl | (unfold B8;rfl)
  rw[this];refine ae (av ?_);simp only[dQ,WI];exact av ⟨rfl,rfl,λu S=>I u (by simp[S])⟩
 .rintro⟨q1,q2⟩ z ⟨e,rfl,_⟩;simp only at e;subst e;exact av k
def x_{p:jn}(x:SK prog w s.heap p b):∀(vs:List ac) {Q:Bool->ah->Prop},(∀v∈vs,∃q c,v=.ref c/\SK prog w s.heap q c)->Q O2 s->ag (ai prog w) A (LH (.ref b) vs) Q E s:=by
 intro vs Q O k;unfold LH;refine ae ?_;refine qr _ (λr q z=>q.1=W1/\z=s/\∀v∈r,∃q c,v=.ref c/\SK prog w s.heap q c) _ ?_ ?_ _ _ ⟨rfl,rfl,O⟩
 .rintro v r q z ⟨e,rfl,L⟩;obtain⟨q2,c,rfl,y⟩:=L v .(1);have I:∀v∈r,∃q c,v=.ref c/\SK prog w z.heap q c:=λu S=>L u (by simp[S]);dsimp only
  by_cases J:(b==c)=O1
  .rw[WH (by simp[J])];exact av ⟨rfl,rfl,I⟩
  .rw[ZH (by simp[J,BN])];refine ae (LI x.2 ?_);simp only[kR,dQ,WI];refine ae (LI y.2 ?_);simp only[kR,dQ,WI];refine ae (bZ 7 x ?_);simp only[dQ,WI];refine ae (bZ 7 y ?_);simp only[dQ,WI];exact av ⟨rfl,rfl,I⟩
 .rintro⟨q1,q2⟩ z ⟨e,rfl,_⟩;simp only at e;subst e;exact av k
def zu{p:jn}{Q:Bool->ah->Prop}(x:SK prog w s.heap p b)(k:Q O1 s):ag (ai prog w) A (B9 8 (.ref b)) Q E s:=by
 have ty:=x.2.typeIs;obtain⟨_,o,W,m,g,_,d,i⟩:=x;unfold B9;refine ae (mT ty vE.lookup ?_);dsimp only;refine ae (n9 g d ?_);refine ae ?_;show ag _ _ (forIn W _ _) _ _ s;rw[<-vS];refine qr _ (λr q z=>q.1=W1/\z=s/\∀v∈r,∃i t,v=.int i t) _ ?_ ?_ _ _ ⟨rfl,rfl,?_⟩
 .rintro v r q z ⟨e,rfl,T⟩;obtain⟨j,t,rfl⟩:=T v .(1);have:B9 7 (.int j t)=pure O1:=by unfold B9;rfl
  rw[this];refine ae (av ?_);simp only[kR,dQ,WI];exact av ⟨rfl,rfl,λu hu=>T u (by simp[hu])⟩
 .rintro⟨q1,q2⟩ z ⟨e,rfl,_⟩;simp only at e;subst e;exact av k
 .have:∀{O:List Key}{L:List ac},ItemsAre (Av prog w) O L->(∀k∈O,∃i,k=.inl i)->∀v∈L,∃i t,v=oa i t:=λ{O L} it=>by
   induction it with
   |nil=>intro _ v J;simp at J
   | @cons Z v0 Y U h1 _ ih=>
    intro I v J
    rcases br.mp J with rfl | J
    .obtain⟨i,rfl⟩:=I Z .(1)
     rcases Bm (show Q8 (.inl i) v=O1 from h1) with ⟨j,t,_,e⟩ | ⟨y,t,e,_⟩
     .exact⟨j,t,e⟩
     .cases e
    .exact ih (λk S=>I k (by simp[S])) v J
  exact this i λk I=>by
   unfold kk at I;simp only[br,JJ,or_false] at I
   rcases I with rfl | rfl
   .exact⟨_,rfl⟩
   .exact⟨_,rfl⟩
end
section
variable {A:aS}
abbrev nK (X:Cx):=R6 (Av X.prog X.w)
theorem Rw:∀{bs:List Addr}{us:List ac},cx (bs.map V.ref) us->us=bs.map aT
 |[],_,.nil=>rfl
 |c::bs,_,.cons r t=>by
  obtain rfl:=(show _=aT c from r);rw[Rw t];rfl
def tup_is(I:Inv X π σ H s){k:List Key}{c:Addr}(h:OL X.K H c (k.map kV)):zi (Av X.prog X.w) s.heap k c:=by
 obtain⟨z,r,⟨o,g,S,n,d⟩,_⟩:=I.tuple (show NR X.K H c (k.map kV) from h);exact⟨o,z.toArray,n,g,S,d,QJ r⟩
def Mt(I:Inv X π σ H s){ks:List (List Key)}{b:Addr}(h:NO X.K H ks b):PR (Av X.prog X.w) s.heap ks b:=by
 obtain⟨bs,J,S⟩:=h;obtain⟨z,r,⟨o,g,T,n,d⟩,O⟩:=I.tuple (show NR X.K H b (bs.map V.ref) from J);refine⟨o,z.toArray,n,g,T,d,?_⟩;rw[Rw r];show NkI (Av X.prog X.w) s.heap ks (bs.map aT);clear J r d O
 induction S with
 |nil=>exact .nil
 |cons h _ L=>exact .cons (tup_is I h) L
theorem Zc(I:Inv X π σ H s)(L:H a=O0 (.mem F X.K)):(a==gT)=O2/\∃xs,s.heap.DictOfH (nK X) a xs/\∀q∈xs,NO X.K H q.1 q.2.1/\VZ q.1/\cc (.int (F q.1)) q.2.2:=by
 obtain⟨hs,xs,z,o,S,T,g,O,d,e,J⟩:=(show BX X.prog X.w H s.heap a (.mem F X.K) from I.hok a _ L);exact⟨hs,xs,⟨o,S,T,g,O,d,e,λq U=>Mt I (z q U).1,J⟩,z⟩
def XZ:List (Nat×Nat)->Nat
 |[]=>0
 |p::r=>(5*p.1+p.2+1)+26*XZ r
theorem lV:∀{ps:List (Nat×Nat)}{n:Nat},ps.length<=n->(∀p∈ps,p.1<5/\p.2<5)->XZ ps<26^n
 |[],n,_,_=>KF .(1)
 |p::r,0,h,_=>by simp at h
 |p::r,n+1,h,z=>by
  have I:=lV (ps:=r) (n:=n) (by simpa using h) λq U=>z q (by simp[U]);have:=z p .(1);unfold XZ;rw[Nat.pow_succ];omega
theorem bh:∀{ps qs:List (Nat×Nat)},(∀p∈ps,p.1<5/\p.2<5)->(∀p∈qs,p.1<5/\p.2<5)->XZ ps=XZ qs->ps=qs
 |[],[],_,_,_=>rfl
 |[],q::s,_,U,e=>by unfold XZ at e;omega
 |p::r,[],I,_,e=>by unfold XZ at e;omega
 |p::r,q::s,I,U,e=>by
  have a:=I p .(1);have b:=U q .(1);unfold XZ at e;have S:5*p.1+p.2=5*q.1+q.2:=by omega
  have O:p.1=q.1:=by omega
  have L:p.2=q.2:=by omega
  have J:XZ r=XZ s:=by omega
  rw[bh (λx z=>I x (by simp[z])) (λx z=>U x (by simp[z])) J];rw[show p=q from rd O L]
theorem lW{ks:List (List (List Key))}(nd:ks.Nodup)(h:∀k∈ks,VZ k):ks.length<=sizeLine:=by
 have:∀k:List (List Key),∃n:Nat,VZ k->∃ps:List (Nat×Nat),k=ps.map (λp=>[.inl (p.1:Int),.inl (p.2:Int)])/\ps.length<=5/\(∀p∈ps,p.1<5/\p.2<5)/\n=XZ ps:=λk=>by
  by_cases I:VZ k
  .obtain⟨ps,S,L,T⟩:=I;exact⟨XZ ps,λ_=>⟨ps,S,L,T,rfl⟩⟩
  .exact⟨0,λz=>NI z I⟩
 obtain⟨f,U⟩:=Classical.axiomOfChoice this;have Y:∀k,VZ k->f k<26^5/\∀k',VZ k'->f k=f k'->k=k':=λk I=>by
  obtain⟨ps,S,L,T,Z⟩:=U k I;refine⟨by rw[Z];exact lV L T,λk' J e=>?_⟩;obtain⟨qs,g1,g2,g3,g4⟩:=U k' J;rw[Z,g4] at e;rw[S,g1,bh T g3 e]
 have W:(ks.map f).Nodup:=by
  rw[lS,iA];exact qf (λ{a b} ha hb O z=>O ((Y a (h a ha)).2 b (h b hb) z)) nd
 have:=TL (m:=bg (26^5)) W λy hy=>by
  obtain⟨k,I,rfl⟩:=bb.mp hy;exact d4.mpr (Y k (h k I)).1
 rw[ay,mN] at this;rw[hV];exact d6 this .(2)
def Qk(S:A.units+4<bv)(I:Inv X π σ H s)(J:H a=O0 (.mem F X.K))(z:NO X.K H ks b)(h:∀xs tk,s.heap.DictOfH (nK X) a xs->(∀q∈xs,NO X.K H q.1 q.2.1/\VZ q.1/\cc (.int (F q.1)) q.2.2)->Q (.bool (!(dE xs ks).isSome)) { s with toks:=tk }):ag (ai X.prog X.w) A (de .NotIn (.ref b) (.ref a)) Q E s:=by
 obtain⟨hs,xs,W,L⟩:=Zc I J;exact LJ (knd:=nK X) (by show A.units+1+1<bv;omega) (Mt I z) hs W (h xs _ W L)
theorem lX(z:H a=O0 (.mem F X.K)):gq H a (.mem F X.K)=H:=by
 funext c;unfold gq;split
 .rename_i e;rw[e,z]
 .rfl
theorem WS{v:ac}{Q:Unit->ah->Prop}(hu:A.units+4<bv)(I:Inv X π σ H s)(Z:H a=O0 (.mem F X.K))(Y:NO X.K H ks b)(hi:VZ ks)(rv:cc (.int (F ks)) v)(h:∀xs s',Inv X π σ H s'->s'.heap.DictOfH (nK X) a xs->(∀q∈xs,NO X.K H q.1 q.2.1/\VZ q.1/\cc (.int (F q.1)) q.2.2)->(dE xs ks).isSome=O1->Q () s'):ag (ai X.prog X.w) A (setItem (.ref a) (.ref b) v) Q E s:=by
 obtain⟨hs,xs,dd,al⟩:=Zc I Z;have nd:(xs.map (·.1)).Nodup:=let ⟨_,_,_,_,_,_,_,_,z⟩:=dd;z;have O:=lW nd λk Y=>by
  obtain⟨q,U,rfl⟩:=bb.mp Y;exact (al q U).2.1
 rw[ay] at O;refine IQ (knd:=nK X) (by show A.units+1+1<bv;omega) (Mt I Y) dd (λh' S sb=>?_) O;have T:∀q∈xl xs ks b v,NO X.K H q.1 q.2.1/\VZ q.1/\cc (.int (F q.1)) q.2.2:=λq U=>by
  unfold xl at U;split at U
  .obtain⟨x,W,e⟩:=bb.mp U;have ax:=al x W;unfold putAt at e;split at e
   .rename_i ek;rw[<-e];exact⟨ax.1,ax.2.1,ek▸rv⟩
   .rw[<-e];exact ax
  .rcases dA.mp U with U | U
   .exact al q U
   .obtain rfl:q=(ks,b,v):=by simpa using U
    exact⟨Y,hi,rv⟩
 have L:(dE (xl xs ks b v) ks).isSome=O1:=by
  cases J:dE xs ks with
  |none=>
   rw[storedH_new J];unfold dE;rw[xo,LL];exact⟨(ks,b,v),by simp,by simp⟩
  |some p=>
   rw[storedH_old J];unfold dE at J ⊢;obtain⟨x,W,e⟩:=kx.mp J;rw[xo,LL];have T0:=B7 W;have S0:=Fk W;refine⟨putAt ks v x,bb.mpr ⟨x,T0,rfl⟩,?_⟩;have:x.1=ks:=SI S0;unfold putAt;rw[WH this];simpa using this
 obtain⟨o',N1,P1,g',X0,d',e',S1,N0⟩:=id S;have I':=I.write (x:=a) (e:=a) (o:=.mem F X.K) (t':=s.toks+(nK X).draws ks) (by rw[Z];exact trivial) (.inl rfl) (λc q J z=>(sb.2 c J).trans z) ⟨o',g'⟩ (by
  rw[lX Z];exact⟨hs,_,T,o',N1,P1,g',X0,d',e',N0⟩)
 rw[lX Z] at I';exact h _ _ I' S T L
def bj{xs:List (List (List Key)×Addr×ac)}(Z:A.units+4<bv)(I:Inv X π σ H s)(O:NO X.K H ks b)(W:s.heap.DictOfH (nK X) a xs)(Y:∀q∈xs,NO X.K H q.1 q.2.1/\VZ q.1/\cc (.int (F q.1)) q.2.2)(L:(dE xs ks).isSome=O1)(h:∀u tk,cc (.int (F ks)) u->Q u { s with toks:=tk }):ag (ai X.prog X.w) A (nw (.ref a) (.ref b)) Q E s:=by
 obtain⟨p,z⟩:=D1.mp L;refine IP (knd:=nK X) (by show A.units+1+1<bv;omega) (Mt I O) W z (h _ _ ?_);unfold dE at z;obtain⟨x,J,e⟩:=kx.mp z;have T:=(Y x (B7 J)).2.2;have U:=Fk J;have S:x.1=ks:=SI U;rw[<-e,<-S];exact T
end
open PyProof.Rows (isTrue_and isTrue_not isTrue_and_nil)
def prD:D->Option jn
 |.tup [.int i,.int j]=>if 0<=i/\i<5/\0<=j/\j<5 then O0 (i.toNat,j.toNat) else W1
 |_=>W1
def Sf:List D->Option (List jn)
 |[]=>O0 []
 |d::r=>(prD d).bind λp=>(Sf r).map (p::·)
def Sl:D->Option (List jn)
 |.tup ds=>(Sf ds).bind λps=>if ps.length<=5 then O0 ps else W1
 |_=>W1
abbrev Tb (ps:List jn):List (List Key):=ps.map kk
section
def yC{A:List Addr}{d:D}{p:jn}(r:im G H v d)(e:prD d=O0 p):SL p/\∃c,v=.ref c/\OL G.K H c ((kk p).map kV):=by
 unfold prD at e;split at e
 .rename_i i j;split at e
  .rename_i h;cases e;cases r with
   | @tup c z S I L T=>
    refine⟨⟨by show i.toNat<5;omega,by show j.toNat<5;omega⟩,c,rfl,?_⟩;have:z=[.int i,.int j]:=by
     match z,L,T with
     |[x,y],_,T=>
      have J:=T 0 x (.int i) rfl rfl;have O:=T 1 y (.int j) rfl rfl;cases J;cases O;rfl
    rw[this] at I;show NR G.K H c [.int ((i.toNat:Nat):Int),.int ((j.toNat:Nat):Int)];rw[EQ h.1,EQ h.2.2.1];exact I
  .cases e
 .cases e
theorem Ry{H:Hp}:∀{ds:List D}{xs:List V}{ps:List jn},be G H xs ds->Sf ds=O0 ps->(∀p∈ps,SL p)/\∃bs:List Addr,xs=bs.map V.ref/\mh (λk c=>OL G.K H c (k.map kV)) (Tb ps) bs
 |[],xs,ps,r,e=>by
  cases e;have:xs=[]:=pj.mp r.1;subst this;exact⟨by simp,[],rfl,.nil⟩
 |d::ds,xs,ps,r,e=>by
  obtain⟨x,Y,rfl,S,O⟩:=r.uncons;unfold Sf at e;cases I:prD d with
  |none=>rw[I] at e;cases e
  |some p=>
   rw[I] at e;cases z:Sf ds with
   |none=>rw[z] at e;cases e
   |some Z=>
    rw[z] at e;cases e;obtain⟨W,c,rfl,L⟩:=yC (A:=[]) S I;obtain⟨T,bs,rfl,J⟩:=Ry O z;refine⟨λq U=>?_,c::bs,rfl,.cons L J⟩
    rcases br.mp U with rfl | U
    .exact W
    .exact T q U
def sZ{d:D}{ps:List jn}(r:im G H v d)(e:Sl d=O0 ps):∃b,v=.ref b/\NO G.K H (Tb ps) b/\VZ (Tb ps):=by
 unfold Sl at e;split at e
 .rename_i O;cases z:Sf O with
  |none=>rw[z] at e;cases e
  |some I=>
   rw[z] at e;have e:(if I.length<=5 then O0 I else W1)=O0 ps:=e;split at e
   .rename_i S;cases e;cases r with
    | @tup b U _ L J T=>
     obtain⟨W,bs,rfl,t⟩:=Ry (G:=G) (H:=H) ⟨J,T⟩ z;exact⟨b,rfl,⟨bs,L,t⟩,ps,rfl,S,W⟩
   .cases e
 .cases e
def Hy{K:aI}(s:ab H H')(h:NO K H ks b):NO K H' ks b:=by
 have T:∀{c:Addr}{xs:List V},OL K H c xs->OL K H' c xs:=λ{c xs} z=>by
  rcases z with (z | ⟨o,z⟩) | z
  .exact .inl (.inl (s _ _ z))
  .exact .inl (.inr ⟨o,s _ _ z⟩)
  .exact .inr z
 obtain⟨bs,J,I⟩:=h;exact⟨bs,T J,Paired.mapP I λ_ _ z=>T z⟩
def Ii(Z:X.N[i]?=O0 x)(T:Xt X.env.scope x)(L:(x==("__debug__":Str))=O2)(O:(x==("__classdict__":Str))=O2)(I:Inv X π σ H s)(e:σ[i]?=O0 (O0 v))(k:∀u,cc v u->Q u s):ag (ai X.prog X.w) X.A (eval (.Name x pos) X.env) Q E s:=by
 obtain⟨m,U,Y⟩:=I.loc;obtain⟨u,r,l⟩:=Y i x v Z e T
 rcases l with ⟨J,W⟩ | ⟨J,c,S,z⟩
 .exact sR (GW I.ok.kind J U W (k u r)) L
 .rcases J with J | J
  .exact sR (GY I.ok.kind J S z (k u r)) L
  .exact sR (HA I.ok.kind J S z (k u r) O) L
structure Fm (X:Cx) (σ:St) (H:Hp) (i:Nat) (f:Str) (m:Addr) (F:List (List Key)->Int):Prop where
 at_:∃a C dx fs,σ[i]?=O0 (O0 (.ref a))/\H a=O0 (.ins C dx fs)/\On X.K C/\BV X.K C f/\fs.lookup f=O0 (.ref m)
 mem:H m=O0 (.mem F X.K)
def Fm.mono{m:Addr}(h:Fm X σ H i f m F)(s:ab H H'):Fm X σ H' i f m F:=by
 obtain⟨⟨a,C,dx,fs,J,I,T⟩,z⟩:=h;exact⟨⟨a,C,dx,fs,J,s _ _ I,T⟩,s _ _ z⟩
theorem Nq{m:Addr}(W:X.N[i]?=O0 x)(L:Xt X.env.scope x)(T:(x==("__debug__":Str))=O2)(J:(x==("__classdict__":Str))=O2)(U:eR (.Name x p1) f X.env (eval (.Name x p1) X.env)=eval (.Name x p1) X.env)(I:Inv X π σ H s)(h:Fm X σ H i f m F)(k:∀tk,Q (.ref m) { s with toks:=tk }):ag (ai X.prog X.w) X.A (eval (.Attribute (.Name x p1) f p2) X.env) Q E s:=by
 obtain⟨⟨a,C,dx,fs,Z,Y,c,n,l⟩,_⟩:=h;refine Vp U (Ii W L T J I Z λu r=>?_);obtain rfl:u=aT a:=r;obtain⟨mA,O,r,_,_,_⟩:=Mf I.hok Y;obtain⟨u,S,z⟩:=OV.some_of (v:=.ref m) (o:=mA f) (by rw[<-l];exact r f);obtain rfl:u=aT m:=z;exact Vo I.kIn O (c.get f) c.hd n S (QF (v:=.ref m) rfl) (k _)
def lY(hG:G.K=X.K)(I:∀c C,G.cl c=O0 C->On X.K C/\BV X.K C f)(o:Pt G A σ H ρ)(e:uF (fx f) (vF i) ρ=O0 (.mem F)):∃m,Fm X σ H i f m F:=by
 obtain⟨S,L,J⟩:=Ez e;have O:ρ[i]?=O0 (.fz S):=by
  unfold vF at L;split at L
  .rename_i z O;cases L;exact O
  .cases L
 obtain⟨v,h1,h2⟩:=o.fz i S O;unfold fx at J;split at J
 .rename_i cn gs;cases h2 with
  | @ob a C dx c fs _ q1 q2 q3 T=>
   have Y:=RI eC q3;rw[ay,ay] at Y;obtain⟨v2,U,Z⟩:=Qf (f:=f) (d:=.mem F) (G:=G) q3 ⟨by rw[ay,ay];exact Y,T⟩ J;cases Z with
   | @mem m _ W=>exact⟨m,⟨a,C,dx,fs,h1,Am _ _ q2,(I _ _ q1).1,(I _ _ q1).2,U⟩,by rw[<-hG];exact Am _ _ W⟩
 .cases J
def Lg{d:D}{ps:List jn}(W:G.K=X.K)(o:Pt G A σ H ρ)(e:vF j ρ=O0 d)(S:Sl d=O0 ps):∃b,σ[j]?=O0 (O0 (.ref b))/\NO X.K H (Tb ps) b/\VZ (Tb ps):=by
 have O:ρ[j]?=O0 (.fz d):=by
  unfold vF at e;split at e
  .rename_i z O;cases e;exact O
  .cases e
 obtain⟨v,L,J⟩:=o.fz j d O;obtain⟨b,rfl,T,I⟩:=sZ J S;exact⟨b,L,by rw[<-W];exact Hy Am T,I⟩
def memR(i:Nat)(f:Str)(j:Nat)(z:FE):FS:=λρ=>match uF (fx f) (vF i) ρ,(vF j ρ).bind Sl,z ρ with
 |some (.mem F),O0 ps,O0 (.int v)=>if v=F (Tb ps) then O0 (.rt (.int v) ρ) else W1
 |_,_,_=>W1
def memZ(i:Nat)(f:Str)(j:Nat)(ft:FT):FS:=λρ=>match uF (fx f) (vF i) ρ,(vF j ρ).bind Sl,ft ρ with
 |some (.mem F),O0 ps,O0 t=>if t=O1∨F (Tb ps)=0 then O0 (.nx ρ) else W1
 |_,_,_=>W1
theorem lZ{z:Expr}{fv:FE}{Y W:Pos}(hu:X.A.units+64<bv)(hG:G.K=X.K)(Y1:∀c C,G.cl c=O0 C->On X.K C/\BV X.K C f)(hN:X.N[i]?=O0 x)(hv:Xt X.env.scope x)(X0:X.N[j]?=O0 y)(Z:Xt X.env.scope y)(hval:PF X G z fv)(hs:eJ z (O0 (.Subscript (.Attribute (.Name x p5) f p6) (.Name y p7) p8)) p9.line X.env=pure O2:=by rfl)(hm:fw .NotIn (.Attribute (.Name x p2) f p3)=O2:=by rfl)(X1:NoSl (.Name y p13):=by intro _ _;rfl)(hd:(x==("__debug__":Str))=O2:=by decide)(S0:(x==("__classdict__":Str))=O2:=by decide)(N0:(y==("__debug__":Str))=O2:=by decide)(O:(y==("__classdict__":Str))=O2:=by decide)(hb:∀p,eR (.Name x p) f X.env (eval (.Name x p) X.env)=eval (.Name x p) X.env:=by intro _;rfl):
    RS X G [.If (.Compare (.Name y p1) [.NotIn] [.Attribute (.Name x p2) f p3] p4) [.Assign [.Subscript (.Attribute (.Name x p5) f p6) (.Name y p7) p8] z p9] [] p10,.Return (O0 (.Subscript (.Attribute (.Name x p11) f p12) (.Name y p13) Y)) W] (memR i f j fv):=by
  rintro A0 He π s σ H D I ⟨ρ,o,⟨A,w⟩,e,k⟩
  unfold memR at e;split at e
  . rename_i F ps v ef ek ev
    split at e
    . rename_i hF
      cases e;obtain⟨dk,U2,T2⟩:=yB.mp ek;obtain⟨m,fm⟩:=lY (X:=X) hG Y1 w.ok ef;obtain⟨b,T0,mk,kin⟩:=Lg (X:=X) hG w.ok U2 T2;have Q2:∀(L:Hp) (s':ah) (J:List (List (List Key)×Addr×ac)),ab H L->Inv X π σ L s'->s'.heap.DictOfH (nK X) m J->(∀q∈J,NO X.K L q.1 q.2.1/\VZ q.1/\cc (.int (F q.1)) q.2.2)->(dE J (Tb ps)).isSome=O1 ->
          ag (ai X.prog X.w) X.A (exec (.Return (O0 (.Subscript (.Attribute (.Name x p11) f p12) (.Name y p13) Y)) W) X.env) (SP X π D) X.xe s':=λL s' J S U dd al pr=>by
        refine A4 (aB EG.lookup X1 (Nq hN hv hd S0 (hb _) U (fm.mono S) λtk=>Ii X0 Z N0 O (U.tok tk) T0 λu r=>⟨dd.typeIs,?_⟩));obtain rfl:u=aT b:=r;refine bj (F:=F) .(0) (U.tok tk) (Hy S mk) dd al pr λu T ru=>⟨.int v,σ,L,(U.tok tk).tok T,by rw[hF];exact ru,?_⟩;exact k (.int v) σ L A (w.mono S) (.int v)
      have il:∀(L:Hp) (s':ah) (J:List (List (List Key)×Addr×ac)),ab H L->Inv X π σ L s'->s'.heap.DictOfH (nK X) m J->(∀q∈J,NO X.K L q.1 q.2.1/\VZ q.1/\cc (.int (F q.1)) q.2.2)->(dE J (Tb ps)).isSome=O1 ->
          ag (ai X.prog X.w) X.A (ke [.Return (O0 (.Subscript (.Attribute (.Name x p11) f p12) (.Name y p13) Y)) W] X.env) (SP X π D) X.xe s':=λL s' J S U dd al pr=>by
        refine kX (la (Q2 L s' J S U dd al pr) λfl s1 q=>?_);cases fl with
        |next=>
          obtain⟨P1,H2,I2,q⟩:=q;exact JM (X:=X) π s1 P1 H2 D I2 q
        |ret v=>exact q
        |brk=>exact q
        |cont=>exact q
      refine kX (wb (sT (Ii X0 Z N0 O I T0 λu r=>Nq hN hv hd S0 (hb _) I fm λtk=>?_) hm));obtain rfl:u=aT b:=r;refine Qk (F:=F) .(0) (I.tok tk) fm.mem mk λJ T dd al=>jS ?_;cases pr:(dE J (Tb ps)).isSome with
      |true=>
        show ag _ _ (ke [] X.env) _ _ _;exact kA (il H _ J (ab.refl H) ((I.tok tk).tok T) dd al pr)
      |false=>
        show ag _ _ (ke [_] X.env) _ _ _;have I2:=(I.tok tk).tok T;refine kX (AE (la (@hval A π _ σ H (λx H1=>ab H H1/\x=.int v) I2 ⟨ρ,_,w.ok,ev,λv1 H1 s1 r1=>⟨s1,by cases r1;rfl⟩⟩) λr1 s1 q0=>?_) hs);obtain⟨v1,H1,I1,rv,S,S2⟩:=q0;subst S2;refine Nq hN hv hd S0 (hb _) I1 (fm.mono S) λN1=>Ii X0 Z N0 O (I1.tok N1) T0 λu r=>?_;obtain rfl:u=aT b:=r;refine WS (F:=F) .(0) (I1.tok N1) (S _ _ fm.mem) (Hy S mk) kin (by rw[<-hF];exact rv) λS1 s' U X2 Y2 U1=>?_;exact kA (il H1 s' S1 S U X2 Y2 U1)
    . cases e
  . cases e
theorem lg{O:Expr}{jj:Nat}(hu:X.A.units+64<bv)(hG:G.K=X.K)(P1:∀c C,G.cl c=O0 C->On X.K C/\BV X.K C f)(hN:X.N[i]?=O0 x)(hv:Xt X.env.scope x)(X0:X.N[j]?=O0 y)(Z:Xt X.env.scope y)(ht:Sr X G O ft)(hs:eJ (.Constant (.int 0) jj p9) (O0 (.Subscript (.Attribute (.Name x p5) f p6) (.Name y p7) p8)) p10.line X.env=pure O2:=by rfl)(hm:fw .NotIn (.Attribute (.Name x p2) f p3)=O2:=by rfl)(hd:(x==("__debug__":Str))=O2:=by decide)(S0:(x==("__classdict__":Str))=O2:=by decide)(N0:(y==("__debug__":Str))=O2:=by decide)(S:(y==("__classdict__":Str))=O2:=by decide)(hb:∀p,eR (.Name x p) f X.env (eval (.Name x p) X.env)=eval (.Name x p) X.env:=by intro _;rfl):
  UR X G (.If (.BoolOp .And [.Compare (.Name y p1) [.NotIn] [.Attribute (.Name x p2) f p3] p4,.UnaryOp .Not O p11] p12) [.Assign [.Subscript (.Attribute (.Name x p5) f p6) (.Name y p7) p8] (.Constant (.int 0) jj p9) p10] [] p13) (memZ i f j ft):=by
 rintro A0 He W s U H D I ⟨ρ,o,⟨A,w⟩,e,k⟩
 unfold memZ at e;split at e
 .rename_i F ps t ef ek et;split at e
  .rename_i hF;cases e;obtain⟨dk,U1,S1⟩:=yB.mp ek;obtain⟨m,fm⟩:=lY (X:=X) hG P1 w.ok ef;obtain⟨b,T0,mk,kin⟩:=Lg (X:=X) hG w.ok U1 S1;have z:∀(J:Hp) (s':ah),ab H J->Inv X W U J s'->SP X W D .next s':=λJ s' L I'=>⟨U,J,I',k U J ⟨A,w.mono L⟩⟩;have put:∀(J:Hp) (s':ah),ab H J->Inv X W U J s'->F (Tb ps)=0->ag (ai X.prog X.w) X.A (ke [.Assign [.Subscript (.Attribute (.Name x p5) f p6) (.Name y p7) p8] (.Constant (.int 0) jj p9) p10] X.env) (SP X W D) X.xe s':=λJ s' L I' h0=>by
    refine kX (AE (C5 ?_) hs);have T:=I'.tok (s'.toks+1);refine Nq hN hv hd S0 (hb _) T (fm.mono L) λY=>Ii X0 Z N0 S (T.tok Y) T0 λu r=>?_;obtain rfl:u=aT b:=r;refine WS (F:=F) .(0) (T.tok Y) (L _ _ fm.mem) (Hy L mk) kin (by rw[h0];exact⟨_,rfl⟩) λX1 s2 I3 Q2 S2 Y1=>?_;exact kA (z J s2 L I3)
   refine wb (t5 (sT (Ii X0 Z N0 S I T0 λu r=>Nq hN hv hd S0 (hb _) I fm λtk=>?_) hm));obtain rfl:u=aT b:=r;refine Qk (F:=F) .(0) (I.tok tk) fm.mem mk λxs N1 dd al=>jS ?_;have T:=(I.tok tk).tok N1;cases pr:(dE xs (Tb ps)).isSome with
   |true=>
    show ag _ _ (ke [] X.env) _ _ _;exact kA (z H _ (ab.refl H) T)
   |false=>
    show ag _ _ (oj _ _ _) _ _ _;refine t5 (C8 (la (@ht A W _ U H (λb H1=>ab H H1/\b=t) T ⟨ρ,_,w.ok,et,λH1 s1=>⟨s1,rfl⟩⟩) λb s1 q9=>?_));obtain⟨H1,I1,L,eb⟩:=q9;subst eb;cases b with
    |true=>
     show ag _ _ (ke [] X.env) _ _ _;exact kA (z H1 s1 L I1)
    |false=>
     refine C7 ?_;show ag _ _ (ke [_] X.env) _ _ _;exact put H1 s1 L I1 (hF.resolve_left .(1))
  .cases e
 .cases e
def memE(z:Rho->Option (List (List Key)->Int)):FE:=λρ=>(z ρ).map .mem
theorem yD{J:Rho->Option (List (List Key)->Int)}(W:G.K=X.K):PF X G (.Dict [] [] pos) (memE J):=by
 rintro A π s σ H Q I ⟨ρ,d,o,e,k⟩
 unfold memE at e;obtain⟨F,_,rfl⟩:=kx.mp e;have T:(s.heap.objs.size==gT)=O2:=(show BX X.prog X.w (gq H s.heap.objs.size (.dK [])) _ _ (.dK []) from Xe s.heap I.big).2.1;have z:H s.heap.objs.size=W1:=I.hok.fresh (aE _);obtain⟨L,Z,ep,U,Y,d1,e1,_,O⟩:=Heap.DictOfH.new (knd:=nK X) s.heap;refine DJ ⟨.ref s.heap.objs.size,_,I.laid (a:=s.heap.objs.size) (o:=.mem F X.K) (t':=s.toks) (λ_ _ q=>bn _ q) (aE _) ⟨T,[],by simp,L,Z,ep,U,Y,d1,e1,O⟩,rfl,k _ _ (Ak z _) (.mem ?_)⟩;unfold bm;rw[ZH,W]
 .exact Aj
 .intro S;have:=o.live _ S;rw[z] at this;exact NI rfl this.1
end
def ZT(ps:List jn)(p:jn):List jn:=if p∈ps then ps else ps++[p]
section
variable {A:aS}
def yE{h:Int}(e:(es.toList.map (·.1))[i]?=O0 h):∃v,es[i]?=O0 (h,v):=by
 rw[ca] at e;obtain⟨x,z,rfl⟩:=kx.mp e;exact⟨x.2,by rw[<-Fs];exact z⟩
theorem su{t:SetTable}{qs:List (jn×Addr)}{p:jn}{Q:SetFound->ah->Prop}(hu:A.units<bv)(g:s.heap.get? a=O0 o)(d:o.data=.set es ep t)(f:FP prog w s.heap es t qs)(y:SK prog w s.heap p b)(k1:p∈qs.map (·.1)->Q (.there W1) s)(k2:p∉qs.map (·.1)->∀n,n<10*kQ t.mask->NL t.mask (hP p) n∉t.place.toList->(∀k,k<n->NL t.mask (hP p) k∈t.place.toList)->Q (.free (NL t.mask (hP p) n) O2) s):ag (ai prog w) A (setSearch a (.ref b) (hP p) (adding:=O1)) Q E s:=by
  unfold setSearch Fu;refine ae (o0 g d f.fits ?_);dsimp only;rw[f.odd];simp only[dQ,WI];have ha:∀(i:Nat) (h:Int),(es.toList.map (·.1))[i]?=O0 h->(es[i]?.map (·.1)).getD 0=h:=λi h e=>by
    obtain⟨v,T⟩:=yE e;rw[T];rfl
  by_cases m:p∈qs.map (·.1)
  . obtain⟨x,I,J⟩:=bb.mp m
    obtain⟨i,hi,ei⟩:=si.mp I;have hh:(es.toList.map (·.1))[i]?=O0 (hP p):=by
      rw[f.hs,ca,db hi,ei,<-J];rfl
    obtain⟨j,nx,e⟩:=We f.tab _ ha f.hnd hh;have e':t.probe (λi=>(es[i]?.map (·.1)).getD 0) (hP p) (Bi W1 (t.probeStart (hP p)))=O0 (.candidate j i nx):=e;have ev:es[i]?=O0 (hP x.1,aT x.2):=by
      rw[<-Fs,f.ent,ca,db hi,ei];rfl
    have yx:=f.isp x I;have il:ag (ai prog w) A (do
        let O0 (_,y):=es[i]? | FB "internal:set-entry"
        let equal <-li [y] (eqBool y (.ref b))
        let (es',_,t') <-setState a
        if O1&&equal then return SetFound.there W1
        let O0 same:=t'.sameMemory t.moves t.mask | FB "set.changed-during-lookup:is-the-new-block-at-the-old-address"
        let still <-match (if same then t'.slot j else .empty) with
          |.live O=>match es'[O]? with
            |some (_,y')=>do pure (if <-isSame y' y then O0 O else W1)
            |none=>pure W1
          |_=>pure W1
        match still with
        |none=>rule "set.search.anew";Fu a (.ref b) (hP p) O1 99999 W1
        |some O=>if equal then return .there (O0 O) else Fu a (.ref b) (hP p) O1 99999 (O0 nx)) Q E s:=by
      rw[ev];dsimp only;refine ae (wpAny_holding (GI hu yx.2 y.2 ?_));rw[QI (show kk x.1=kk p by rw[J])];refine ae (o0 g d f.fits ?_);dsimp only;simp only[Bool.and_self,VI];exact av (k1 m)
    show ag _ _ (match t.probe (λi=>(es[i]?.map (·.1)).getD 0) (hP p) (Bi W1 (t.probeStart (hP p))) with | some L=>_ | _=>_) _ _ _;rw[e'];dsimp only
    by_cases ld:t.led=O1
    . rw[ld]
      simp only[kR,dQ,WI];exact il
    . have S:t.led=O2:=by simpa using ld
      rw[S];simp only[GL,VI];refine ae (x_ y _ (λv T=>?_) ?_)
      . obtain⟨e1,Z,rfl⟩:=bb.mp T
        have:e1∈es.toList:=by
          have:=CB.mp Z;rw[Array.mem_filter] at this;exact CB.mpr this.1
        rw[f.ent] at this;obtain⟨z,hz,rfl⟩:=bb.mp this;exact⟨z.1,z.2,rfl,f.isp z hz⟩
      . simp only[dQ,WI]
        exact il
  . have hn:hP p∉es.toList.map (·.1):=λz=>by
      rw[f.hs] at z;obtain⟨x,I,J⟩:=bb.mp z;exact m (bb.mpr ⟨x,I,inj5 (f.isp x I).1 y.1 J⟩)
    obtain⟨n,Y,W,U,e⟩:=YD f.tab _ ha hn (f.cov y.1).cov;have e':t.probe (λi=>(es[i]?.map (·.1)).getD 0) (hP p) (Bi W1 (t.probeStart (hP p)))=O0 (.empty (NL t.mask (hP p) n) W1):=e;show ag _ _ (match t.probe (λi=>(es[i]?.map (·.1)).getD 0) (hP p) (Bi W1 (t.probeStart (hP p))) with | some L=>_ | _=>_) _ _ _;rw[e'];dsimp only;exact av (k2 m n Y W U)
end
section
variable {A:aS}
def lr{I:Array (Int×ac)}{t t':SetTable}{Q:Unit->ah->Prop}(g:s.heap.get? a=O0 o)(L:o.ExactSet)(d:o.data=.set es ep t)(z:I.size<=100)(k:∀h' J,fh a s.heap h'->h'.get? a=O0 J->J.ExactSet->J.data=.set I (ep+1) t'->Q () { s with heap:=h' }):ag (ai prog w) A (storeSet a I t') Q E s:=by
 refine wpAny_storeSet_of g d (k _ { o with data:=.set I (ep+1) t' } (xE _ _ _) ?_ L rfl) (d6 z .(2));have u:=nX (Obj.putSet I t') g (by rw[putSet_of I t' d];rfl)
 rwa [putSet_of I t' d] at u
def zx(n:Nat)(h:n<=18):LM n=n*4:=by
 unfold LM;rw[ZH .(0)]
def l_:FC 20=32:=by decide +kernel
theorem YG{J Z:Type}{f:J->Z}{l:List Z}{m:List J}(h:l.Perm (m.map f)):∃k:List J,l=k.map f/\k.Perm m:=by
 generalize e:m.map f=x at h
 induction h generalizing m with
 |nil=>
  have:m=[]:=by simpa using e
  subst this;exact⟨[],rfl,xI _⟩
 | @cons a l1 l2 _ ih=>
  cases m with
  |nil=>cases e
  |cons y r=>
   rw[ba] at e;injection e with Y I
   obtain⟨k,ek,pk⟩:=ih I;exact⟨y::k,by rw[ba,Y,ek],AX _ pk⟩
 |swap a c l1=>
  match m,e with
  |y::z::r,e=>
   rw[ba,ba] at e;injection e with Y I
   injection I with I e3
   exact⟨z::y::r,by rw[ba,ba,Y,I,e3],KB _ _ _⟩
 |trans _ _ T S=>
  obtain⟨k2,U,L⟩:=S e;obtain⟨k1,W,O⟩:=T U.symm;exact⟨k1,W,O.trans L⟩
theorem zy{B:Addr->Prop}{ps:List jn}{p:jn}{Q:Bool->ah->Prop}(hu:A.units<bv)(x:UP prog w B s.heap a ps)(y:SK prog w s.heap p b)(yb:B b)(r:ps.length<=17)(c:∀v h',fh a s.heap h'->UP prog w B h' a (ZT ps p)->Q v { s with heap:=h' }):ag (ai prog w) A (setAddHashed a (.ref b) (hP p)) Q E s:=by
 obtain⟨O,t,J,⟨o,ep,g,ex,d⟩,f,pm,bq⟩:=x;have lq:J.length=ps.length:=by have:=pm.length_eq;simpa using this
 have le:=f.len;unfold setAddHashed setAddHashedIn;refine wpAny_holding (ae (o0 g d f.fits ?_));dsimp only;rw[ZH (show ¬ byScan (.ref b) O=O1 by unfold byScan Value.scannable;simp)];refine ae (su hu g d f y (λm=>?_) λm n P3 Q2 N3=>?_)
 .dsimp only;have mp:p∈ps:=pm.mem_iff.mp m;refine av ?_;have:=c O2 s.heap (EH a _) (by unfold ZT;rw[WH mp];exact⟨O,t,J,⟨o,ep,g,ex,d⟩,f,pm,bq⟩);exact this
 .dsimp only;have mp:p∉ps:=λz=>m (pm.mem_iff.mpr z);refine ae (o0 g d f.fits ?_);dsimp only;generalize hj:NL t.mask (hP p) n=j at Q2;have jm:j<=t.mask:=hj▸Wh _ _ _;have hl:(O.toList.map (·.1)).length=J.length:=by rw[ay,gy,le]
  have rm:(O.toList.map (·.1)).length+1<=t.mask:=by
   rw[hl]
   rcases f.msk with ⟨e,z⟩ | ⟨e,z⟩<;>omega
  obtain⟨T1,pl⟩:=f.tab.put P3 hj Q2 jm N3 rm;have P1:(t.put j).1.plain=O1:=f.pln;rw[P1];simp only[VI];refine ae (zu y ?_);simp only[VI];rw[hl] at pl;have W:(insertAt O (t.put j).2 (hP p,aT b)).toList=(J.take (t.put j).2++(p,b)::J.drop (t.put j).2).map λx=>(hP x.1,aT x.2):=by
   rw[Tz,f.ent,<-vn,<-Bn,dP,ba]
  have pq:(J.take (t.put j).2++(p,b)::J.drop (t.put j).2).Perm (J++[(p,b)]):=by
   refine LN.trans ?_;rw[B6];exact (List.perm_append_singleton _ _).symm
  have T2:∀x∈J.take (t.put j).2++(p,b)::J.drop (t.put j).2,B x.2:=λx L=>by
   rcases dA.mp (pq.mem_iff.mp L) with L | L
   .exact bq x L
   .obtain rfl:x=(p,b):=by simpa using L
    exact yb
  have S:(insertAt O (t.put j).2 (hP p,aT b)).size=J.length+1:=by
   have:=RI eC W;rw[ay,pq.length_eq] at this;simpa using this
  have U2:∀x∈J,x.2≠a:=λx L=>(f.isp x L).ne g d;have X2:b≠a:=y.ne g d;have N0:∀h',fh a s.heap h'->∀x∈J.take (t.put j).2++(p,b)::J.drop (t.put j).2,SK prog w h' x.1 x.2:=λh' sb x L=>by
   have L:=pq.mem_iff.mp L
   rcases dA.mp L with L | L
   .exact (f.isp x L).keep λo' g'=>(sb.2 x.2 (U2 x L)).trans g'
   .obtain rfl:x=(p,b):=by simpa using L
    exact y.keep λo' g'=>(sb.2 b X2).trans g'
  have X1:((J.take (t.put j).2++(p,b)::J.drop (t.put j).2).map (·.1)).Nodup:=by
   rw[(pq.map (·.1)).nodup_iff,dP];refine f6.mpr ⟨f.nd,by simp,λu hu v hv e=>?_⟩;have:v=p:=by simpa using hv
   exact m (this▸e▸hu)
  have N1:((J.take (t.put j).2++(p,b)::J.drop (t.put j).2).map (·.1)).Perm (ZT ps p):=by
   unfold ZT;rw[ZH mp];refine (pq.map (·.1)).trans ?_;rw[dP];exact pm.append_right _
  have Y2:(insertAt O (t.put j).2 (hP p,aT b)).toList.map (·.1)=(O.toList.map (·.1)).take (t.put j).2++hP p::(O.toList.map (·.1)).drop (t.put j).2:=by
   rw[Tz,dP,ba,vn,Bn]
  have X0:Tab (t.put j).1 ((insertAt O (t.put j).2 (hP p,aT b)).toList.map (·.1)):=by rw[Y2];exact T1
  have T:(t.put j).1.fill=J.length+1:=by
   unfold LG;rw[X0.dum];have:=X0.len;rw[ay,gy,gy,S] at this;simpa using this
  have U:(t.put j).1.mask=t.mask:=rfl;refine ae (lr g ex d (by rw[S];omega) λh1 o1 S0 g1 S2 d1=>?_)
  by_cases I:(t.put j).1.tooFull=O1
  .rw[WH (by simp[I])];have m7:t.mask=7/\J.length=4:=by
    unfold LO at I;rw[T,U] at I;simp at I
    rcases f.msk with ⟨e,z⟩ | ⟨e,z⟩
    .rw[e] at I;exact⟨e,by omega⟩
    .rw[e] at I;omega
   have e5:O.size+1=5:=by omega
   rw[e5,zx 5 .(0)];refine ae ?_;unfold setRelay;have S3:(t.put j).1.fits (insertAt O (t.put j).2 (hP p,aT b)).size=O1:=by
    unfold LF;rw[T,U,S];have:=X0.len;rw[ay,gy,gy,S] at this;simp[this];omega
   refine ae (o0 g1 d1 S3 ?_);dsimp only;rw[show FC (5*4)=32 from l_];rw[ZH .(2)];have cv:∀e∈(insertAt O (t.put j).2 (hP p,aT b)).toList,VW 31 e.1:=λe he=>by
    rw[W] at he;obtain⟨x,L,rfl⟩:=bb.mp he;exact (cov5 (N0 s.heap (EH a _) x L).1).2
   obtain⟨t2,Z,el,l1,l2,l3,l4,l5⟩:=sX 31 (t.put j).1.finger ((t.put j).1.movedTo 31) (t.put j).1.led (t.put j).1.plain (insertAt O (t.put j).2 (hP p,aT b)) (by rw[S];omega) cv;have P4:(t.put j).1.relaid ((insertAt O (t.put j).2 (hP p,aT b)).map (·.1)) (5*4)=O0 (t2,Z):=by
    unfold SetTable.relaid;rw[show FC (5*4)=32 from l_];exact el
   have S1:(Z.filterMap λi=>(insertAt O (t.put j).2 (hP p,aT b))[i]?).size=J.length+1:=by
    have:=l4.length_eq;rw[gy,gy,S] at this;exact this
   generalize S4:insertAt O (t.put j).2 (hP p,aT b)=es1 at *;rw[P4];refine ae (show ag _ _ (if ((Z.filterMap λi=>es1[i]?).size != es1.size)=O1 then _ else pure ((Z.filterMap λi=>es1[i]?),t2)) _ _ _ from ?_);rw[ZH (by simp[S1,S])];refine av ?_;dsimp only;refine lr g1 S2 d1 (by rw[S1];omega) λh2 o2 U1 g2 Y3 d2=>av (c O1 h2 (S0.trans U1) ?_);obtain⟨T0,N4,Y⟩:∃T0:List (jn×Addr),(Z.filterMap λi=>es1[i]?).toList=T0.map (λx=>(hP x.1,aT x.2))/\T0.Perm (J.take (t.put j).2++(p,b)::J.drop (t.put j).2):=by
    have Y1:=l4;rw[W] at Y1;obtain⟨q2,e2,p2⟩:=YG Y1;exact⟨q2,e2,p2⟩
   refine⟨_,_,T0,⟨o2,_,g2,Y3,d2⟩,⟨N4,λx L=>N0 h2 (S0.trans U1) x (Y.mem_iff.mp L),(Y.map (·.1)).nodup_iff.mpr X1,l5,?_,λz=>l2.trans (f.led z),l3.trans P1⟩,(Y.map (·.1)).trans N1,λx L=>T2 x (Y.mem_iff.mp L)⟩;right;rw[Y.length_eq,pq.length_eq,eA,xk];exact⟨l1,by omega⟩
  .rw[ZH (by simp[I])];refine av (c O1 h1 S0 ⟨_,_,_,⟨o1,ep+1,g1,S2,d1⟩,⟨W,N0 h1 S0,X1,X0,?_,f.led,P1⟩,N1,T2⟩);rw[pq.length_eq,eA,xk,U];unfold LO at I;rw[T,U] at I;simp at I
   rcases f.msk with ⟨e,z⟩ | ⟨e,z⟩
   .left;rw[e] at I;exact⟨e,by omega⟩
   .right;exact⟨e,by omega⟩
end
section
variable {A:aS}{R:oC->ah->Prop}{I:Addr}{fp wr:List Addr}{P:Nat->ac->Prop}{Sx:Nat->Heap->Prop}{B:Addr->Prop}
theorem UP.keep{h h':Heap}{a:Addr}{ps:List jn}(x:UP prog w B h a ps)(e:∀b,B b->∀o,h.get? b=O0 o->h'.get? b=O0 o)(Y:∀o,h.get? a=O0 o->h'.get? a=O0 o):UP prog w B h' a ps:=by
 obtain⟨T,t,J,⟨o,W,g,q⟩,f,U,z⟩:=x;exact⟨T,t,J,⟨o,W,Y o g,q⟩,f.keep λx O L S=>e x.2 (z x O) L S,U,z⟩
def TU(val:Nat->jn)(i:Nat):List jn:=((bg i).map val).foldl ZT []
def Ql(val:Nat->jn)(i:Nat):TU val (i+1)=ZT (TU val i) (val i):=by simp[TU,DS,List.foldl_append]
theorem YH(val:Nat->jn):∀i,(TU val i).length<=i
 |0=>aE _
 |i+1=>by
  have q:=YH val i;rw[Ql];unfold ZT;split<;>simp<;>omega
theorem zz(hu:A.units+1<bv)(W:nV prog w A.in1 I fp wr n P Sx){S:Addr}(nS:S∉fp)(val:Nat->jn)(bs:Nat->Addr)(hv:∀i v,P i v->v=.ref (bs i))(hB:∀i,i<n->B (bs i))(nB:∀b,B b->b∉wr/\b≠S)(hb:n<=17):
    ∀(m i:Nat) (s:ah),i+m=n->Sx i s.heap->UP prog w B s.heap S (TU val i)->(∀i,i<n->SK prog w s.heap (val i) (bs i)) ->
      (∀h' tk,(∀b o,b∉wr->b≠S->s.heap.get? b=O0 o->h'.get? b=O0 o)->UP prog w B h' S (TU val n)->R (.ok (.ret .none)) { s with heap:=h',toks:=tk }) ->
      gI (ai prog w) A (.builtin "set.update.loop" ⟨[.ref S,.ref I],[]⟩) R s:=by
  have nW:S∉wr:=λz=>nS (W.sub S z);have J:∀{s:ah},ag (ai prog w) A.in1 (do
        let O0 x <-gE (.ref I) | ret .none
        let _ <-li [x] (setAdd S x)
        again (.builtin "set.update.loop" ⟨[.ref S,.ref I],[]⟩))
      (λT0 Y=>match T0 with | .done f=>R (.ok f) Y | .again c'=>c'.quiet=O1/\gI (ai prog w) A c' R Y) (λe Y=>R (.error e) Y) s->gI (ai prog w) A (.builtin "set.update.loop" ⟨[.ref S,.ref I],[]⟩) R s:=λq=>by
    refine kK PyProof.Rows.F.entry_set_update_loop ?_;rw[rX LP _];exact q
  intro m
  induction m with
  |zero=>
    intro i s e st x _ k;have:i=n:=by omega
    subst this;exact J (ae (W.done s _ _ st λh' tk L=>av (k h' tk (λb o Z _ q=>L b o Z q) (x.keep (λb hb o q=>L b o (nB b hb).1 q) λo q=>L S o nW q))))
  |succ m ih=>
    intro i s e st x al k;refine J (ae (W.item i s _ _ .(0) st λv h1 tk pv N0 L=>?_));obtain rfl:=hv i v pv;have x1:UP prog w B h1 S (TU val i):=x.keep (λb hb o q=>L b o (nB b hb).1 q) λo q=>L S o nW q;have U:∀i,i<n->SK prog w h1 (val i) (bs i):=λi T=>(al i T).keep λo q=>L _ o (nB _ (hB i T)).1 q;have hl:=YH val i;have y:=U i .(0);refine ae (wpAny_holding (wpAny_holding (ae (GH (s:={ s with heap:=h1,toks:=tk }) (show A.in1.units<bv from hu) y.2 ?_))));rw[sY y.1];refine zy (s:={ s with heap:=h1,toks:=tk+((kk (val i)).length+1) }) (w:=w) (show A.in1.units<bv from hu) x1 y (hB i .(0)) .(0) λb h2 sb x2=>av ⟨pE LP _,?_⟩;rw[<-Ql] at x2;refine ih (i+1) { s with heap:=h2,toks:=tk+((kk (val i)).length+1) } .(0) (W.frame _ _ _ N0 λb m o q=>(sb.2 b λz=>nS (z▸m)).trans q) x2 (λi T=>(U i T).keep λo q=>(sb.2 _ (nB _ (hB i T)).2).trans q) λh3 t3 S0 x3=>?_;exact k h3 t3 (λb o Z O q=>S0 b o Z O ((sb.2 b O).trans (L b o Z q))) x3
structure PrsAt (prog:cw) (w:bP) (T:String) (l:Addr) (n:Nat) (bs:Nat->Addr) (h0:Heap):Prop where
 ty:∀s:ah,(∀o,h0.get? l=O0 o->s.heap.get? l=O0 o)->s.TypeIs (.ref l) T
 ns:isSubtype (.type T) (.type "set")=pure O2
 nf:isSubtype (.type T) (.type "frozenset")=pure O2
 nd:(md T==md "dict")=O2
 lt:l<h0.objs.size
 it:∀(A:aS) (E:ac->ah->Prop) (s:ah) (Q:ac->ah->Prop),A.handled=W1->(∀o,h0.get? l=O0 o->s.heap.get? l=O0 o)->l<s.heap.objs.size ->
  (∀(oI:Obj) (Sx:Nat->Heap->Prop) (P:Nat->ac->Prop),(∀A':aS,A'.handled=W1->nV prog w A' s.heap.objs.size [s.heap.objs.size,l] [s.heap.objs.size] n P Sx)->Sx 0 (s.heap.push oI)->(∀i v,P i v->v=.ref (bs i))->Q (.ref s.heap.objs.size) { s with heap:=s.heap.push oI }) ->
  ag (ai prog w) A (om (.ref l)) Q E s
def Zd(h:Heap):UP prog w B (h.push { cls:=.type "set",dict:=W1,data:=.set #[] 0 (.fresh 0 0 (!btx w)) }) h.objs.size []:=
 ⟨#[],_,[],⟨_,0,ce _ rfl,⟨rfl,rfl,rfl⟩,rfl⟩,⟨rfl,by simp,by simp,⟨rfl,by simp[FD,RO],rfl,by simp[FD],by simp,by simp⟩,.inl ⟨rfl,by simp⟩,λb=>by simp[FD,b],rfl⟩,by simp,by simp⟩
theorem tD{B:Addr->Prop}{T:String}{l:Addr}{val:Nat->jn}{bs:Nat->Addr}(hu:A.units+4<bv)(hh:A.handled=W1)(X:PrsAt prog w T l n bs s.heap)(al:∀i,i<n->SK prog w s.heap (val i) (bs i))(L:n<=17)(hB:∀i,i<n->B (bs i))(Y:∀b,B b->b<s.heap.objs.size)(k:∀h' tk,UP prog w B h' s.heap.objs.size (TU val n)->(∀b o,s.heap.get? b=O0 o->h'.get? b=O0 o)->Q (.ref s.heap.objs.size) { s with heap:=h',toks:=tk }):ag (ai prog w) A (call (.type "set") [.ref l]) Q E s:=by
 refine zY (Q1:=λob O=>ob=.ref s.heap.objs.size/\O={ s with heap:=s.heap.push { cls:=.type "set",dict:=W1,data:=.set #[] 0 (.fresh 0 0 (!btx w)) } }) F.called_set (F.typeCall_set_1 _) (q_ _ ⟨rfl,rfl⟩) λob O q0=>?_;obtain⟨e1,e2⟩:=q0;subst e1 e2;have ob:=ce s.heap (o:={ cls:=.type "set",dict:=W1,data:=.set #[] 0 (.fresh 0 0 (!btx w)) }) rfl;refine⟨⟨_,ob,rfl⟩,codeAny_call_builtin F.called_set.init.plain F.entry_set_init (check_set_init_1 ⟨_,ob,rfl⟩ ?_)⟩;have Z:∀o,s.heap.get? l=O0 o->(s.heap.push { cls:=.type "set",dict:=W1,data:=.set #[] 0 (.fresh 0 0 (!btx w)) }).get? l=O0 o:=λo q=>bn _ q;have ty:=X.ty { s with heap:=s.heap.push { cls:=.type "set",dict:=W1,data:=.set #[] 0 (.fresh 0 0 (!btx w)) } } Z;have O:=X.ns;have s2:=X.nf;have s3:=X.nd;unfold eI.«set.__init__» noKeywords Builtin.Frozenset.updateFrom;generalize hp:om=PI
 wp_walk
 subst hp;refine X.it _ _ _ _ (by simp[hh]) Z (by rw[iO];exact mE X.lt) λoI Sx P W st hv=>?_;refine ae (B3 ?_);have J:(s.heap.push { cls:=.type "set",dict:=W1,data:=.set #[] 0 (.fresh 0 0 (!btx w)) }).objs.size=s.heap.objs.size+1:=iO _ _;have x0:UP prog w B ((s.heap.push { cls:=.type "set",dict:=W1,data:=.set #[] 0 (.fresh 0 0 (!btx w)) }).push oI) s.heap.objs.size (TU val 0):=(Zd s.heap).keep (λb _ o q=>bn _ q) λo q=>bn _ q;refine zz (by simp;omega) (W _ (by simp[hh])) (S:=s.heap.objs.size) (λz=>?_) val bs hv hB (λb L=>⟨λz=>?_,bS (Y b L)⟩) L n 0 _ .(0) st x0 (λi hi=>(al i hi).keep λo q=>bn _ (bn _ q)) λh' tk kp x=>?_
 .rcases br.mp z with z | z
  .rw[J] at z;exact NI z (bS (tm _))
  .exact NI (mI.mp z) (ol X.lt)
 .have e:=mI.mp z;rw[J] at e;exact NI e (bS (mE (Y b L)))
 .show ag _ _ _ _ _ _;refine av (show ag _ _ (ret fF) _ _ _ from av ⟨rfl,k h' tk x λb o q=>?_⟩);have U:b<s.heap.objs.size:=bo q;exact kp b o (λz=>by have e:=mI.mp z;rw[J] at e;exact NI e (bS (mE U))) (bS U) (bn _ (bn _ q))
end
end PV
namespace PV
open PySem PySem.W PyProof.Rows
section
variable {key:Nat->Nat}
def SU(n:Nat)(z:Nat->Nat){I:Type}:KasT I->(I->Prop)->Prop
 |.ret a,Q=>Q a
 |.ask i j k,Q=>i<n/\j<n/\SU n z (k (decide (z i<z j))) Q
theorem SU.bind{z I:Type}{f:z->KasT I}{Q:I->Prop}{R:z->Prop}:∀{t:KasT z},SU n key t R->(∀a,R a->SU n key (f a) Q)->SU n key (t.bind f) Q
 |.ret a,h,k=>k a h
 |.ask i j g,h,k=>⟨h.1,h.2.1,SU.bind h.2.2 k⟩
theorem SU.wp{z:Type}{cmp:Nat->Nat->(Bool->ah->Prop)->ah->Prop}{s:ah}(I:∀i j C,i<n->j<n->C (decide (key i<key j)) s->cmp i j C s){Q:z->Prop}{R:z->ah->Prop}(J:∀a,Q a->R a s):∀{t:KasT z},SU n key t Q->t.kasWp cmp R s
 |.ret a,h=>J a h
 |.ask i j k,h=>I i j _ h.1 h.2.1 (SU.wp I J h.2.2)
structure Od (n:Nat) (p:Array Nat):Prop where
 sz:p.size=n
 pm:p.toList.Perm (bg n)
theorem Od.lt{p:Array Nat}(o:Od n p){i:Nat}(h:i<n):p.getD i 0<n:=by
 have z:i<p.size:=by rw[o.sz];exact h
 rw[show p.getD i 0=p[i] by simp[z]];have:p[i]∈p.toList:=by simp
 exact d4.mp (o.pm.mem_iff.mp this)
theorem Od.inj{p:Array Nat}(o:Od n p){i j:Nat}(I:i<n)(U:j<n)(e:p.getD i 0=p.getD j 0):i=j:=by
 have W:i<p.size:=by rw[o.sz];exact I
 have L:j<p.size:=by rw[o.sz];exact U
 rw[show p.getD i 0=p[i] by simp[W],show p.getD j 0=p[j] by simp[L]] at e;have z:p.toList.Nodup:=o.pm.nodup_iff.mpr ya;refine (Fc (l:=p.toList) (by simpa using W) z).mp ?_;rw[db (by simpa using W),db (by simpa using L)];simpa using e
def Asc(z:Nat->Nat)(p:Array Nat)(m:Nat):Prop:=∀i j,i<j->j<m->z (p.getD i 0)<z (p.getD j 0)
def Dsc(z:Nat->Nat)(p:Array Nat)(m:Nat):Prop:=∀i j,i<j->j<m->z (p.getD j 0)<z (p.getD i 0)
variable (inj:∀i j,i<n->j<n->key i=key j->i=j)
include inj
theorem mC{p:Array Nat}(o:Od n p){i j:Nat}(z:i<n)(U:j<n)(h:i≠j):key (p.getD i 0)≠key (p.getD j 0):=λe=>h (o.inj z U (inj _ _ (o.lt z) (o.lt U) e))
theorem Ze{p:Array Nat}(o:Od n p):∀(f m:Nat),1<=m->m+f<=n->Asc key p m->SU n key (kas_asc p f m) λr=>m<=r/\r<=m+f/\Asc key p r/\(r<m+f->key (p.getD r 0)<key (p.getD (r-1) 0))
 |0,m,O,L,a=>⟨aE _,aE _,a,λz=>NI z .(0)⟩
 |f+1,m,O,L,a=>by
  refine⟨o.lt .(0),o.lt .(0),?_⟩
  by_cases c:key (p.getD m 0)<key (p.getD (m-1) 0)
  .rw[QI c];dsimp only;rw[WH rfl];exact⟨aE _,by omega,a,λ_=>c⟩
  .rw[OI c];dsimp only;rw[ZH .(1)];have ne:=mC inj o (i:=m) (j:=m-1) .(0) .(0) .(0);have U:Asc key p (m+1):=λi j I W=>by
    by_cases e:j=m
    .subst e
     by_cases T:i=j-1
     .subst T;omega
     .have:=a i (j-1) .(0) .(0);omega
    .exact a i j I .(0)
   have:=Ze o f (m+1) .(0) .(0) U;have S:∀{t:KasT Nat},SU n key t (λr=>m+1<=r/\r<=m+1+f/\Asc key p r/\(r<m+1+f->key (p.getD r 0)<key (p.getD (r-1) 0)))->SU n key t λr=>m<=r/\r<=m+(f+1)/\Asc key p r/\(r<m+(f+1)->key (p.getD r 0)<key (p.getD (r-1) 0)):=λ{t}=>by
    induction t with
    |ret r=>exact λh=>⟨by have:=h.1;omega,by have:=h.2.1;omega,h.2.2.1,λz=>h.2.2.2 .(0)⟩
    |ask i j k J=>exact λh=>⟨h.1,h.2.1,J _ h.2.2⟩
   exact S this
theorem bu{p:Array Nat}(o:Od n p):∀(f m:Nat),1<=m->m+f<=n->Dsc key p m->SU n key (kas_desc f p m 0) λr=>r.1=p/\r.2.2=0/\m<=r.2.1/\r.2.1<=m+f/\Dsc key p r.2.1
 |0,m,L,J,a=>⟨rfl,rfl,aE _,aE _,a⟩
 |f+1,m,L,J,a=>by
  refine⟨o.lt .(0),o.lt .(0),?_⟩;have ne:=mC inj o (i:=m) (j:=m-1) .(0) .(0) .(0)
  by_cases c:key (p.getD m 0)<key (p.getD (m-1) 0)
  .rw[QI c];dsimp only;rw[WH rfl,ZH .(0)];have T:Dsc key p (m+1):=λi j I U=>by
    by_cases e:j=m
    .subst e
     by_cases O:i=j-1
     .subst O;omega
     .have:=a i (j-1) .(0) .(0);omega
    .exact a i j I .(0)
   have:=bu o f (m+1) .(0) .(0) T;have S:∀{t:KasT (Array Nat×Nat×Nat)},SU n key t (λr=>r.1=p/\r.2.2=0/\m+1<=r.2.1/\r.2.1<=m+1+f/\Dsc key p r.2.1)->SU n key t λr=>r.1=p/\r.2.2=0/\m<=r.2.1/\r.2.1<=m+(f+1)/\Dsc key p r.2.1:=λ{t}=>by
    induction t with
    |ret r=>exact λh=>⟨h.1,h.2.1,by have:=h.2.2.1;omega,by have:=h.2.2.2.1;omega,h.2.2.2.2⟩
    |ask i j k z=>exact λh=>⟨h.1,h.2.1,z _ h.2.2⟩
   exact S this
  .rw[OI c];dsimp only;rw[ZH .(1)];refine⟨o.lt .(0),o.lt .(0),?_⟩;rw[QI (show key (p.getD (m-1) 0)<key (p.getD m 0) by omega)];dsimp only;rw[WH rfl];exact⟨rfl,rfl,aE _,Nat.le_add_right m (f+1),a⟩
omit inj
theorem Od.rev{p:Array Nat}(o:Od n p)(m:Nat):Od n (yT p 0 m):=⟨(mirror_size _ _ _ _).trans o.sz,(LS.mp (mirror_perm p 0 m _)).trans o.pm⟩
theorem mD{p:Array Nat}{m:Nat}(z:m<=p.size){k:Nat}(I:k<m):(yT p 0 m).getD k 0=p.getD (m-1-k) 0:=by
 have e:=getElem?_mirror (xs:=p) (i:=0) (j:=m) z ((m-0)/2) .(0) k;have:(yT p 0 m)[k]?=p[m-1-k]?:=by
  unfold yT;rw[e];split
  .congr 1;omega
  .congr 1;omega
 simp only[LU,this]
include inj
theorem mF{p:Array Nat}(o:Od n p)(m:Nat)(h1:1<=m)(z:m<=n)(d:Dsc key p m):SU n key (kas_tail3 m n p) λr=>Od n r.2/\1<=r.1/\r.1<=n/\Asc key r.2 r.1:=by
 have J:=o.rev m;have a:Asc key (yT p 0 m) m:=λi j L U=>by
  rw[mD (by rw[o.sz];exact z) (by omega:i<m),mD (by rw[o.sz];exact z) U];exact d _ _ .(0) .(0)
 unfold kas_tail3;exact SU.bind (Ze inj J (n-m) m h1 .(0) a) λr I=>⟨J,by omega,by omega,I.2.2.1⟩
theorem mG(h1:1<=n){p:Array Nat}(o:Od n p):SU n key (kas_count n p) λr=>Od n r.2/\1<=r.1/\r.1<=n/\Asc key r.2 r.1:=by
 unfold kas_count;refine SU.bind (Ze inj o (n-1) 1 (aE _) .(0) λi j I Z=>by omega) λm Y=>?_;obtain⟨z,m2,a,T⟩:=Y
 by_cases c:(m==n)=O1
 .rw[WH c];exact⟨o,z,by omega,a⟩
 .rw[ZH c];have c':m≠n:=by simpa using c
  by_cases J:m > 1
  .rw[WH J];refine⟨o.lt .(0),o.lt .(0),?_⟩;rw[QI (a 0 (m-1) .(0) .(0))];dsimp only;rw[WH rfl];exact⟨o,z,by omega,a⟩
  .rw[ZH J];have e1:m=1:=by omega
   subst e1;have U:=T .(0);unfold kas_descPart;have d:Dsc key p 2:=λi j I Z=>by
    have:i=0:=by omega
    have:j=1:=by omega
    subst i j;exact U
   refine SU.bind (bu inj o (n-(1+1)) (1+1) .(0) .(0) d) λr W=>?_;obtain⟨S,O,r3,r4,L⟩:=W;rw[O,ZH .(0),S];exact mF inj o r.2.1 .(0) .(0) L
omit inj
theorem T5{p:Array Nat}(o:Od n p){k:Nat}(L:k<n)(a:Asc key p k):∀(f l r:Nat),r-l<=f->l<=r->r<=k->(∀i,i<l->¬ key (p.getD k 0)<key (p.getD i 0))->(∀i,r<=i->i<k->key (p.getD k 0)<key (p.getD i 0))->SU n key (kas_place p k f l r) λx=>x<=k/\(∀i,i<x->¬ key (p.getD k 0)<key (p.getD i 0))/\(∀i,x<=i->i<k->key (p.getD k 0)<key (p.getD i 0))
 |0,l,r,T,Y,S,J,I=>⟨by omega,J,λi O z=>I i .(0) z⟩
 |f+1,l,r,T,Y,S,J,I=>by
  unfold kas_place
  by_cases c:l≥r
  .rw[WH c];exact⟨by omega,J,λi O z=>I i .(0) z⟩
  .rw[ZH c];refine⟨o.lt L,o.lt .(0),?_⟩
   by_cases d:key (p.getD k 0)<key (p.getD ((l+r)/2) 0)
   .rw[QI d];dsimp only;rw[WH rfl];refine T5 o L a f l ((l+r)/2) .(0) .(0) .(0) J λi O z=>?_
    by_cases e:i=(l+r)/2
    .subst e;exact d
    .have:=a ((l+r)/2) i .(0) z;omega
   .rw[OI d];dsimp only;rw[ZH .(1)];refine T5 o L a f ((l+r)/2+1) r .(0) .(0) S (λi O=>?_) I
    by_cases e:i=(l+r)/2
    .subst e;exact d
    .have:=a i ((l+r)/2) .(0) .(0);omega
include inj
theorem mH:∀(f:Nat) {p:Array Nat}{k:Nat},Od n p->k+f=n->Asc key p k->SU n key (kas_bin f p k) λq=>Od n q/\Asc key q n
 |0,p,k,o,e,a=>⟨o,by rw[<-e];exact a⟩
 |f+1,p,k,o,e,a=>by
  unfold kas_bin;refine SU.bind (T5 o .(0) a k 0 k .(0) .(0) (aE _) (λi hi=>by omega) λi h1 h2=>by omega) λl Y=>?_;obtain⟨l1,Z,U⟩:=Y;have hs:k<p.size:=by rw[o.sz];omega
  have O:Od n (bubble p k (k-l)):=⟨(bubble_size _ _ _).trans o.sz,(LS.mp (bubble_perm p k _)).trans o.pm⟩;have J:∀i,(bubble p k (k-l)).getD i 0=if i=l then p.getD k 0 else if l<i/\i<=k then p.getD (i-1) 0 else p.getD i 0:=λi=>by
   have e:=getElem?_bubble hs (k-l) .(0) i;rw[show k-(k-l)=l by omega] at e;simp only[LU,e];split
   .rfl
   .split<;>rfl
  refine mH f O .(0) λi j W hj=>?_;rw[J i,J j];have I:∀x,x<k->key (p.getD k 0)≠key (p.getD x 0):=λx hx=>mC inj o .(0) .(0) .(0)
  by_cases L:i=l
  .rw[WH L,ZH .(0),WH .(0)];exact U (j-1) .(0) .(0)
  .rw[ZH L]
   by_cases T:j=l
   .rw[WH T,ZH .(0)];have:=Z i .(0);have:=I i .(0);omega
   .rw[ZH T]
    by_cases z:l<i/\i<=k
    .rw[WH z,WH .(0)];exact a _ _ .(0) .(0)
    .rw[ZH z]
     by_cases S:l<j/\j<=k
     .rw[WH S]
      by_cases e2:i=j-1
      .omega
      .exact a _ _ .(0) .(0)
     .rw[ZH S];exact a _ _ .(0) .(0)
theorem tG(h1:1<=n):SU n key (kas_sort n) λq=>Od n q/\Asc key q n:=by
 have o:Od n (LV (bg n)):=⟨by simp,by simp⟩;unfold kas_sort;refine SU.bind (mG inj h1 o) λr J=>?_;obtain⟨I,O,L,z⟩:=J
 by_cases c:r.1<n
 .rw[WH c,show max r.1 1=r.1 by omega];exact mH inj (n-r.1) I .(0) z
 .rw[ZH c];have:r.1=n:=by omega
  exact⟨I,this▸z⟩
end
open PySem.Spec L2
def RY(p:jn):Nat:=5*p.1+p.2
section
variable {A:aS}
theorem SK.items{p:jn}(x:SK prog w h p b):∃o n t u,h.get? b=O0 o/\o.cls=.type "tuple"/\o.data=.seq #[.int (p.1:Int) t,.int (p.2:Int) u] n:=by
 obtain⟨_,o,J,n,g,c,d,i⟩:=x;unfold kk at i;generalize e:J.toList=l at i;cases i with
 | @cons _ Y _ I S i=>
  cases i with
  | @cons _ U _ W O i=>
   cases i;have f:∀{k:Int}{v:ac},(Av prog w).is (.inl k) v=O1->∃t,v=.int k t:=λ{k v} L=>by
    rcases Bm (show Q8 (.inl k) v=O1 from L) with ⟨j,t,z,T⟩ | ⟨y,t,z,_⟩
    .have:=w9 z;subst this;exact⟨t,T⟩
    .cases z
   obtain⟨t,rfl⟩:=f S;obtain⟨u,rfl⟩:=f O;refine⟨o,n,t,u,g,c,?_⟩;rw[d];congr 1;exact E5.mp e
def z_{p q:jn}{c:Addr}{Q:Bool->ah->Prop}(x:SK prog w s.heap p b)(y:SK prog w s.heap q c)(k:Q (decide (RY p<RY q)) s):ag (ai prog w) A (keyLt' (tuples' O1) (.ref b) (.ref c)) Q E s:=by
 have L:=x.1;have Y:=y.1;obtain⟨o,n,t,u,g,_,d⟩:=x.items;obtain⟨Z,n2,J,u2,O,_,W⟩:=y.items;obtain⟨T,S⟩:=p;obtain⟨q1,q2⟩:=q;obtain⟨h1,h2⟩:T<5/\S<5:=L;obtain⟨h3,h4⟩:q1<5/\q2<5:=Y;unfold RY at k;simp only at k;refine kat_lt g d O W ?_;show KatLex _ _ _ _ _ _ [(.int (T:Int) t,.int (q1:Int) J),(.int (S:Int) u,.int (q2:Int) u2)] 0 s;refine kat_cons (BQ (kat_go (λe=>?_) λe=>?_))
 .have U:T=q1:=by have:=eq_of_beq e;omega
  refine kat_yes (kat_cons (BQ (kat_go (λI=>?_) λI=>?_)))
  .have e3:S=q2:=by have:=eq_of_beq I;omega
   refine kat_yes (kat_nil ?_);rw[OI .(0)] at k;exact k
  .refine kat_no (kat_one _ _ (PyProof.Rows.lt_int ?_));show Q (decide ((S:Int)<(q2:Int))) s;rw[show decide ((S:Int)<(q2:Int))=decide (5*T+S<5*q1+q2) by rw[decide_eq_decide];omega];exact k
 .have U:T≠q1:=λz=>by rw[z] at e;simp at e
  refine kat_no (oneLt_int ?_);rw[show decide ((T:Int)<(q1:Int))=decide (5*T+S<5*q1+q2) by rw[decide_eq_decide];omega];exact k
theorem mJ{h:Heap}:∀{qs:List (jn×Addr)},(∀x∈qs,SK prog w h x.1 x.2)->∃fs:List ac,KatTups h (qs.map λx=>.ref x.2) fs/\fs.length=qs.length/\∀v∈fs,∃i t,v=oa i t
 |[],_=>⟨[],KatTups.nil,rfl,by simp⟩
 |x::r,I=>by
  obtain⟨fs,a,b,c⟩:=mJ (qs:=r) λy J=>I y (by simp[J]);obtain⟨o,n,t,u,g,S,d⟩:=(I x .(1)).items;refine⟨.int (x.1.1:Int) t::fs,KatTups.cons g S d rfl a,by simp[b],λv z=>?_⟩
  rcases br.mp z with rfl | z
  .exact⟨_,_,rfl⟩
  .exact c v z
def bw{p q:jn}(a:SL p)(b:SL q)(e:RY p=RY q):p=q:=by
 obtain⟨T,S⟩:=p;obtain⟨q1,q2⟩:=q;obtain⟨L,J⟩:T<5/\S<5:=a;obtain⟨I,z⟩:q1<5/\q2<5:=b;unfold RY at e;simp only at e;have:T=q1:=by omega
 have:S=q2:=by omega
 rw[‹T=q1›,‹S=q2›]
theorem bx{z:Type}:∀l:List z,(l.zip l).map (·.2)=l
 |[]=>rfl
 |x::r=>by rw[zt,ba,bx r]
theorem T6{qs:List (jn×Addr)}{P:Fin->ah->Prop}(ho:s.heap.get? a=O0 (seqObj "list" (qs.map λx=>aT x.2).toArray n))(O:∀x∈qs,SK prog w s.heap x.1 x.2)(nd:(qs.map (·.1)).Nodup)(T2:qs.length<64)(k:∀Z:List (jn×Addr),Z.Perm qs->(Z.map λx=>RY x.1).Pairwise (·<·)->P (.done (.ret .none)) { s with heap:=sortedHeap s.heap a (qs.map λx=>aT x.2) (Z.map λx=>aT x.2).toArray }):
  ag (ai prog w) A (eI.«list.sort» ⟨[.ref a],[]⟩) P E s:=by
 generalize S:(qs.map λx=>aT x.2)=vs at ho k;have lv:vs.length=qs.length:=by rw[<-S,ay]
 rw[list_sort_plain];have ha:a<s.heap.objs.size:=bo ho;refine ae (listItems_at ho rfl ?_);refine ae (FH ho rfl ?_ (by rw[cr,hV];omega) (eK _));obtain⟨e1,N1⟩:∃e1,(s.heap.update a (kD λ_=>#[])).get? a=O0 (seqObj "list" #[] e1):=⟨_,get?_update_seq ho (λ_=>#[])⟩;refine ae (FK N1 rfl ?_);refine ae (wpAny_newTuple ?_ (by show vs.length<=_;rw[hV];omega));refine ae (vi ?_ (eK _));refine wpAny_holding ?_;generalize hg:((s.heap.update a (kD λ_=>#[])).push (seqObj "tuple" vs.toArray 0)).push (seqObj "list" #[] 0)=g6;have W:g6.get? a=O0 (seqObj "list" #[] e1):=by
  rw[<-hg];exact bn _ (bn _ N1)
 have J:∀x∈qs,SK prog w g6 x.1 x.2:=λx hx=>(O x hx).keep λo g=>by
  rw[<-hg];have ne:x.2≠a:=λz=>by
   obtain⟨o2,_,_,_,g2,c2,_⟩:=(O x hx).items;rw[z] at g2;cases g2.symm.trans ho;have c3:md "list"=md "tuple":=c2;injection c3 with c3
   exact NI c3 .(2)
  exact bn _ (bn _ ((lP _ _ (cf ne)).trans g))
 have hG:sortedHeap s.heap a vs=λT0=>g6.update a (kD λ_=>T0):=by funext T0;rw[<-hg];rfl
 dsimp only
 by_cases Y:vs.toArray.size<2
 .rw[WH Y,WH Y];refine ae (av ?_);rw[StateT.run_pure];refine ae (av ?_);dsimp only;refine ae (FK W rfl ?_);refine ae (FH W rfl ?_ (hsz2:=by rw[Array.size_map];show (pairsOf vs).size<=_;rw[PyProof.Rows.pairsOf_size,hV];omega));simp only[bne_self_eq_false,dQ,WI];refine av ?_;have:=k qs (xI _) (by
   rw[cr,lv] at Y
   match qs,Y with
   |[],_=>exact AT
   |[x],_=>exact List.pairwise_singleton _ _)
  rw[S,hG] at this;have ez:(arrOf (LW general' (vs.toArray.zip vs.toArray) #[] 7 W1)).map (·.2)=vs.toArray:=by
   show (vs.toArray.zip vs.toArray).map (·.2)=vs.toArray;apply E5.mp;simp[bx]
  rw[show (vs.toArray.zip vs.toArray)=pairsOf vs from rfl] at ez;show P _ { s with heap:=g6.update a (kD λ_=>(arrOf (LW general' (pairsOf vs) #[] 7 W1)).map (·.2)) };rw[ez];exact this
 .rw[ZH Y,ZH Y];have l2:2<=vs.length:=by rw[cr] at Y;omega
  obtain⟨fs,t1,t2,t3⟩:=mJ J;rw[S] at t1;refine ae (kat_kind (s:={ s with heap:=g6 }) (T:=md "int") t1 (by rw[t2,<-lv];omega) (λv hv=>?_) .(2) ?_)
  .obtain⟨i,t,rfl⟩:=t3 v hv;exact .now
  show ag (ai prog w) A _ P E { s with heap:=g6 };rw[show (md "int" != md "tuple")=O1 by decide];have N0:∀i (h:i<qs.length),vs.getD i fF=.ref qs[i].2:=λi h=>by
   rw[<-S];simp[h]
  have inj:∀i j,i<vs.length->j<vs.length->(λi=>RY (qs.getD i ((0,0),0)).1) i=(λi=>RY (qs.getD i ((0,0),0)).1) j->i=j:=λi j I U e=>by
   rw[lv] at I U;simp only[show qs.getD i ((0,0),0)=qs[i] by simp[I],show qs.getD j ((0,0),0)=qs[j] by simp[U]] at e;have e2:=bw (O _ (gu I)).1 (O _ (gu U)).1 e;refine (Fc (l:=qs.map (·.1)) (by simpa using I) nd).mp ?_;rw[ca,ca,db I,db U];exact RI O0 e2
  have U1:=SU.wp (cmp:=kas_ask prog w A (tuples' O1) vs) (s:={ s with heap:=g6 }) (λi j C I U hC=>by
   rw[lv] at I U;unfold kas_ask;rw[N0 i I,N0 j U];refine z_ (J _ (gu I)) (J _ (gu U)) ?_;simp only[show qs.getD i ((0,0),0)=qs[i] by simp[I],show qs.getD j ((0,0),0)=qs[j] by simp[U]] at hC;exact hC) (Q:=λq=>Od vs.length q/\Asc (λi=>RY (qs.getD i ((0,0),0)).1) q vs.length) (R:=λq z=>z={ s with heap:=g6 }/\Od vs.length q/\Asc (λi=>RY (qs.getD i ((0,0),0)).1) q vs.length) (λq hq=>⟨rfl,hq⟩) (tG inj .(0))
  refine ae (hJ (kat_run (Q:=λL z=>z={ s with heap:=g6 }/\∃p:Array Nat,arrOf L=p.map (kas_item (vs.toArray.zip vs.toArray))/\failedOf L=W1/\Od vs.length p/\Asc (λi=>RY (qs.getD i ((0,0),0)).1) p vs.length) rfl l2 .(0) (λp L z a1 a2 a3 a4=>⟨a4.1,p,a2,a3,a4.2.1,a4.2.2⟩) U1) ?_ λ_ _ e=>e);rintro⟨⟨⟩,L⟩ z ⟨rfl,p,Q2,hf,od,S2⟩;dsimp only;have X0:=kat_snds (ks:=vs) (vs:=vs) rfl Q2;have oq:(LV (p.toList.map λi=>vs.getD i fF))=((p.toList.map λi=>qs.getD i ((0,0),0)).map λx=>aT x.2).toArray:=by
   rw[cb];congr 1;refine kH λi I=>?_;have I:=d4.mp (od.pm.mem_iff.mp I);rw[lv] at I;rw[N0 i I];simp[I]
  rw[X0,oq];have S0:(p.toList.map λi=>qs.getD i ((0,0),0)).Perm qs:=by
   have e:(bg vs.length).map (λi=>qs.getD i ((0,0),0))=qs:=by
    apply LD
    .simp[lv]
    .intro i h1 Y;simp[Y]
   have:=od.pm.map λi=>qs.getD i ((0,0),0)
   rwa [e] at this
  have S1:((p.toList.map λi=>qs.getD i ((0,0),0)).map λx=>RY x.1).Pairwise (·<·):=by
   rw[cb,iA,vj];intro i j I U X1;have Y1:i<p.size:=by simpa using I
   have P1:j<p.size:=by simpa using U
   have:=S2 i j X1 (by rw[<-od.sz];exact P1);rw[show p.getD i 0=p[i] by simp[Y1],show p.getD j 0=p[j] by simp[P1]] at this;simpa using this
  refine ae (FK W rfl ?_);refine ae (FH W rfl ?_ (hsz2:=by
   rw[cr,ay,S0.length_eq,hV];omega))
  rw[hf];simp only[bne_self_eq_false,dQ,WI];have:=k _ S0 S1;rw[hG] at this;exact av this
end
section
variable {A:aS}{I:Addr}{t:SetTable}
structure FQ (w:bP) (es:Array (Int×ac)) (t:SetTable) (qs:List (jn×Addr)):Prop where
 ent:es.toList=qs.map λx=>(hP x.1,aT x.2)
 rise:RO t.place.toList
 len:t.place.size=es.size
 fits:t.fits es.size=O1
 led:btx w=O2->t.led=O1
 pln:t.plain=O1
 sz:qs.length<=18
def FP.toQ{qs:List (jn×Addr)}(f:FP prog w h es t qs):FQ w es t qs:=by
 have l:=f.tab.len;rw[ay,gy,gy] at l;exact⟨f.ent,f.tab.rise,l,f.fits,f.led,f.pln,by rcases f.msk with ⟨_,z⟩ | ⟨_,z⟩<;>omega⟩
def So(w:bP)(h:Heap)(a:Addr)(qs:List (jn×Addr)):Prop:=∃es t,ObX h a es t/\FQ w es t qs
def So.keep{qs:List (jn×Addr)}(x:So w h a qs)(e:∀o,h.get? a=O0 o->h'.get? a=O0 o):So w h' a qs:=by
 obtain⟨z,t,⟨o,J,g,q⟩,f⟩:=x;exact⟨z,t,⟨o,J,e o g,q⟩,f⟩
theorem YJ(xs:Array Nat)(J:RO xs.toList){v i:Nat}(O:i<=xs.size)(h1:∀a (h:a<xs.size),a<i->xs[a]<v)(z:∀a (h:a<xs.size),i<=a->v<=xs[a]):yY xs v=i:=by
 obtain⟨L,b1,b2⟩:=Ox xs J v;generalize yY xs v=b at L b1 b2
 rcases B4 b i with c | c | c
 .have:=b2 b .(0) (aE _);have:=h1 b .(0) c;omega
 .exact c
 .have:=b1 i .(0) c;have:=z i .(0) (aE _);omega
def Zf(xs:Array Nat)(J:RO xs.toList){i:Nat}(S:i<=xs.size):yY xs (if i=0 then 0 else xs.getD (i-1) 0+1)=i:=by
 have mono:∀a b (U:a<xs.size) (T:b<xs.size),a<b->xs[a]<xs[b]:=λa b U T O=>by
  have:=vj.mp J a b (by simpa using U) (by simpa using T) O;simpa using this
 by_cases W:i=0
 .rw[WH W];exact YJ xs J S (λa h L=>by omega) λa h _=>eK _
 .have z:i-1<xs.size:=by omega
  rw[ZH W,show xs.getD (i-1) 0=xs[i-1] by simp[z]];refine YJ xs J S (λa h L=>?_) λa h Y=>?_
  .by_cases e:a=i-1
   .subst e;omega
   .have:=mono a (i-1) h z .(0);omega
  .have:=mono (i-1) a z h .(0);omega
def mK{sl:Nat->Nat}(T:q≠I)(hf:t.fits es.size=O1)(hL:vs.length=es.size)(hx:∀(i:Nat) (z:ah),i<=es.size->LC z.heap q es ep t->(∃v,vs[i]?=O0 v/\i<es.size/\∀(B:aS) (J:ac->ah->Prop) (R:Option (ac×Nat)->ah->Prop),R (O0 (v,sl (i+1))) z->ag (ai prog w) B (pT q (sl i) i ep) R J z)
   ∨ (es.size<=i/\∀(B:aS) (J:ac->ah->Prop) (R:Option (ac×Nat)->ah->Prop),R W1 z->ag (ai prog w) B (pT q (sl i) i ep) R J z)):
  ∀Y:aS,Y.handled=W1->nV prog w Y I [I,q] [I] vs.length (λi v=>vs[i]?=O0 v) (λi h=>Wp h I q (.int (sl i) 0) i es.size ep/\LC h q es ep t):=λY hh=>{
 sub:=λb m=>by simp at m;simp[m]
 frame:=λi h L U e=>⟨U.1.keep (e I .(1)),U.2.keep (e q .(1))⟩
 item:=λi z Q J hi U k=>by
  rcases hx i z .(0) U.2 with ⟨v,hv,_,O⟩ | ⟨S0,_⟩
  .refine rA U.1 U.2 hf rfl (λB W R y=>by rw[gg];exact O B W R y) λL Z it=>k v L z.toks hv ⟨it,U.2.keep λo g=>(Z.2 q T).trans g⟩ λb o S g=>(Z.2 b λe=>S (by simp[e])).trans g
  .omega
 done:=λz Q J U k=>by
  rcases hx vs.length z .(0) U.2 with ⟨v,_,N0,_⟩ | ⟨_,O⟩
  .omega
  .exact rC hh U.1 U.2 hf rfl (λB W R y=>by rw[gg];exact O B W R y) λL kp=>k L z.toks λb o S g=>kp b o (λe=>S (by simp[e])) g
 self:=λi z Q J U k=>rG U.1 k }
def ItP(prog:cw)(w:bP)(s:ah)(q:Addr)(qs:List (jn×Addr))(I:Addr)(h':Heap):Prop:=∃(L:List (jn×Addr)) (fp:List Addr) (Sx:Nat->Heap->Prop),L.Perm qs/\s.heap.objs.size<=I/\(∀b∈fp,b=q∨s.heap.objs.size<=b)/\(∀b o,s.heap.get? b=O0 o->h'.get? b=O0 o) ∧
 (∀O:aS,O.handled=W1->nV prog w O I fp [I] L.length (λi v=>(L.map λx=>aT x.2)[i]?=O0 v) Sx)/\Sx 0 h'
theorem fC{qs:List (jn×Addr)}(x:So w s.heap q qs)(k:∀I h',ItP prog w s q qs I h'->Q (.ref I) { s with heap:=h' }):ag (ai prog w) A (om (.ref q)) Q E s:=by
  obtain⟨J,t,⟨o,O,g,ex,d⟩,f⟩:=x;have ty:s.TypeIs (.ref q) "set":=⟨o,g,ex.1⟩;have y:LC s.heap q J O t:=⟨o,g,ex,d⟩;have lq:q<s.heap.objs.size:=bo g;have Y:J.size=qs.length:=by have:=RI eC f.ent;simpa using this
  refine KI ty LX (iE LX ty WM ?_ (F.args_set_iter_1 _));unfold eI.«frozenset.__iter__»;refine ae (show ag _ _ (pure q) _ _ s from av ?_);refine ae (show ag _ _ (setEntries q >>= λr=>pure r.size) _ _ s from ae (ED g d f.fits (av ?_)));have W:∀(T:ac),(∀h',h'=s.heap.push { cls:=.type "set_iterator",data:=.fields #[T,.int 0 0,.ref q,.int J.size 0,.int O 0] }->Wp h' s.heap.objs.size q T 0 J.size O->LC h' q J O t->ItP prog w s q qs s.heap.objs.size h') ->
      ag (ai prog w) A.in1 (do ret (<-newFields "set_iterator" [T,fN 0,.ref q,fN J.size,fN (<-setEpoch q)])) (λW z=>∃v,W=.done (.ret v)/\∃T' r,z.TypeIs v T'/\DB (.type T') "__next__"=pure (O0 r)/\Q v z) E s:=λT w1=>by
    refine ae (wpAny_setEpoch_of g d f.fits (ae (kB (av ⟨_,rfl,"set_iterator",_,⟨_,ce _ rfl,rfl⟩,Mi.lookup,k _ _ (w1 _ rfl ⟨_,ce _ rfl,rfl,rfl⟩ (y.keep λo' g'=>bn _ g'))⟩))))
  have dr:∀{R:Bool->ah->Prop},R O2 s->ag (ai prog w) A.in1 (setDrawn q) R E s:=λ{R} hr=>by
    unfold setDrawn;refine ae (o0 g d f.fits ?_);refine ae (show ag _ A.in1 Bz _ E s from ae (uu (av (av ?_))));show R (!(ai prog w).w.params.followText "set-order"&&(!t.plain&&decide (J.size > 1))) s;rw[f.pln];simpa using hr
  refine ae (dr ?_);simp only[dQ,WI];have N0:∀b∈[s.heap.objs.size,q],b=q∨s.heap.objs.size<=b:=λb m=>by simp at m;rcases m with m | m;exact .inr (CI m.symm);exact .inl m
  cases bq:btx w with
  |true=>
    refine ae (av (W _ λh' eh it sa=>?_));subst eh;obtain⟨L,eL,pL⟩:=YG (f:=λx:jn×Addr=>(hP x.1,aT x.2)) (l:=(pV (w.params.setOrder q O) J).toList) (m:=qs) (by rw[<-f.ent];exact U_ _ J);have eV:(L.map λx=>aT x.2)=(pV (w.params.setOrder q O) J).toList.map (·.2):=by rw[eL,cb];rfl
    have pz:(pV (w.params.setOrder q O) J).size=J.size:=by have:=(U_ (w.params.setOrder q O) J).length_eq;simpa using this
    refine⟨L,[s.heap.objs.size,q],(λi h=>Wp h s.heap.objs.size q (.int (((λ_=>0:Nat->Nat) i:Nat):Int) 0) i J.size O/\LC h q J O t),pL,aE _,N0,λb o z=>bn _ z,?_,it,sa⟩;have lv:(L.map λx=>aT x.2).length=L.length:=ay ..;rw[<-lv];refine mK (sl:=λ_=>0) (es:=J) (t:=t) (ep:=O) (bS lq) f.fits (by rw[lv,pL.length_eq,Y]) λi z T0 q0=>?_;obtain⟨oz,gz,_,dz⟩:=q0;have S:∀(B:aS) (U:ac->ah->Prop) (R:Option (ac×Nat)->ah->Prop),R (((pV (w.params.setOrder q O) J)[i]?).map λe=>(e.2,0)) z->ag (ai prog w) B (pT q 0 i O) R U z:=λB U R Z=>by
      unfold pT setWalk;refine ae (o0 gz dz f.fits ?_);refine ae (show ag _ B Bz _ U z from ae (uu (av ?_)));rw[show (ai prog w).w.params.followText "set-order"=O1 from bq];dsimp only;rw[WH rfl,ZH .(1)];refine ae (ae (o0 gz dz f.fits (ae (show ag _ B Bz _ U z from ae (uu (av ?_))))));rw[show (ai prog w).w.params.followText "set-order"=O1 from bq];dsimp only;rw[WH rfl];exact ae (uu (av (av Z)))
    by_cases hi:i<J.size
    . have hz:i<(pV (w.params.setOrder q O) J).size:=by omega
      refine .inl ⟨(pV (w.params.setOrder q O) J)[i].2,?_,hi,λB U R Z=>S B U R ?_⟩
      . rw[eV,ca]
        simp[hz]
      . rw[FL hz]
        exact Z
    . refine .inr ⟨by omega,λB U R Z=>S B U R ?_⟩
      rw[LY .(0)];exact Z
  |false=>
    have S0:t.led=O1:=f.led bq;refine ae (av (W _ λh' eh it sa=>?_));subst eh;refine⟨qs,[s.heap.objs.size,q],(λi h=>Wp h s.heap.objs.size q (.int (((λi=>if i=0 then 0 else t.place.getD (i-1) 0+1:Nat->Nat) i:Nat):Int) 0) i J.size O/\LC h q J O t),xI _,aE _,N0,λb o z=>bn _ z,?_,it,sa⟩;have lv:(qs.map λx=>aT x.2).length=qs.length:=ay ..;rw[<-lv];refine mK (sl:=λi=>if i=0 then 0 else t.place.getD (i-1) 0+1) (es:=J) (t:=t) (ep:=O) (bS lq) f.fits (by rw[lv,Y]) λi z T0 q9=>?_;obtain⟨oz,gz,_,dz⟩:=q9;have S:∀(sl:Nat) (B:aS) (U:ac->ah->Prop) (R:Option (ac×Nat)->ah->Prop),R (match J[yY t.place sl]?,t.place[yY t.place sl]? with | some (_,x),O0 j=>O0 (x,j+1) | _,_=>W1) z->ag (ai prog w) B (pT q sl i O) R U z:=λsl B U R Z=>by
      unfold pT;refine ae (o0 gz dz f.fits ?_);refine ae (show ag _ B Bz _ U z from ae (uu (av ?_)));rw[show (ai prog w).w.params.followText "set-order"=O2 from bq];dsimp only;rw[ZH dc];split
      . rename_i hd
        have X0:(!t.plain&&decide (J.size > 1))=O1:=hd;rw[f.pln] at X0;simp at X0
      . refine ae (show ag _ B (if (!t.led&&!J.isEmpty)=O1 then FB "set:maker-not-led" else pure ()) _ U z from ?_)
        rw[ZH (by rw[S0];simp)];exact av (av Z)
    have eb:=Zf t.place f.rise (i:=i) (by rw[f.len];exact T0)
    by_cases hi:i<J.size
    . have hp:i<t.place.size:=by rw[f.len];exact hi
      refine .inl ⟨J[i].2,?_,hi,λB U R Z=>S _ B U R ?_⟩
      . have ev:(qs.map λx=>aT x.2)=J.toList.map (·.2):=by rw[f.ent,cb];rfl
        rw[ev,ca];simp[hi]
      . rw[eb,FL hi,FL hp]
        have:(if i+1=0 then 0 else t.place.getD (i+1-1) 0+1)=t.place[i]+1:=by
          rw[ZH .(0),Nat.add_sub_cancel];simp[hp]
        rw[this] at Z;exact Z
    . refine .inr ⟨by omega,λB U R Z=>S _ B U R ?_⟩
      rw[eb,LY .(0)];exact Z
end
section
variable {A:aS}{I T:Addr}
theorem So.ty{qs:List (jn×Addr)}(x:So w s.heap q qs):s.TypeIs (.ref q) "set":=let ⟨_,_,⟨o,_,g,ex,_⟩,_⟩:=x;⟨o,g,ex.1⟩
theorem Wi{ks:List (jn×Addr)}{Q:List ac->ah->Prop}(hh:A.handled=W1)(x:So w s.heap q ks)(hz:ks.length<=4000)(k:∀(L:List (jn×Addr)) (h':Heap) (tk:Nat),L.Perm ks->s.heap.objs.size<=h'.objs.size->(∀b o,s.heap.get? b=O0 o->h'.get? b=O0 o)->Q (L.map λx=>aT x.2) { s with heap:=h',toks:=tk }):
  ag (ai prog w) A (sg (.ref q)) Q E s:=by
 obtain⟨lq⟩:Nonempty (q<s.heap.objs.size):=let ⟨_,_,⟨_,_,g,_⟩,_⟩:=x;⟨bo g⟩;unfold sg;refine ae (B3 (kK ER (show ag _ _ (do again (.builtin "list.__iadd__" ⟨[<-xt [],.ref q],[]⟩)) _ _ s from ?_)));refine ae (vi (av ⟨E9 _ (by decide +kernel),kK ES (show ag _ _ (y0 (.ref s.heap.objs.size) (.ref q) (.ref s.heap.objs.size)) _ _ _ from ?_)⟩));have Y:So w (s.heap.push { cls:=.type "list",data:=.seq ([]:List ac).toArray }) q ks:=x.keep λo g=>bn _ g;unfold y0;refine ae (xh (T:="set") (So.ty (s:={ s with heap:=s.heap.push { cls:=.type "list",data:=.seq ([]:List ac).toArray } }) Y) ?_);have nr:LZ (.ref s.heap.objs.size) (.ref q)=O2:=by simp[LZ,ol lq]
 rw[ZH (by rw[nr];decide)];refine ae (fC (s:={ s with heap:=s.heap.push { cls:=.type "list",data:=.seq ([]:List ac).toArray } }) Y λI h' p0=>?_);obtain⟨L,fp,Sx,hL,N0,S0,kp,W,st⟩:=p0;have x2:So w h' q ks:=Y.keep λo g=>kp q o g;refine ae (wpAny_holding (j6 (s:={ s with heap:=h' }) (So.ty (s:={ s with heap:=h' }) x2) ?_));have gS:h'.get? s.heap.objs.size=O0 { cls:=.type "list",dict:=W1,data:=.seq #[] 0,slots:=#[] }:=kp _ _ (ce _ rfl);have O:(s.heap.push { cls:=.type "list",data:=.seq ([]:List ac).toArray }).objs.size=s.heap.objs.size+1:=iO _ _;have nS:s.heap.objs.size∉fp:=λm=>by
  rcases S0 _ m with z | z
  .exact NI z (ol lq)
  .have z':(s.heap.push { cls:=.type "list",data:=.seq ([]:List ac).toArray }).objs.size<=s.heap.objs.size:=z;rw[O] at z';exact NI z' (Nat.not_succ_le_self _)
 have S:s.heap.objs.size+1<=I:=by rw[<-O];exact N0
 rw[WH (by decide +kernel)];refine ae (sK (ae (show ag _ _ (AL s.heap.objs.size (·.push .none) >>= λ_=>AL s.heap.objs.size (·.pop)) _ _ _ from ae (xB gS rfl ?_))));have g1:=nX (kD (·.push fF)) gS rfl;refine xB (hz:=by seq_fits) g1 rfl ?_;have g2:=nX (kD (·.pop)) g1 rfl;have YU:∀b o,b≠s.heap.objs.size->h'.get? b=O0 o->((h'.update s.heap.objs.size (kD (·.push fF))).update s.heap.objs.size (kD (·.pop))).get? b=O0 o:=λb o nb g=>(lP _ _ (cf nb)).trans ((lP _ _ (cf nb)).trans g);have Z:=(W A hh).frame 0 _ _ st λb m o g=>YU b o (λz=>nS (z▸m)) g;refine av ⟨pE PySem.F.plain_extend_loop _,codeAny_extend_loopS (W _ (by simp[hh])).toS (d6 (by rw[hL.length_eq];exact hz) .(2)) s.heap.objs.size nS _ L.length 0 { s with heap:=(h'.update s.heap.objs.size (kD (·.push fF))).update s.heap.objs.size (kD (·.pop)) } #[] _ rfl (eK _) Z g2 (ItemsOf.nil _) λs' J c' hm U ha=>?_⟩;rw[Moved.eq_with hm];show ag _ A (load s.heap.objs.size >>= _) _ _ _;have ev:J.toList=L.map λx=>aT x.2:=by
  apply JE;intro i;have hl:J.toList.length=L.length:=by rw[gy];exact ha.1
  by_cases c:i<L.length
  .have ga:J.toList[i]?=O0 (J.toList[i]'(by omega)):=db .(0);rw[ga];exact (ha.2 i _ (by rw[<-Fs];exact ga)).symm
  .rw[pw .(0),pw (by rw[ay];omega)]
 refine ae (wc U (av (ev▸k L s'.heap s'.toks hL (sQ (bo U)) λb o g=>?_)));have lb:b<s.heap.objs.size:=bo g;refine hm.heap b o (λm=>?_) (YU b o (bS lb) (kp b o (bn _ g)))
 rcases br.mp m with z | z
 .exact NI z (bS lb)
 .exact NI (mI.mp z) (bS (eP lb (Nat.le_of_succ_le S)))
theorem YK{qs:List (jn×Addr)}(hh:A.handled=W1)(x:So w s.heap q qs)(S:∀x∈qs,SK prog w s.heap x.1 x.2)(nd:(qs.map (·.1)).Nodup)(k:∀(L:List (jn×Addr)) (e:Nat) (l:Addr) (h':Heap) (tk:Nat),L.Perm qs->(L.map λx=>RY x.1).Pairwise (·<·)->h'.get? l=O0 (qa "list" (L.map λx=>aT x.2).toArray e)->s.heap.objs.size<=l->(∀b o,s.heap.get? b=O0 o->h'.get? b=O0 o)->Q (.ref l) { s with heap:=h',toks:=tk }):
  ag (ai prog w) A (call (.builtin "sorted") [.ref q]) Q E s:=by
 have sz:qs.length<=18:=let ⟨_,_,_,f⟩:=x;f.sz;refine ET EU EV EW (EZ _) ?_;unfold eI.«sorted»;refine ae (m:=F0 "sorted" 1 1 _) (av (ae (Wi (A:=A.in1) hh x .(0) λL Y tk J le O=>?_)));have z:(L.map λx=>aT x.2).length<=60:=by rw[ay,J.length_eq];omega
 refine ae (vi ?_ (d6 z .(2)));have U:(Y.push { cls:=.type "list",data:=.seq (L.map λx=>aT x.2).toArray }).get? Y.objs.size=O0 (qa "list" (L.map λx=>aT x.2).toArray 0):=ce _ rfl;refine ae (wpAny_holding (iE F3 ⟨_,U,rfl⟩ F4 (T6 U (λx hx=>(S x (J.mem_iff.mp hx)).keep λo g=>bn _ (O _ o g)) ((J.map (·.1)).nodup_iff.mpr nd) (by rw[J.length_eq];omega) λL2 p2 Z=>⟨_,rfl,?_⟩) (F5 _)));obtain⟨c,hc⟩:=F7 (out:=(L2.map λx=>aT x.2).toArray) U;refine av ⟨_,rfl,k L2 c _ _ tk (p2.trans J) Z hc le λb o g=>?_⟩;have W:=bo (O b o g);rw[F8 (bS W) (by rw[iO];exact mE W)];exact bn _ (O b o g)
end
abbrev YL (w:bP) (q:Addr) (rs:List (jn×Addr)):HO:=.ext λh=>So w h q rs
abbrev US (qs:List (jn×Addr)):List V:=qs.map λx=>V.ref x.2
def AtP(X:Cx)(H:Hp)(qs:List (jn×Addr)):Prop:=∀x∈qs,SL x.1/\OL X.K H x.2 ((kk x.1).map kV)
section
theorem Wj(val:Nat->jn):∀{n:Nat}{y:jn},y∈TU val n↔∃i,i<n/\val i=y
 |0,y=>by simp[TU]
 |n+1,y=>by
  rw[Ql];unfold ZT;have I:=Wj val (n:=n) (y:=y);split
  .rename_i h;rw[I];constructor
   .rintro⟨i,z,e⟩;exact⟨i,by omega,e⟩
   .rintro⟨i,z,e⟩
    by_cases c:i=n
    .subst c;obtain⟨j,U,J⟩:=(Wj val (n:=i) (y:=val i)).mp h;exact⟨j,U,J.trans e⟩
    .exact⟨i,by omega,e⟩
  .rw[dA,I,mI];constructor
   .rintro (⟨i,z,e⟩ | e)
    .exact⟨i,by omega,e⟩
    .exact⟨n,by omega,e.symm⟩
   .rintro⟨i,z,e⟩
    by_cases c:i=n
    .subst c;exact .inr e.symm
    .exact .inl ⟨i,by omega,e⟩
def bz{qs:List (jn×Addr)}(I:Inv X π σ H s)(h:AtP X H qs):∀x∈qs,SK X.prog X.w s.heap x.1 x.2:=λx z=>⟨(h x z).1,tup_is I (h x z).2⟩
def YM{qs:List (jn×Addr)}(r:cx (US qs) us)(i:Nat)(v:ac)(h:us[i]?=O0 v):v=.ref (qs.getD i ((0,0),0)).2:=by
 have e:us=(qs.map (·.2)).map aT:=Rw (bs:=qs.map (·.2)) (by rw[cb];exact r);rw[e,cb,ca] at h;obtain⟨x,z,rfl⟩:=kx.mp h;simp[z]
def prsL{qs:List (jn×Addr)}(i:Inv X π σ H s)(h:NS X.K H p (US qs)):PrsAt X.prog X.w "list" p qs.length (λi=>(qs.getD i ((0,0),0)).2) s.heap:=by
 obtain⟨I,r,L,_⟩:=i.list h;obtain⟨o,g,c,m,d⟩:=L.isList;have Y:=r.length;rw[ay] at Y;refine⟨λz e=>⟨o,e o g,c⟩,by rw[pS];kernel_rfl,by rw[pS];kernel_rfl,by decide,bo g,λA E z Q S e lt k=>?_⟩;have J:z.heap.IsList p I.toArray:=⟨o,e o g,c,m,d⟩;refine A7 J (k _ (λi h=>h.IsListIter z.heap.objs.size p i/\h.IsList p I.toArray) (λi v=>I.toArray[i]?=O0 v) (λT O=>by rw[Y,<-cr];exact AN O _ p (bS lt) I.toArray) ⟨⟨_,ce _ rfl,rfl,rfl⟩,J.push _⟩ λi v q=>YM r i v (by simpa using q))
def prsT{qs:List (jn×Addr)}(i:Inv X π σ H s)(h:NR X.K H p (US qs)):PrsAt X.prog X.w "tuple" p qs.length (λi=>(qs.getD i ((0,0),0)).2) s.heap:=by
 obtain⟨I,r,L,_⟩:=i.tuple h;obtain⟨o,g,c,m,d⟩:=(show s.heap.IsTuple p I.toArray from L);have Y:=r.length;rw[ay] at Y;refine⟨λz e=>⟨o,e o g,c⟩,by rw[pS];kernel_rfl,by rw[pS];kernel_rfl,by decide,bo g,λA E z Q U e lt k=>?_⟩;have J:z.heap.IsTuple p I.toArray:=⟨o,e o g,c,m,d⟩;refine wf J (k _ (λi h=>h.IsTupleIter z.heap.objs.size p i/\h.IsTuple p I.toArray) (λi v=>I.toArray[i]?=O0 v) (λW O=>by rw[Y,<-cr];exact Walks.tuple O _ p (bS lt) I.toArray) ⟨⟨_,ce _ rfl,rfl,rfl⟩,J.at λT S=>bn _ S⟩ λi v q=>YM r i v (by simpa using q))
def vN(X:Cx):List V->Hp->VK->Prop:=λxs H Q=>∃p qs,xs=[.ref p]/\(NS X.K H p (US qs)∨NR X.K H p (US qs))/\AtP X H qs/\qs.length<=17/\∀l J,H l=W1->(J.map (·.1)).Nodup->(∀x∈J,x∈qs)->(∀x∈qs,x.1∈J.map (·.1))->Q (.ref l) (gq H l (YL X.w l J))
theorem fD(hu:X.A.units+64<bv)(hc:X.calm=O1):Dd X (.type "set") (vN X):=by
 intro π s Z H xs us Q I r h;obtain⟨p,qs,rfl,hs,U,hz,k⟩:=h;obtain⟨u,rfl,ru⟩:=SR r;cases ru;have O:=bz I U;have Y:∀{T:String},PrsAt X.prog X.w T p qs.length (λi=>(qs.getD i ((0,0),0)).2) s.heap->ag (ai X.prog X.w) X.A (call (.type "set") [.ref p]) (EP X π Z Q) X.xe s:=λt=>by
  refine tD (B:=λb=>b∈qs.map (·.2)) (val:=λi=>(qs.getD i ((0,0),0)).1) .(0) (I.ok.hd hc) t (λi z=>?_) hz (λi z=>?_) (λb hb=>?_) λh' tk x W=>?_
  .rw[show qs.getD i ((0,0),0)=qs[i] by simp[z]];exact O _ (gu z)
  .rw[show qs.getD i ((0,0),0)=qs[i] by simp[z]];exact bb.mpr ⟨_,gu z,rfl⟩
  .obtain⟨y,J,rfl⟩:=bb.mp hb;obtain⟨_,o,_,_,g,_⟩:=O y J;exact bo g
  .obtain⟨es,t,S,ob,f,pm,bq⟩:=x;have sub:∀x∈S,x∈qs:=λx L=>by
    obtain⟨y,J,e⟩:=bb.mp (bq x L);have iy:=(O y J).keep (g:=h') λo g=>W _ o g;have ix:=f.isp x L;rw[<-e] at ix;have:=xx (ix.2.inj iy.2);rw[show x=y from rd this e.symm];exact J
   refine⟨.ref s.heap.objs.size,_,I.laid (a:=s.heap.objs.size) (o:=YL X.w s.heap.objs.size S) (t':=tk) W (aE _) ⟨⟨es,t,ob,f.toQ⟩,?_,λh1 h2 x1 e=>x1.keep e⟩,rfl,k _ S I.fresh f.nd sub λx L=>?_⟩
   .obtain⟨o,_,g,_⟩:=ob;exact⟨o,g⟩
   .obtain⟨i,z,e⟩:=si.mp L;exact pm.mem_iff.mpr ((Wj _).mpr ⟨i,z,by simp[z,e]⟩)
 rcases hs with hs | hs
 .exact Y (prsL I hs)
 .exact Y (prsT I hs)
def T7(X:Cx):List V->Hp->VK->Prop:=λxs H Q=>∃p J,xs=[.ref p]/\(H p=O0 (YL X.w p J)∨((NS X.K H p (US J)∨NR X.K H p (US J))/\J.length<=60))/\AtP X H J/\(J.map (·.1)).Nodup/\∀l z,H l=W1->z.Perm J->(z.map λx=>RY x.1).Pairwise (·<·)->Q (.ref l) (gq H l (.lst (US z)))
theorem T8:∀(qs:List (jn×Addr)),cx (US qs) (qs.map λx=>aT x.2)
 |[]=>.nil
 |x::r=>.cons rfl (T8 r)
theorem YQ{A:aS}{l:Addr}{T:String}{Q:List ac->ah->Prop}(U:T="list"∨T="tuple")(I:s.heap.get? l=O0 o)(L:o.cls=.type T)(J:o.data=.seq vs.toArray n)(hz:vs.length<=1000)(k:∀h',s.heap.objs.size<=h'.objs.size->(∀b o,s.heap.get? b=O0 o->h'.get? b=O0 o)->Q vs { s with heap:=h' }):ag (ai prog w) A (sg (.ref l)) Q E s:=by
 unfold sg;refine ae (B3 (kK ER (show ag _ _ (do again (.builtin "list.__iadd__" ⟨[<-xt [],.ref l],[]⟩)) _ _ s from ?_)));refine ae (vi (av ⟨E9 _ (by decide +kernel),kK ES (show ag _ _ (y0 (.ref s.heap.objs.size) (.ref l) (.ref s.heap.objs.size)) _ _ { s with heap:=s.heap.push (qa "list" #[] 0) } from ?_)⟩));have z:(s.heap.push (qa "list" #[] 0)).get? l=O0 o:=bn _ I;unfold y0;refine ae (xh (T:=T) ⟨o,z,L⟩ ?_);rw[WH (by rcases U with rfl | rfl<;>simp)];refine ae (M0 z J (ae (M0 (xs:=#[]) (n:=0) (ce _ rfl) rfl ?_)));rw[ZH .(1)];refine ae (PyProof.Rows.listUpdate_at (xs:=#[]) (n:=0) (ce _ rfl) rfl ?_ (eK _) (by simp only[Array.size_append,cr,nE,hV];omega));refine av (show ag (ai prog w) A (load s.heap.objs.size >>= _) Q E _ from ae (wc (PyProof.Rows.get?_update_seq (ce _ rfl) _) ?_));show ag _ _ (pure ((#[]:Array ac)++vs.toArray).toList) Q E _;rw[show ((#[]:Array ac)++vs.toArray).toList=vs by simp];refine av (k _ (by rw[Heap.size_update,iO];exact lx _) λb o g=>?_);rw[Heap.get?_update_ne _ _ _ _ (bS (bo g))];exact bn _ g
theorem O3(hc:X.calm=O1):Dd X (.builtin "sorted") (T7 X):=by
 intro π s σ H xs us Q I r h;obtain⟨p,O,rfl,J,T0,nd,k⟩:=h;obtain⟨u,rfl,ru⟩:=SR r;cases ru;have W:=bz I T0
 rcases J with J | ⟨J,hz⟩
 .obtain⟨x,_,_⟩:=(show BX X.prog X.w H s.heap p (YL X.w p O) from I.hok p _ J);have sz:O.length<=18:=let ⟨_,_,_,f⟩:=x;f.sz;refine YK (I.ok.hd hc) x W nd λL e l h' tk hL hS g S U=>?_;exact⟨.ref l,_,I.laid (a:=l) (o:=.lst (US L)) (t':=tk) U S ⟨by rw[ay,hL.length_eq,hV];omega,_,e,T8 L,g⟩,rfl,k l L (I.hok.fresh S) hL hS⟩
 .have go:∀{T:String}{o:Obj}{n:Nat},(T="list"∨T="tuple")->s.heap.get? p=O0 o->o.cls=.type T->o.data=.seq (O.map λx=>aT x.2).toArray n->ag (ai X.prog X.w) X.A (call (.builtin "sorted") [.ref p]) (EP X π σ Q) X.xe s:=λ{T o n} hT ho N0 hd=>by
   refine ET EU EV EW (EZ _) ?_;unfold eI.«sorted»;refine ae (m:=F0 "sorted" 1 1 _) (av (ae (YQ hT ho N0 hd (by rw[ay];omega) λY S U=>?_)));refine ae (vi ?_ (by rw[ay,hV];omega));have gl:(Y.push { cls:=.type "list",data:=.seq (O.map λx=>aT x.2).toArray }).get? Y.objs.size=O0 (qa "list" (O.map λx=>aT x.2).toArray 0):=ce _ rfl;refine ae (wpAny_holding (iE F3 ⟨_,gl,rfl⟩ F4 (T6 gl (λx hx=>(W x hx).keep λo g=>bn _ (U _ o g)) nd .(0) λL2 p2 s2=>⟨_,rfl,?_⟩) (F5 _)));obtain⟨c,S0⟩:=F7 (out:=(L2.map λx=>aT x.2).toArray) gl;refine av ⟨_,rfl,.ref Y.objs.size,_,I.laid (a:=Y.objs.size) (o:=.lst (US L2)) (t':=s.toks) (λb o g=>?_) S ⟨by rw[ay,p2.length_eq,hV];omega,_,c,T8 L2,S0⟩,rfl,k _ L2 (I.hok.fresh S) p2 s2⟩;have lb:=bo (U b o g);rw[F8 (bS lb) (by rw[iO];exact mE lb)];exact bn _ (U b o g)
  have ei:∀{z:List ac},cx (US O) z->z=O.map λx=>aT x.2:=λ{z} r=>by
   have:=Rw (bs:=O.map (·.2)) (us:=z) (by rw[cb];exact r);rw[this,cb];rfl
  rcases J with J | J
  .obtain⟨z,r,Z,_⟩:=I.list J;obtain⟨o,g,c,m,d⟩:=Z.isList;exact go (.inl rfl) g c (by rw[<-ei r];exact d)
  .obtain⟨z,r,Z,_⟩:=I.tuple J;obtain⟨o,g,c,m,d⟩:=(show s.heap.IsTuple p z.toArray from Z);exact go (.inr rfl) g c (by rw[<-ei r];exact d)
end
def WV(p:jn):List jn->List jn
 |[]=>[p]
 |q::r=>if RY p<RY q then p::q::r else if RY p=RY q then q::r else q::WV p r
def Ag(ps:List jn):List jn:=ps.foldr WV []
abbrev PM (l:List jn):Prop:=(l.map RY).Pairwise (·<·)
theorem T9{p x:jn}(z:SL p):∀{l:List jn},(∀q∈l,SL q)->(x∈WV p l↔x=p∨x∈l)
 |[],_=>by simp[WV]
 |q::r,h=>by
  have I:=T9 (x:=x) z (l:=r) λy J=>h y (by simp[J]);unfold WV;split
  .simp
  .split
   .rename_i _ e;have:p=q:=bw z (h q .(1)) e;subst this;simp
   .rw[br,I,br];constructor
    .rintro (a | a | a)
     .exact .inr (.inl a)
     .exact .inl a
     .exact .inr (.inr a)
    .rintro (a | a | a)
     .exact .inr (.inl a)
     .exact .inl a
     .exact .inr (.inr a)
theorem YS{p:jn}(S:SL p):∀{l:List jn},(∀q∈l,SL q)->PM l->PM (WV p l)
 |[],_,_=>by simp[WV,PM]
 |q::r,h,s=>by
  have L:∀y∈r,SL y:=λy I=>h y (by simp[I]);have J:(∀y∈r,RY q<RY y)/\PM r:=by
   rw[PM,ba,kL] at s;exact⟨λy I=>s.1 _ (bb.mpr ⟨y,I,rfl⟩),s.2⟩
  have T:=YS S L J.2;unfold WV;split
  .rename_i c;rw[PM,ba,kL];refine⟨λy I=>?_,s⟩;obtain⟨z,O,rfl⟩:=bb.mp I
   rcases br.mp O with rfl | O
   .exact c
   .exact IN c (J.1 z O)
  .split
   .exact s
   .rename_i W U;rw[PM,ba,kL];refine⟨λy I=>?_,T⟩;obtain⟨z,O,rfl⟩:=bb.mp I
    rcases (T9 S L).mp O with rfl | O
    .omega
    .exact J.1 z O
theorem O4:∀{ps:List jn},(∀p∈ps,SL p)->PM (Ag ps)/\∀x,x∈Ag ps↔x∈ps
 |[],_=>⟨by simp[Ag,PM],λx=>by simp[Ag]⟩
 |p::r,h=>by
  have J:∀y∈r,SL y:=λy z=>h y (by simp[z]);obtain⟨a,b⟩:=O4 J;have hs:∀q∈Ag r,SL q:=λq U=>J q ((b q).mp U);exact⟨YS (h p .(1)) hs a,λx=>by show x∈WV p (Ag r)↔_;rw[T9 (h p .(1)) hs,b,br]⟩
theorem Wk:∀{l m:List jn},PM l->PM m->(∀x,x∈l↔x∈m)->l=m
 |[],[],_,_,_=>rfl
 |[],y::m,_,_,h=>NI ((h y).mpr .(1)) .(1)
 |x::l,[],_,_,h=>NI ((h x).mp .(1)) .(1)
 |x::l,y::m,a,b,h=>by
  rw[PM,ba,kL] at a b;have S:∀z∈l,RY x<RY z:=λz O=>a.1 _ (bb.mpr ⟨z,O,rfl⟩);have b1:∀z∈m,RY y<RY z:=λz O=>b.1 _ (bb.mpr ⟨z,O,rfl⟩);have e:x=y:=by
   rcases br.mp ((h x).mp .(1)) with z | z
   .exact z
   .rcases br.mp ((h y).mpr .(1)) with w | w
    .exact w.symm
    .have:=b1 x z;have:=S y w;omega
  subst e;have:=Wk a.2 b.2 λz=>by
   have O:=h z;rw[br,br] at O;constructor
   .intro c
    rcases O.mp (.inr c) with d | d
    .subst d;have:=S z c;omega
    .exact d
   .intro c
    rcases O.mpr (.inr c) with d | d
    .subst d;have:=b1 z c;omega
    .exact d
  rw[this]
abbrev prT (p:jn):D:=.tup [.int (p.1:Int),.int (p.2:Int)]
def tssL(ds:List D):Option D:=(Sf ds).bind λps=>if ps.length<=17 then O0 (.tup ((Ag ps).map prT)) else W1
def tssD:D->Option D
 |.lst ds=>tssL ds
 |.tup ds=>tssL ds
 |_=>W1
def tslL(ds:List D):Option D:=(Sf ds).bind λps=>if ps.length<=17/\ps.Nodup then O0 (.tup ((Ag ps).map prT)) else W1
def tslD:D->Option D
 |.lst ds=>tslL ds
 |.tup ds=>tslL ds
 |_=>W1
section
variable {a:Expr}{fa:FE}
theorem Pc{H:Hp}:∀{ks:List jn}{bs:List Addr},mh (λk c=>OL X.K H c (k.map kV)) (Tb ks) bs->(∀p∈ks,SL p)->∃qs:List (jn×Addr),bs=qs.map (·.2)/\ks=qs.map (·.1)/\AtP X H qs
 |[],_,.nil,_=>⟨[],rfl,rfl,λx z=>by cases z⟩
 |k::ks,_,.cons r t,h=>by
  obtain⟨qs,O,L,J⟩:=Pc t λp I=>h p (by simp[I]);refine⟨(k,_)::qs,by rw[ba,<-O],by rw[ba,<-L],λx z=>?_⟩
  rcases br.mp z with rfl | z
  .exact⟨h k .(1),r⟩
  .exact J x z
def Lh{qs:List (jn×Addr)}(s:ab H H')(h:AtP X H qs):AtP X H' qs:=λx I=>by
 obtain⟨a,b⟩:=h x I;refine⟨a,?_⟩
 rcases b with (z | ⟨o,z⟩) | z
 .exact .inl (.inl (s _ _ z))
 .exact .inl (.inr ⟨o,s _ _ z⟩)
 .exact .inr z
theorem tH{J:List (jn×Addr)}(W:G.K=X.K)(h:AtP X (bm A H) J):be G (bm A H) (US J) ((J.map (·.1)).map prT):=by
 refine⟨by simp,λi x d z I=>?_⟩;rw[ca] at z;rw[cb,ca] at I;cases e:J[i]? with
 |none=>rw[e] at z;cases z
 |some y=>
  rw[e] at z I;cases z;cases I;obtain⟨_,t⟩:=h y (oS e);rw[<-W] at t;refine .tup (xs:=[.int (y.1.1:Int),.int (y.1.2:Int)]) t rfl λj x d z I=>?_
  match j,z,I with
  |0,z,I=>cases z;cases I;exact .int _
  |1,z,I=>cases z;cases I;exact .int _
  |j+2,z,_=>simp at z
def VR{qs z:List (jn×Addr)}{ps:List jn}(e:ps=qs.map (·.1))(W:∀p∈ps,SL p)(U:(z.map λx=>RY x.1).Pairwise (·<·))(J:∀x,x∈z.map (·.1)↔x∈ps):z.map (·.1)=Ag ps:=by
 obtain⟨I,S⟩:=O4 W;refine Wk ?_ I λx=>by rw[J,S]
 rw[PM,cb];exact U
def b_{I:Hp}{l:Addr}{z:List (jn×Addr)}{ps:List jn}{Q:VK}(W:G.K=X.K)(o:Pt G A σ H ρ)(S:ab H I)(J:AtP X (bm A I) z)(Y:I l=W1)(T:z.map (·.1)=Ag ps)(k:∀v H',ab H H'->im G (bm A H') v (.tup ((Ag ps).map prT))->Q v H'):(∃p ys,[V.ref l]=[.ref p]/\((NS X.K (gq I l (.lst (US z))) p ys/\∀m,gq I l (.lst (US z)) m=W1->Q (.ref m) (gq (gq I l (.lst (US z))) m (.tup ys)))∨(NR X.K (gq I l (.lst (US z))) p ys/\Q (.ref p) (gq I l (.lst (US z)))))):=by
 refine⟨l,US z,rfl,.inl ⟨.of Aj,λm L=>k _ _ ?_ ?_⟩⟩
 .exact (S.trans (Ak Y _)).trans (Ak L _)
 .have O:ab H (gq I l (.lst (US z))):=S.trans (Ak Y _);refine Fq (o.mono O).live L ?_;rw[<-T];exact tH W (Lh (BJ (Ak Y _)) J)
theorem yF{z:Str}{p q r I:Pos}(hu:X.A.units+64<bv)(hc:X.calm=O1)(hG:G.K=X.K)(hg:Gl X z)(hm:X.mg z=W1)(hv:cE z=O0 (.type "tuple"))(Q2:Gl X x)(X1:X.mg x=W1)(N1:cE x=O0 (.builtin "sorted"))(Y1:Gl X y)(U1:X.mg y=W1)(X0:cE y=O0 (.type "set"))(ha:PU X G a fa)(hn:z≠"__name__":=by decide)(S2:(z==("__debug__":Str))=O2:=by decide)(S1:x≠"__name__":=by decide)(N0:(x==("__debug__":Str))=O2:=by decide)(P1:y≠"__name__":=by decide)(Y:(y==("__debug__":Str))=O2:=by decide)(he:aw [a] X.env=[(O2,eval a X.env)]:=by rfl)(Z:aw [.Call (.Name y q) [a] [] pos2] X.env=[(O2,eval (.Call (.Name y q) [a] [] pos2) X.env)]:=by rfl)(U:aw [.Call (.Name x p) [.Call (.Name y q) [a] [] pos2] [] I] X.env=[(O2,eval (.Call (.Name x p) [.Call (.Name y q) [a] [] pos2] [] I) X.env)]:=by rfl):
  PF X G (.Call (.Name z r) [.Call (.Name x p) [.Call (.Name y q) [a] [] pos2] [] I] [] pos) (uF tssD fa):=λA=>Bt (Gk M3 hg hm hv (Bw (K6 (O3 hc) Q2 X1 N1 (Bw (Gk (fD hu hc) Y1 U1 X0 (Bw (@ha A) Dq he) P1 Y he rfl) Dq Z) S1 N0 Z rfl) Dq U) hn S2 U rfl)<|by
 rintro σ H Q ⟨ρ,d,o,e,k⟩
 obtain⟨dx,e1,e2⟩:=Ez e;refine⟨ρ,dx,o,e1,λv T s1 r1=>?_⟩;have S:∀(ds:List D) (J:Addr) (L:List V),tssL ds=O0 d->v=.ref J->(NS G.K T J L∨NR G.K T J L)->be G (bm A T) L ds->vN X [v] T λx2 H2=>T7 X [x2] H2 λx3 H3=>(∃p ys,[x3]=[.ref p]/\((NS X.K H3 p ys/\∀l,H3 l=W1->Q (.ref l) (gq H3 l (.tup ys)))∨(NR X.K H3 p ys/\Q (.ref p) H3))):=λds J L e3 ev hs rr=>by
  unfold tssL at e3;obtain⟨ps,ez,e4⟩:=yB.mp e3;split at e4
  .rename_i hz;cases e4;obtain⟨i5,bs,rfl,pr⟩:=Ry rr ez;rw[hG] at pr;obtain⟨qs,eb,eq,at0⟩:=Pc pr i5;have er:bs.map V.ref=US qs:=by rw[eb,cb];rfl
   have S0:AtP X T qs:=Lh Am at0;refine⟨J,qs,by rw[ev],by rw[<-hG,<-er];exact hs,S0,by rw[eq,ay] at hz;exact hz,λl rs hl nd sub all=>⟨l,rs,rfl,.inl Aj,Lh (Ak hl _) λx O=>S0 x (sub x O),nd,λm ts hm W T0=>?_⟩⟩;have s2:ab H (gq T l (YL X.w l rs)):=s1.trans (Ak hl _);refine b_ (ps:=ps) hG o s2 (λx O=>Lh (BJ (Ak hl _)) at0 x (sub x (W.mem_iff.mp O))) hm (VR eq i5 T0 λx=>?_) k;constructor
   .intro O;obtain⟨y,hy,rfl⟩:=bb.mp O;rw[eq];exact bb.mpr ⟨y,sub y (W.mem_iff.mp hy),rfl⟩
   .intro O;rw[eq] at O;obtain⟨y,hy,rfl⟩:=bb.mp O;obtain⟨z,hz,ez⟩:=bb.mp (all y hy);exact bb.mpr ⟨z,W.mem_iff.mpr hz,ez⟩
  .cases e4
 unfold tssD at e2;split at e2
 .obtain⟨J,L,ev,hs,r⟩:=r1.lst;exact S _ J L e2 ev (.inl hs) r
 .obtain⟨J,L,ev,hs,r⟩:=r1.tup;exact S _ J L e2 ev (.inr hs) r
 .cases e2
def yG{z:Str}{p r I:Pos}(hc:X.calm=O1)(hG:G.K=X.K)(hg:Gl X z)(hm:X.mg z=W1)(hv:cE z=O0 (.type "tuple"))(N1:Gl X x)(X0:X.mg x=W1)(S0:cE x=O0 (.builtin "sorted"))(ha:PU X G a fa)(hn:z≠"__name__":=by decide)(P1:(z==("__debug__":Str))=O2:=by decide)(T0:x≠"__name__":=by decide)(T:(x==("__debug__":Str))=O2:=by decide)(he:aw [a] X.env=[(O2,eval a X.env)]:=by rfl)(S:aw [.Call (.Name x p) [a] [] I] X.env=[(O2,eval (.Call (.Name x p) [a] [] I) X.env)]:=by rfl):
  PF X G (.Call (.Name z r) [.Call (.Name x p) [a] [] I] [] pos) (uF tslD fa):=λA=>Bt (Gk M3 hg hm hv (Bw (K6 (O3 hc) N1 X0 S0 (Bw (@ha A) Dq he) T0 T he rfl) Dq S) hn P1 S rfl)<|by
 rintro σ H Q ⟨ρ,d,o,e,k⟩
 obtain⟨dx,e1,Y⟩:=Ez e;refine⟨ρ,dx,o,e1,λv H1 s1 r1=>?_⟩;have O:∀(ds:List D) (J:Addr) (L:List V),tslL ds=O0 d->v=.ref J->(NS G.K H1 J L∨NR G.K H1 J L)->be G (bm A H1) L ds->T7 X [v] H1 λx3 Z=>(∃p ys,[x3]=[.ref p]/\((NS X.K Z p ys/\∀l,Z l=W1->Q (.ref l) (gq Z l (.tup ys)))∨(NR X.K Z p ys/\Q (.ref p) Z))):=λds J L e3 U hs rr=>by
  unfold tslL at e3;obtain⟨ps,ez,e4⟩:=yB.mp e3;split at e4
  .rename_i hz;cases e4;obtain⟨i5,bs,rfl,pr⟩:=Ry rr ez;rw[hG] at pr;obtain⟨qs,eb,eq,at0⟩:=Pc pr i5;have er:bs.map V.ref=US qs:=by rw[eb,cb];rfl
   have S1:AtP X H1 qs:=Lh Am at0;have lz:qs.length<=17:=by have:=hz.1;rw[eq,ay] at this;exact this
   refine⟨J,qs,by rw[U],.inr ⟨by rw[<-hG,<-er];exact hs,by omega⟩,S1,by rw[<-eq];exact hz.2,λm ts hm W N0=>?_⟩;refine b_ (ps:=ps) hG o s1 (λx hx=>at0 x (W.mem_iff.mp hx)) hm (VR eq i5 N0 λx=>?_) k;rw[eq];exact (W.map (·.1)).mem_iff
  .cases e4
 unfold tslD at Y;split at Y
 .obtain⟨J,L,U,hs,r⟩:=r1.lst;exact O _ J L Y U (.inl hs) r
 .obtain⟨J,L,U,hs,r⟩:=r1.tup;exact O _ J L Y U (.inr hs) r
 .cases Y
end
open PyProof.Rows hiding St
def mnN(val:Nat->Int):Nat->Int
 |0=>val 0
 |k+1=>if val (k+1)<mnN val k then val (k+1) else mnN val k
def cA(x y:D):Option D:=match x with
 |.lst ds=>(Fp ds).map λO=>if O=[] then y else .int (mnN (λi=>O.getD i 0) (O.length-1))
 |_=>W1
def fG(a v:ac):nN "min" ⟨[a],[(dL "default",v)]⟩:=by unfold nN;kernel_rfl
theorem YT(val:Nat->Int):∀k,val (iq (λi j=>decide (val i<val j)) k)=mnN val k
 |0=>rfl
 |k+1=>by
  have z:=YT val k;unfold iq mnN
  by_cases h:val (k+1)<mnN val k
  .rw[WH (by rw[z];exact QI h),WH h]
  .rw[ZH (by rw[z];simpa using h),ZH h];exact z
theorem VV{f g:Nat->Int}:∀{k:Nat},(∀i,i<=k->f i=g i)->mnN f k=mnN g k
 |0,h=>h 0 (aE _)
 |k+1,h=>by
  unfold mnN;rw[h (k+1) (aE _),VV λi z=>h i (AK z)]
def mMin:Mm:=⟨"min","min.loop",.Lt,λi j=>decide (i<j),mnN,by decide,PySem.F.plain_min_loop,PySem.F.entry_min_loop,PySem.F.kind_min,PySem.F.plain_min,PySem.F.entry_min,fG,CmpOf.ints_lt,YT,VV⟩
section
variable {a b:Expr}{fa fb:FE}{p kpos:Pos}
def tK(T:X.calm=O1)(Z:G.K=X.K)(W:Gl X x)(L:X.mg x=W1)(I:cE x=O0 (.builtin "min"))(Y:PU X G a fa)(U:PF X G b fb)(J:x≠"__name__":=by decide)(z:(x==("__debug__":Str))=O2:=by decide)(S:aw [a] X.env=[(O2,eval a X.env)]:=by rfl)(O:fR [⟨O0 (dL "default"),b,kpos⟩] X.env=[(O0 (dL "default"),eval b X.env)]:=by rfl):
  PF X G (.Call (.Name x p) [a] [⟨O0 (dL "default"),b,kpos⟩] pos) (bF cA fa fb):=uo mMin T Z W L I Y U J z S O
end
def vO(K:aI):R2:=λx y H Q=>∃a b xs z,x=.ref a/\y=.ref b/\NR K H a xs/\NR K H b z/\z≠[]/\xs.length+z.length<=sizeLine ∧
 (xs=[]->Q (.ref b) H)/\∀p,H p=W1->Q (.ref p) (gq H p (.tup (xs++z)))
def catU:D->D->Option D
 |.tup ds,.tup es=>if es≠[]/\ds.length+es.length<=1000 then O0 (.tup (ds++es)) else W1
 |_,_=>W1
section
theorem tL:NU X (i9 .Add) (vO X.K):=by
 intro π s σ H x y v u Q I rx ry h;obtain⟨a,b,xs,ys,rfl,rfl,ha,hb,hy,hz,q1,q2⟩:=h;cases rx;cases ry;obtain⟨L,Y,p1,_⟩:=I.tuple ha;obtain⟨J,W,p2,_⟩:=I.tuple hb
 by_cases Z:L=[]
 .obtain⟨⟨cls,dd,T0,sl⟩,ho,hc,n,hd⟩:=id p1;obtain⟨⟨X0,N0,S0,U⟩,O,T,n2,S⟩:=id p2;simp only at hc hd T S;subst hc hd T S;exact Au ⟨_,ho,rfl⟩ ⟨_,O,rfl⟩ D4 D5 D6 D7 (D8 _ _)
   (tuple_addW0 a b L.toArray J.toArray n n2 dd N0 sl U (by simp[Z])) ⟨ho,O,⟨.ref b,H,I,rfl,q1 (Y.nil_iff.mp Z)⟩⟩
 .refine HT.qF p1 p2 Z (λz=>NI (W.nil_iff.mp z) hy) (λz=>?_) (by rw[<-Y.length,<-W.length];exact hz);refine⟨.ref s.heap.objs.size,_,I.laid (t':=s.toks) (o:=.tup (xs++ys)) (λb ob q=>bn _ q) (aE _) ?_,rfl,q2 _ (I.hok.fresh (aE _))⟩;exact⟨by rw[eA];exact hz,_,Y.append W,DD _ _⟩
def mL:Dk G (vO G.K) catU:=by
 intro A H x y dx dy d Q U rx I h k;unfold catU at h;split at h
 .rename_i ds es;split at h
  .rename_i W;cases h;obtain⟨l,T,rfl,Z,J⟩:=rx.tup;obtain⟨m,S,rfl,Y,O⟩:=I.tup;refine⟨l,m,T,S,rfl,rfl,Z,Y,λz=>W.1 ?_,by rw[J.1,O.1,hV];omega,λz=>?_,λp L=>k _ _ (Ak L _) (Fq U L (J.append O))⟩
   .rw[z] at O;exact pj.mp O.1.symm
   .have:ds=[]:=by
     rw[z] at J;exact pj.mp J.1.symm
    rw[this,jv] at k
    rcases I with I | ⟨a,e,I⟩
    .exact k _ H (ab.refl H) I
    .exact I.elim
  .cases h
 .cases h
end
section
variable {A:aS}
def NxOk(prog:cw)(w:bP)(s:ah)(it:Addr)(x:ac)(P:Heap->Prop):Prop:=∀(B:aS) (U:ac->ah->Prop) (R:ac->ah->Prop),(∀h1,fh it s.heap h1->P h1->R x { s with heap:=h1 })->ag (ai prog w) B (BA (.ref it)) R U s
theorem tO{e:Addr}{x old:ac}{P:Heap->Prop}{Q:Option ac->ah->Prop}(he:mS s.heap e it i old)(L:e≠it)(nx:NxOk prog w s it x P)(st:∀g g',P g->(∀o,g.get? it=O0 o->g'.get? it=O0 o)->P g')(k:∀h',IsEnumOut h' e it ((i:Int)+1) x s.heap.objs.size->P h'->h'.get? s.heap.objs.size=O0 { cls:=.type "tuple",data:=.seq #[.int i s.toks,x] }->h'.objs.size=s.heap.objs.size+1->(∀b o,b≠e->b≠it->s.heap.get? b=O0 o->h'.get? b=O0 o)->Q (O0 (.ref s.heap.objs.size)) { s with heap:=h',toks:=s.toks+1 }):
  ag (ai prog w) A (gE (.ref e)) Q E s:=by
 have ty:s.TypeIs (.ref e) "enumerate":=⟨_,he,rfl⟩;have le:e<s.heap.objs.size:=bo he;unfold gE;refine ae (AR (rf (name:=dL "__next__") ty BB (iE BB ty M1 ?_ (M2 _))));obtain⟨T,U,Y,tk,S⟩:=s;show ag _ _ (qh (.ref e) 2 >>= _) _ _ _;refine ae (kt he rfl (x:=.ref it) rfl (ae (nx _ _ _ λW (J:fh it T W) p1=>?_)));have e1:mS W e it i old:=(J.2 e L).trans he;show ag _ _ (qh (.ref e) 3 >>= _) _ _ ⟨W,U,Y,tk,S⟩;refine ae (kt e1 rfl (x:=fN i) rfl ?_);show ag _ _ (qh (.ref e) 4 >>= _) _ _ ⟨W,U,Y,tk,S⟩;refine ae (kt e1 rfl (x:=.none) rfl ?_);show ag _ _ (mkInt i >>= _) _ _ ⟨W,U,Y,tk,S⟩;refine ae (wpAny_mkInt ?_);show ag _ _ (setField (.ref e) 3 (fN ((i:Int)+1)) >>= _) _ _ ⟨W,U,Y,tk+1,S⟩;refine ae (zd e1 .(1) λg2 (e2:mS g2 e it ((i:Int)+1) old) (I:fh e W g2)=>?_);show ag _ _ (setField (.ref e) 4 .none >>= _) _ _ ⟨g2,U,Y,tk+1,S⟩;refine ae (zd e2 .(1) λg3 (e3:mS g3 e it ((i:Int)+1) old) (z:fh e g2 g3)=>?_);show ag _ _ (newTuple [.int i tk,x] >>= _) _ _ ⟨g3,U,Y,tk+1,S⟩;refine ae (wpAny_newTuple ?_);have z3:g3.objs.size=T.objs.size:=by rw[z.1,I.1,J.1]
 obtain⟨g4,Z⟩:∃g4,g4=g3.push { cls:=.type "tuple",data:=.seq #[.int i tk,x] }:=⟨_,rfl⟩;have e4:mS g4 e it ((i:Int)+1) old:=Z▸bn _ e3;have t4:g4.get? T.objs.size=O0 { cls:=.type "tuple",data:=.seq #[.int i tk,x] }:=by rw[Z,<-z3];exact ce _ rfl
 have z4:g4.objs.size=T.objs.size+1:=by rw[Z,iO,z3]
 have k4:∀b o,b≠e->b≠it->T.get? b=O0 o->g4.get? b=O0 o:=λb o O bi q=>by
  rw[Z];exact bn _ ((z.2 b O).trans ((I.2 b O).trans ((J.2 b bi).trans q)))
 have p4:P g4:=st W g4 p1 λo q=>by
  rw[Z];exact bn _ ((z.2 it (cf L)).trans ((I.2 it (cf L)).trans q))
 show ag _ _ (Mb (.ref e) >>= _) _ _ ⟨g3.push { cls:=.type "tuple",data:=.seq #[.int i tk,x] },U,Y,tk+1,S⟩;rw[<-Z,z3];clear Z e3 z e2 I e1 J p1 z3;unfold Mb;refine ae (ae (kt e4 rfl (x:=.none) rfl (av ?_)));simp only[VI];refine ae (sK (ae (kt e4 rfl (x:=old) rfl (ae (zd e4 .(1) λg5 (e5:mS g5 e it ((i:Int)+1) x) (T0:fh e g4 g5)=>?_)))));show ag _ _ (Mc (.ref e) (.ref T.objs.size) >>= _) _ _ ⟨g5,U,Y,tk+1,S⟩;unfold Mc;refine ae (ae (zd e5 .(1) λg6 (e6:IsEnumOut g6 e it ((i:Int)+1) x T.objs.size) (S0:fh e g5 g6)=>?_));refine zd e6 .(1) λg7 (e7:IsEnumOut g7 e it ((i:Int)+1) x T.objs.size) (N0:fh e g6 g7)=>?_;have up:∀b,b≠e->∀o,g4.get? b=O0 o->g7.get? b=O0 o:=λb O o q=>(N0.2 b O).trans ((S0.2 b O).trans ((T0.2 b O).trans q));refine ae (xC (av ⟨_,rfl,av (k g7 e7 (st g4 g7 p4 (up it (cf L))) (up _ (ol le) _ t4) (by rw[N0.1,S0.1,T0.1,z4]) λb o O bi q=>up b O o (k4 b o O bi q))⟩))
theorem yH{t:Addr}{us:Array ac}{x:ac}(z:s.heap.IsTupleIter it t i)(O:s.heap.IsTuple t us)(I:us[i]?=O0 x):NxOk prog w s it x (λh=>h.IsTupleIter it t (i+1)):=λB U R k=>by
 obtain⟨o,g,c,d⟩:=id z;obtain⟨L,J,_,S,dt⟩:=O;unfold BA;refine ae (rf (name:=dL "__next__") z.typeIs BC (iE BC z.typeIs Md ?_ (Me _)));show ag _ _ (qh (.ref it) 0 >>= _) _ _ s;refine ae (kt g d (x:=.ref t) rfl ?_);show ag _ _ (if (aT t==fF)=O1 then _ else _) _ _ s;rw[ZH (show ¬ ((aT t==fF)=O1) from dc)];show ag _ _ (qh (.ref it) 1 >>= _) _ _ s;refine ae (kt g d (x:=.int i 0) rfl (show ag _ _ (xw (.ref t) >>= _) _ _ s from ae (n9 J dt ?_)));simp only[gg,I];refine ae (EC g d .(1) (av ⟨x,rfl,av (k _ (xE ..) ?_)⟩));exact⟨_,nX _ g (EA (uS d _)),(EB ..).trans c,by rw[uS d];simp[fN]⟩
theorem mQ{t:Addr}{us:Array ac}(J:A.handled=W1)(z:s.heap.IsTupleIter it t i)(O:s.heap.IsTuple t us)(I:us[i]?=W1)(k:∀h' v,B0 it s.heap h'->(∃o,h'.get? v=O0 o/\o.cls=.type "StopIteration")->E (.ref v) { s with heap:=h' }):ag (ai prog w) A (BA (.ref it)) Q E s:=by
 obtain⟨o,g,c,d⟩:=id z;obtain⟨S,L,_,T,dt⟩:=O;unfold BA;refine ae (rf (name:=dL "__next__") z.typeIs BC (iE BC z.typeIs Md ?_ (Me _)));show ag _ _ (qh (.ref it) 0 >>= _) _ _ s;refine ae (kt g d (x:=.ref t) rfl ?_);show ag _ _ (if (aT t==fF)=O1 then _ else _) _ _ s;rw[ZH (show ¬ ((aT t==fF)=O1) from dc)];show ag _ _ (qh (.ref it) 1 >>= _) _ _ s;refine ae (kt g d (x:=.int i 0) rfl (show ag _ _ (xw (.ref t) >>= _) _ _ s from ae (n9 L dt ?_)));simp only[gg,I];refine ae (sK (ae (EC g d .(1) ?_)));show ag _ _ (newExc (.type "StopIteration") [] >>= _) _ _ _;refine ae ?_;simp only[newExc,newTuple];refine ae (kB ?_ (by size_fits));refine ae (m:=AS _ _) (AM (a:=fF) (by first | rfl | (simp only[AS];rfl)) (kB ?_ (by size_fits)));simp only[raiseNew];refine ae (wpAny_handled ?_);rw[show A.in1.handled=W1 from J];exact ae (av (wpAny_throw (k _ _ (((xE ..).extBut.push _).push _) ⟨_,ce _ rfl,rfl⟩)))
theorem fH{e t:Addr}{us:Array ac}{L:ac}{Q:Option ac->ah->Prop}(U:A.handled=W1)(I:mS s.heap e it i L)(z:s.heap.IsTupleIter it t i)(S:s.heap.IsTuple t us)(J:us[i]?=W1)(k:∀h',B0 it s.heap h'->Q W1 { s with heap:=h' }):ag (ai prog w) A (gE (.ref e)) Q E s:=by
 have ty:s.TypeIs (.ref e) "enumerate":=⟨_,I,rfl⟩;unfold gE;refine ae (AR (rf (name:=dL "__next__") ty BB (iE BB ty M1 ?_ (M2 _))));show ag _ _ (qh (.ref e) 2 >>= _) _ _ _;refine ae (kt I rfl (x:=.ref it) rfl (ae (mQ U z S J λh' v W O=>?_)));obtain⟨o,g,c⟩:=O;exact ae (sL (T:="StopIteration") (b:=O1) ⟨o,g,c⟩ isSubtype_stop (av (k _ W)))
def fJ(t:Addr)(us:Array ac)(n:Nat)(I:Option Addr)(sl:Array (Option ac)):Meets (eI.«enumerate.__new__» ⟨[.type "enumerate",.ref t],[]⟩) (λ_ R s=>s.heap.get? t=O0 { cls:=.type "tuple",dict:=I,data:=.seq us n,slots:=sl } ∧
  R (.ok (.ret (.ref (s.heap.push { cls:=.type "tuple_iterator",data:=.fields #[.ref t,.int 0 0] }).objs.size))) { s with heap:=(s.heap.push { cls:=.type "tuple_iterator",data:=.fields #[.ref t,.int 0 0] }).push { cls:=.type "enumerate",data:=.fields #[.none,.bool O2,.ref s.heap.objs.size,fN 0,.none,.none] } }):=.of_wp λJ w A R s h=>by
 obtain⟨O,U,Y,tk,L⟩:=s;obtain⟨g,h⟩:=h;have T:=sub_enumerate;have z:Heap.IsTuple (Shared.heap ⟨O,U,Y,tk,L⟩) t us:=⟨_,g,rfl,n,rfl⟩
 wp_walk using BD g
 refine wpAny_stack_any λS=>av ?_;split
 .rename_i c _ _ _ _ _;cases (c==md "enumerate")
  .wp_walk using BD g,wf z
   exact⟨_,rfl,h⟩
  .wp_walk using BD g,wf z
   exact⟨_,rfl,h⟩
 .wp_walk using BD g,wf z
  exact⟨_,rfl,h⟩
theorem Zg{t:Addr}{us:Array ac}(J:s.heap.IsTuple t us)(k:∀h',mS h' (s.heap.objs.size+1) s.heap.objs.size 0 .none->h'.IsTupleIter s.heap.objs.size t 0->h'.objs.size=s.heap.objs.size+2->(∀b o,s.heap.get? b=O0 o->h'.get? b=O0 o)->Q (.ref (s.heap.objs.size+1)) { s with heap:=h' }):
  ag (ai prog w) A (call (.type "enumerate") [.ref t]) Q E s:=by
 obtain⟨⟨c,I,dt,Z⟩,g,S,n,L⟩:=J;obtain rfl:c=.type "tuple":=S;obtain rfl:dt=.seq us n:=L;refine callType_new F.called_enumerate .(2) (F.typeCall_enumerate_1 _) (F.newCall_enumerate_1 _) (λob=>F.args_object_init_2 ob _) F.entry_enumerate_new (fJ t us n I Z) ⟨g,?_⟩;have O:(s.heap.push { cls:=.type "tuple_iterator",data:=.fields #[.ref t,.int 0 0] }).objs.size=s.heap.objs.size+1:=iO ..;show _/\_;rw[O];have z:mS ((s.heap.push { cls:=.type "tuple_iterator",data:=.fields #[.ref t,.int 0 0] }).push { cls:=.type "enumerate",data:=.fields #[.none,.bool O2,.ref s.heap.objs.size,fN 0,.none,.none] }) (s.heap.objs.size+1) s.heap.objs.size 0 .none:=by
  have:=ce (s.heap.push { cls:=.type "tuple_iterator",data:=.fields #[.ref t,.int 0 0] }) (o:={ cls:=.type "enumerate",data:=.fields #[.none,.bool O2,.ref s.heap.objs.size,fN 0,.none,.none] }) rfl
  rwa [O] at this
 exact⟨⟨_,z,rfl⟩,k _ z ⟨_,bn _ (ce _ rfl),rfl,rfl⟩ (by rw[iO,O]) λb o x=>bn _ (bn _ x)⟩
end
section
variable {a:Expr}{fa:FE}{ta:TA}{p:Pos}
def IteT(K:aI)(a:Addr):It:=
 ⟨λi H=>∃xs x,NR K H a xs/\xs[i]?=O0 x,λi H x z=>∃T y,H T=W1/\(∀xs,NR K H a xs->xs[i]?=O0 y)/\x=.ref T/\z=gq H T (.tup [.int i,y]),λi H=>∃xs,NR K H a xs/\xs.length<=i⟩
theorem Zh{K:aI}(a it e:Addr)(N0:e≠it):
  XO P w K (.Tuple elts x1 tp) (IteT K a) [e,it] e (λi h=>(∃L,mS h e it ((i:Nat):Int) L)/\h.IsTupleIter it a i) where
 mem:=by simp
 obj:=λi h S b O=>by
  obtain⟨⟨L,U⟩,o,eo,c,d⟩:=S
  rcases br.mp O with z | z
  .subst z;exact⟨_,U,λv z=>by
    have z':Cf _=Co v:=z;cases z'⟩
  .have z:b=it:=by simpa using z
   subst z;exact⟨o,eo,λv z=>by rw[d] at z;cases z⟩
 keep:=λi h h' S k=>⟨let ⟨L,z⟩:=S.1;⟨L,k e .(1) _ z⟩,S.2.at λo z=>k it .(1) o z⟩
 item:=by
  intro X hP hw hK hc i π s σ H E I hf S hg;subst hP hw hK;obtain⟨⟨L,U⟩,T⟩:=S;obtain⟨xs,x,hq,hx⟩:=hg;obtain⟨T0,rv,p,hz⟩:=I.tuple hq;obtain⟨u,hu,ru⟩:=rv.get hx;obtain⟨f0,f1,f2,f3,f4,f5⟩:=hf e .(1);obtain⟨g0,g1,g2,g3,g4,g5⟩:=hf it .(1);have Z:e<s.heap.objs.size:=bo U;have W:it<s.heap.objs.size:=by obtain⟨o,eo,_⟩:=id T;exact bo eo
  refine tO U N0 (yH T p (x:=u) (by simpa using hu)) (λg g' q z=>q.at z) λh1 N1 Y X0 S1 kk=>?_;refine⟨_,rfl,wpAny_letOwnedTupleGo_enum (s:={ s with heap:=h1,toks:=s.toks+1 }) N1 λh2 S0 sb=>?_⟩;have hT:H s.heap.objs.size=W1:=I.hok.fresh (aE _);have I1:Inv X π σ (gq H s.heap.objs.size (.tup [.int i,x])) { s with heap:=s.heap.push { cls:=.type "tuple",data:=.seq #[.int i s.toks,u] } }:=
   I.laid (a:=s.heap.objs.size) (t':=s.toks) (λb u e=>bn _ e) (aE _) ⟨by show 2<=sizeLine;decide,[.int i s.toks,u],.cons ⟨_,rfl⟩ (.cons ru .nil),_,ce _ rfl,rfl,_,rfl⟩
  let hA:=(s.heap.push { cls:=.type "tuple",data:=.seq #[.int i s.toks,u] })
  have P1:s.heap.objs.size<h1.objs.size:=by omega
  obtain⟨oi,U1,_⟩:=id Y;have I2:Inv X π σ (gq H s.heap.objs.size (.tup [.int i,x])) { s with heap:=h2,toks:=s.toks+1 }:=by
   have fr:({ cls:=.type "enumerate",data:=.fields #[.none,.bool O2,.ref it,fN ((i:Nat):Int),.none,L] }:Obj).isFreed=O2:=rfl;have gm:=nX (λ_=>({ cls:=.type "enumerate",data:=.fields #[.none,.bool O2,.ref it,fN ((i:Nat):Int),.none,L] }:Obj)) S0 fr;have go:∀b,b≠e->(h2.update e (λ_=>({ cls:=.type "enumerate",data:=.fields #[.none,.bool O2,.ref it,fN ((i:Nat):Int),.none,L] }:Obj))).get? b=h2.get? b:=λb O=>lP _ _ (cf O);generalize h2.update e (λ_=>({ cls:=.type "enumerate",data:=.fields #[.none,.bool O2,.ref it,fN ((i:Nat):Int),.none,L] }:Obj))=hm at gm go;have k1:∀b o,b≠it->(s.heap.push { cls:=.type "tuple",data:=.seq #[.int i s.toks,u] }).get? b=O0 o->hm.get? b=O0 o:=λb o O z=>by
    by_cases J:b=e
    .rcases EI z with ⟨q,_⟩ | q
     .rw[J] at q;exact NI q (bS Z)
     .rw[J] at q ⊢;have:s.heap.get? e=_:=U;rw[this] at q;cases q;exact gm
    .rw[go b J];refine (sb.2 b J).trans ?_
     rcases EI z with ⟨q,rfl⟩ | q
     .rw[q];exact X0
     .exact kk b o J O q
   have I3:=L2.Inv.turned (t':=s.toks+1) (it:=it) (h':=hm) I1 k1 (by rw[Al (bS W)];exact g0) g1 g3 g4 g5;exact L2.Inv.turned (s:={ s with heap:=hm,toks:=s.toks+1 }) (t':=s.toks+1) (it:=e) (h':=h2) I3 (λb o O z=>by have z':hm.get? b=O0 o:=z;rw[go b O] at z';exact z') (by rw[Al (bS Z)];exact f0) f1 f3 f4 f5
  refine⟨.ref s.heap.objs.size,_,I2,rfl,⟨_,x,hT,λys hy=>by rw[I.tuple_inj hy hq];exact hx,rfl,rfl⟩,⟨⟨u,by simpa using S0⟩,Y.at λo z=>(sb.2 it (cf N0)).trans z⟩,λb O=>?_⟩
  rcases br.mp O with z | z
  .rw[z,Al (bS Z)];exact f0
  .have z:b=it:=by simpa using z
   rw[z,Al (bS W)];exact g0
 done:=by
  intro X hP hw hK hc i π s σ H E I hf S hg;subst hP hw hK;obtain⟨⟨L,U⟩,T⟩:=S;obtain⟨xs,hq,hx⟩:=hg;obtain⟨T0,rv,p,hz⟩:=I.tuple hq;obtain⟨g0,g1,g2,g3,g4,g5⟩:=hf it .(1);have hl:=rv.length;exact fH (I.ok.hd hc) U T p (by simp;omega) λh' eb=>⟨rfl,I.turned (t':=s.toks) (λb o O e=>eb b o O e) g0 g1 g3 g4 g5⟩
 self:=λ_ _ _ _ _ S h=>let ⟨L,z⟩:=S.1;Mn z h
def yI(K:aI)(J:TA):TI:=λI H R=>J I H λvs z=>∃a,vs=[.ref a]/\(∃xs,NR K z a xs)/\R (IteT K a) z
theorem mR(hg:Gl X "enumerate")(hm:X.mg "enumerate"=W1)(ha:PA X [a] ta)(hs:aw [a] X.env=[(O2,eval a X.env)]:=by rfl):PI X (.Tuple elts x1 tp) (.Call (.Name "enumerate" p) [a] [] pos) (yI X.K ta):=by
 intro U s T H R I h;refine PyProof.Rows.Call_ (P_ I hg hm UM (Ct (la (ha pos U s T H _ I h) λus J q0=>?_) hs rfl));obtain⟨vs,Y,L,Z,q1⟩:=q0;obtain⟨l,e,⟨xs,hq⟩,q⟩:=q1;subst e;cases Z with
 |cons r rr=>
  cases rr;cases r;obtain⟨N0,rv,p,hz⟩:=L.tuple hq;refine Zg p λh' W O S0 kp=>?_;refine Mn W ?_;have I2:Inv X U T Y { J with heap:=h' }:=L.kept (t':=J.toks) kp;refine⟨J.heap.objs.size+1,[J.heap.objs.size+1,J.heap.objs.size],_,_,Y,rfl,I2,Zh l J.heap.objs.size (J.heap.objs.size+1) (IZ _),⟨⟨_,W⟩,O⟩,λb hb=>?_,q⟩;have S:J.heap.objs.size<=b:=by
   rcases br.mp hb with z | z
   .rw[z];exact lx _
   .have z:b=J.heap.objs.size:=by simpa using z
    rw[z];exact aE _
  exact L.fpOk S (L.hok.fresh S)
def enIT(f:FE):FI:=λρ=>match f ρ with | some (.tup ds)=>O0 (enD 0 ds) | _=>W1
def fK(h:NR G.K F1 q xs)(r:be G F2 xs ds):Src G (IteT G.K q) (enD 0 ds) F1 F2 where
 go:=λi H s I=>⟨xs,xs[i]'(by rw[r.1];rwa [Ru] at I),Dj s h,by rw[Ru] at I;simp[r.1,I]⟩
 yld:=λi H x Y d s W y=>by
  obtain⟨T,z,U,Z,rfl,rfl⟩:=y;obtain⟨e,O,rfl⟩:=bT 0 ds i d W;have S:im G F2 z e:=r.2 i z e (Z xs (Dj s h)) O;refine⟨Ak U _,λB L J=>?_⟩;rw[mP];exact Fq L U (.cons (.int _) (.cons (S.mono J) .nil))
 stop:=λi H s I=>⟨xs,Dj s h,by rw[Ru] at I;rw[r.1];exact I⟩
def fL(W:G.K=X.K)(S:Gl X "enumerate")(O:X.mg "enumerate"=W1)(h:PF X G a fa)(hs:aw [a] X.env=[(O2,eval a X.env)]:=by rfl):RU X G O2 (.Tuple elts x1 tp) (.Call (.Name "enumerate" p) [a] [] pos) (enIT fa):=λA=>S_ (mR S O (Bw (@h A) Dq hs) hs)<|by
 rintro Z H R ⟨z,ds,o,e,k⟩
 unfold enIT at e;split at e
 .rename_i U T;cases e;refine⟨z,_,o,T,λv Y J L=>?_⟩;cases L with
  |tup h l r=>
   rename_i b I;refine⟨b,rfl,⟨I,by rw[<-W];exact Dj Am h⟩,?_⟩;rw[<-W];exact k _ Y J (fK h ⟨l,r⟩)
 .cases e
end
section
variable {a:Expr}{fa:FE}{p:Pos}
def enIB(f:FE):FI:=λρ=>match f ρ with | some (.lst ds)=>O0 (enD 0 ds) | some (.tup ds)=>O0 (enD 0 ds) | _=>W1
end
def KJ(P:cw)(w:bP)(m:Addr)(xs:List (List (List Key)×Addr×ac)):Heap->Prop:=λh=>∃o es ep,h.get? m=O0 o/\o.ExactDict/\o.data=.dict es ep/\es.toList=xs.map (BU (PV.R6 (Av P w)))/\(xs.map (·.1)).Nodup
structure Pres (P:cw) (w:bP) (K:aI) (f:Str) (H:Hp) (a b m:Addr) (F:List (List Key)->Int) (xs:List (List (List Key)×Addr×ac)) (ks:List (List Key)):Prop where
 at_:∃C dx fs,H a=O0 (.ins C dx fs)/\On K C/\BV K C f/\fs.lookup f=O0 (.ref m)
 sm:(m==gT)=O2
 ext:H m=O0 (.ext (KJ P w m xs))
 al:∀q∈xs,NO K H q.1 q.2.1/\VZ q.1/\cc (.int (F q.1)) q.2.2
 ky:NO K H ks b
 pr:(dE xs ks).isSome=O1
def spP(P:cw)(w:bP)(K:aI)(f:Str):Sp:=λvs H Q _=>∃a b m F xs ks,vs=[.ref a,.ref b]/\Pres P w K f H a b m F xs ks/\Q (.int (F ks)) H
def tP(P:cw)(w:bP)(K:aI)(f:Str):TS:=λD z H=>∃a b m F xs ks,z[0]?=O0 (O0 (.ref a))/\z[1]?=O0 (O0 (.ref b))/\Pres P w K f H a b m F xs ks/\D.rt (.int (F ks)) H
section
def Qm{m:Addr}{xs:List (List (List Key)×Addr×ac)}(I:Inv X π σ H s)(h:Pres X.prog X.w X.K f H a b m F xs ks):s.heap.DictOfH (nK X) m xs:=by
 obtain⟨⟨o,L,O,g,J,d,e,z⟩,_,_⟩:=(show BX X.prog X.w H s.heap m (.ext (KJ X.prog X.w m xs)) from I.hok m _ h.ext);exact⟨o,L,O,g,J,d,e,λq U=>Mt I (h.al q U).1,z⟩
theorem mU{m:Addr}(W:X.N[i]?=O0 x)(L:Xt X.env.scope x)(T:(x==("__debug__":Str))=O2)(J:(x==("__classdict__":Str))=O2)(U:eR (.Name x p1) f X.env (eval (.Name x p1) X.env)=eval (.Name x p1) X.env)(I:Inv X π σ H s)(h1:σ[i]?=O0 (O0 (.ref a)))(h:∃C dx fs,H a=O0 (.ins C dx fs)/\On X.K C/\BV X.K C f/\fs.lookup f=O0 (.ref m))(k:∀tk,Q (.ref m) { s with toks:=tk }):ag (ai X.prog X.w) X.A (eval (.Attribute (.Name x p1) f p2) X.env) Q E s:=by
 obtain⟨C,dx,fs,Y,c,n,l⟩:=h;refine Vp U (Ii W L T J I h1 λu r=>?_);obtain rfl:u=aT a:=r;obtain⟨mA,O,r,_,_,_⟩:=Mf I.hok Y;obtain⟨u,S,z⟩:=OV.some_of (v:=.ref m) (o:=mA f) (by rw[<-l];exact r f);obtain rfl:u=aT m:=z;exact Vo I.kIn O (c.get f) c.hd n S (QF (v:=.ref m) rfl) (k _)
def tQ{Y W:Pos}(hu:X.A.units+64<bv)(hN:X.N[0]?=O0 x)(hv:Xt X.env.scope x)(T:X.N[1]?=O0 y)(Z:Xt X.env.scope y)(hm:fw .NotIn (.Attribute (.Name x p2) f p3)=O2:=by rfl)(S0:NoSl (.Name y p13):=by intro _ _;rfl)(hd:(x==("__debug__":Str))=O2:=by decide)(J:(x==("__classdict__":Str))=O2:=by decide)(z:(y==("__debug__":Str))=O2:=by decide)(O:(y==("__classdict__":Str))=O2:=by decide)(hb:∀p,eR (.Name x p) f X.env (eval (.Name x p) X.env)=eval (.Name x p) X.env:=by intro _;rfl):
  UQ X [.If (.Compare (.Name y p1) [.NotIn] [.Attribute (.Name x p2) f p3] p4) body [] p10,.Return (O0 (.Subscript (.Attribute (.Name x p11) f p12) (.Name y p13) Y)) W] (tP X.prog X.w X.K f):=by
 rintro π s σ H D I ⟨a,b,m,F,xs,ks,h0,h1,h,k⟩
 refine kX (wb (sT (Ii T Z z O I h1 λu r=>mU hN hv hd J (hb _) I h0 h.at_ λtk=>?_) hm));obtain rfl:u=aT b:=r;have I1:=I.tok tk;refine LJ (knd:=nK X) (by show X.A.units+1+1<bv;omega) (Mt I1 h.ky) h.sm (Qm I1 h) (jS ?_);rw[h.pr];show ag _ _ (ke [] X.env) _ _ _;refine kA ?_;have S:∀tk,Inv X π σ H { s with toks:=tk }:=λtk=>I.tok tk;refine kX (la (?_:ag (ai X.prog X.w) X.A (exec (.Return (O0 (.Subscript (.Attribute (.Name x p11) f p12) (.Name y p13) Y)) W) X.env) (SP X π D) X.xe _) λfl s1 q=>?_)
 .refine A4 (aB EG.lookup S0 (mU hN hv hd J (hb _) (S _) h0 h.at_ λL=>Ii T Z z O (S L) h1 λu r=>⟨(Qm (S L) h).typeIs,?_⟩));obtain rfl:u=aT b:=r;exact bj (F:=F) .(0) (S L) h.ky (Qm (S L) h) h.al h.pr λu N0 ru=>⟨.int (F ks),σ,H,S N0,ru,k⟩
 .cases fl with
  |next=>
   obtain⟨U,H2,I3,q⟩:=q;exact JM (X:=X) π s1 U H2 D I3 q
  |ret v=>exact q
  |brk=>exact q
  |cont=>exact q
def fn_P{K:aI}{base:Heap}{f:Addr}{k:Nat}{J:Str}(F:Fun K x qual st f fd)(S:bc N ps (Ab st))(Y:ps.length=2)(U:∀(cdv:ac) (A:aS) (z:List Env) (s:ah) (H:Hp) (E:XK),Room k (A.deeper (g9 qual (Ab st) s.heap.objs.size f cdv))->UQ (Qr CX0 P w K mg base N qual (Ab st) f cdv A z s H E).nox (Bf st) (tP P w K J)):
  hQ P w K mg base CX0 (k+1) f fd ps (spP P w K J):=by
 refine F.ok S (λL H Q E h=>?_) (λcdv A z s H L Q E T h=>?_)
 .obtain⟨a,b,m,F,I,O,rfl,_⟩:=h;rw[Y];rfl
 .obtain⟨a,b,m,F,I,O,rfl,h,q⟩:=h;exact⟨_,U cdv A z s H E T,a,b,m,F,I,O,rfl,rfl,h,q⟩
def memB(i:Nat)(f:Str)(j:Nat)(ft:FT)(c z:Str)(fr:FE):FS:=λρ=>match uF (fx f) (vF i) ρ,(vF j ρ).bind Sl,ft ρ with
 |some (.mem F),O0 ps,O0 O1=>fy fr ρ
 |some (.mem F),O0 ps,O0 O2=>if F (Tb ps)=0/\(vF i ρ).map (CT c z)=O0 O1 then O0 (.rt (.int 0) ρ) else W1
 |_,_,_=>W1
def YW{K:aI}{m:Addr}{o:HO}(I:∀u,H m=O0 u->¬ Tu u)(h:NO K H ks b):NO K (gq H m o) ks b:=by
 have T:∀{c:Addr}{xs:List V},OL K H c xs->OL K (gq H m o) c xs:=λ{c xs} z=>by
  rcases z with (z | ⟨u,z⟩) | z
  .exact .inl (.inl (by rw[Al (λe=>I (.tup xs) (by rw[<-e];exact z) trivial)];exact z))
  .exact .inl (.inr ⟨u,by rw[Al (λe=>I (.frz u (.tup xs)) (by rw[<-e];exact z) trivial)];exact z⟩)
  .exact .inr z
 obtain⟨bs,L,J⟩:=h;exact⟨bs,T L,Paired.mapP J λ_ _ z=>T z⟩
theorem YX{m:Addr}{o u:HO}(h:H m=O0 u):gq (gq H m o) m u=H:=by
 funext c;unfold gq;split
 .rename_i e;rw[e,h]
 .rfl
theorem mV{L:Str}{sf:Stmt}{Q2:List Str}{k0:Nat}{P1:Expr}{fr:FE}{q1 q2 q3 q4 q5:Pos}{jj:Nat}{pl:Sem Bool}{d:Mx X.K C L qual sf Q2}(hu:X.A.units+64<bv)(hG:G.K=X.K)(N3:∀c C,G.cl c=O0 C->On X.K C/\BV X.K C f)(hc:G.cl c=O0 C)(hN:X.N[i]?=O0 x)(hv:Xt X.env.scope x)(N1:X.N[j]?=O0 y)(S0:Xt X.env.scope y)(ht:Sr X G P1 ft)(F2:hQ X.prog X.w X.K X.mg X.base CX0 k0 d.f d.fd Q2 (spP X.prog X.w X.K f))(hr:Room k0 X.A)(X2:UR X G (.Return (O0 (.Call (.Attribute (.Name x q1) L q2) [.Name y q3] [] q4)) q5) (fy fr))(hs:eJ (.Constant (.int 0) jj p9) (O0 (.Subscript (.Attribute (.Name x p5) f p6) (.Name y p7) p8)) p10.line X.env=pure O2:=by rfl)(hm:fw .NotIn (.Attribute (.Name x p2) f p3)=O2:=by rfl)(hd:(x==("__debug__":Str))=O2:=by decide)(X0:(x==("__classdict__":Str))=O2:=by decide)(T0:(y==("__debug__":Str))=O2:=by decide)(T:(y==("__classdict__":Str))=O2:=by decide)(hb:∀p,eR (.Name x p) f X.env (eval (.Name x p) X.env)=eval (.Name x p) X.env:=by intro _;rfl)(T2:aw [.Name y q3] X.env=(O2,eval (.Name y q3) X.env)::aw [] X.env:=by rfl)(P5:(cS q4 (aw [] X.env)).any (·.1)=O2:=by rfl)(S1:eval (.Call (.Attribute (.Name x q1) L q2) [.Name y q3] [] q4) X.env=(do
      let ov <-eval (.Name x q1) X.env
      nh q2.atName
      let (f,first) <-li [ov] (oB ov L pl)
      rb q4 f first (cS q4 (aw [.Name y q3] X.env)) (ib q4 (fR [] X.env))):=by rfl):
    RS X G [.If (.BoolOp .And [.Compare (.Name y p1) [.NotIn] [.Attribute (.Name x p2) f p3] p4,.UnaryOp .Not P1 p11] p12) [.Assign [.Subscript (.Attribute (.Name x p5) f p6) (.Name y p7) p8] (.Constant (.int 0) jj p9) p10] [] p13,.Return (O0 (.Call (.Attribute (.Name x q1) L q2) [.Name y q3] [] q4)) q5] (memB i f j ft c L fr):=by
  rintro A0 He Z s Y H D I ⟨ρ,o,⟨A,w⟩,e,k⟩
  unfold memB at e;split at e
  . rename_i F ps ef ek et
    refine Ad (lg hu hG N3 hN hv N1 S0 ht hs hm hd X0 T0 T hb) (Ae X2) (A0:=A0) He Z s Y H D I ⟨ρ,o,⟨A,w⟩,?_,k⟩;unfold dq memZ;rw[ef,ek,et];simp only[true_or,VI];exact e
  . rename_i F ps ef ek et
    split at e
    . rename_i hF
      obtain⟨hF,N0⟩:=hF;cases e;obtain⟨dk,f8,P7⟩:=yB.mp ek;obtain⟨m,fm⟩:=lY (X:=X) hG N3 w.ok ef;obtain⟨b,U1,mk,kin⟩:=Lg (X:=X) hG w.ok f8 P7;obtain⟨od,eo,N0⟩:=kx.mp N0;have Y2:∃a C' dx fs,Y[i]?=O0 (O0 (.ref a))/\H a=O0 (.ins C' dx fs)/\On X.K C'/\BV X.K C' f/\fs.lookup f=O0 (.ref m)/\C'=C/\fs.lookup L=W1:=by
        have hz:ρ[i]?=O0 (.fz od):=by
          unfold vF at eo;split at eo
          . rename_i z hz;cases eo;exact hz
          . cases eo
        obtain⟨v,g1,g2⟩:=w.ok.fz i od hz;obtain⟨a,C',dx,fs,a1,a2,a3,a4,a5⟩:=fm.at_;cases od with
        |ob c' gs=>
          simp only[CT,eD,UI,sd] at N0;obtain⟨rfl,hn⟩:=N0;cases g2 with
          | @ob a' C2 N9 _ r9 _ t1 t2 t3 t4=>
            rw[a1] at g1;cases g1;have Y1:=Am _ _ t2;rw[a2] at Y1;cases Y1;rw[hc] at t1;cases t1;exact⟨a,C,dx,fs,a1,a2,a3,a4,a5,rfl,Mr t3 hn⟩
        |_=>simp[CT] at N0
      obtain⟨a,C',dx,fs,a1,a2,a3,a4,a5,rfl,a6⟩:=Y2;have il:∀(O:Hp) (s':ah) (J:List (List (List Key)×Addr×ac)),ab H O->Inv X Z Y O s'->s'.heap.DictOfH (nK X) m J->(∀q∈J,NO X.K O q.1 q.2.1/\VZ q.1/\cc (.int (F q.1)) q.2.2)->(dE J (Tb ps)).isSome=O1 ->
          ag (ai X.prog X.w) X.A (ke [.Return (O0 (.Call (.Attribute (.Name x q1) L q2) [.Name y q3] [] q4)) q5] X.env) (SP X Z D) X.xe s':=λO s' J S I' dd al pr=>by
        have U:O m=O0 (.mem F X.K):=S _ _ fm.mem;have S2:∀u,O m=O0 u->¬ Tu u:=λu e z=>by rw[U] at e;cases e;exact z
        obtain⟨U2,_⟩:=Zc I' U;obtain⟨o',es,ep,g,ex,dt,ee,is,nd⟩:=id dd;have ph:KJ X.prog X.w m J s'.heap:=⟨o',es,ep,g,ex,dt,ee,nd⟩;have W:Inv X Z Y (gq O m (.ext (KJ X.prog X.w m J))) s':=I'.write (x:=m) (e:=m) (o:=.ext (KJ X.prog X.w m J)) (h':=s'.heap) (t':=s'.toks) (by rw[U];exact trivial) (.inl rfl) (λ_ _ _ z=>z) ⟨o',g⟩
          ⟨ph,⟨o',g⟩,(by rintro h1 h2 ⟨o,es,ep,z1,z2⟩ kk;exact ⟨o,es,ep,kk _ z1,z2⟩)⟩
        have P3:gq O m (.ext (KJ X.prog X.w m J)) a=O0 (.ins C' dx fs):=by
          rw[Al (λe=>by have:=S _ _ a2;rw[e,U] at this;cases this)];exact S _ _ a2
        have P2:Pres X.prog X.w X.K f (gq O m (.ext (KJ X.prog X.w m J))) a b m F J (Tb ps):=⟨⟨C',dx,fs,P3,a3,a4,a5⟩,U2,Aj,λq hq=>⟨YW S2 (al q hq).1,(al q hq).2⟩,YW S2 (Hy S mk),pr⟩;have S4:=Vq (pl:=pl) (Yr hN hv hd X0) a3 d.me F2 hr d.B .nil RD (Bw (Yr N1 S0 T0 T) Dq T2) T2 P5 S1 Z s' Y _ (λv H3=>v=.int 0/\H3=gq O m (.ext (KJ X.prog X.w m J))) W ⟨_,a1,a,dx,fs,rfl,P3,a6,_,U1,a,b,m,F,J,Tb ps,rfl,P2,by rw[hF],rfl⟩;have one:ag (ai X.prog X.w) X.A (exec (.Return (O0 (.Call (.Attribute (.Name x q1) L q2) [.Name y q3] [] q4)) q5) X.env) (SP X Z D) X.xe s':=by
          refine A4 (la S4 λu s1 q=>?_);obtain⟨v,H3,I3,ru,ev,eH⟩:=q;subst ev eH;obtain⟨⟨o4,r6,P6,z1,z2,z3,z4,z5⟩,_,_⟩:=(show BX X.prog X.w _ s1.heap m (.ext (KJ X.prog X.w m J)) from I3.hok m _ Aj);have I4:=I3.write (x:=m) (e:=m) (o:=.mem F X.K) (h':=s1.heap) (t':=s1.toks) (by rw[Aj];exact trivial) (.inl rfl) (λ_ _ _ z=>z) ⟨o4,z1⟩ (by
            rw[YX U];exact⟨U2,J,al,o4,r6,P6,z1,z2,z3,z4,z5⟩)
          rw[YX U] at I4;exact⟨.int 0,Y,O,I4,ru,k (.int 0) Y O A (w.mono S) (.int 0)⟩
        refine kX (la one λfl s1 q=>?_);cases fl with
        |next=>
          obtain⟨S3,H2,W,q⟩:=q;exact JM (X:=X) Z s1 S3 H2 D W q
        |ret v=>exact q
        |brk=>exact q
        |cont=>exact q
      have put:∀(O:Hp) (s':ah),ab H O->Inv X Z Y O s'->ag (ai X.prog X.w) X.A (ke [.Assign [.Subscript (.Attribute (.Name x p5) f p6) (.Name y p7) p8] (.Constant (.int 0) jj p9) p10] X.env) (λfl s'=>fl=.next/\∃H2 J,ab H H2/\Inv X Z Y H2 s'/\s'.heap.DictOfH (nK X) m J/\(∀q∈J,NO X.K H2 q.1 q.2.1/\VZ q.1/\cc (.int (F q.1)) q.2.2)/\(dE J (Tb ps)).isSome=O1) X.xe s':=λO s' S I'=>by
        refine kX (AE (C5 ?_) hs);have W:=I'.tok (s'.toks+1);refine Nq hN hv hd X0 (hb _) W (fm.mono S) λX1=>Ii N1 S0 T0 T (W.tok X1) U1 λu r=>?_;obtain rfl:u=aT b:=r;refine WS (F:=F) .(0) (W.tok X1) (S _ _ fm.mem) (Hy S mk) kin (by rw[hF];exact⟨_,rfl⟩) λY3 s2 I3 u8 P8 P4=>?_;exact kA ⟨rfl,O,Y3,S,I3,u8,P8,P4⟩
      refine kX (la (Q:=λfl s'=>fl=.next/\∃H2 J,ab H H2/\Inv X Z Y H2 s'/\s'.heap.DictOfH (nK X) m J/\(∀q∈J,NO X.K H2 q.1 q.2.1/\VZ q.1/\cc (.int (F q.1)) q.2.2)/\(dE J (Tb ps)).isSome=O1) (wb (t5 (sT (Ii N1 S0 T0 T I U1 λu r=>Nq hN hv hd X0 (hb _) I fm λtk=>?_) hm))) λfl s1 q=>?_)
      . obtain rfl:u=aT b:=r
        refine Qk (F:=F) .(0) (I.tok tk) fm.mem mk λJ N4 dd al=>jS ?_;have W:=(I.tok tk).tok N4;cases pr:(dE J (Tb ps)).isSome with
        |true=>
          show ag _ _ (ke [] X.env) _ _ _;exact kA ⟨rfl,H,J,ab.refl H,W,dd,al,pr⟩
        |false=>
          show ag _ _ (oj _ _ _) _ _ _;refine t5 (C8 (la (@ht A Z _ Y H (λb H1=>ab H H1/\b=O2) W ⟨ρ,_,w.ok,et,λH1 s1=>⟨s1,rfl⟩⟩) λb s1 q0=>?_));obtain⟨H1,I1,S,eb⟩:=q0;subst eb;refine C7 ?_;show ag _ _ (ke [_] X.env) _ _ _;exact put H1 s1 S I1
      . obtain⟨rfl,H2,J,S,W,dd,al,pr⟩:=q
        exact il H2 s1 J S W dd al pr
    . cases e
  . cases e
end
def gxL(K:aI)(l:List (Str×Addr)):Gx:={ K:=K,cl:=λc=>l.lookup c }
section
variable {K:aI}{a b:Str}{C1:Addr}{l:List (Str×Addr)}
def Zi:(gxL K ((a,C)::l)).cl a=O0 C:=by
 show bE a ((a,C)::l)=O0 C;rw[bX,YI]
def Zj(e:(b==a)=O2)(h:(gxL K l).cl b=O0 C):(gxL K ((a,C1)::l)).cl b=O0 C:=by
 show bE b ((a,C1)::l)=O0 C;rw[bX,e];exact h
def FlOk(K:aI)(l:List (Str×Addr))(x:Str):Prop:=∀c C,l.lookup c=O0 C->On K C/\BV K C x
def fl_n:FlOk K [] x:=λ_ _ h=>by cases h
def fl_c(S:On K C)(n:fA K (.ref C) x=O0 W1)(h:FlOk K l x):FlOk K ((a,C)::l) x:=λc I e=>by
 rw[bX] at e;split at e
 .cases e;exact⟨S,n⟩
 .exact h _ _ e
def KN(X:K.In h)(f:FlOk K l x):∀c I,(gxL K l).cl c=O0 I->On K I/\BV K I x:=λc I h=>f c I h
def kxL{g:Addr}{n:Nat}{z:Array ac}{xs:List Str}(X:K.In h)(N:h.Ns gv mg)(a:B2 K gv x=O0 (O0 (.ref g)))(I:K.lookup g=O0 ⟨.type "tuple",od,.seq z n,osl⟩)(hz:z.size<=sizeLine)(r:cx (xs.map V.str) z.toList):Kx (gxL K l) mg x (.tup (xs.map .str)):=⟨g,se X N a,d9 I hz r⟩
end
end PV
namespace PV
open PySem PySem.Spec L2 EX
open PyProof.Rows hiding St
def seeO(z:Mu):D->D
 |.ob c L=>.ob c (L.map λp=>(p.1,WO z p.2))
 |d=>WO z d
def JS(I:Mu):Slot->Slot
 |.fz d=>.fz (seeO I d)
 |z=>z
section
def mW(o:Nc G A0 He Hb A σ H ρ μ){v:V}{d:D}(r:im G (bm A H) v d):im G (bm (A.filter λa=>decide (a∉tx μ)) H) v (seeO μ d):=by
 cases d with
 |ob c S=>
  cases r with
  |ob O L T J=>
   refine .ob O (Ci (λa I=>(dS.mp I).1) _ _ L) (by rw[T,cb];rfl) λi x d U z=>?_;rw[cb,ca] at z;cases q:S[i]? with
   |none=>rw[q] at z;cases z
   |some p=>
    rw[q] at z;cases z;exact Wb o (J i x p.2 U (by rw[ca,q];rfl))
 |_=>exact Wb o r
theorem Nc.lendO(o:Nc G A0 He Hb A σ H ρ μ):Pt G (A.filter λa=>decide (a∉tx μ)) σ H (ρ.map (JS μ)):=by
 have k:=o.lend;have TZ:∀{i:Nat}{d:D},(ρ.map (JS μ))[i]?=O0 (.ow d)->(ρ.map (JR μ))[i]?=O0 (.ow d):=λ{i d} O=>by
  rw[ca] at O ⊢;cases q:ρ[i]? with
  |none=>rw[q] at O;cases O
  |some y=>
   rw[q] at O;cases y with
   |fz d=>cases O
   |ow d=>cases O;rfl
   |un=>cases O
 refine⟨by rw[ay];exact o.w.ok.len,k.live,λi d O=>?_,λi d O=>k.ow i d (TZ O),λi j d e a I z=>k.inj i j d e a (TZ I) (TZ z)⟩;rw[ca] at O;cases q:ρ[i]? with
 |none=>rw[q] at O;cases O
 |some y=>
  rw[q] at O;cases y with
  |fz J=>
   cases O;obtain⟨v,q1,q2⟩:=o.w.ok.fz i J q;exact⟨v,q1,mW o q2⟩
  |ow d=>cases O
  |un=>cases O
end
def scD:D->Bool
 |.non=>O1
 |.bl _=>O1
 |.int _=>O1
 |.str _=>O1
 |_=>O2
def lewD:D->Bool
 |.tup ds=>ds.all scD
 |d=>scD d
def mX{d:D}(h:scD d=O1)(r:im G H v d):im G H' v d:=by
 cases d with
 |non=>cases r;exact .non
 |bl b=>cases r;exact .bl b
 |int b=>cases r;exact .int b
 |str b=>cases r;exact .str b
 |_=>cases h
def yJ{d:D}(L:∀a xs,a∈A->¬ Rd (bm B H) a (.tup xs))(h:lewD d=O1)(r:im G (bm B H) v d):im G (bm A H) v d:=by
 cases d with
 |tup W=>
  cases r with
  | @tup a xs _ I S O=>
   refine .tup ?_ S λi x d U J=>mX (eS.mp h d (oS J)) (O i x d U J)
   rcases I with I | I
   .have T:a∉A:=λz=>L a xs z I;refine .inl (I.imp (λq=>?_) λ⟨o,q⟩=>⟨o,?_⟩)
    .rw[Ax T];exact Am _ _ q
    .rw[Ax T];exact Am _ _ q
   .exact .inr I
 |_=>exact mX h r
def lnX(f:FE):FXM:=λρ z K=>∃d,f (ρ.map (JS z))=O0 d/\lewD d=O1/\K d z
def mutE(J:FE)(g:D->List D->Option (D×D))(fs:FA):FXM:=λρ z K=>∃a ds c v I,J ρ=O0 (.adr a)/\fs ρ=O0 ds/\z.lookup a=O0 c/\g c ds=O0 (v,I)/\K v (YO a I z)
def mY(c m:Str)(g:GM)(I:FE)(fs:FA):FXM:=λρ z K=>∃o ds,I ρ=O0 o/\CT c m o=O1/\fs ρ=O0 ds/\g (o::ds) z K
section
variable {a c ob:Expr}{fa fo:FE}{es:List Expr}{fs:FA}{h:FXM}
theorem tR{a:Addr}{d:D}(t:NJ G A H a d):¬ Rd H a (.tup xs):=λz=>by
 cases d with
 |lst J=>obtain⟨I,q,_⟩:=t;rcases z with z | ⟨o,z⟩<;>(rw[q] at z;cases z)
 |dk J=>obtain⟨I,q,_⟩:=t;rcases z with z | ⟨o,z⟩<;>(rw[q] at z;cases z)
 |dt J=>obtain⟨I,q,_⟩:=t;rcases z with z | ⟨o,z⟩<;>(rw[q] at z;cases z)
 |ob c L=>obtain⟨C,dx,I,q,_⟩:=t;rcases z with z | ⟨o,z⟩<;>(rw[q] at z;cases z)
 |_=>exact t
def Wm(ha:PF X G a fa):PMX X G a (lnX fa):=λA0 He S s O H Q I ⟨ρ,J,K,⟨A,Hb,w⟩,⟨d,e1,fl,q⟩,k⟩=>
 @ha (A.filter λa=>decide (a∉tx J)) S s O H Q I ⟨_,d,w.lendO,e1,λv L T U=>by
  have W:=w.mono T;refine k v L d J A Hb q W (yJ (λa xs hA z=>?_) fl U)
  by_cases y:a∈tx J
  .obtain⟨d',Y⟩:=lE y;exact tR (W.top _ Y) (z.imp (λq=>Am _ _ q) (by rintro ⟨o,q⟩;exact ⟨o,Am _ _ q⟩))
  .have Z:a∈A.filter λa=>decide (a∉tx J):=dS.mpr ⟨hA,QI y⟩;have n:bm (A.filter λa=>decide (a∉tx J)) L a=W1:=by unfold bm;rw[WH Z]
   rcases z with z | ⟨o,z⟩<;>(rw[n] at z;cases z)⟩
def mZ{T id:String}{r:V->List V->Hp->VK->Prop}{gm:D->List D->Option (D×D)}(pa:DI T)(S:AQ T name id)(Y:typeOf (.builtin id)=pure (.type "method_descriptor"))(hm:MtM X id r)(sn:SndM G r gm)(tv:∀(A:List Addr) (H:Hp) (l:Addr) (c:D) (ds:List D) (vc:D×D),gm c ds=O0 vc->NJ G A H l c->tyV X.K T (.ref l) H)(ho:PF X G ob fo)(ha:SV X G (a::es) fs)(L:eR ob name X.env (eval ob X.env)=eval ob X.env:=by rfl)(O:((cS pos (aw (a::es) X.env)).all (λx=>!x.1)&&(ib pos (fR [] X.env)).all (λx=>x.1.isSome)&&decide ((a::es).length+([]:List hZ).length+(if ([]:List hZ).isEmpty then 0 else 1)<30))=O1:=by rfl)(J:(apos.endLine==pos.line)=O1:=by rfl)(hs:aw (a::es) X.env=(O2,eval a X.env)::aw es X.env:=by rfl)(Z:(cS pos (aw es X.env)).any (·.1)=O2:=by rfl):
  PMX X G (.Call (.Attribute ob name apos) (a::es) [] pos) (mutE fo gm fs):=by
 rintro A0 He π s σ H Q I ⟨ρ,μ,K,⟨A,Hb,w⟩,⟨l,ds,c,v,c',e0,e1,hl,e2,q⟩,k⟩
 have z:=OO hl;refine iG pa S Y hm (@ho A) (@ha A) L O J hs Z π s σ H Q I ⟨ρ,.adr l,w.w.ok,e0,λx H0 s0 r0=>?_⟩;cases r0;have U:=w.mono s0;refine⟨tv _ _ _ _ _ _ e2 (U.top _ z),ρ,ds,U.w.ok,e1,λvs H1 s1 r1=>?_⟩;have W:=U.mono s1;exact sn A H1 l vs c ds v c' Q W.w.ok.live (w.inA (Jg z)) (W.top _ z) r1 e2 λvv H' sx t rv=>k vv H' v _ A _ q (W.wr (Jg z) sx t) rv
def mj(L:PF X G ob fo)(O:SV X G [a] fs)(I:eR ob "append" X.env (eval ob X.env)=eval ob X.env:=by rfl)(J:((cS pos (aw [a] X.env)).all (λx=>!x.1)&&(ib pos (fR [] X.env)).all (λx=>x.1.isSome)&&decide ([a].length+([]:List hZ).length+(if ([]:List hZ).isEmpty then 0 else 1)<30))=O1:=by rfl)(z:(apos.endLine==pos.line)=O1:=by rfl)(hs:aw [a] X.env=[(O2,eval a X.env)]:=by rfl):PMX X G (.Call (.Attribute ob "append" apos) [a] [] pos) (mutE fo VQ fs):=
 mZ AO E7 E8 Mg X_ lK L O I J z hs rfl
theorem mq{k:Nat}{c:Str}{d:Mx X.K C m qual st ps}{g:GM}{pl:Sem Bool}(Z:G.cl c=O0 C)(cl:On X.K C)(F:hQ X.prog X.w X.K X.mg X.base CX0 k d.f d.fd ps (spM G g))(hr:Room k' X.A)(ho:PF X G ob fo)(ha:SV X G (a::es) fs)(O:k<=k':=by omega)(J:aw (a::es) X.env=(O2,eval a X.env)::aw es X.env:=by rfl)(L:(cS pos (aw es X.env)).any (·.1)=O2:=by rfl)(ht:eval (.Call (.Attribute ob m apos) (a::es) [] pos) X.env=(do
   let ov <-eval ob X.env
   nh apos.atName
   let (f,first) <-li [ov] (oB ov m pl)
   rb pos f first (cS pos (aw (a::es) X.env)) (ib pos (fR [] X.env))):=by rfl):
  PMX X G (.Call (.Attribute ob m apos) (a::es) [] pos) (mY c m g fo fs):=by
 rintro A0 He π s σ H Q I ⟨S,μ,K,⟨A,Hb,w⟩,⟨W,ds,e0,z,e1,e2⟩,k⟩
 refine Vq (@ho A) cl d.me F (hr.mono O) d.B .nil RD (@ha A) J L ht π s σ H Q I ⟨S,W,w.w.ok,e0,λv H1 U r1=>?_⟩;cases W with
 |ob c' gs=>
  simp only[CT,eD,UI,sd] at z;obtain⟨rfl,hn⟩:=z;cases r1 with
  |ob hC h1 Y r2=>
   rw[Z] at hC;cases hC;refine⟨_,_,_,rfl,Am _ _ h1,Mr Y hn,S,ds,w.w.ok.mono U,e1,λvs H2 T r3=>?_⟩;refine lH ((w.mono U).mono T) ?_ e2 k;rw[fI];exact .cons (im.mono (.ob Z h1 Y r2) (BJ T)) r3
 |_=>simp[CT] at z
end
def plE(L:List (Str×D)):Ef:=L.map λp=>(p.1,O2,p.2)
theorem tu.last{G:Gx}{A0 A:List Addr}{H:Hp}{x:Addr}{f:Str}{d:D}:∀{gs:List (Str×D)}{fs:List (Str×V)}{as:List Addr},tu G A0 A H x fs (plE gs++[(f,O1,d)]) as->∃vs b,fs=vs++[(f,.ref b)]/\vs.map (·.1)=gs.map (·.1)/\be G (bm A H) (vs.map (·.2)) (gs.map (·.2))/\b∈A/\b∉A0/\b≠x/\NJ G A H b d
 |[],fs,as,h=>by
  cases h with
  |ow L z T I t r=>
   cases r;exact⟨[],_,rfl,rfl,.nil,L,z,T,t⟩
 | (g,O)::gs,fs,as,h=>by
  cases h with
  |pl J r=>
   obtain⟨vs,b,rfl,z,T,I⟩:=tu.last r;exact⟨(g,_)::vs,b,rfl,by simp[z],.cons J T,I⟩
theorem YZ{G:Gx}{H:Hp}{v:V}{d:D}:∀{vs:List V}{ds:List D},be G H vs ds->im G H v d->be G H (vs++[v]) (ds++[d])
 |[],ds,r,h=>by
  rw[xL r.1.symm];exact .cons h .nil
 |x::vs,[],r,h=>by cases r.1
 |x::vs,y::ds,r,h=>by
  obtain⟨z,J,e,I,O⟩:=r.uncons;cases e;exact .cons I (YZ O h)
theorem VU.openL{x:Addr}{d:D}(o:VU G c A0 He x A σ H ρ (plE gs++[(f,O1,d)])):
  ∃b,He b=W1/\b≠x/\ab He H/\NJ G (b::A0) H b d/\im G (bm (b::A0) H) (.ref x) (.ob c (gs++[(f,.adr b)])):=by
 obtain⟨C,dx,fs,as,S,O,T⟩:=o.ob;obtain⟨J,b,rfl,W,U,Y,n0,I,t⟩:=tu.last T;have sub:∀a∈b::A0,a∈A:=λa L=>by
  rcases br.mp L with z | z
  .rw[z];exact Y
  .exact o.w.sub a z
 refine⟨b,(o.w.fr b Y).resolve_left n0,I,o.w.same,t.sub sub,.ob (dx:=dx) (fs:=J++[(f,.ref b)]) O ?_ (by simp[W]) ?_⟩
 .rw[Ax]
  .exact S
  .intro z
   rcases br.mp z with z | z
   .exact I z.symm
   .exact o.x0 z
 .rw[dP,dP];exact (YZ (U.mono (Ci sub)) (.adr b)).2
def tEM(G:Gx)(c f:Str)(A0:List Addr)(J:Hp)(x:Addr)(g:Po):TS:=λD S H=>∃ρ L r O d,ZY G c A0 J x S H ρ L/\g ρ L=O0 r/\r.2=plE O++[(f,O1,d)]/\∀I z b,J b=W1->b≠x->ab J z->NJ G (b::A0) z b d->im G (bm (b::A0) z) (.ref x) (.ob c (O++[(f,.adr b)]))->D.nx I z
def PSIM(X:Cx)(G:Gx)(c f:Str)(st:List Stmt)(g:Po):Prop:=∀⦃A0⦄ He x,UQ X st (tEM G c f A0 He x g)
def my:PSIM X G c f [] nilE:=by
 rintro A0 He x J s z H D I ⟨ρ,O,r,Z,d,⟨A,o⟩,e,L,k⟩
 cases e;have L:O=plE Z++[(f,O1,d)]:=L;subst L;obtain⟨b,Y,W,U,T,S⟩:=o.openL;exact JM J s z H D I (k z H b Y W U T S)
def Qn{il:List Stmt}{g O:Po}(h1:PSE X G c st g)(h2:PSIM X G c f il O):PSIM X G c f (st::il) (Dr g O):=by
 rintro T S x Y s W H D I ⟨J,L,r,fs,d,o,e,er,k⟩
 refine K4 (@h1 T S x) (@h2 T S x) Y s W H D I ?_;unfold Dr at e;cases z:g J L with
 |none=>simp[z] at e
 |some q=>
  simp only[z,dn] at e;exact⟨J,L,q,o,z,λU H' Z=>⟨q.1,q.2,r,fs,d,Z,e,er,k⟩⟩
def spIM(G:Gx)(c f:Str)(g:Addr->List D->Option Ef):Sp:=λvs H Q _=>∃A x z ds L d C dx,vs=.ref x::z/\(∀a∈A,Nt (H a))/\x∉A/\H x=O0 (.ins C dx [])/\G.cl c=O0 C/\be G (bm (x::A) H) z ds/\g x ds=O0 (plE L++[(f,O1,d)]) ∧
 ∀I b,Lb x H I->H b=W1->NJ G (b::A) I b d->im G (bm (b::A) I) (.ref x) (.ob c (L++[(f,.adr b)]))->Q .non I
def AAG{base:Heap}{f0:Str}{f:Addr}{k:Nat}{b:Po}(F:Fun G.K x qual st f fd)(S:bc N ps (Ab st))(hl:ps.length<=N.length)(Y:∀(cdv:ac) (A:aS) (I:List Env) (s:ah) (H:Hp) (E:XK),Room k (A.deeper (g9 qual (Ab st) s.heap.objs.size f cdv))->PSIM (Qr CX0 P w G.K mg base N qual (Ab st) f cdv A I s H E).nox G c f0 (Bf st) b):
  hQ P w G.K mg base CX0 (k+1) f fd ps (spIM G c f0 (SY N.length ps.length b)):=by
 refine F.ok S (λvs H Q E h=>?_) (λcdv A I s H vs Q E hr h=>?_)
 .obtain⟨A,x,L,O,gs,d,C,dx,rfl,U,W,Z,hc,r,e,_⟩:=h;unfold SY at e;split at e
  .rename_i hz;rw[ci,r.1];exact hz
  .cases e
 .obtain⟨A1,x,L,O,gs,d,C,dx,rfl,U,W,Z,hc,r,e,k⟩:=h;unfold SY at e;split at e
  .rename_i hz;have T:∀a∈x::A1,Nt (H a):=λa J=>by
    rcases br.mp J with z | z
    .rw[z,Z];exact Nt.ins
    .exact U a z
   have r':be G (bm (x::A1) H) (.ref x::L) (.adr x::O):=.cons (.adr x) r;obtain⟨B,w⟩:=K_ (N:=N) T r' (by rw[ci,r.1];omega);cases e1:b (Le N.length x O) [] with
   |none=>simp[e1] at e
   |some q=>
    simp only[e1,io] at e;have er:=cy e;have hzz:=Y cdv A I s H E hr;refine⟨_,@hzz A1 (bm [x] H) x,Le N.length x O,[],q,gs,d,?_,e1,er,λN0 H' y hy ny s' t rv=>k H' y (λb o Y ho=>s' b o (by rw[Ax (by simpa using Y)];exact ho)) (by rw[Ax (by simpa using ny)] at hy;exact hy) t rv⟩;refine⟨B,⟨Am,λa J=>w.sub a (ck _ J),λa J=>?_,λa J=>?_,w.ok,λi d a h _=>NI h (By (Gq _ _) i d),λy d _ h=>NI h (By (Gq _ _) 0 d)⟩,Gq _ _,w.sub x da,W,rfl,C,dx,[],[],Z,hc,.nil⟩
    .rcases w.fr a J with z | z
     .rcases br.mp z with z | z
      .right;unfold bm;rw[WH (by simp[z])]
      .exact .inl z
     .right;unfold bm;split
      .rfl
      .exact z
    .rw[Ax (λz=>W (by simp at z;rw[<-z];exact J))];exact (U a J).ne
  .cases e
def mkM(c f:Str)(g:Addr->List D->Option Ef)(fs:FA):FXM:=λρ z K=>∃ds L d,fs ρ=O0 ds/\(∀x,g x ds=O0 (plE L++[(f,O1,d)]))/\∀p,p∉tx z->K (.ob c (L++[(f,.adr p)])) ((p,d)::z)
def yK{a:Expr}{es:List Expr}{fs:FA}{p:Pos}{k:Nat}{f:Addr}{g:Addr->List D->Option Ef}{cn fl:Str}(X0:G.cl cn=O0 C)(M:Mk X.K C f)(F:hQ X.prog X.w X.K X.mg X.base CX0 k f fd ps (spIM G cn fl g))(hr:Room (k+1) X.A)(hg:Gl X x)(hm:X.mg x=O0 (.ref C))(J:MZ X.K fd ps [])(ha:SV X G (a::es) fs)(T0:(x==("__debug__":Str))=O2:=by decide)(he:aw (a::es) X.env=(O2,eval a X.env)::aw es X.env:=by rfl)(Z:(cS pos (aw es X.env)).any (·.1)=O2:=by rfl):
  PMX X G (.Call (.Name x p) (a::es) [] pos) (mkM cn fl g fs):=by
 rintro A0 He π s σ H Q I ⟨ρ,μ,K,⟨A,Hb,w⟩,⟨ds,gs,d,e1,O,q⟩,k⟩
 refine Z9 M F hr hg hm J .nil RD (@ha A) T0 he Z π s σ H Q I ⟨ρ,ds,w.w.ok,e1,λvs S s1 rv=>λy dx U S0 N0=>?_⟩;have T:ab S (gq (gq S dx (.own y)) y (.ins C dx [])):=(Ak S0 _).trans (Ak (by rw[Al (cf N0)];exact U) _);have w1:=w.mono s1;have L:=w1.w.ok.live;refine⟨A,y,vs,ds,gs,d,C,dx,by rw[fI],λb J=>?_,λz=>(L y z).ne U,Aj,X0,rv.mono (Hw T U),O y,λH' b sx J t W=>⟨rfl,?_⟩⟩
 .exact (L b J).mono λu e=>T _ _ e
 .have s2:ab S H':=λc u hc=>sx c u (λz=>by rw[z,U] at hc;cases hc) (T _ _ hc);have N1:S b=W1:=by
   cases e:S b with
   |none=>rfl
   |some u=>rw[T _ _ e] at J;cases J
  obtain⟨_,Y,m⟩:=w1.new s2 N1 t;exact k _ H' _ _ _ _ (q b Y) m W
def cB:D->Option D
 |.lst ds=>(Fp ds).bind λO=>if O=[] then W1 else O0 (.int (Ya (λi=>O.getD i 0) (O.length-1)))
 |_=>W1
def idxD:D->D->Option D
 |.lst ds,.int i=>(Fp ds).bind λO=>if i∈O then O0 (.int (O.idxOf i:Nat)) else W1
 |_,_=>W1
def rMx1(K:aI):List V->Hp->VK->Prop:=λxs H Q=>∃(p:Addr) (O:List Int),xs=[.ref p]/\NS K H p (O.map V.int)/\O≠[]/\Q (.int (Ya (λi=>O.getD i 0) (O.length-1))) H
section
variable {a b:Expr}{fa fb:FE}
def fO(hc:X.calm=O1)(hG:G.K=X.K):Dd X (.builtin "max") (rMx1 G.K):=by
 rw[hG];intro π s σ H xs us Q I r h;obtain⟨p,S,rfl,hs,T,k⟩:=h;obtain⟨u,rfl,L⟩:=SR r;cases L;obtain⟨W,J,O,hz⟩:=I.list hs;obtain⟨z,e1,e2,e3⟩:=Xo J;have hl:s.heap.IsList p (gi z):=by rw[<-e1];exact O.isList
 have Y:0<S.length:=E6.mpr T;refine max_intList (I.ok.hd hc) hl .(0) λv h' tk hP U=>?_;obtain⟨t,rfl⟩:=E4 hP;refine⟨.int _,H,I.kept U,⟨t,?_⟩,k⟩;have Z:=Nh (λi j=>decide (jp z i > jp z j)) (z.size-1);have q:=TJ (jp z) (z.size-1);rw[q,e2];congr 1;exact QS λi hi=>e3 i .(0)
def mz:VS G (rMx1 G.K) cB:=by
 intro A H x dx d Q U rx h k;unfold cB at h;split at h
 .rename_i S;cases z:Fp S with
  |none=>simp[z] at h
  |some O=>
   simp only[z,dn] at h;split at h
   .cases h
   .rename_i L;cases h;obtain⟨q,T,rfl,I,rr⟩:=rx.lst;have J:=Pi rr z;subst J;exact⟨q,O,rfl,I,L,k _ H (ab.refl H) (.int _)⟩
 .cases h
theorem m5{A:aS}{l:Addr}{i:Int}{t:Tok}(Y:s.heap.IsList l vs.toArray)(z:rh vs ns)(hz:ns.length<=sizeLine)(S:i∈ns)(h:Q (.int (ns.idxOf i:Nat) s.toks) { s with toks:=s.toks+1 }):
  ag (ai prog w) A (call (.builtin "list.index") [.ref l,.int i t]) Q E s:=by
 obtain⟨⟨c0,d0,q0,Z⟩,L,W,n,T⟩:=id Y;cases W;cases T;have e:=z.length;have U:=Mo.mpr S;rw[hV] at hz;exact call_meets MA ⟨_,L,rfl⟩ PySem.F.entry_list_index (PySem.F.args_list_index_2 _ _)
  (PySem.SeqAt.list_indexAt l vs.toArray n d0 Z (.int i t) (isInt i) (ns.idxOf i) (by rw[cr,e];exact U) .(0)
   (by show isInt i vs[ns.idxOf i]=O1;rw[isInt_at i z _ .(0) U,MB U];simp)
   (λm I J=>by show isInt i vs[m]=O2;rw[isInt_at i z m (by simpa using I) .(0)];exact ne_of_lt_idxOf J _))
  ⟨L,λy O=>(eq_isInt i t z y (by simpa using O)).at _ _,h⟩
theorem m6(hG:G.K=X.K)(ha:PU X G a fa)(hb:PF X G b fb)(m1:eR a "index" X.env (eval a X.env)=eval a X.env:=by rfl)(m2:((cS pos (aw [b] X.env)).all (λx=>!x.1)&&(ib pos (fR [] X.env)).all (λx=>x.1.isSome)&&decide (([b]:List Expr).length+([]:List hZ).length+(if ([]:List hZ).isEmpty then 0 else 1)<30))=O1:=by rfl)(m3:(apos.endLine==pos.line)=O1:=by rfl)(m4:cS pos (aw [b] X.env)=[(O2,eval b X.env)]:=by rfl):PF X G (.Call (.Attribute a "index" apos) [b] [] pos) (bF idxD fa fb):=λA π s σ H Q I h=>by
  obtain⟨ρ,d,o,e,k⟩:=h;obtain⟨dx,dy,e1,e2,z⟩:=Rg e;refine KP m1 m2 m3 AO MA PySem.F.type_list_index (la (@ha A π s σ H (λv L=>ab H L/\mu G A L v dx) I ⟨ρ,dx,o,e1,λv L Y U=>⟨Y,U⟩⟩) λu Y q9=>?_);obtain⟨x,L,I1,rx,S,U⟩:=q9;cases dx with
  |lst ds=>
   cases dy with
   |int i=>
    simp only[idxD] at z;cases W:Fp ds with
    |none=>simp[W] at z
    |some ns=>
      simp only[W,dn] at z;split at z
      . rename_i hm
        cases z;obtain⟨q,xs,rfl,h1,rr⟩:=U.lst;have ex:=Pi rr W;subst ex;cases rx;obtain⟨S1,rv,pl,hz⟩:=I1.list (by rw[<-hG];exact h1);refine⟨pl.isList.typeIs,λb' q'=>?_,?_⟩
        . cases q'
          obtain⟨ob,n,h1,h2,h3,h4⟩:=pl;exact⟨ob,h1,h3⟩
        rw[m4];refine II rfl (IJ (Iq (la (@hb A π Y σ L (λv J=>ab L J/\im G (bm A J) v (.int i)) I1 ⟨ρ,.int i,o.mono S,e2,λv J s2 r2=>⟨s2,r2⟩⟩) λiv s2 ⟨y,J,I2,ry,O,r2⟩=>Ic ?_)));cases r2;obtain⟨tk,rfl⟩:=ry;obtain⟨q2,P1,X0,h2,N0⟩:=(U.mono O).lst;cases X0;have T0:=Pi N0 W;subst T0;obtain⟨N1,Z,S0,T⟩:=I2.list (by rw[<-hG];exact h2);rw[ay] at T;exact m5 S0.isList (intsAre_of Z) T hm ⟨.int _,J,I2.tok _,⟨_,rfl⟩,k _ J (S.trans O) (.int _)⟩
      . cases z
   |_=>cases z
  |_=>cases z
end
end PV
namespace K67
open PySem L2 PV
abbrev cs (x:Str):List Nat:=x.cps.toList
def LET:Str:="abcdefghijklmnopqrstuvwxyz"
def IsL(x:Str):Prop:=∀c∈cs x,c∈cs LET
def KEPT:List Str:=["not","and","or","some","all"]
structure Wd (x:Str):Prop where
 lo:1<=x.length
 hi:x.length<=8
 isL:IsL x
 kept:x∉KEPT
structure Wl where
 n:Nat
 ms:List (Str×List Nat)
 ts:List (Str×List (Nat×Nat))
abbrev iN (t:Nat):D:=.int (t:Int)
abbrev pN (q:Nat×Nat):D:=.tup [.int (q.1:Int),.int (q.2:Int)]
def lM(l:List Nat):D:=.lst (l.map iN)
def lT(l:List (Nat×Nat)):D:=.lst (l.map pN)
def eM(I:List (Str×List Nat)):List (Key×D):=I.map λp=>(.inr p.1,lM p.2)
def eT(z:List (Str×List (Nat×Nat))):List (Key×D):=z.map λp=>(.inr p.1,lT p.2)
def kM(l:List Nat):D:=.dk (l.map λ(t:Nat)=>((.inl (t:Int):Key),.bl O1))
def kT(l:List (Nat×Nat)):D:=.dt (l.map λq=>([(.inl (q.1:Int):Key),.inl (q.2:Int)],.bl O1))
def oM(I:List (Str×List Nat)):List (Key×D):=I.map λp=>(.inr p.1,kM p.2)
def oT(z:List (Str×List (Nat×Nat))):List (Key×D):=z.map λp=>(.inr p.1,kT p.2)
def fc(W:Wl):D:=.ob "World" [("size",.int W.n),("marked",.dk (oM W.ms)),("tied",.dk (oT W.ts))]
structure lu (W:Wl):Prop where
 n5:W.n<=5
 m3:W.ms.length<=3
 t3:W.ts.length<=3
 mw:∀p∈W.ms,Wd p.1
 tw:∀p∈W.ts,Wd p.1
 nd:(W.ms.map (·.1)++W.ts.map (·.1)).Nodup
 ml:∀p∈W.ms,p.2.Nodup/\p.2.length<=100/\∀t∈p.2,t<W.n
 tl:∀p∈W.ts,p.2.Nodup/\p.2.length<=100/\∀q∈p.2,q.1<W.n/\q.2<W.n
def wd(W:Wl):D:=.lst [.int (W.n:Int),.dk (eM W.ms),.dk (eT W.ts)]
def lN(z:List Nat):D:=.lst (z.map iN)
abbrev Pr:=Nat×Nat
def mk(W:Wl)(w:Str)(i:Nat):Bool:=match W.ms.find? (λp=>p.1=w) with | some p=>decide (i∈p.2) | none=>O2
def tk(W:Wl)(w:Str)(i j:Nat):Bool:=match W.ts.find? (λp=>p.1=w) with | some p=>decide ((i,j)∈p.2) | none=>O2
abbrev mw (W:Wl):List Str:=W.ms.map (·.1)
abbrev tw (W:Wl):List Str:=W.ts.map (·.1)
def O5(W V:Wl)(q:Pr):Bool:=(mw W).all λw=>mk W w q.1==mk V w q.2
def Jv(W V:Wl)(p q:Pr):Bool:=(tw W).all λw=>tk W w p.1 q.1==tk V w p.2 q.2
def goB(W V:Wl)(p q:Pr):Bool:=(decide (p.1=q.1)==decide (p.2=q.2))&&(Jv W V p q&&Jv W V q p)
def VY(W V:Wl)(ps:List Pr)(q:Pr):Bool:=(O5 W V q&&Jv W V q q)&&ps.all λp=>goB W V p q
def Pp(n:Nat)(xs:List Nat):List Nat:=(bg n).filter λt=>decide (t∉xs)
def pp(W V:Wl):Nat:=max W.n V.n+1
def NW(l:List Nat):Nat:=l.foldr max 0
def stp(W V:Wl)(R:List Pr->Nat)(ps:List Pr):Nat:=
 let fs:=Pp W.n (ps.map (·.1))
 let Z:=Pp V.n (ps.map (·.2))
 let rw:=λq:Pr=>if VY W V ps q then R (Ag (ps++[q])) else 0
 min (pp W V) (1+((fs.map λf=>NW (Z.map λs=>rw (f,s)))++Z.map λs=>NW (fs.map λf=>rw (f,s))).foldr min (pp W V))
def rkN(W V:Wl):Nat->List Pr->Nat
 |0,_=>0
 |n+1,ps=>stp W V (rkN W V n) ps
def QP(W V:Wl)(ps:List Pr):Bool:=ps.all λp=>(O5 W V p&&Jv W V p p)&&ps.all (goB W V p)
def Nw(W V:Wl)(ps:List Pr):Nat:=if QP W V ps then rkN W V 6 ps else 0
def unk1:List Key->Pr
 |[.inl i,.inl j]=>(i.toNat,j.toNat)
 |_=>(0,0)
def FW(W V:Wl)(ks:List (List Key)):Int:=(Nw W V (ks.map unk1):Nat)
open Classical in
noncomputable def FF(a b:D):List (List Key)->Int:=if h:∃x:Wl×Wl,a=fc x.1/\b=fc x.2 then FW (choose h).1 (choose h).2 else λ_=>0
noncomputable def Phi(ρ:Rho):Option (List (List Key)->Int):=match vF 1 ρ,vF 2 ρ with
 |some a,O0 b=>O0 (FF a b)
 |_,_=>W1
def m8(_:List D)(d:D):Prop:=d=.bl O1
open PySem.Spec EX
open PyProof.Rows hiding St
noncomputable section
def UH:D:=(.tup ((["not","and","or","some","all"]:List Str).map .str))
def F_:FT:=wh (bF (MY O2) (bF aF (bF shrD (vF 3) (bF rz (bF Sj (kF (.int 5)) (vF 5)) (vF 9))) (kF (.int 1))) (kF (.int 1)))
def Li:FE:=vF 9
def GC:FS:=putF 4 (bF kc (vF 1) (vF 5)) (BW (NV (vF 0)) (F_) (Li))
def GD:FT:=wh (bF (MY O2) (bF aF (bF shrD (vF 3) (bF rz (bF rz (bF rz (kF (.int 15)) (bF Sj (kF (.int 25)) (vF 5))) (bF Sj (kF (.int 5)) (vF 8))) (vF 9))) (kF (.int 1))) (kF (.int 1)))
def Ij:FE:=OX (Aa (vF 8) (Aa (vF 9) (am)))
def GF:FS:=mf 7 (bF rz (vF 7) (BW (NV (vF 0)) (GD) (Ij)))
def GJ:FS:=dq (mf 7 (Cs (am))) (dq (Os (NV (vF 0)) (Bx 8) (GF)) (putF 6 (bF kc (vF 2) (vF 5)) (vF 7)))
def KQ:FS:=dq (setW 4 (kF (.dk []))) (dq (Os (NV (uF uj (vF 1))) (Bx 5) (GC)) (dq (setW 6 (kF (.dk []))) (dq (Os (NV (uF uj (vF 2))) (Bx 5) (GJ)) (fzS [4,6] (fy (Cs (Aa (vF 0) (Aa (vF 4) (Aa (vF 6) (am))))))))))
def Ei:List D->Option D:=jl 9 4 KQ
def HS:FE:=bF kc (vF 1) (vF 5)
def FJ:FS:=putF 2 (vF 3) (BW (nq (bF kc (bF kc (vF 0) (kF (.int 1))) (vF 3))) (rc) (HS))
def HW:FE:=OX (Aa (bF kc (vF 1) (bF kc (vF 5) (kF (.int 0)))) (Aa (bF kc (vF 1) (bF kc (vF 5) (kF (.int 1)))) (am)))
def FN:FS:=putF 4 (vF 3) (BW (nq (bF kc (bF kc (vF 0) (kF (.int 2))) (vF 3))) (rc) (HW))
def Jh:FS:=dq (setW 2 (kF (.dk []))) (dq (Os (nq (bF kc (vF 0) (kF (.int 1)))) (Bx 3) (FJ)) (dq (setW 4 (kF (.dk []))) (dq (Os (nq (bF kc (vF 0) (kF (.int 2)))) (Bx 3) (FN)) (fzS [2,4] (fy (Cs (Aa (bF kc (vF 0) (kF (.int 0))) (Aa (vF 2) (Aa (vF 4) (am))))))))))
def G3:List D->Option D:=jl 5 2 Jh
def Bh:FT:=wh (bF (MY O1) (vF 2) (Cs (am)))
def Bv:FS:=dq (mf 4 (bF Nn (vF 0) (uF Sk (vF 2)))) (dq (mf 0 (bF IK (vF 0) (uF Sk (vF 2)))) (dq (mutF ZI 3 (bF ixD (vF 2) (vF 4))) (mf 2 (bF rz (slF (vF 2) (noO) (PY (vF 4))) (slF (vF 2) (PY (bF rz (vF 4) (kF (.int 1)))) (noO))))))
def KR:FS:=dq (mf 2 (uF X7 (vF 1))) (dq (setW 3 (Cs (am))) (dq (Gm (Bh) (Bv) 60) (fzS [3] (fy (vF 3)))))
def Ho:List D->Option D:=jl 5 2 KR
def Ik:FT:=wh (bF (MY O1) (vF 2) (vF 1))
def Il:FE:=vF 2
def KY:FS:=dq (QO (wh (bF (PZ O2) (vF 1) (vF 0))) (fy (BW (nq (vF 0)) (Ik) (Il))) (Si)) (fy (bF rz (vF 0) (Cs (Aa (vF 1) (am)))))
def Dg:List D->Option D:=jl 2 2 KY
def DW:FS:=dq (UO (vF 0) (NM 3 (A_ 2 (A_ 3 (A_ 4 (NN)))))) (dq (mf 5 (bF Nn (vF 1) (bF YV (vF 2) (kF (.int 1))))) (dq (mf 6 (bF Nn (bF IK (vF 1) (kF (.int 5))) (bF YV (vF 2) (kF (.int 1))))) (dq (QO (orT (wh (bF (MY O2) (vF 2) (kF (.int 0)))) (wh (bF (MY O2) (bF rz (uF uj (vF 3)) (uF uj (vF 4))) (kF (.int 0))))) (fy (vF 0)) (Si)) (dq (mf 7 (bF Nn (bF IK (vF 1) (kF (.int 25))) (bF rz (uF uj (vF 3)) (uF uj (vF 4))))) (dq (setW 8 (uF VD (vF 3))) (dq (setW 9 (uF VD (vF 4))) (dq (QO (wh (bF ltD (vF 7) (uF uj (vF 3)))) (dq (mf 10 (bF kc (uF QY (vF 3)) (vF 7))) (putF 8 (vF 10) (An (Dg) (Aa (bF kc (vF 3) (vF 10)) (Aa (vF 5) (am)))))) (dq (mf 10 (bF kc (uF QY (vF 4)) (bF SW (vF 7) (uF uj (vF 3))))) (putF 9 (vF 10) (An (Dg) (Aa (bF kc (vF 4) (vF 10)) (Aa (OX (Aa (vF 5) (Aa (vF 6) (am)))) (am))))))) (fzS [8,9] (fy (Cs (Aa (vF 2) (Aa (vF 8) (Aa (vF 9) (am))))))))))))))
def CV:List D->Option D:=jl 11 2 DW
def Ej:FS:=dq (UO (vF 0) (NM 4 (A_ 1 (A_ 2 (A_ 3 (A_ 4 (NN))))))) (dq (mf 5 (bF Nn (bF Sj (vF 2) (kF (.int 27182818284590452353602874713526624977572470936999595749669))) (bF shlD (kF (.int 1)) (kF (.int 90))))) (dq (QO (wh (bF (MY O2) (bF Nn (vF 1) (kF (.int 3))) (kF (.int 2)))) (mf 5 (bF Nn (vF 2) (bF shlD (kF (.int 1)) (kF (.int 90))))) (Si)) (dq (mf 6 (bF Nn (bF Sj (bF IK (vF 1) (kF (.int 3))) (kF (.int 1000000007))) (kF (.int 2147483647)))) (dq (mf 7 (bF kc (Cs (Aa (kF (.int 2)) (Aa (kF (.int 3)) (Aa (kF (.int 1)) (Aa (kF (.int 3)) (Aa (kF (.int 4)) (Aa (kF (.int 2)) (Aa (kF (.int 3)) (Aa (kF (.int 0)) (Aa (kF (.int 4)) (Aa (kF (.int 2)) (Aa (kF (.int 3)) (Aa (kF (.int 5)) (am)))))))))))))) (bF Nn (vF 6) (kF (.int 12))))) (dq (mf 8 (slF (Cs (Aa (kF (.str "red")) (Aa (kF (.str "o")) (Aa (kF (.str "redo")) (am))))) (noO) (PY (bF Nn (bF IK (vF 6) (kF (.int 12))) (kF (.int 3)))))) (dq (mf 9 (slF (Cs (Aa (kF (.str "near")) (Aa (kF (.str "n")) (Aa (kF (.str "under")) (am))))) (noO) (PY (bF Nn (bF IK (vF 6) (kF (.int 36))) (kF (.int 3)))))) (dq (mf 10 (An (Ei) (Aa (vF 7) (Aa (vF 8) (Aa (vF 9) (Aa (vF 5) (am))))))) (dq (mf 11 (bF Nn (vF 3) (kF (.int 5)))) (dq (QO (wh (bF (MY O2) (vF 11) (kF (.int 0)))) (fy (Cs (Aa (vF 10) (Aa (An (Ei) (Aa (bF Nn (bF IK (vF 3) (kF (.int 5))) (kF (.int 5))) (Aa (vF 8) (Aa (vF 9) (Aa (bF Nn (vF 4) (bF shlD (kF (.int 1)) (kF (.int 90)))) (am)))))) (am))))) (Si)) (dq (QO (wh (bF (MY O2) (vF 11) (kF (.int 1)))) (fy (Cs (Aa (vF 10) (Aa (An (Ei) (Aa (bF minD (bF rz (vF 7) (kF (.int 1))) (kF (.int 4))) (Aa (vF 8) (Aa (vF 9) (Aa (vF 5) (am)))))) (am))))) (Si)) (dq (mf 12 (An (G3) (Aa (vF 10) (Aa (An (Ho) (Aa (bF IK (vF 3) (kF (.int 5))) (Aa (vF 7) (am)))) (am))))) (dq (QO (wh (bF (MY O2) (vF 11) (kF (.int 2)))) (fy (Cs (Aa (vF 10) (Aa (vF 12) (am))))) (Si)) (fy (Cs (Aa (vF 10) (Aa (An (CV) (Aa (vF 12) (Aa (bF IK (vF 4) (kF (.int 3))) (am)))) (am)))))))))))))))))
def Cq:List D->Option D:=jl 13 1 Ej
def Im:FS:=QO (wh (bF gtD (vF 0) (vF 1))) (badF) (Si)
def Bb:List D->Option D:=jl 2 2 Im
def GK:FS:=QO (orT (wh (bF ltD (vF 1) (kF (.int 0)))) (wh (bF geD (vF 1) (vF 0)))) (badF) (Si)
def Bj:List D->Option D:=jl 2 2 GK
def Fb:FS:=dq (Gi (An (Bj) (Aa (vF 0) (Aa (vF 3) (am))))) (putF 2 (vF 3) (kF (.bl O1)))
def Ji:FS:=dq (setW 2 (kF (.dk []))) (dq (Os (nq (vF 1)) (Bx 3) (Fb)) (fzS [2] (fy (vF 2))))
def Do:List D->Option D:=jl 4 2 Ji
def GP:FS:=dq (Gi (An (Bj) (Aa (vF 0) (Aa (vF 3) (am))))) (dq (Gi (An (Bj) (Aa (vF 0) (Aa (vF 4) (am))))) (Xw 2 (Aa (vF 3) (Aa (vF 4) (am))) (kF (.bl O1))))
def KZ:FS:=dq (setW 2 (kF (.dt []))) (dq (Os (nq (vF 1)) (NM 2 (A_ 3 (A_ 4 (NN)))) (GP)) (fzS [2] (fy (vF 2))))
def Ek:List D->Option D:=jl 5 2 KZ
def HB:FE:=bF (PZ O2) (vF 1) (kF (.str "abcdefghijklmnopqrstuvwxyz"))
def Qo:FS:=dq (QO (orT (wh (bF (PZ O2) (vF 0) (kF UH))) (orT (wh (bF (MY O2) (uF uj (vF 0)) (kF (.int 0)))) (wh (bF gtD (uF uj (vF 0)) (kF (.int 8)))))) (fy (kF (.bl O2))) (Si)) (fy (uF allD (BW (nq (vF 0)) (rc) (HB))))
def El:List D->Option D:=jl 1 1 Qo
def CW:Po:=Dr (ifE (Ti (Pd (XW (An (El) (Aa (vF 4) (am))))))) (RJ "marked" (vF 4) (An (Do) (Aa (vF 1) (Aa (vF 5) (am)))))
def CZ:Po:=Dr (ifE (orTE (Ti (Pd (XW (An (El) (Aa (vF 4) (am)))))) (inTE "marked" (vF 4)))) (RJ "tied" (vF 4) (An (Ek) (Aa (vF 1) (Aa (vF 6) (am)))))
def Gr:Po:=Dr (OQ (Gi (An (Bb) (Aa (vF 1) (Aa (kF (.int 5)) (am)))))) (Dr (OQ (Gi (An (Bb) (Aa (uF uj (vF 2)) (Aa (kF (.int 3)) (am)))))) (Dr (OQ (Gi (An (Bb) (Aa (uF uj (vF 3)) (Aa (kF (.int 3)) (am)))))) (Dr (Gj "size" (vF 1)) (Dr (Ld "marked" (kF (.dk []))) (Dr (Ld "tied" (kF (.dk []))) (Dr (forE (Qd (vF 2)) (NM 2 (A_ 4 (A_ 5 (NN)))) (CW)) (Dr (forE (Qd (vF 3)) (NM 2 (A_ 4 (A_ 6 (NN)))) (CZ)) (nilE))))))))
def CN:Addr->List D->Option Ef:=SY 7 4 Gr
def Fl:FS:=fy (uF sdkD (uF (fx "marked") (vF 0)))
def Ca:List D->Option D:=jl 1 1 Fl
def GQ:FS:=fy (uF sdkD (uF (fx "tied") (vF 0)))
def Cr:List D->Option D:=jl 1 1 GQ
def HX:FS:=QO (orT (wh (bF (MY O1) (DR "World" "mark_words" (Ca) (vF 0) am) (DR "World" "mark_words" (Ca) (vF 1) am))) (wh (bF (MY O1) (DR "World" "tie_words" (Cr) (vF 0) am) (DR "World" "tie_words" (Cr) (vF 1) am)))) (badF) (Si)
def Dm:List D->Option D:=jl 2 2 HX
def Gs:Po:=Dr (Gj "one" (vF 1)) (Dr (Gj "other" (vF 2)) (Dr (Gj "reckoned" (memE Phi)) (Dr (Gj "endless" (bF rz (bF YV (uF (fx "size") (vF 1)) (uF (fx "size") (vF 2))) (kF (.int 1)))) (nilE))))
def CP:Addr->List D->Option Ef:=SY 3 3 Gs
def HY:Po:=Dr (OQ (Gi (An (Dm) (Aa (vF 1) (Aa (vF 2) (am)))))) (Dr (Gj "ranks" (mkI "Ranks" (CP) (Aa (vF 1) (Aa (vF 2) (am))))) (Dr (Ld "put" (Cs (am))) (nilE)))
def Fe:Addr->List D->Option Ef:=SY 3 3 HY
def Ka:FT:=wh (bF (PZ O1) (vF 2) (vF 1))
def Kc:FE:=vF 2
def Nr:FS:=fy (BW (NV (vF 0)) (Ka) (Kc))
def Io:List D->Option D:=jl 2 2 Nr
def GR:FS:=QO (wh (bF (MY O1) (bF (PZ O2) (bF kc (vF 2) (kF (.int 0))) (bF kc (uF (fx "marked") (vF 0)) (vF 3))) (bF (PZ O2) (bF kc (vF 2) (kF (.int 1))) (bF kc (uF (fx "marked") (vF 1)) (vF 3))))) (fy (kF (.bl O2))) (Si)
def Ha:FS:=dq (Os (nq (uF (fx "marked") (vF 0))) (Bx 3) (GR)) (fy (kF (.bl O1)))
def Ff:List D->Option D:=jl 4 3 Ha
def GX:FS:=QO (wh (bF (MY O1) (inTF (Aa (bF kc (vF 2) (kF (.int 0))) (Aa (bF kc (vF 3) (kF (.int 0))) (am))) (bF kc (uF (fx "tied") (vF 0)) (vF 4))) (inTF (Aa (bF kc (vF 2) (kF (.int 1))) (Aa (bF kc (vF 3) (kF (.int 1))) (am))) (bF kc (uF (fx "tied") (vF 1)) (vF 4))))) (fy (kF (.bl O2))) (Si)
def Hh:FS:=dq (Os (nq (uF (fx "tied") (vF 0))) (Bx 4) (GX)) (fy (kF (.bl O1)))
def Cg:List D->Option D:=jl 5 4 Hh
def Jj:FS:=dq (QO (wh (bF (MY O1) (bF (MY O2) (bF kc (vF 2) (kF (.int 0))) (bF kc (vF 3) (kF (.int 0)))) (bF (MY O2) (bF kc (vF 2) (kF (.int 1))) (bF kc (vF 3) (kF (.int 1)))))) (fy (kF (.bl O2))) (Si)) (fy (ZN (An (Cg) (Aa (vF 0) (Aa (vF 1) (Aa (vF 2) (Aa (vF 3) (am)))))) (An (Cg) (Aa (vF 0) (Aa (vF 1) (Aa (vF 3) (Aa (vF 2) (am))))))))
def G4:List D->Option D:=jl 4 4 Jj
def Jk:FE:=An (G4) (Aa (vF 0) (Aa (vF 1) (Aa (vF 4) (Aa (vF 3) (am)))))
def Lj:FS:=dq (QO (orT (Pd (XW (An (Ff) (Aa (vF 0) (Aa (vF 1) (Aa (vF 3) (am))))))) (Pd (XW (An (Cg) (Aa (vF 0) (Aa (vF 1) (Aa (vF 3) (Aa (vF 3) (am))))))))) (fy (kF (.bl O2))) (Si)) (fy (uF allD (BW (nq (vF 2)) (rc) (Jk))))
def HD:List D->Option D:=jl 4 4 Lj
def GZ(z:List D->Option D):FS:=dq (QO (Pd (XW (An (HD) (Aa (uF (fx "one") (vF 0)) (Aa (uF (fx "other") (vF 0)) (Aa (vF 1) (Aa (vF 2) (am)))))))) (fy (kF (.int 0))) (Si)) (fy (DR "Ranks" "rank_of_fitting" (z) (vF 0) (Aa (uF tslD (bF catU (vF 1) (OX (Aa (vF 2) (am))))) (am))))
def Bk(z:List D->Option D):List D->Option D:=jl 3 3 (GZ z)
def Er(z:List D->Option D):FE:=DR "Ranks" "rank_with" (Bk z) (vF 0) (Aa (vF 1) (Aa (vF 3) (am)))
def Ga(z:List D->Option D):FS:=fy (bF aG (BW (nq (vF 2)) (rc) ((Er z))) (kF (.int 0)))
def Ar(z:List D->Option D):List D->Option D:=jl 3 3 (Ga z)
def Dy(z:List D->Option D):FE:=bF kc (vF 7) (kF (.int 0))
def Dz(z:List D->Option D):FE:=bF kc (vF 7) (kF (.int 1))
def D_(z:List D->Option D):FE:=OX (Aa (vF 5) (Aa (vF 7) (am)))
def Cu(z:List D->Option D):FS:=mutF ZI 4 (DR "Ranks" "best_rank" (Ar z) (vF 0) (Aa (vF 1) (Aa (BW (nq (vF 3)) (rc) ((D_ z))) (am))))
def EY(z:List D->Option D):FE:=OX (Aa (vF 7) (Aa (vF 6) (am)))
def Cv(z:List D->Option D):FS:=mutF ZI 4 (DR "Ranks" "best_rank" (Ar z) (vF 0) (Aa (vF 1) (Aa (BW (nq (vF 2)) (rc) ((EY z))) (am))))
def Fo(z:List D->Option D):FS:=dq (mf 2 (An (Io) (Aa (uF (fx "size") (uF (fx "one") (vF 0))) (Aa (BW (nq (vF 1)) (rc) ((Dy z))) (am))))) (dq (mf 3 (An (Io) (Aa (uF (fx "size") (uF (fx "other") (vF 0))) (Aa (BW (nq (vF 1)) (rc) ((Dz z))) (am))))) (dq (setW 4 (Cs (am))) (dq (Os (nq (vF 2)) (Bx 5) ((Cu z))) (dq (Os (nq (vF 3)) (Bx 6) ((Cv z))) (fy (bF minD (uF (fx "endless") (vF 0)) (bF rz (kF (.int 1)) (bF cA (vU 4) (uF (fx "endless") (vF 0))))))))))
def Cd(z:List D->Option D):List D->Option D:=jl 7 2 (Fo z)
def Be(z:List D->Option D):FS:=memR 0 "reckoned" 1 (DR "Ranks" "least_rank" (Cd z) (vF 0) (Aa (vF 1) (am)))
def Ah:Nat->List D->Option D
 |0=>λ_=>W1
 |n+1=>jl 2 2 (Be (Ah n))
def Ln:FE:=An (HD) (Aa (vF 0) (Aa (vF 1) (Aa (slF (vF 2) (noO) (PY (vF 3))) (Aa (vF 4) (am)))))
def Qp:FS:=fy (uF allD (YB (enIT (vF 2)) (rc) (Ln)))
def Hz:List D->Option D:=jl 3 3 Qp
def Fg:FS:=dq (mf 2 (uF tssD (vF 1))) (memB 0 "reckoned" 2 (XW (An (Hz) (Aa (uF (fx "one") (vF 0)) (Aa (uF (fx "other") (vF 0)) (Aa (vF 2) (am)))))) "Ranks" "rank_of_fitting" (DR "Ranks" "rank_of_fitting" (Ah 8) (vF 0) (Aa (vF 2) (am))))
def Bo:List D->Option D:=jl 3 2 Fg
def Gb:FS:=dq (mf 2 (DR "Ranks" "rank_of" (Bo) (vF 0) (Aa (vF 1) (am)))) (fy (ifF (wh (bF (MY O2) (vF 2) (uF (fx "endless") (vF 0)))) (kF .non) (vF 2)))
def Cw:List D->Option D:=jl 3 2 Gb
def Lp:FS:=fy (DR "Ranks" "told_rank" (Cw) (uF (fx "ranks") (vF 0)) (Aa (uF (fx "put") (vF 0)) (am)))
def Ea:List D->Option D:=jl 1 1 Lp
def DG:FS:=Gi (An (Bb) (Aa (bF rz (uF uj (uF (fx "put") (vF 0))) (kF (.int 1))) (Aa (kF (.int 5)) (am))))
def Bc:List D->Option D:=jl 1 1 DG
def Qq:FS:=fy (ifF (wh (bF (MY O2) (vF 0) (kF (.int 0)))) (OX (Aa (vF 1) (Aa (vF 2) (am)))) (OX (Aa (vF 2) (Aa (vF 1) (am)))))
def H_:List D->Option D:=jl 3 3 Qq
def Ip:FS:=fy (ifF (wh (bF (MY O2) (vF 1) (kF (.int 0)))) (uF (fx "size") (uF (fx "one") (vF 0))) (uF (fx "size") (uF (fx "other") (vF 0))))
def DX:List D->Option D:=jl 2 2 Ip
def Jl:FE:=An (H_) (Aa (vF 1) (Aa (vF 2) (Aa (vF 3) (am))))
def Lq:FS:=fy (BW (NV (An (DX) (Aa (vF 0) (Aa (bF SW (kF (.int 1)) (vF 1)) (am))))) (rc) (Jl))
def HF:List D->Option D:=jl 3 3 Lq
def Gu:FE:=DR "Ranks" "rank_of" (Bo) (vF 0) (Aa (bF rz (vF 1) (Cs (Aa (vF 4) (am)))) (am))
def Ir:FS:=fy (BW (nq (An (HF) (Aa (vF 0) (Aa (vF 2) (Aa (vF 3) (am)))))) (rc) (Gu))
def Gd:List D->Option D:=jl 4 4 Ir
def Kd:FS:=dq (Gi (An (Bj) (Aa (An (DX) (Aa (vF 0) (Aa (vF 2) (am)))) (Aa (vF 3) (am))))) (dq (mf 4 (An (Gd) (Aa (vF 0) (Aa (vF 1) (Aa (vF 2) (Aa (vF 3) (am))))))) (fy (ifF (wh (bF gtD (uF uj (vF 4)) (kF (.int 0)))) (bF idxD (vF 4) (uF cB (vF 4))) (kF .non))))
def Hq:List D->Option D:=jl 5 4 Kd
def O6:FM:=OM (VJ (lnX (DR "Play" "refuse_sixth_pair" (Bc) (vF 0) am))) (OM (RL 3 (lnX (An (Hq) (Aa (uF (fx "ranks") (vF 0)) (Aa (uF (fx "put") (vF 0)) (Aa (vF 1) (Aa (vF 2) (am)))))))) (OM (ifM [] (wh (uF (Pf O1) (vF 3))) (VJ (mutE (uF (fx "put") (vF 0)) VQ (Aa (An (H_) (Aa (vF 1) (Aa (vF 2) (Aa (vF 3) (am))))) (am)))) (nxM)) (puM (fy (vF 3)))))
def Hr:GM:=runM 4 3 O6
def Ke:FS:=fy (uF QY (uF (fx "put") (vF 0)))
def Em:List D->Option D:=jl 1 1 Ke
def Hi:FS:=fy (ZN (uF (isiD "int") (vF 0)) (ZN (notF (uF (isiD "bool") (vF 0))) (ZN (bF leD (kF (.int 0)) (vF 0)) (bF ltD (vF 0) (vF 1)))))
def Dn:List D->Option D:=jl 2 2 Hi
def Hs:FS:=QO (wh (bF (MY O1) (bF (PZ O2) (vF 3) (bF kc (bF kc (vF 0) (kF (.int 1))) (vF 5))) (bF (PZ O2) (vF 4) (bF kc (bF kc (vF 1) (kF (.int 1))) (vF 5))))) (fy (kF (.bl O2))) (Si)
def Ht:FS:=QO (wh (bF (MY O1) (bF (PZ O2) (OX (Aa (vF 3) (Aa (vF 6) (am)))) (bF kc (bF kc (vF 0) (kF (.int 2))) (vF 5))) (bF (PZ O2) (OX (Aa (vF 4) (Aa (vF 7) (am)))) (bF kc (bF kc (vF 1) (kF (.int 2))) (vF 5))))) (fy (kF (.bl O2))) (Si)
def Ge:FS:=dq (QO (wh (bF (MY O1) (bF (MY O2) (vF 3) (vF 6)) (bF (MY O2) (vF 4) (vF 7)))) (fy (kF (.bl O2))) (Si)) (Os (nq (bF kc (vF 0) (kF (.int 2)))) (Bx 5) (Ht))
def Gf:FS:=dq (Os (nq (bF kc (vF 0) (kF (.int 1)))) (Bx 5) (Hs)) (Os (nq (vF 2)) (NM 2 (A_ 6 (A_ 7 (NN)))) (Ge))
def Kf:FS:=dq (Os (nq (vF 2)) (NM 2 (A_ 3 (A_ 4 (NN)))) (Gf)) (fy (kF (.bl O1)))
def Gv:List D->Option D:=jl 8 3 Kf
def Hj:FM:=OM (puM (mf 10 (bF Nn (vF 9) (kF (.int 2))))) (OM (puM (QO (wh (bF (MY O2) (bF kc (vF 6) (vF 10)) (kF (.int 0)))) (mf 10 (bF SW (kF (.int 1)) (vF 10))) (Si))) (ifL (andT (wh (bF gtD (bF kc (vF 6) (vF 10)) (kF (.int 0)))) (orT (wh (uF (Pf O2) (vF 7))) (wh (bF ltD (bF rz (uF uj (vF 8)) (kF (.int 1))) (vF 7))))) (OM (puM (mf 11 (bF Nn (bF IK (vF 9) (kF (.int 2))) (bF kc (vF 6) (vF 10))))) (OM (RL 12 (mY "Play" "point" (Hr) (vF 5) (Aa (vF 10) (Aa (vF 11) (am))))) (OM (puM (QO (Pd (XW (An (Dn) (Aa (vF 12) (Aa (bF kc (vF 6) (bF SW (kF (.int 1)) (vF 10))) (am)))))) (fy (kF (.bl O2))) (Si))) (OM (VJ (mutX 8 [] VQ (Aa (bF kc (Cs (Aa (OX (Aa (vF 11) (Aa (vF 12) (am)))) (Aa (OX (Aa (vF 12) (Aa (vF 11) (am)))) (am)))) (vF 10)) (am)))) (ifL (Pd (XW (An (Gv) (Aa (vF 3) (Aa (vF 4) (Aa (vF 8) (am))))))) (puM (fy (kF (.bl O2)))) (nxM)))))) (nxM)))
def G5:FM:=OM (RL 5 (mkM "Play" "put" (Fe) (Aa (vF 1) (Aa (vF 2) (am))))) (OM (puM (mf 6 (Cs (Aa (bF kc (vF 3) (kF (.int 0))) (Aa (bF kc (vF 4) (kF (.int 0))) (am)))))) (OM (RL 7 (lnX (DR "Play" "rank" (Ea) (vF 5) am))) (OM (RL 8 (newX (Cs (am)))) (OM (forM (nq (vF 0)) (Bx 9) (Hj)) (vM (lnX (ZN (bF (MY O2) (DR "Play" "pairs" (Em) (vF 5) am) (vF 8)) (orF (uF (Pf O1) (vF 7)) (uF (Pf O2) (DR "Play" "rank" (Ea) (vF 5) am))))))))))
def G6:List D->Option D:=theD (runM 13 5 G5) m8
def JT:FS:=dq (QO (wh (bF ltD (vF 1) (uF Sk (vF 0)))) (fy (bF ixD (vF 0) (vF 1))) (Si)) (fy (kF (.int 0)))
def HH:List D->Option D:=jl 2 2 JT
def Rz:FE:=An (HH) (Aa (vF 0) (Aa (vF 8) (am)))
def Wn:FE:=bF IK (bF kc (vF 5) (bF Nn (bF rz (bF rz (vF 6) (bF Sj (bF Sj (kF (.int 4)) (vF 8)) (vF 8))) (vF 8)) (uF uj (vF 5)))) (kF (.int 3))
def O7:FS:=dq (mf 7 (BW (NV (kF (.int 5))) (rc) (Wn))) (QO (Pd (XW (An (G6) (Aa (vF 7) (Aa (vF 3) (Aa (vF 4) (Aa (vF 1) (Aa (vF 2) (am))))))))) (fy (kF (.bl O2))) (Si))
def m9:FS:=dq (UO (An (Cq) (Aa (BW (NV (kF (.int 4))) (rc) (Rz)) (am))) (NM 2 (A_ 1 (A_ 2 (NN))))) (dq (mf 3 (mkI "World" (CN) (Aa (bF kc (vF 1) (kF (.int 0))) (Aa (bF kc (vF 1) (kF (.int 1))) (Aa (bF kc (vF 1) (kF (.int 2))) (am)))))) (dq (mf 4 (mkI "World" (CN) (Aa (bF kc (vF 2) (kF (.int 0))) (Aa (bF kc (vF 2) (kF (.int 1))) (Aa (bF kc (vF 2) (kF (.int 2))) (am)))))) (dq (mf 5 (slF (vF 0) (PY (kF (.int 4))) (PY (kF (.int 64))))) (dq (Os (NV (bF minD (uF uj (vF 5)) (kF (.int 4)))) (Bx 6) (O7)) (fy (An (G6) (Aa (Cs (Aa (kF (.int 0)) (Aa (kF (.int 3)) (Aa (kF (.int 5)) (Aa (kF (.int 6)) (Aa (kF (.int 9)) (am))))))) (Aa (vF 3) (Aa (vF 4) (Aa (vF 1) (Aa (vF 2) (am))))))))))))
def Yb:List D->Option D:=jl 8 1 m9
end
def top(i:Nat):Stmt:=PySem.Challenge.pw_twinrounds_k67_whole_second_hand.main.body.getD i (.Pass ⟨0,0,0,0⟩)
abbrev Hu:Stmt:=top 40
abbrev G7:Stmt:=top 42
abbrev O8:Stmt:=top 41
abbrev Kg:Stmt:=top 43
abbrev Lr:Stmt:=top 44
abbrev O9:Stmt:=top 45
abbrev Ls:Stmt:=top 14
abbrev JV:Stmt:=top 15
abbrev M9:Stmt:=top 16
abbrev O_:Stmt:=top 17
abbrev Qs:Stmt:=top 13
abbrev Jw:Stmt:=oo (top 18) 0
abbrev Iu:Stmt:=oo (top 18) 3
abbrev JW:Stmt:=oo (top 18) 4
abbrev Km:Stmt:=top 20
abbrev Jx:Stmt:=oo (top 28) 0
abbrev Ko:Stmt:=oo (top 37) 0
abbrev Nu:Stmt:=top 27
abbrev Kp:Stmt:=top 21
abbrev Kq:Stmt:=top 22
abbrev M_:Stmt:=top 23
abbrev Lw:Stmt:=top 24
abbrev JX:Stmt:=oo (top 28) 3
abbrev Gg:Stmt:=oo (top 28) 4
abbrev Bs:Stmt:=oo (top 28) 5
abbrev Fv:Stmt:=oo (top 28) 2
abbrev Qt:Stmt:=top 25
abbrev Kr:Stmt:=oo (top 28) 1
abbrev JZ:Stmt:=oo (top 28) 6
abbrev RM:Stmt:=oo (top 37) 7
abbrev Eu:Stmt:=oo (top 37) 1
abbrev Va:Stmt:=top 31
abbrev Lx:Stmt:=top 30
abbrev Ly:Stmt:=top 32
abbrev Iv:Stmt:=top 33
abbrev PB:Stmt:=top 34
abbrev PJ:Stmt:=oo (top 37) 2
abbrev PL:Stmt:=oo (top 37) 5
abbrev Ks:Stmt:=top 47
abbrev T_:Stmt:=top 46
abbrev NB:Stmt:=top 48
abbrev RN:Stmt:=top 39
abbrev cC:Stmt:=top 49
set_option genInjectivity false in
structure Tx (G:Gx) (mg:Str->Option ac) where
 c_:Addr
 f_:G.cl "World"=O0 c_
 r_:On G.K c_
 s_:mg "World"=O0 (.ref c_)
 w_:Addr
 p0:G.cl "Ranks"=O0 w_
 z0:On G.K w_
 y1:mg "Ranks"=O0 (.ref w_)
 y2:Addr
 E2:G.cl "Play"=O0 y2
 y3:On G.K y2
 E3:mg "Play"=O0 (.ref y2)
 x4:Dx G.K mg "_law_world" Hu ["_law_size","_law_marks","_law_ties","_law_bits"]
 y4:Dx G.K mg "_law_turned" G7 ["_law_world_here","_law_order_here"]
 x5:Dx G.K mg "_law_order" O8 ["_law_cell_here","_law_size"]
 w6:Dx G.K mg "_law_other" Kg ["_law_row","_law_item"]
 x6:Dx G.K mg "_law_changed" Lr ["_law_world_here","_law_cell_here"]
 y6:Dx G.K mg "_law_twins" O9 ["_law_cells"]
 h7:Dx G.K mg "refuse_above" Ls ["number","most"]
 e8:Dx G.K mg "refuse_no_thing" JV ["size","thing"]
 h8:Dx G.K mg "kept_things" M9 ["size","things"]
 z8:Dx G.K mg "kept_pairs" O_ ["size","pairs"]
 h9:Dx G.K mg "is_word" Qs ["text"]
 x9:Ix G.K c_ "World.__init__" Jw ["self","size","marks","ties"]
 NA:Mx G.K c_ "mark_words" "World.mark_words" Iu ["self"]
 OA:Mx G.K c_ "tie_words" "World.tie_words" JW ["self"]
 QA:Dx G.K mg "refuse_unlike" Km ["one","other"]
 RA:Ix G.K w_ "Ranks.__init__" Jx ["self","one","other"]
 SA:Ix G.K y2 "Play.__init__" Ko ["self","one","other"]
 UA:Dx G.K mg "unpaired" Nu ["size","paired"]
 VA:Dx G.K mg "bear_the_same" Kp ["one","other","pair"]
 WA:Dx G.K mg "lead_the_same" Kq ["one","other","pair","further"]
 XA:Dx G.K mg "go_together" M_ ["one","other","pair","further"]
 YA:Dx G.K mg "fits_with" Lw ["one","other","pairs","further"]
 ZA:Mx G.K w_ "rank_with" "Ranks.rank_with" JX ["self","pairs","further"]
 lB:Mx G.K w_ "best_rank" "Ranks.best_rank" Gg ["self","pairs","choices"]
 OB:Mx G.K w_ "least_rank" "Ranks.least_rank" Bs ["self","pairs"]
 SB:Mx G.K w_ "rank_of_fitting" "Ranks.rank_of_fitting" Fv ["self","pairs"]
 TB:Dx G.K mg "all_fit" Qt ["one","other","pairs"]
 UB:Mx G.K w_ "rank_of" "Ranks.rank_of" Kr ["self","pairs"]
 WB:Mx G.K w_ "told_rank" "Ranks.told_rank" JZ ["self","pairs"]
 XB:Mx G.K y2 "rank" "Play.rank" RM ["self"]
 ZB:Mx G.K y2 "refuse_sixth_pair" "Play.refuse_sixth_pair" Eu ["self"]
 NC:Dx G.K mg "pair_of" Va ["side","thing","replied"]
 OC:Dx G.K mg "size_of_side" Lx ["ranks","side"]
 SC:Dx G.K mg "new_pairs" Ly ["ranks","side","thing"]
 TC:Dx G.K mg "ranks_behind" Iv ["ranks","pairs","side","thing"]
 UC:Dx G.K mg "best_reply" PB ["ranks","pairs","side","thing"]
 VC:Mx G.K y2 "point" "Play.point" PJ ["self","side","thing"]
 WC:Mx G.K y2 "pairs" "Play.pairs" PL ["self"]
 ND:Dx G.K mg "_law_is_thing" Ks ["_law_found","_law_size"]
 PD:Dx G.K mg "_law_fit" T_ ["_law_first","_law_second","_law_row"]
 SD:Dx G.K mg "_law_played" NB ["_law_cells","_law_here","_law_there","_law_first","_law_second"]
 TD:Dx G.K mg "_law_cell" RN ["_law_script","_law_k"]
 UD:Dx G.K mg "law" cC ["_law_script"]
 NE:mg "all"=W1
 OE:mg "bool"=W1
 QE:mg "dict"=W1
 RE:mg "enumerate"=W1
 SE:mg "int"=W1
 UE:mg "isinstance"=W1
 VE:mg "len"=W1
 WE:mg "list"=W1
 XE:mg "max"=W1
 YE:mg "min"=W1
 ZE:mg "range"=W1
 NF:mg "set"=W1
 OF:mg "sorted"=W1
 RF:mg "tuple"=W1
 SF:Sx mg "MOST_LETTERS" (.int 8)
 UF:Sx mg "LETTERS" (.str "abcdefghijklmnopqrstuvwxyz")
 NG:Sx mg "MOST_THINGS" (.int 5)
 OG:Sx mg "MOST_WORDS" (.int 3)
 SG:Sx mg "MOST_PAIRS" (.int 5)
 WG:∀c C,G.cl c=O0 C->On G.K C/\BV G.K C "size"
 XG:∀c C,G.cl c=O0 C->On G.K C/\BV G.K C "marked"
 hH:∀c C,G.cl c=O0 C->On G.K C/\BV G.K C "tied"
 NH:∀c C,G.cl c=O0 C->On G.K C/\BV G.K C "one"
 OH:∀c C,G.cl c=O0 C->On G.K C/\BV G.K C "other"
 PH:∀c C,G.cl c=O0 C->On G.K C/\BV G.K C "reckoned"
 RH:∀c C,G.cl c=O0 C->On G.K C/\BV G.K C "endless"
 SH:∀c C,G.cl c=O0 C->On G.K C/\BV G.K C "ranks"
 TH:∀c C,G.cl c=O0 C->On G.K C/\BV G.K C "put"
 UH:Kx G mg "KEPT_TEXTS" K67.UH
section
variable {base:Heap}
abbrev Dh:List Str:=["_law_size","_law_marks","_law_ties","_law_bits","_law_some","_law_k","_law_others","_law_found","_law_thing"]
def CJ:bc Dh ["_law_size","_law_marks","_law_ties","_law_bits"] (Ab Hu):=Of
theorem Jm(T:Tx G mg):Sa P w base T.x4 1 (Nd G Ei):=
 Sm (k:=0) (N:=Dh) (b:=KQ) T.x4 CJ λ_ _ _ _ _ _ J=>Ad (sW CJ.nd 4 (Th)) (Ad (DK ff rfl (Gy rfl T.ZE (pU (Ay ((BL rfl).or BP) Bu rfl T.VE DP (vp 1)))) (Cj (gN CJ.nd 5)) (Ae (J_ (Hk J) (pv 4) (iX J (vp 1) (vp 5)) (DN ["_law_size","_law_marks","_law_ties","_law_bits","_law_some","_law_k","_law_others","_law_found","","_law_thing"] (by show Ds "_law_thing" Dh++(["_law_thing"]:List Str)=_;decide +kernel) (cO (N:=Dh) (sc:=Ab Hu) rfl rfl) rfl (Gy rfl T.ZE (vp 0)) (λ_ _ _=>Og (tEq J (pU (Gn gQ Xg (pU (Gn gP aH (vp 3) (pU (OU (pU (bMul (iP) (vp 5))) (vp 9))))) (iP))) (iP))) (λ_ _ _=>vr 9))))) (Ad (sW CJ.nd 6 (Th)) (Ad (DK ff rfl (Gy rfl T.ZE (pU (Ay ((BL rfl).or BP) Bu rfl T.VE DP (vp 2)))) (Cj (gN CJ.nd 5)) (Ad (sF CJ.nd 7 (Dv (Ac))) (Ad (DK ff rfl (Gy rfl T.ZE (vp 0)) (Cj (gN CJ.nd 8)) (Ae (sF CJ.nd 7 (OU (vp 7) (pU (DN (nT Dh "_law_to") (by show Ds "_law_to" Dh++(["_law_to"]:List Str)=_;decide +kernel) (cO (N:=Dh) (sc:=Ab Hu) rfl rfl) rfl (Gy rfl T.ZE (vp 0)) (λ_ _ _=>Og (tEq J (pU (Gn gQ Xg (pU (Gn gP aH (vp 3) (pU (OU (pU (OU (pU (OU (iP) (pU (bMul (iP) (vp 5))))) (pU (bMul (iP) (vp 8))))) (vp 9))))) (iP))) (iP))) (λ_ _ _=>HQ (fk 8 (fk 9 (Ac)))))))))) (Ae (J_ (Hk J) (pv 6) (iX J (vp 2) (vp 5)) (vr 7)))))) (Ae (QV [4,6] (Ai (Dv (fk 0 (fk 4 (fk 6 (Ac)))))))))))
abbrev CK:List Str:=["_law_world_here","_law_order_here","_law_some","_law_word","_law_others"]
def Eb:bc CK ["_law_world_here","_law_order_here"] (Ab G7):=Of
theorem UG(T:Tx G mg):Sa P w base T.y4 1 (Nd G G3):=
 Sm (k:=0) (N:=CK) (b:=Jh) T.y4 Eb λ_ _ _ _ _ _ J=>Ad (sW Eb.nd 2 (Th)) (Ad (DK ff rfl (BK rfl (iX J (vp 0) (iP))) (Cj (gN Eb.nd 3)) (Ae (J_ (Hk J) (pv 2) (vr 3) (DN (nT CK "_law_thing") (by show Ds "_law_thing" CK++(["_law_thing"]:List Str)=_;decide +kernel) (cO (N:=CK) (sc:=Ab G7) rfl rfl) rfl (RU.top (BK rfl (iX J (pU (iX J (vp 0) (iP))) (vp 3)))) (λ_ _ _=>Ck) (λ_ _ _=>iX J (vp 1) (vp 5)))))) (Ad (sW Eb.nd 4 (Th)) (Ad (DK ff rfl (BK rfl (iX J (vp 0) (iP))) (Cj (gN Eb.nd 3)) (Ae (J_ (Hk J) (pv 4) (vr 3) (DN (nT CK "_law_both") (by show Ds "_law_both" CK++(["_law_both"]:List Str)=_;decide +kernel) (cO (N:=CK) (sc:=Ab G7) rfl rfl) rfl (RU.top (BK rfl (iX J (pU (iX J (vp 0) (iP))) (vp 3)))) (λ_ _ _=>Ck) (λ_ _ _=>HQ (Af (iX J (vp 1) (pU (iX J (vp 5) (iP)))) (Af (iX J (vp 1) (pU (iX J (vp 5) (iP)))) (Ac) Ao) Ao)))))) (Ae (QV [2,4] (Ai (Dv (Af (iX J (vp 0) (iP)) (fk 2 (fk 4 (Ac))) Ao))))))))
abbrev PP:List Str:=["_law_cell_here","_law_size","_law_left","_law_found","_law_at"]
def Dp:bc PP ["_law_cell_here","_law_size"] (Ab O8):=Of
theorem Us(T:Tx G mg):Sa P w base T.x5 1 (Nd G Ho):=
 Sm (k:=0) (N:=PP) (b:=KR) T.x5 Dp λ_ _ _ _ _ _ J=>Ad (sF Dp.nd 2 (sG rfl T.WE rfl T.ZE (vp 1))) (Ad (sW Dp.nd 3 (V6 (Ac))) (Ad (dj 60 ff (tNe J (vp 2) (pU (Dv (Ac)))) (Ad (sF Dp.nd 4 (Pm (vp 0) (pU (Ay (BL rfl) Ri rfl T.VE DP (vp 2))))) (Ad (sF Dp.nd 0 (UN (vp 0) (pU (Ay (BL rfl) Ri rfl T.VE DP (vp 2))))) (Ad (V7 (pv 3) (iD (vp 2) (vp 4))) (Ae (sF Dp.nd 2 (OU (pU (Jp rfl (vp 2) (K9) (Ia (vp 4)))) (pU (Jp rfl (vp 2) (Ia (pU (OU (vp 4) (iP)))) (K9)))))))))) (Ae (QV [3] (Ai (vr 3))))))
abbrev Gh:List Str:=["_law_row","_law_item"]
def Ut:bc Gh ["_law_row","_law_item"] (Ab Kg):=Of
theorem NK(T:Tx G mg):Sa P w base T.w6 1 (Nd G Dg):=
 Sm (k:=0) (N:=Gh) (b:=KY) T.w6 Ut λ_ _ _ _ _ _ J=>Ad (CQ (tIn J (vp 1) (vp 0)) (Ae (Ai (DN (nT Gh "_law_one") (by show Ds "_law_one" Gh++(["_law_one"]:List Str)=_;decide +kernel) (cO (N:=Gh) (sc:=Ab Kg) rfl rfl) rfl (RU.top (BK rfl (vr 0))) (λ_ _ _=>Og (tNe J (vp 2) (vp 1))) (λ_ _ _=>vr 2)))) (Bp)) (Ae (Ai (OU (vp 0) (pU (Dv (fk 1 (Ac)))))))
abbrev Lz:List Str:=["_law_world_here","_law_cell_here","_law_size","_law_some","_law_others","_law_here","_law_there","_law_at","_law_marked","_law_tied","_law_word"]
def Az:bc Lz ["_law_world_here","_law_cell_here"] (Ab Lr):=Of
theorem RX(T:Tx G mg):Sa P w base T.x6 2 (Nd G CV):=
 Sm (k:=1) (N:=Lz) (b:=DW) T.x6 Az λ_ _ _ _ _ _ J=>Ad (WR (JP rfl rfl (BR (gN Az.nd 2) (BR (gN Az.nd 3) (BR (gN Az.nd 4) (G9))))) (vr 0)) (Ad (sF Az.nd 5 (Pm (vp 1) (pU (Jr (QB rfl) S7 rfl T.XE TV (vp 2) (iP))))) (Ad (sF Az.nd 6 (Pm (pU (UN (vp 1) (iP))) (pU (Jr (QB rfl) S7 rfl T.XE TV (vp 2) (iP))))) (Ad (CQ (PFW.pt (Ng (tEq J (vp 2) (iP)) (Hv (tEq J (pU (OU (pU (Ay ((BL rfl).or BP) Bu rfl T.VE DP (vp 3))) (pU (Ay ((BL rfl).or BP) Bu rfl T.VE DP (vp 4))))) (iP))))) (Ae (Ai (vr 0))) (Bp)) (Ad (sF Az.nd 7 (Pm (pU (UN (vp 1) (iP))) (pU (OU (pU (Ay ((BL rfl).or BP) Bu rfl T.VE DP (vp 3))) (pU (Ay ((BL rfl).or BP) Bu rfl T.VE DP (vp 4))))))) (Ad (sW Az.nd 8 (bG rfl T.QE aL (vp 3))) (Ad (sW Az.nd 9 (bG rfl T.QE aL (vp 4))) (Ad (CQ (tLt (vp 7) (pU (Ay ((BL rfl).or BP) Bu rfl T.VE DP (vp 3)))) (Ad (sF Az.nd 10 (iX J (pU (QR (J7.or (KC rfl)) Qe rfl T.WE Rj (vp 3))) (vp 7))) (Ae (J_ (Hk J) (pv 8) (vr 10) (fX (NK T) J (Af (iX J (vp 3) (vp 10)) (fk 5 (Ac)) Ao))))) (Ad (sF Az.nd 10 (iX J (pU (QR (J7.or (KC rfl)) Qe rfl T.WE Rj (vp 4))) (pU (bSub (vp 7) (pU (Ay ((BL rfl).or BP) Bu rfl T.VE DP (vp 3))))))) (Ae (J_ (Hk J) (pv 9) (vr 10) (fX (NK T) J (Af (iX J (vp 4) (vp 10)) (Af (HQ (fk 5 (fk 6 (Ac)))) (Ac) Tr) Ao)))))) (Ae (QV [8,9] (Ai (Dv (fk 2 (fk 8 (fk 9 (Ac)))))))))))))))
abbrev PQ:List Str:=["_law_cells","_law_one","_law_two","_law_three","_law_four","_law_bits","_law_number","_law_size","_law_marks","_law_ties","_law_first","_law_kind","_law_second"]
def Aw:bc PQ ["_law_cells"] (Ab O9):=Of
theorem Uu(T:Tx G mg):Sa P w base T.y6 3 (Nd G Cq):=
 Sm (k:=2) (N:=PQ) (b:=Ej) T.y6 Aw λ_ _ _ _ _ _ J=>Ad (WR (JP rfl rfl (BR (gN Aw.nd 1) (BR (gN Aw.nd 2) (BR (gN Aw.nd 3) (BR (gN Aw.nd 4) (G9)))))) (vr 0)) (Ad (sF Aw.nd 5 (Pm (pU (bMul (vp 2) (iP))) (pU (Gn Vw Vx (iP) (iP))))) (Ad (CQ (tEq J (pU (Pm (vp 1) (iP))) (iP)) (Ae (sF Aw.nd 5 (Pm (vp 2) (pU (Gn Vw Vx (iP) (iP)))))) (Bp)) (Ad (sF Aw.nd 6 (Pm (pU (bMul (pU (UN (vp 1) (iP))) (iP))) (iP))) (Ad (sF Aw.nd 7 (iX J (pU (Dv (iI (iI (iI (iI (iI (iI (iI (iI (iI (iI (iI (iI (Ac))))))))))))))) (pU (Pm (vp 6) (iP))))) (Ad (sF Aw.nd 8 (Jp rfl (pU (Dv (iS (iS (iS (Ac)))))) (K9) (Ia (pU (Pm (pU (UN (vp 6) (iP))) (iP)))))) (Ad (sF Aw.nd 9 (Jp rfl (pU (Dv (iS (iS (iS (Ac)))))) (K9) (Ia (pU (Pm (pU (UN (vp 6) (iP))) (iP)))))) (Ad (sF Aw.nd 10 (fX (Jm T) J (fk 7 (fk 8 (fk 9 (fk 5 (Ac))))))) (Ad (sF Aw.nd 11 (Pm (vp 3) (iP))) (Ad (CQ (tEq J (vp 11) (iP)) (Ae (Ai (Dv (fk 10 (Af (fX (Jm T) J (Af (Pm (pU (UN (vp 3) (iP))) (iP)) (fk 8 (fk 9 (Af (Pm (vp 4) (pU (Gn Vw Vx (iP) (iP)))) (Ac) Ig))) Ig)) (Ac) Gz))))) (Bp)) (Ad (CQ (tEq J (vp 11) (iP)) (Ae (Ai (Dv (fk 10 (Af (fX (Jm T) J (Af (Jr (QC rfl) S8 rfl T.YE V5 (pU (OU (vp 7) (iP))) (iP)) (fk 8 (fk 9 (fk 5 (Ac)))) Gz)) (Ac) Gz))))) (Bp)) (Ad (sF Aw.nd 12 (fX (UG T) J (fk 10 (Af (fX (Us T) J (Af (UN (vp 3) (iP)) (fk 7 (Ac)) Ig)) (Ac) Gz)))) (Ad (CQ (tEq J (vp 11) (iP)) (Ae (Ai (Dv (fk 10 (fk 12 (Ac)))))) (Bp)) (Ae (Ai (Dv (fk 10 (Af (fX (RX T) J (fk 12 (Af (UN (vp 4) (iP)) (Ac) Ig))) (Ac) Gz)))))))))))))))))
abbrev L_:List Str:=["number","most"]
def RZ:bc L_ ["number","most"] (Ab Ls):=Of
theorem Fi(T:Tx G mg):Sa P w base T.h7 1 (Nd G Bb):=
 Sm (k:=0) (N:=L_) (b:=Im) T.h7 RZ λ_ _ _ _ _ _ J=>Ae (CQ (tGt (vp 0) (vp 1)) (Ae (Js)) (Bp))
abbrev Ja:List Str:=["size","thing"]
def Nv:bc Ja ["size","thing"] (Ab JV):=Of
theorem Di(T:Tx G mg):Sa P w base T.e8 1 (Nd G Bj):=
 Sm (k:=0) (N:=Ja) (b:=GK) T.e8 Nv λ_ _ _ _ _ _ J=>Ae (CQ (PFW.pt (Ng (tLt (vp 1) (iP)) (Hv (tGe (vp 1) (vp 0))))) (Ae (Js)) (Bp))
abbrev NP:List Str:=["size","things","kept","thing"]
def Iw:bc NP ["size","things"] (Ab M9):=Of
theorem UJ(T:Tx G mg):Sa P w base T.h8 2 (Nd G Do):=
 Sm (k:=1) (N:=NP) (b:=Ji) T.h8 Iw λ_ _ _ _ _ _ J=>Ad (sW Iw.nd 2 (Th)) (Ad (DK ff rfl (BK rfl (vr 1)) (Cj (gN Iw.nd 3)) (Ad (Fy (fX (Di T) J (fk 0 (fk 3 (Ac))))) (Ae (J_ (Hk J) (pv 2) (vr 3) (Hl))))) (Ae (QV [2] (Ai (vr 2)))))
abbrev PX:List Str:=["size","pairs","kept","one","other"]
def G8:bc PX ["size","pairs"] (Ab O_):=Of
theorem Uv(T:Tx G mg):Sa P w base T.z8 2 (Nd G Ek):=
 Sm (k:=1) (N:=PX) (b:=KZ) T.z8 G8 λ_ _ _ _ _ _ J=>Ad (sW G8.nd 2 (za)) (Ad (DK ff rfl (BK rfl (vr 1)) (JP rfl rfl (BR (gN G8.nd 3) (BR (gN G8.nd 4) (G9)))) (Ad (Fy (fX (Di T) J (fk 0 (fk 3 (Ac))))) (Ad (Fy (fX (Di T) J (fk 0 (fk 4 (Ac))))) (Ae (kJ (Hk J) (pv 2) (fk 3 (fk 4 (Ac))) (Hl)))))) (Ae (QV [2] (Ai (vr 2)))))
abbrev Jy:List Str:=["text"]
def Zk:bc Jy ["text"] (Ab Qs):=Of
theorem UL(T:Tx G mg):Sa P w base T.h9 1 (Nd G El):=
 Sm (k:=0) (N:=Jy) (b:=Qo) T.h9 Zk λ_ _ _ _ _ _ J=>Ad (CQ (PFW.pt (Ng (tIn J (vp 0) (pU (IV (J5 (v:=.ref T.UH.a) rfl T.UH.m rfl) T.UH.r))) (Ng (tEq J (pU (Ay ((BL rfl).or BP) Bu rfl T.VE DP (vp 0))) (iP)) (Hv (tGt (pU (Ay ((BL rfl).or BP) Bu rfl T.VE DP (vp 0))) (pU (IV (J5 (v:=(.int 8)) rfl T.SF.m ⟨_,rfl⟩) (.int _)))))))) (Ae (Ai (Hl))) (Bp)) (Ae (Ai (Ay (Qg rfl) WW rfl T.NE ZS (pU (DN (nT Jy "letter") (by show Ds "letter" Jy++(["letter"]:List Str)=_;decide +kernel) (cO (N:=Jy) (sc:=Ab Qs) rfl rfl) rfl (RU.top (BK rfl (vr 0))) (λ_ _ _=>Ck) (λ_ _ _=>cIn J (vp 1) (pU (IV (J5 (v:=(.str "abcdefghijklmnopqrstuvwxyz")) rfl T.UF.m ⟨_,rfl⟩) (.str _)))))))))
abbrev Jz:List Str:=["self","size","marks","ties","word","things","pairs"]
def Cy:bc Jz ["self","size","marks","ties"] (Ab Jw):=Of
theorem Jb(T:Tx G mg):hQ P w G.K mg base CX0 3 T.x9.f T.x9.fd ["self","size","marks","ties"] (spI G "World" CN):=
 fn_I (c:="World") (k:=2) (N:=Jz) (b:=Gr) T.x9.F Cy .(2) λI A z s H E J=>Dl (Ot (Fy (fX (Fi T) J (fk 1 (Af (IV (J5 (v:=(.int 5)) rfl T.NG.m ⟨_,rfl⟩) (.int _)) (Ac) Ov)))) Rp) (Dl (Ot (Fy (fX (Fi T) J (Af (Ay ((BL rfl).or BP) Bu rfl T.VE DP (vp 2)) (Af (IV (J5 (v:=(.int 3)) rfl T.OG.m ⟨_,rfl⟩) (.int _)) (Ac) Ov) Gz))) Rp) (Dl (Ot (Fy (fX (Fi T) J (Af (Ay ((BL rfl).or BP) Bu rfl T.VE DP (vp 3)) (Af (IV (J5 (v:=(.int 3)) rfl T.OG.m ⟨_,rfl⟩) (.int _)) (Ac) Ov) Gz))) Rp) (Dl (Ju T.WG (pv 0) (vr 1)) (Dl (Tj T.XG (pv 0) Th) (Dl (Tj T.hH (pv 0) Th) (Dl (bK ff rfl (VF (top:=O2) (vr 2)) (JP rfl rfl (BR (gN Cy.nd 4) (BR (gN Cy.nd 5) (G9)))) (km (Rq .(2) (Rq .(2) (kj)))) (X4 (kh (X5 (JN (Hn (pU (fX (UL T) J (fk 4 (Ac)))) rfl))) (Ae Js)) (bJ (X6 (Hk J) T.XG (pv 0) (vr 4) (fX (UJ T) J (fk 1 (fk 5 (Ac)))))))) (Dl (bK ff rfl (VF (top:=O2) (vr 3)) (JP rfl rfl (BR (gN Cy.nd 4) (BR (gN Cy.nd 6) (G9)))) (km (Rq .(2) (Rq .(2) (kj)))) (X4 (kh (PWE.pt (xZ (X5 (JN (Hn (pU (fX (UL T) J (fk 4 (Ac)))) rfl))) (rT (xf (Hk J) T.XG (pv 0) (vr 4))))) (Ae Js)) (bJ (X6 (Hk J) T.hH (pv 0) (vr 4) (fX (Uv T) J (fk 1 (fk 6 (Ac)))))))) (bL))))))))
abbrev Iz:List Str:=["self"]
def My:bc Iz ["self"] (Ab Iu):=Of
theorem Hm(T:Tx G mg):hQ P w G.K mg base CX0 1 T.NA.f T.NA.fd ["self"] (Nd G Ca):=
 UK (k:=0) (N:=Iz) (b:=Fl) T.NA.F My .(2) λ_ _ _ _ _ _ J=>Ae (Ai (Ay (M8 rfl) bR rfl T.OF Mh (pU (Ba T.XG (vp 0)))))
abbrev Jc:List Str:=["self"]
def Nx:bc Jc ["self"] (Ab JW):=Of
theorem I_(T:Tx G mg):hQ P w G.K mg base CX0 1 T.OA.f T.OA.fd ["self"] (Nd G Cr):=
 UK (k:=0) (N:=Jc) (b:=GQ) T.OA.F Nx .(2) λ_ _ _ _ _ _ J=>Ae (Ai (Ay (M8 rfl) bR rfl T.OF Mh (pU (Ba T.hH (vp 0)))))
abbrev Ku:List Str:=["one","other"]
def Qu:bc Ku ["one","other"] (Ab Km):=Of
theorem Qv(T:Tx G mg):Sa P w base T.QA 2 (Nd G Dm):=
 Sm (k:=1) (N:=Ku) (b:=HX) T.QA Qu λ_ _ _ _ _ _ J=>Ae (CQ (PFW.pt (Ng (tNe J (pU (mO T.f_ T.r_ (Hm T) J (vr 0))) (pU (mO T.f_ T.r_ (Hm T) J (vr 1)))) (Hv (tNe J (pU (mO T.f_ T.r_ (I_ T) J (vr 0))) (pU (mO T.f_ T.r_ (I_ T) J (vr 1))))))) (Ae (Js)) (Bp))
abbrev J0:List Str:=["self","one","other"]
def Pa:bc J0 ["self","one","other"] (Ab Jx):=Of
theorem Pb(T:Tx G mg):hQ P w G.K mg base CX0 1 T.RA.f T.RA.fd ["self","one","other"] (spI G "Ranks" CP):=
 fn_I (c:="Ranks") (k:=0) (N:=J0) (b:=Gs) T.RA.F Pa .(2) λI A z s H E J=>Dl (Ju T.NH (pv 0) (vr 1)) (Dl (Ju T.OH (pv 0) (vr 2)) (Dl (Ju T.PH (pv 0) (yD rfl)) (Dl (Ju T.RH (pv 0) (OU (pU (Jr (QB rfl) S7 rfl T.XE TV (pU (Ba T.WG (vp 1))) (pU (Ba T.WG (vp 2))))) (iP))) (bL))))
abbrev Kv:List Str:=["self","one","other"]
def Qw:bc Kv ["self","one","other"] (Ab Ko):=Of
theorem Qx(T:Tx G mg):hQ P w G.K mg base CX0 3 T.SA.f T.SA.fd ["self","one","other"] (spIM G "Play" "put" Fe):=
 AAG (c:="Play") (f0:="put") (k:=2) (N:=Kv) (b:=HY) T.SA.F Qw .(2) λI A z s H E J=>Qn (Ot (Fy (fX (Qv T) J (fk 1 (fk 2 (Ac))))) Rp) (Qn (Ju T.SH (pv 0) (ZV T.p0 T.RA.mM (Pb T) (J.mono .(0)) rfl T.y1 T.RA.B (fk 1 (fk 2 (Ac))))) (Qn (Tj T.TH (pv 0) (V6 (Ac))) (my)))
abbrev JB:List Str:=["size","paired"]
def Yc:bc JB ["size","paired"] (Ab Nu):=Of
theorem RP(T:Tx G mg):Sa P w base T.UA 1 (Nd G Io):=
 Sm (k:=0) (N:=JB) (b:=Nr) T.UA Yc λ_ _ _ _ _ _ J=>Ae (Ai (DN (nT JB "thing") (by show Ds "thing" JB++(["thing"]:List Str)=_;decide +kernel) (cO (N:=JB) (sc:=Ab Nu) rfl rfl) rfl (Gy rfl T.ZE (vp 0)) (λ_ _ _=>Og (tNi J (vp 2) (vp 1))) (λ_ _ _=>vr 2)))
abbrev Kw:List Str:=["one","other","pair","word"]
def J1:bc Kw ["one","other","pair"] (Ab Kp):=Of
theorem Qy(T:Tx G mg):Sa P w base T.VA 1 (Nd G Ff):=
 Sm (k:=0) (N:=Kw) (b:=Ha) T.VA J1 λ_ _ _ _ _ _ J=>Ad (DK ff rfl (BK rfl (Ba T.XG (vp 0))) (Cj (gN J1.nd 3)) (Ae (CQ (tNe J (pU (cIn J (pU (iX J (vp 2) (iP))) (pU (iX J (pU (Ba T.XG (vp 0))) (vp 3))))) (pU (cIn J (pU (iX J (vp 2) (iP))) (pU (iX J (pU (Ba T.XG (vp 1))) (vp 3)))))) (Ae (Ai (Hl))) (Bp)))) (Ae (Ai (Hl)))
abbrev Ky:List Str:=["one","other","pair","further","word"]
def J2:bc Ky ["one","other","pair","further"] (Ab Kq):=Of
theorem Gw(T:Tx G mg):Sa P w base T.WA 1 (Nd G Cg):=
 Sm (k:=0) (N:=Ky) (b:=Hh) T.WA J2 λ_ _ _ _ _ _ J=>Ad (DK ff rfl (BK rfl (Ba T.hH (vp 0))) (Cj (gN J2.nd 4)) (Ae (CQ (tNe J (pU (lD J (Af (iX J (vp 2) (iP)) (Af (iX J (vp 3) (iP)) (Ac) Ao) Ao) (pU (iX J (pU (Ba T.hH (vp 0))) (vp 4))))) (pU (lD J (Af (iX J (vp 2) (iP)) (Af (iX J (vp 3) (iP)) (Ac) Ao) Ao) (pU (iX J (pU (Ba T.hH (vp 1))) (vp 4)))))) (Ae (Ai (Hl))) (Bp)))) (Ae (Ai (Hl)))
abbrev NQ:List Str:=["one","other","pair","further"]
def UT:bc NQ ["one","other","pair","further"] (Ab M_):=Of
theorem UV(T:Tx G mg):Sa P w base T.XA 2 (Nd G G4):=
 Sm (k:=1) (N:=NQ) (b:=Jj) T.XA UT λ_ _ _ _ _ _ J=>Ad (CQ (tNe J (pU (cEq J (pU (iX J (vp 2) (iP))) (pU (iX J (vp 3) (iP))))) (pU (cEq J (pU (iX J (vp 2) (iP))) (pU (iX J (vp 3) (iP)))))) (Ae (Ai (Hl))) (Bp)) (Ae (Ai (S5 (fX (Gw T) J (fk 0 (fk 1 (fk 2 (fk 3 (Ac)))))) (Vy (fX (Gw T) J (fk 0 (fk 1 (fk 3 (fk 2 (Ac))))))))))
abbrev HJ:List Str:=["one","other","pairs","further"]
def Wo:bc HJ ["one","other","pairs","further"] (Ab Lw):=Of
theorem Pg(T:Tx G mg):Sa P w base T.YA 3 (Nd G HD):=
 Sm (k:=2) (N:=HJ) (b:=Lj) T.YA Wo λ_ _ _ _ _ _ J=>Ad (CQ (PFW.pt (Ng (JN (Hn (pU (fX (Qy T) J (fk 0 (fk 1 (fk 3 (Ac)))))) rfl)) (Hv (JN (Hn (pU (fX (Gw T) J (fk 0 (fk 1 (fk 3 (fk 3 (Ac))))))) rfl))))) (Ae (Ai (Hl))) (Bp)) (Ae (Ai (Ay (Qg rfl) WW rfl T.NE ZS (pU (DN (nT HJ "pair") (by show Ds "pair" HJ++(["pair"]:List Str)=_;decide +kernel) (cO (N:=HJ) (sc:=Ab Lw) rfl rfl) rfl (RU.top (BK rfl (vr 2))) (λ_ _ _=>Ck) (λ_ _ _=>fX (UV T) J (fk 0 (fk 1 (fk 4 (fk 3 (Ac)))))))))))
abbrev Jd:List Str:=["self","pairs","further"]
def Ny:bc Jd ["self","pairs","further"] (Ab JX):=Of
theorem Nz(T:Tx G mg){m:Nat}{z:List D->Option D}(L:3<=m)(I:hQ P w G.K mg base CX0 m T.SB.f T.SB.fd ["self","pairs"] (Nd G z)):hQ P w G.K mg base CX0 (m+1) T.ZA.f T.ZA.fd ["self","pairs","further"] (Nd G (Bk z)):=
 UK (k:=m+0) (N:=Jd) (b:=GZ z) T.ZA.F Ny .(2) λ_ _ _ _ _ _ J=>Ad (CQ (JN (Hn (pU (fX (Pg T) J (Af (Ba T.NH (vp 0)) (Af (Ba T.OH (vp 0)) (fk 1 (fk 2 (Ac))) B_) B_))) rfl)) (Ae (Ai (Su))) (Bp)) (Ae (Ai (mA T.p0 T.z0 (I) J (vr 0) (Af (yG rfl rfl rfl T.RF X3 rfl T.OF Mh (pU (Gn tL mL (vp 1) (pU (HQ (fk 2 (Ac))))))) (Ac) Gz))))
abbrev Cz:List Str:=["self","pairs","choices"]
def N5:bc Cz ["self","pairs","choices"] (Ab Gg):=Of
theorem JC(T:Tx G mg){m:Nat}{z:List D->Option D}(L:3<=m)(I:hQ P w G.K mg base CX0 m T.SB.f T.SB.fd ["self","pairs"] (Nd G z)):hQ P w G.K mg base CX0 (m+2) T.lB.f T.lB.fd ["self","pairs","choices"] (Nd G (Ar z)):=
 UK (k:=m+1) (N:=Cz) (b:=Ga z) T.lB.F N5 .(2) λ_ _ _ _ _ _ J=>Ae (Ai (qu rfl rfl rfl T.XE TV (pU (DN (nT Cz "further") (by show Ds "further" Cz++(["further"]:List Str)=_;decide +kernel) (cO (N:=Cz) (sc:=Ab Gg) rfl rfl) rfl (RU.top (BK rfl (vr 2))) (λ_ _ _=>Ck) (λ_ _ _=>mA T.p0 T.z0 (Nz T .(0) (I)) J (vr 0) (fk 1 (fk 3 (Ac)))))) (Su)))
abbrev Aq:List Str:=["self","pairs","firsts","seconds","reached","first","second"]
def Bl:bc Aq ["self","pairs"] (Ab Bs):=Of
theorem Mz(T:Tx G mg){m:Nat}{z:List D->Option D}(L:3<=m)(I:hQ P w G.K mg base CX0 m T.SB.f T.SB.fd ["self","pairs"] (Nd G z)):hQ P w G.K mg base CX0 (m+3) T.OB.f T.OB.fd ["self","pairs"] (Nd G (Cd z)):=
 UK (k:=m+2) (N:=Aq) (b:=Fo z) T.OB.F Bl .(2) λ_ _ _ _ _ _ J=>Ad (sF Bl.nd 2 (fX (RP T) J (Af (Ba T.WG (pU (Ba T.NH (vp 0)))) (Af (DN (nT Aq "pair") (by show Ds "pair" Aq++(["pair"]:List Str)=_;decide +kernel) (cO (N:=Aq) (sc:=Ab Bs) rfl rfl) rfl (RU.top (BK rfl (vr 1))) (λ_ _ _=>Ck) (λ_ _ _=>iX J (vp 7) (iP))) (Ac) G_) B_))) (Ad (sF Bl.nd 3 (fX (RP T) J (Af (Ba T.WG (pU (Ba T.OH (vp 0)))) (Af (DN (nT Aq "pair") (by show Ds "pair" Aq++(["pair"]:List Str)=_;decide +kernel) (cO (N:=Aq) (sc:=Ab Bs) rfl rfl) rfl (RU.top (BK rfl (vr 1))) (λ_ _ _=>Ck) (λ_ _ _=>iX J (vp 7) (iP))) (Ac) G_) B_))) (Ad (sW Bl.nd 4 (V6 (Ac))) (Ad (DK ff rfl (BK rfl (vr 2)) (Cj (gN Bl.nd 5)) (Ae (V7 (pv 4) (mA T.p0 T.z0 (JC T .(0) (I)) J (vr 0) (fk 1 (Af (DN ["self","pairs","firsts","seconds","reached","first","","second"] (by show Ds "second" Aq++(["second"]:List Str)=_;decide +kernel) (cO (N:=Aq) (sc:=Ab Bs) rfl rfl) rfl (RU.top (BK rfl (vr 3))) (λ_ _ _=>Ck) (λ_ _ _=>HQ (fk 5 (fk 7 (Ac))))) (Ac) G_)))))) (Ad (DK ff rfl (BK rfl (vr 3)) (Cj (gN Bl.nd 6)) (Ae (V7 (pv 4) (mA T.p0 T.z0 (JC T .(0) (I)) J (vr 0) (fk 1 (Af (DN ["self","pairs","firsts","seconds","reached","","second","first"] (by show Ds "first" Aq++(["first"]:List Str)=_;decide +kernel) (cO (N:=Aq) (sc:=Ab Bs) rfl rfl) rfl (RU.top (BK rfl (vr 2))) (λ_ _ _=>Ck) (λ_ _ _=>HQ (fk 7 (fk 6 (Ac))))) (Ac) G_)))))) (Ae (Ai (Jr (QC rfl) S8 rfl T.YE V5 (pU (Ba T.RH (vp 0))) (pU (OU (iP) (pU (tK rfl rfl rfl T.YE V5 (vq 4) (Ba T.RH (vp 0)))))))))))))
abbrev DY:List Str:=["self","pairs"]
def Ew:bc DY ["self","pairs"] (Ab Fv):=Of
theorem Ex(T:Tx G mg):∀n:Nat,hQ P w G.K mg base CX0 (n*4+3) T.SB.f T.SB.fd ["self","pairs"] (Nd G (Ah n))
 |0=>q8
 |n+1=>(UK (k:=n*4+6) (N:=DY) (b:=Be (Ah n)) T.SB.F Ew .(2) λ_ _ _ _ _ _ J=>lZ J.units rfl T.PH rfl (by first | exact df rfl | exact cq (df rfl) | exact cq (cq rfl)) rfl (by first | exact df rfl | exact cq (df rfl) | exact cq (cq rfl)) (mA T.p0 T.z0 (Mz T .(0) (Ex T n)) J (vr 0) (fk 1 (Ac)))).mono .(0)
theorem JH(T:Tx G mg):hQ P w G.K mg base CX0 1 T.SB.f T.SB.fd ["self","pairs"] (spP P w G.K "reckoned"):=
 fn_P (k:=0) (N:=DY) T.SB.F Ew rfl λ_ _ _ _ _ _ J=>tQ J.units rfl (by first | exact df rfl | exact cq (df rfl) | exact cq (cq rfl)) rfl (by first | exact df rfl | exact cq (df rfl) | exact cq (cq rfl))
abbrev Mv:List Str:=["one","other","pairs"]
def Zm:bc Mv ["one","other","pairs"] (Ab Qt):=Of
theorem Zn(T:Tx G mg):Sa P w base T.TB 4 (Nd G Hz):=
 Sm (k:=3) (N:=Mv) (b:=Qp) T.TB Zm λ_ _ _ _ _ _ J=>Ae (Ai (Ay (Qg rfl) WW rfl T.NE ZS (pU (PN.pf (lL ["one","other","pairs","at","pair"] (by show Br ["at","pair"] Mv++(["at","pair"]:List Str)=_;decide +kernel) (cO2 (N:=Mv) (sc:=Ab Qt) rfl rfl) rfl rfl (RU.top (fL rfl rfl T.RE (vr 2))) (λ_ _ _=>Ck) (λ_ _ _=>fX (Pg T) J (fk 0 (fk 1 (Af (Jp rfl (vp 2) (K9) (Ia (vp 3))) (fk 4 (Ac)) Ao)))))))))
abbrev Kz:List Str:=["self","pairs","known"]
def J3:bc Kz ["self","pairs"] (Ab Kr):=Of
theorem J4(T:Tx G mg):hQ P w G.K mg base CX0 36 T.UB.f T.UB.fd ["self","pairs"] (Nd G Bo):=
 UK (k:=35) (N:=Kz) (b:=Fg) T.UB.F J3 .(2) λ_ _ _ _ _ _ J=>Ad (sF J3.nd 2 (yF J.units rfl rfl rfl T.RF X3 rfl T.OF Mh rfl T.NF xQ (vp 1))) (mV (d:=T.SB) J.units rfl T.PH T.p0 rfl (by first | exact df rfl | exact cq (df rfl) | exact cq (cq rfl)) rfl (by first | exact df rfl | exact cq (df rfl) | exact cq (cq rfl)) (Hn (pU (fX (Zn T) J (Af (Ba T.NH (vp 0)) (Af (Ba T.OH (vp 0)) (fk 2 (Ac)) B_) B_))) rfl) (JH T) (J.mono .(0)) (Ai (mA T.p0 T.z0 (Ex T 8) J (vr 0) (fk 2 (Ac)))))
abbrev Je:List Str:=["self","pairs","reached"]
def JD:bc Je ["self","pairs"] (Ab JZ):=Of
theorem N6(T:Tx G mg):hQ P w G.K mg base CX0 37 T.WB.f T.WB.fd ["self","pairs"] (Nd G Cw):=
 UK (k:=36) (N:=Je) (b:=Gb) T.WB.F JD .(2) λ_ _ _ _ _ _ J=>Ad (sF JD.nd 2 (mA T.p0 T.z0 (J4 T) J (vr 0) (fk 1 (Ac)))) (Ae (Ai (aJ (tEq J (vp 2) (pU (Ba T.RH (vp 0)))) (iY) (vr 2))))
abbrev RQ:List Str:=["self"]
def Wq:bc RQ ["self"] (Ab RM):=Of
theorem Ph(T:Tx G mg):hQ P w G.K mg base CX0 38 T.XB.f T.XB.fd ["self"] (Nd G Ea):=
 UK (k:=37) (N:=RQ) (b:=Lp) T.XB.F Wq .(2) λ_ _ _ _ _ _ J=>Ae (Ai (mA T.p0 T.z0 (N6 T) J (Ba T.SH (vp 0)) (Af (Ba T.TH (vp 0)) (Ac) B_)))
abbrev Ey:List Str:=["self"]
def JK:bc Ey ["self"] (Ab Eu):=Of
theorem JL(T:Tx G mg):hQ P w G.K mg base CX0 2 T.ZB.f T.ZB.fd ["self"] (Nd G Bc):=
 UK (k:=1) (N:=Ey) (b:=DG) T.ZB.F JK .(2) λ_ _ _ _ _ _ J=>Ae (Fy (fX (Fi T) J (Af (OU (pU (Ay ((BL rfl).or BP) Bu rfl T.VE DP (pU (Ba T.TH (vp 0))))) (iP)) (Af (IV (J5 (v:=(.int 5)) rfl T.SG.m ⟨_,rfl⟩) (.int _)) (Ac) Ov) Ig)))
abbrev Vb:List Str:=["side","thing","replied"]
def Zo:bc Vb ["side","thing","replied"] (Ab Va):=Of
theorem UW(T:Tx G mg):Sa P w base T.NC 1 (Nd G H_):=
 Sm (k:=0) (N:=Vb) (b:=Qq) T.NC Zo λ_ _ _ _ _ _ J=>Ae (Ai (aJ (tEq J (vp 0) (iP)) (HQ (fk 1 (fk 2 (Ac)))) (HQ (fk 2 (fk 1 (Ac))))))
abbrev MF:List Str:=["ranks","side"]
def Ra:bc MF ["ranks","side"] (Ab Lx):=Of
theorem K1(T:Tx G mg):Sa P w base T.OC 1 (Nd G DX):=
 Sm (k:=0) (N:=MF) (b:=Ip) T.OC Ra λ_ _ _ _ _ _ J=>Ae (Ai (aJ (tEq J (vp 1) (iP)) (Ba T.WG (pU (Ba T.NH (vp 0)))) (Ba T.WG (pU (Ba T.OH (vp 0))))))
abbrev HN:List Str:=["ranks","side","thing"]
def Wr:bc HN ["ranks","side","thing"] (Ab Ly):=Of
theorem Ws(T:Tx G mg):Sa P w base T.SC 2 (Nd G HF):=
 Sm (k:=1) (N:=HN) (b:=Lq) T.SC Wr λ_ _ _ _ _ _ J=>Ae (Ai (DN (nT HN "replied") (by show Ds "replied" HN++(["replied"]:List Str)=_;decide +kernel) (cO (N:=HN) (sc:=Ab Ly) rfl rfl) rfl (Gy rfl T.ZE (pU (fX (K1 T) J (fk 0 (Af (bSub (iP) (vp 1)) (Ac) Ig))))) (λ_ _ _=>Ck) (λ_ _ _=>fX (UW T) J (fk 1 (fk 2 (fk 3 (Ac)))))))
abbrev Ec:List Str:=["ranks","pairs","side","thing"]
def Rb:bc Ec ["ranks","pairs","side","thing"] (Ab Iv):=Of
theorem Rc(T:Tx G mg):Sa P w base T.TC 37 (Nd G Gd):=
 Sm (k:=36) (N:=Ec) (b:=Ir) T.TC Rb λ_ _ _ _ _ _ J=>Ae (Ai (DN (nT Ec "pair") (by show Ds "pair" Ec++(["pair"]:List Str)=_;decide +kernel) (cO (N:=Ec) (sc:=Ab Iv) rfl rfl) rfl (RU.top (BK rfl (fX (Ws T) J (fk 0 (fk 2 (fk 3 (Ac))))))) (λ_ _ _=>Ck) (λ_ _ _=>mA T.p0 T.z0 (J4 T) J (vr 0) (Af (OU (vp 1) (pU (Dv (fk 4 (Ac))))) (Ac) Ig))))
abbrev Pj:List Str:=["ranks","pairs","side","thing","behind"]
def NT:bc Pj ["ranks","pairs","side","thing"] (Ab PB):=Of
theorem Uw(T:Tx G mg):Sa P w base T.UC 38 (Nd G Hq):=
 Sm (k:=37) (N:=Pj) (b:=Kd) T.UC NT λ_ _ _ _ _ _ J=>Ad (Fy (fX (Di T) J (Af (fX (K1 T) J (fk 0 (fk 2 (Ac)))) (fk 3 (Ac)) Gz))) (Ad (sF NT.nd 4 (fX (Rc T) J (fk 0 (fk 1 (fk 2 (fk 3 (Ac))))))) (Ae (Ai (aJ (tGt (pU (Ay ((BL rfl).or BP) Bu rfl T.VE DP (vp 4))) (iP)) (m6 rfl (vp 4) (Ay (fO rfl rfl) mz rfl T.XE TV (vp 4))) (iY)))))
abbrev Pk:List Str:=["self","side","thing","replied"]
def NZ:bc Pk ["self","side","thing"] (Ab PJ):=Of
theorem Ux(T:Tx G mg):hQ P w G.K mg base CX0 39 T.VC.f T.VC.fd ["self","side","thing"] (spM G Hr):=
 fn_M (k:=38) (N:=Pk) (b:=O6) T.VC.F.d NZ .(2) λ_ _ _ _ _ _ J=>Cp (Tv (Wm (mO T.E2 T.y3 (JL T) J (vr 0)))) (Cp (sXM NZ.nd 3 (Wm (fX (Uw T) J (Af (Ba T.SH (vp 0)) (Af (Ba T.TH (vp 0)) (fk 1 (fk 2 (Ac))) B_) B_)))) (Cp (xq [] (kO (vp 3)) (Ms (Tv (mj (Ba T.TH (vp 0)) (Af (fX (UW T) J (fk 1 (fk 2 (fk 3 (Ac))))) (Ac) Gz)))) (Wa)) (Ms (Ih (Ai (vr 3))))))
abbrev Pn:List Str:=["self"]
def Uy:bc Pn ["self"] (Ab PL):=Of
theorem Uz(T:Tx G mg):hQ P w G.K mg base CX0 1 T.WC.f T.WC.fd ["self"] (Nd G Em):=
 UK (k:=0) (N:=Pn) (b:=Ke) T.WC.F Uy .(2) λ_ _ _ _ _ _ J=>Ae (Ai (QR (J7.or (KC rfl)) Qe rfl T.WE Rj (pU (Ba T.TH (vp 0)))))
abbrev K3:List Str:=["_law_found","_law_size"]
def Qz:bc K3 ["_law_found","_law_size"] (Ab Ks):=Of
theorem Q0(T:Tx G mg):Sa P w base T.ND 1 (Nd G Dn):=
 Sm (k:=0) (N:=K3) (b:=Hi) T.ND Qz λ_ _ _ _ _ _ J=>Ae (Ai (S5 (jG qx rfl rfl T.UE M7 rfl T.SE xP (vp 0)) (S5 (wz (jG jH rfl rfl T.UE M7 rfl T.OE qy (vp 0))) (S5 (Vv zK wu (iP) (vp 0) (K5 _)) (Vy (Vv uW ie (vp 0) (vp 1) (K5 _)))))))
abbrev Ua:List Str:=["_law_first","_law_second","_law_row","_law_one","_law_other_here","_law_word","_law_far","_law_there"]
def Ed:bc Ua ["_law_first","_law_second","_law_row"] (Ab T_):=Of
theorem Yd(T:Tx G mg):Sa P w base T.PD 1 (Nd G Gv):=
 Sm (k:=0) (N:=Ua) (b:=Kf) T.PD Ed λ_ _ _ _ _ _ J=>Ad (DK ff rfl (BK rfl (vr 2)) (JP rfl rfl (BR (gN Ed.nd 3) (BR (gN Ed.nd 4) (G9)))) (Ad (DK ff rfl (BK rfl (iX J (vp 0) (iP))) (Cj (gN Ed.nd 5)) (Ae (CQ (tNe J (pU (cIn J (vp 3) (pU (iX J (pU (iX J (vp 0) (iP))) (vp 5))))) (pU (cIn J (vp 4) (pU (iX J (pU (iX J (vp 1) (iP))) (vp 5)))))) (Ae (Ai (Hl))) (Bp)))) (Ae (DK ff rfl (BK rfl (vr 2)) (JP rfl rfl (BR (gN Ed.nd 6) (BR (gN Ed.nd 7) (G9)))) (Ad (CQ (tNe J (pU (cEq J (vp 3) (vp 6))) (pU (cEq J (vp 4) (vp 7)))) (Ae (Ai (Hl))) (Bp)) (Ae (DK ff rfl (BK rfl (iX J (vp 0) (iP))) (Cj (gN Ed.nd 5)) (Ae (CQ (tNe J (pU (cIn J (pU (HQ (fk 3 (fk 6 (Ac))))) (pU (iX J (pU (iX J (vp 0) (iP))) (vp 5))))) (pU (cIn J (pU (HQ (fk 4 (fk 7 (Ac))))) (pU (iX J (pU (iX J (vp 1) (iP))) (vp 5)))))) (Ae (Ai (Hl))) (Bp)))))))))) (Ae (Ai (Hl)))
abbrev Nb:List Str:=["_law_cells","_law_here","_law_there","_law_first","_law_second","_law_play","_law_sizes","_law_height","_law_row","_law_cell_here","_law_side","_law_thing","_law_partner"]
def Bd:bc Nb ["_law_cells","_law_here","_law_there","_law_first","_law_second"] (Ab NB):=Of
theorem MJ(T:Tx G mg):Sa P w base T.SD 40 (Nd G G6):=
 fnDM (k:=39) (N:=Nb) (b:=G5) T.SD Bd λ_ _ _ _ _ _ J=>Cp (sXM Bd.nd 5 (yK T.E2 T.SA.mM (Qx T) (J.mono .(0)) rfl T.E3 T.SA.B (fk 1 (fk 2 (Ac))))) (Cp (Ih (sF Bd.nd 6 (Dv (Af (iX J (vp 3) (iP)) (Af (iX J (vp 4) (iP)) (Ac) Ao) Ao)))) (Cp (sXM Bd.nd 7 (Wm (mO T.E2 T.y3 (Ph T) J (vr 5)))) (Cp (sXM Bd.nd 8 (sO (V6 (Ac)))) (Cp (sJ ff rfl (BK rfl (vr 0)) (Cj (gN Bd.nd 9)) (Cp (Ih (sF Bd.nd 10 (Pm (vp 9) (iP)))) (Cp (Ih (CQ (tEq J (pU (iX J (vp 6) (vp 10))) (iP)) (Ae (sF Bd.nd 10 (bSub (iP) (vp 10)))) (Bp))) (Ms (bU (PFW.pt (qZ (tGt (pU (iX J (vp 6) (vp 10))) (iP)) (ZF (PFW.pt (Ng (rQ (vp 7)) (Hv (tLt (pU (OU (pU (Ay ((BL rfl).or BP) Bu rfl T.VE DP (vp 8))) (iP))) (vp 7)))))))) (Cp (Ih (sF Bd.nd 11 (Pm (pU (UN (vp 9) (iP))) (pU (iX J (vp 6) (vp 10)))))) (Cp (sXM Bd.nd 12 (mq T.E2 T.y3 (Ux T) J (vr 5) (fk 10 (fk 11 (Ac))))) (Cp (Ih (CQ (JN (Hn (pU (fX (Q0 T) J (fk 12 (Af (iX J (vp 6) (pU (bSub (iP) (vp 10)))) (Ac) Ao)))) rfl)) (Ae (Ai (Hl))) (Bp))) (Cp (Tv (mApp [] (pv 8) (Af (iX J (pU (Dv (Af (HQ (fk 11 (fk 12 (Ac)))) (Af (HQ (fk 12 (fk 11 (Ac)))) (Ac) Tr) Tr))) (vp 10)) (Ac) Ao))) (Ms (bU (JN (Hn (pU (fX (Yd T) J (fk 3 (fk 4 (fk 8 (Ac)))))) rfl)) (Ms (Ih (Ai (Hl)))) (Wa))))))) (Wa)))))) (Ms (lG (Wm (S5 (cEq J (pU (mO T.E2 T.y3 (Uz T) J (vr 5))) (vp 8)) (Vy (zV (rP (vp 7)) (Vy (xX (pU (mO T.E2 T.y3 (Ph T) J (vr 5)))))))))))))))
abbrev RT:List Str:=["_law_script","_law_k"]
def Wt:bc RT ["_law_script","_law_k"] (Ab RN):=Of
theorem Wu(T:Tx G mg):Sa P w base T.TD 1 (Nd G HH):=
 Sm (k:=0) (N:=RT) (b:=JT) T.TD Wt λ_ _ _ _ _ _ J=>Ad (CQ (tLt (vp 1) (pU (Ay (BL rfl) Ri rfl T.VE DP (vp 0)))) (Ae (Ai (iD (vp 0) (vp 1)))) (Bp)) (Ae (Ai (Su)))
abbrev RV:List Str:=["_law_script","_law_first","_law_second","_law_here","_law_there","_law_cells","_law_at","_law_some"]
def MK:bc RV ["_law_script"] (Ab cC):=Of
theorem yL(T:Tx G mg):Sa P w base T.UD 41 (Nd G Yb):=
 Sm (k:=40) (N:=RV) (b:=m9) T.UD MK λ_ _ _ _ _ _ J=>Ad (WR (JP rfl rfl (BR (gN MK.nd 1) (BR (gN MK.nd 2) (G9)))) (fX (Uu T) J (Af (DN (nT RV "_law_k") (by show Ds "_law_k" RV++(["_law_k"]:List Str)=_;decide +kernel) (cO (N:=RV) (sc:=Ab cC) rfl rfl) rfl (Gy rfl T.ZE (iP)) (λ_ _ _=>Ck) (λ_ _ _=>fX (Wu T) J (fk 0 (fk 8 (Ac))))) (Ac) G_))) (Ad (sF MK.nd 3 (ZV T.f_ T.x9.mM (Jb T) (J.mono .(0)) rfl T.s_ T.x9.B (Af (iX J (vp 1) (iP)) (Af (iX J (vp 1) (iP)) (Af (iX J (vp 1) (iP)) (Ac) Ao) Ao) Ao))) (Ad (sF MK.nd 4 (ZV T.f_ T.x9.mM (Jb T) (J.mono .(0)) rfl T.s_ T.x9.B (Af (iX J (vp 2) (iP)) (Af (iX J (vp 2) (iP)) (Af (iX J (vp 2) (iP)) (Ac) Ao) Ao) Ao))) (Ad (sF MK.nd 5 (Jp rfl (vp 0) (Ia (iP)) (Ia (iP)))) (Ad (DK ff rfl (Gy rfl T.ZE (pU (Jr (QC rfl) S8 rfl T.YE V5 (pU (Ay ((BL rfl).or BP) Bu rfl T.VE DP (vp 5))) (iP)))) (Cj (gN MK.nd 6)) (Ad (jC (i:=7) (nT RV "_law_k") (by show Ds "_law_k" RV++(["_law_k"]:List Str)=_;decide +kernel) (cO (N:=RV) (sc:=Ab cC) rfl rfl) rfl MK.nd rfl (by first | exact df rfl | exact cq rfl) (Gy rfl T.ZE (iP)) (λ_ _ _=>Ck) (λ_ _ _=>UN (pU (iX J (vp 5) (pU (Pm (pU (OU (pU (OU (vp 6) (pU (bMul (pU (bMul (iP) (vp 8))) (vp 8))))) (vp 8))) (pU (Ay ((BL rfl).or BP) Bu rfl T.VE DP (vp 5))))))) (iP))) (Ae (CQ (JN (Hn (pU (fX (MJ T) J (fk 7 (fk 3 (fk 4 (fk 1 (fk 2 (Ac)))))))) rfl)) (Ae (Ai (Hl))) (Bp))))) (Ae (Ai (fX (MJ T) J (Af (Dv (iI (iI (iI (iI (iI (Ac))))))) (fk 3 (fk 4 (fk 1 (fk 2 (Ac))))) sI))))))))
end
abbrev gx (K:aI) (c_ w_ y2:Addr):Gx:=gxL K [("World",c_),("Ranks",w_),("Play",y2)]
def vP(K:aI):Sp:=λvs H Q _=>∃(a:Addr) (O:List Int),vs=[.ref a]/\NS K H a (O.map V.int)/\O.length<=63/\(∀i∈O,i6 i<=1048576)/\∀z,Q (.bl O1) z
theorem yM(W:∀ns:List Int,ns.length<=63->(∀i∈ns,i6 i<=1048576)->Yb [.lst (ns.map .int)]=O0 (.bl O1)){K:aI}{I J L:Addr}(vs:List V)(H:Hp)(Q:VK)(E:XK)(h:vP K vs H Q E):Nd (gx K I J L) Yb vs H Q E:=by
 obtain⟨a,ns,rfl,hs,Y,S,k⟩:=h;refine⟨[],[.lst (ns.map .int)],.bl O1,(λ_ z=>nomatch z),be.cons ?_ be.nil,W ns Y S,λv Z _ r=>?_⟩
 .have e:bm [] H=H:=by funext b;exact Ax (λz=>nomatch z)
  rw[e];refine .lst hs .(1) λi x d O T=>?_;rw[ca] at O T;cases U:ns[i]? with
  |none=>rw[U] at O;cases O
  |some z=>rw[U] at O T;cases O;cases T;exact .int z
 .cases r;exact k Z
end K67
section
open PySem L2 PV
local macro_rules | `(tactic| w_up) => `(tactic| (rw [List.map_cons, Ft, Ts, LR, Kl]; simp only [List.set_cons_zero, List.set_cons_succ]))
local macro_rules | `(tactic| simp only [cK, $ls,*] $[$l:location]?) => `(tactic| simp only [Et, OT, e_rt, uq, e_if, ur, ut, aV, V_, uv, jP, jQ, aW, e_b, Xs, e_u, e_us, jR, aX, jT, aZ, Xr, uy, jU, jV, jW, ZK, jX, jY, jZ, jb, e_bl, uz, jc, aa, aj, u0, jd, je, jf, WD, Rn, ao, WF, WK, jg, aq, u9, jh, ji, e_sl, u_, vA, au, Xu, e_v, Qb, e_vU, vB, e_k, Tc, Te, Ni, jk, jo, jq, LK, jr, DQ, Jt, e_tr, jt, a_, vD, ju, QX, Ft, Fz, LR, Ts, Kl, List.length_cons, List.length_nil, List.map_cons, List.map_nil, List.cons_append, List.nil_append, List.replicate_succ, List.replicate_zero, List.getElem?_cons_zero, List.getElem?_cons_succ, List.set_cons_zero, List.set_cons_succ, Nat.reduceAdd, Nat.reduceSub, Nat.reduceEqDiff, Nat.zero_add, truB, Bool.not_true, Bool.not_false, decide_true, decide_false, List.append_nil, Int.reduceLT, Int.reduceLE, Int.reduceNeg, Int.reduceEq, Int.reduceToNat, Nat.reduceLeDiff, $ls,*] $[$l:location]?)
local macro_rules | `(tactic| simp only [cK]) => `(tactic| simp only [cK, OT])
local macro_rules | `(tactic| simp only [kC, $ls,*] $[$l:location]?) => `(tactic| simp only [$ls,*, Et, OT, e_rt, uq, e_if, ur, ut, aV, V_, uv, jP, jQ, aW, e_b, Xs, e_u, e_us, jR, aX, jT, aZ, Xr, uy, jU, jV, jW, ZK, jX, jY, jZ, jb, e_bl, uz, jc, aa, aj, u0, jd, je, jf, WD, Rn, ao, WF, WK, jg, aq, u9, jh, ji, e_sl, u_, vA, au, Xu, e_v, Qb, e_vU, vB, e_k, Tc, Te, Ni, jk, jo, jq, LK, jr, DQ, Jt, e_tr, jt, a_, vD, ju, QX, Ft, Fz, LR, Ts, Kl, List.length_cons, List.length_nil, List.map_cons, List.map_nil, List.cons_append, List.nil_append, List.replicate_succ, List.replicate_zero, List.getElem?_cons_zero, List.getElem?_cons_succ, List.set_cons_zero, List.set_cons_succ, Nat.reduceAdd, Nat.reduceSub, Nat.reduceEqDiff, Nat.zero_add, truB, Bool.not_true, Bool.not_false, decide_true, decide_false, List.append_nil, Int.reduceLT, Int.reduceLE, Int.reduceNeg, Int.reduceEq, Int.reduceToNat, Nat.reduceLeDiff] $[$l:location]?)
local macro_rules | `(tactic| simp only [kiC, $ls,*] $[$l:location]?) => `(tactic| simp only [kC, $ls,*, Gp, Eh, HR, QW, U9, aQ, aR, jN, TY, aU] $[$l:location]?)
local macro_rules | `(tactic| simp only [dK, $ls,*] $[$l:location]?) => `(tactic| simp only [cK, KD, bM, bN, C_, E_, Rr, KH, Tp, Nj, xg, rZ, zj, zm, xj, Mq, Tq, $ls,*] $[$l:location]?)
local macro_rules | `(tactic| simp only [ciK, $ls,*] $[$l:location]?) => `(tactic| simp only [cK, Gp, Eh, HR, QW, U9, aQ, aR, jN, TY, aU, $ls,*] $[$l:location]?)
local macro_rules | `(tactic| simp only [diK, $ls,*] $[$l:location]?) => `(tactic| simp only [dK, Gp, Eh, HR, QW, U9, aQ, aR, jN, TY, aU, $ls,*] $[$l:location]?)
namespace K67
open PySem L2 PV
def tU(O:List Int)(k:Nat):HH [.lst (O.map .int),.int (k:Int)]=O0 (.int (O.getD k 0)):=by
 by_cases h:k<O.length
 .have z:O.getD k 0=O[k]:=by simp[h]
  rw[z];have e:atI (O.map D.int) (k:Int)=O0 (.int O[k]):=by
   rw[xR .(0) (by simpa using h)];simp[h]
  simp[HH,jl,JT,dq,QO,wh,bF,vF,uF,Ce,Sk,U9,h,fy,ixD,e]
 .have z:O.getD k 0=0:=by simp[kG.mp h]
  rw[z];simp[HH,jl,JT,dq,QO,wh,bF,vF,uF,Ce,Sk,U9,h,fy,Si,kF]
def yN(x:Str):(cs x).length=x.length:=by simp[cs,DE]
def m_(L:List D)(x:D)(h:L.length<=1000):ZI (.lst L) x=O0 (.lst (L++[x])):=by
 unfold ZI;show (if L.length<sizeLine then O0 (D.lst (L++[x])) else W1)=_;rw[WH (nI h .(2))]
def Pq(n:Nat)(t:Nat)(h:t<n):Bj [.int (n:Int),.int (t:Int)]=O0 .non:=by
 have J:¬ ((t:Int)<0):=by omega
 have U:¬ ((n:Int)<=t):=by omega
 simp only[ciK,Bj,GK,J,U]
def nA{t:Nat}(h:t∉l):(.inl (t:Int):Key)∉(l.map λ(t:Nat)=>((.inl (t:Int):Key),D.bl O1)).map (·.1):=by
 intro z;rw[cb] at z;obtain⟨u,S,e⟩:=bb.mp z;simp at e;have O:u=t:=by omega
 exact h (O▸S)
theorem Vc(n:Nat)(x L:Slot):∀(r p:List Nat) (z:Slot),(p++r).Nodup->(∀t∈r,t<n)->(p++r).length<=100 ->
  ∃S,MX (TR (Bx 3) Fb) (r.map iN) [.fz (.int (n:Int)),x,.ow (kM p),z]=O0 (.nx [.fz (.int (n:Int)),x,.ow (kM (p++r)),S])
 |[],p,z,_,_,_=>⟨z,by rw[fI];rfl⟩
 |t::r,p,z,J,Y,I=>by
  have O:t∉p:=by
   intro q;rw[f6] at J;exact J.2.2 t q t .(1) rfl
  have Z:=Pq n t (Y t .(1));have W:De (kM p) (.int (t:Int)) (.bl O1)=O0 (kM (p++[t])):=by
   show De (.dk _) _ _=_;rw[xm _ _ _ (by simp at I ⊢;omega),Nl (nA O)];simp[kM]
  have b:Fb [.fz (.int (n:Int)),x,.ow (kM p),.fz (iN t)]=O0 (.nx [.fz (.int (n:Int)),x,.ow (kM (p++[t])),.fz (iN t)]):=by
   simp only[dK,Fb,Z,W]
  obtain⟨S,T⟩:=Vc n x L r (p++[t]) (.fz (iN t)) (by simpa using J) (λu U=>Y u (by simp[U])) (by simpa using I);refine⟨S,?_⟩
  w_up
  rw[b,Fz,T];simp
def tV(n:Nat)(l:List Nat)(I:l.Nodup)(Y:∀t∈l,t<n)(z:l.length<=100):Do [.int (n:Int),lM l]=O0 (kM l):=by
 obtain⟨S,e⟩:=Vc n (.fz (lM l)) .un l [] .un (by simpa using I) Y (by simpa using z);rw[jv] at e;have J:(D.dk [])=kM []:=rfl;simp only[dK,Do,Ji,J,lM,e] at e ⊢
def nC{t:Nat×Nat}{l:List (Nat×Nat)}(h:t∉l):[(.inl (t.1:Int):Key),.inl (t.2:Int)]∉(l.map λ(q:Nat×Nat)=>([(.inl (q.1:Int):Key),.inl (q.2:Int)],D.bl O1)).map (·.1):=by
 intro z;rw[cb] at z;obtain⟨u,S,e⟩:=bb.mp z;simp at e;have O:u=t:=by
  obtain⟨a,b⟩:=u;obtain⟨c,d⟩:=t;simp at e ⊢;omega
 exact h (O▸S)
theorem Ub(n:Nat)(x:Slot):∀(r p:List (Nat×Nat)) (z Y:Slot),(p++r).Nodup->(∀t∈r,t.1<n/\t.2<n)->(p++r).length<=100 ->
  ∃S J,MX (TR (NM 2 (A_ 3 (A_ 4 NN))) GP) (r.map pN) [.fz (.int (n:Int)),x,.ow (kT p),z,Y]=O0 (.nx [.fz (.int (n:Int)),x,.ow (kT (p++r)),S,J])
 |[],p,z,Y,_,_,_=>⟨z,Y,by rw[fI];rfl⟩
 |t::r,p,z,Y,L,O,I=>by
  have U:t∉p:=by
   intro q;rw[f6] at L;exact L.2.2 t q t .(1) rfl
  have e1:=Pq n t.1 (O t .(1)).1;have T:=Pq n t.2 (O t .(1)).2;have e2:Oq (kT p) [.int (t.1:Int),.int (t.2:Int)] (.bl O1)=O0 (kT (p++[t])):=by
   show Oq (.dt _) _ _=_;rw[xn _ _ _ _ (by simp at I ⊢;omega),Nl (nC U)];simp[kT]
  have b:GP [.fz (.int (n:Int)),x,.ow (kT p),.fz (.int (t.1:Int)),.fz (.int (t.2:Int))]=O0 (.nx [.fz (.int (n:Int)),x,.ow (kT (p++[t])),.fz (.int (t.1:Int)),.fz (.int (t.2:Int))]):=by
   simp only[dK,GP,e1,T,e2]
  obtain⟨S,J,W⟩:=Ub n x r (p++[t]) (.fz (.int (t.1:Int))) (.fz (.int (t.2:Int))) (by simpa using L) (λu Z=>O u (by simp[Z])) (by simpa using I);refine⟨S,J,?_⟩;rw[ba,Ft,Ts,Mq,Kl];simp only[i7,i8];rw[b,Fz,W];simp
def nD(n:Nat)(l:List (Nat×Nat))(I:l.Nodup)(Y:∀t∈l,t.1<n/\t.2<n)(z:l.length<=100):Ek [.int (n:Int),lT l]=O0 (kT l):=by
 obtain⟨S,J,e⟩:=Ub n (.fz (lT l)) l [] .un .un (by simpa using I) Y (by simpa using z);rw[jv] at e;have L:(D.dt [])=kT []:=rfl;simp only[dK,Ek,KZ,L,lT,e] at e ⊢
def yO(c:Nat):inD O2 (.str ⟨#[c]⟩) (.str LET)=O0 (.bl (!(oy LET ⟨#[c]⟩ 0 LET.length 1).isEmpty)):=gn _
def yP:∀c∈cs LET,(!(oy LET ⟨#[c]⟩ 0 LET.length 1).isEmpty)=O1:=by decide +kernel
def tW(h:x∉KEPT):PZ O2 (.str x) UH=O0 (.bl O2):=by
 have e:PZ O2 (.str x) UH=inD O2 (.str x) (.lst (KEPT.map .str)):=rfl;rw[e,rD];have:(KEPT.any λy=>y==x)=O2:=by
  rw[HM];intro y z O;have:=beq_iff_eq.mp O;exact h (this▸z)
 rw[this]
def yQ(x:Str)(h:x.length<=10000000):uj (.str x)=O0 (.int x.length):=zZ x h
theorem cD(h:Wd x):El [.str x]=O0 (.bl O1):=by
 have k:=tW h.kept;have Z:=h.lo;have W:=h.hi;have l:=yQ x .(0);have T:¬ ((x.length:Int)=0):=by omega
 have O:¬ ((8:Int)<x.length):=by omega
 have L:∀l:List Nat,(∀c∈l,c∈cs LET)->Jo [.fz (.str x)] rc HB (l.map λc=>.str ⟨#[c]⟩)=O0 (l.map λ_=>.bl O1):=by
  intro l
  induction l with
  |nil=>intro _;rfl
  |cons c r z=>
   intro Y;have v:HB ([.fz (.str x)]++[.fz (.str ⟨#[c]⟩)])=O0 (.bl O1):=by
    have e:PZ O2 (.str ⟨#[c]⟩) (.str LET)=O0 (.bl O1):=by
     show inD O2 (.str ⟨#[c]⟩) (.str LET)=_;rw[yO,yP c (Y c .(1))]
    have J:(dL "abcdefghijklmnopqrstuvwxyz")=LET:=rfl;simp only[cK,HB,J,e]
   rw[ba,J8,jk,v,z λd I=>Y d (by simp[I])];rfl
 have S:BW (nq (vF 0)) rc HB [.fz (.str x)]=O0 (.lst ((cs x).map λ_=>.bl O1)):=by
  refine Rm (ds:=(cs x).map λc=>.str ⟨#[c]⟩) (by rfl) (by rw[ay,yN];omega) (L (cs x) h.isL)
 have U:∀l:List Nat,allD (.lst (l.map λ_=>.bl O1))=O0 (.bl O1):=by
  intro l;have q:∀l:List Nat,Rl (l.map λ_=>D.bl O1)=O0 (l.map λ_=>O1):=by
   intro l
   induction l with
   |nil=>rfl
   |cons c r z=>simp[Rl,z]
  show (Rl (l.map λ_=>D.bl O1)).map _=_;rw[q];simp
 simp only[ciK,El,Qo,k,l,T,O,S,U]
def Pu(i j:Int)(h:i<=j):Bb [.int i,.int j]=O0 .non:=by
 have c:¬ (j<i):=by omega
 simp only[ciK,Bb,Im,c]
abbrev fS (n:Nat):Str×Bool×D:=("size",O2,.int (n:Int))
abbrev fM (ms:List (Str×List Nat)):Str×Bool×D:=("marked",O1,.dk (oM ms))
abbrev fT (ts:List (Str×List (Nat×Nat))):Str×Bool×D:=("tied",O1,.dk (oT ts))
def q1:(("marked":Str)=="size")=O2:=by decide +kernel
def q2:(("tied":Str)=="size")=O2:=by decide +kernel
def q3:(("tied":Str)=="marked")=O2:=by decide +kernel
def n1:¬ (("size":Str)="marked"):=by decide +kernel
def n2:¬ (("size":Str)="tied"):=by decide +kernel
def n3:¬ (("marked":Str)="tied"):=by decide +kernel
def lkM(n:Nat)(d e:D):bE ("marked":Str) [fS n,("marked",O1,d),("tied",O1,e)]=O0 (O1,d):=by
 rw[bX,q1];show bE ("marked":Str) [("marked",O1,d),("tied",O1,e)]=_;rw[bX,show (("marked":Str)=="marked")=O1 by decide +kernel]
def lkT(n:Nat)(d e:D):bE ("tied":Str) [fS n,("marked",O1,d),("tied",O1,e)]=O0 (O1,e):=by
 rw[bX,q2];show bE ("tied":Str) [("marked",O1,d),("tied",O1,e)]=_;rw[bX,q3];show bE ("tied":Str) [("tied",O1,e)]=_;rw[bX,show (("tied":Str)=="tied")=O1 by decide +kernel]
def rpM(n:Nat)(d e d':D):OZ "marked" d' [fS n,("marked",O1,d),("tied",O1,e)]=[fS n,("marked",O1,d'),("tied",O1,e)]:=by
 unfold OZ OZ;rw[ZH n1,WH rfl]
def rpT(n:Nat)(d e O:D):OZ "tied" O [fS n,("marked",O1,d),("tied",O1,e)]=[fS n,("marked",O1,d),("tied",O1,O)]:=by
 unfold OZ OZ OZ;rw[ZH n2,ZH n3,WH rfl]
def JF{I:Type}{w:Str}(f:I->D){l:List (Str×I)}(h:w∉l.map (·.1)):(.inr w:Key)∉(l.map λp=>((.inr p.1:Key),f p.2)).map (·.1):=by
 intro z;rw[cb] at z;obtain⟨u,S,e⟩:=bb.mp z;simp at e;exact h (bb.mpr ⟨u,S,e⟩)
theorem Uc(n:Nat)(hn:n<=5)(x:Addr)(a b:D)(e:D)(z:Slot):∀(r p:List (Str×List Nat)) (S O:Slot),((p++r).map (·.1)).Nodup->(∀q∈r,Wd q.1/\q.2.Nodup/\q.2.length<=100/\∀t∈q.2,t<n)->(p++r).length<=3->(∀d,S≠.ow d)->(∀d,O≠.ow d)->(∀d,z≠.ow d) ->
  ∃J I,(∀d,J≠.ow d)/\(∀d,I≠.ow d)/\JQ (NM 2 (A_ 4 (A_ 5 NN))) CW (r.map λq=>.tup [.str q.1,lM q.2]) [.fz (.adr x),.fz (.int (n:Int)),.fz a,.fz b,S,O,z] [fS n,fM p,("tied",O1,e)]=O0 ([.fz (.adr x),.fz (.int (n:Int)),.fz a,.fz b,J,I,z],[fS n,fM (p++r),("tied",O1,e)])
 |[],p,S,O,_,_,_,Z,W,_=>⟨S,O,Z,W,by rw[fI];rfl⟩
 |t::r,p,S,O,T,Y,L,Z,W,U=>by
  obtain⟨w,l⟩:=t;obtain⟨hw,l1,l2,l3⟩:=Y (w,l) .(1);have nt:w∉p.map (·.1):=by
   intro q;rw[dP,f6] at T;exact T.2.2 w q w .(1) rfl
  have e1:=cD hw;have e2:=tV n l l1 l3 l2;have e3:De (.dk (oM p)) (.str w) (kM l)=O0 (.dk (oM (p++[(w,l)]))):=by
   rw[Nk _ _ _ (by simp[oM] at L ⊢;omega)];have:(.inr w:Key)∉(oM p).map (·.1):=JF kM nt;rw[Nl this];simp[oM]
  have b0:CW [.fz (.adr x),.fz (.int (n:Int)),.fz a,.fz b,.fz (.str w),.fz (lM l),z] [fS n,fM p,("tied",O1,e)]=O0 ([.fz (.adr x),.fz (.int (n:Int)),.fz a,.fz b,.fz (.str w),.fz (lM l),z],[fS n,fM (p++[(w,l)]),("tied",O1,e)]):=by
   have t0:ifE (Ti (Pd (XW (An (El) (Aa (vF 4) (am)))))) [.fz (.adr x),.fz (.int (n:Int)),.fz a,.fz b,.fz (.str w),.fz (lM l),z] [fS n,fM p,("tied",O1,e)]=O0 ([.fz (.adr x),.fz (.int (n:Int)),.fz a,.fz b,.fz (.str w),.fz (lM l),z],[fS n,fM p,("tied",O1,e)]):=by
    have:Pd (XW (An (El) (Aa (vF 4) (am)))) [.fz (.adr x),.fz (.int (n:Int)),.fz a,.fz b,.fz (.str w),.fz (lM l),z]=O0 O2:=by simp only[cK,e1]
    unfold ifE Ti;rw[this]
   have t1:RJ "marked" (vF 4) (An (Do) (Aa (vF 1) (Aa (vF 5) (am)))) [.fz (.adr x),.fz (.int (n:Int)),.fz a,.fz b,.fz (.str w),.fz (lM l),z] [fS n,fM p,("tied",O1,e)]=O0 ([.fz (.adr x),.fz (.int (n:Int)),.fz a,.fz b,.fz (.str w),.fz (lM l),z],[fS n,fM (p++[(w,l)]),("tied",O1,e)]):=by
    have v1:An (Do) (Aa (vF 1) (Aa (vF 5) (am))) [.fz (.adr x),.fz (.int (n:Int)),.fz a,.fz b,.fz (.str w),.fz (lM l),z]=O0 (kM l):=by simp only[cK,e2]
    have v2:vF 4 [.fz (.adr x),.fz (.int (n:Int)),.fz a,.fz b,.fz (.str w),.fz (lM l),z]=O0 (.str w):=rfl;unfold RJ;rw[v1,v2];show (match bE ("marked":Str) [fS n,fM p,("tied",O1,e)] with | some (O1,d)=>(De d (.str w) (kM l)).map λd'=>(_,OZ "marked" d' [fS n,fM p,("tied",O1,e)]) | _=>W1)=_;rw[lkM];show (De (.dk (oM p)) (.str w) (kM l)).map _=_;rw[e3];show O0 (_,OZ "marked" _ [fS n,fM p,("tied",O1,e)])=_;rw[rpM]
   unfold CW;rw[Dw,t0,Cm,t1]
  obtain⟨J,I,g4,g5,ih⟩:=Uc n hn x a b e z r (p++[(w,l)]) (.fz (.str w)) (.fz (lM l)) (by simpa using T) (λu hu=>Y u (by simp[hu])) (by simpa using L) (λd=>by simp) (λd=>by simp) U;refine⟨J,I,g4,g5,?_⟩;rw[ba];unfold JQ;rw[Mq];have no:Pe [.fz (.adr x),.fz (.int (n:Int)),.fz a,.fz b,.fz (.str w),.fz (lM l),z]=O1:=by
   unfold Pe;cases z with
   |ow d=>exact NI rfl (U d)
   |un=>rfl
   |fz d=>rfl
  show (if Pe [.fz (.adr x),.fz (.int (n:Int)),.fz a,.fz b,.fz (.str w),.fz (lM l),z]=O1 then (CW [.fz (.adr x),.fz (.int (n:Int)),.fz a,.fz b,.fz (.str w),.fz (lM l),z] _).bind _ else W1)=_;rw[WH no,b0];show JQ _ _ _ _ _=_;rw[ih];simp
theorem Vd(n:Nat)(hn:n<=5)(x:Addr)(a b:D)(I:List (Str×List Nat))(O:Slot)(h5:∀d,O≠.ow d):∀(r p:List (Str×List (Nat×Nat))) (T S:Slot),((p++r).map (·.1)).Nodup->(∀q∈r,Wd q.1/\q.1∉I.map (·.1)/\q.2.Nodup/\q.2.length<=100/\∀t∈q.2,t.1<n/\t.2<n)->(p++r).length<=3->(∀d,T≠.ow d)->(∀d,S≠.ow d) ->
  ∃L J,JQ (NM 2 (A_ 4 (A_ 6 NN))) CZ (r.map λq=>.tup [.str q.1,lT q.2]) [.fz (.adr x),.fz (.int (n:Int)),.fz a,.fz b,T,O,S] [fS n,fM I,fT p]=O0 ([.fz (.adr x),.fz (.int (n:Int)),.fz a,.fz b,L,O,J],[fS n,fM I,fT (p++r)])
 |[],p,T,S,_,_,_,h4,h6=>⟨T,S,by rw[fI];rfl⟩
 |t::r,p,T,S,W,Z,z,h4,h6=>by
  obtain⟨w,l⟩:=t;obtain⟨hw,nm,l1,l2,l3⟩:=Z (w,l) .(1);have nt:w∉p.map (·.1):=by
   intro q;rw[dP,f6] at W;exact W.2.2 w q w .(1) rfl
  have e1:=cD hw;have e2:=nD n l l1 l3 l2;have e3:De (.dk (oT p)) (.str w) (kT l)=O0 (.dk (oT (p++[(w,l)]))):=by
   rw[Nk _ _ _ (by simp[oT] at z ⊢;omega)];have:(.inr w:Key)∉(oT p).map (·.1):=JF kT nt;rw[Nl this];simp[oT]
  have e4:vb (.inr w:Key) (oM I)=W1:=Qi (JF kM nm);have b0:CZ [.fz (.adr x),.fz (.int (n:Int)),.fz a,.fz b,.fz (.str w),O,.fz (lT l)] [fS n,fM I,fT p]=O0 ([.fz (.adr x),.fz (.int (n:Int)),.fz a,.fz b,.fz (.str w),O,.fz (lT l)],[fS n,fM I,fT (p++[(w,l)])]):=by
   have t0:ifE (orTE (Ti (Pd (XW (An (El) (Aa (vF 4) (am)))))) (inTE "marked" (vF 4))) [.fz (.adr x),.fz (.int (n:Int)),.fz a,.fz b,.fz (.str w),O,.fz (lT l)] [fS n,fM I,fT p]=O0 ([.fz (.adr x),.fz (.int (n:Int)),.fz a,.fz b,.fz (.str w),O,.fz (lT l)],[fS n,fM I,fT p]):=by
    have u1:Pd (XW (An (El) (Aa (vF 4) (am)))) [.fz (.adr x),.fz (.int (n:Int)),.fz a,.fz b,.fz (.str w),O,.fz (lT l)]=O0 O2:=by simp only[cK,e1]
    have U:vF 4 [.fz (.adr x),.fz (.int (n:Int)),.fz a,.fz b,.fz (.str w),O,.fz (lT l)]=O0 (.str w):=rfl;have u2:inTE "marked" (vF 4) [.fz (.adr x),.fz (.int (n:Int)),.fz a,.fz b,.fz (.str w),O,.fz (lT l)] [fS n,fM I,fT p]=O0 O2:=by
     unfold inTE;rw[U];show (match bE ("marked":Str) [fS n,fM I,fT p] with | some (O1,.dk Y)=>(Re (.str w)).map λq=>(vb q Y).isSome | _=>W1)=_;rw[lkM];show O0 ((vb (.inr w:Key) (oM I)).isSome)=_;rw[e4];rfl
    unfold ifE orTE Ti;rw[u1];show (match inTE "marked" (vF 4) _ _ with | some O2=>O0 _ | _=>W1)=_;rw[u2]
   have t1:RJ "tied" (vF 4) (An (Ek) (Aa (vF 1) (Aa (vF 6) (am)))) [.fz (.adr x),.fz (.int (n:Int)),.fz a,.fz b,.fz (.str w),O,.fz (lT l)] [fS n,fM I,fT p]=O0 ([.fz (.adr x),.fz (.int (n:Int)),.fz a,.fz b,.fz (.str w),O,.fz (lT l)],[fS n,fM I,fT (p++[(w,l)])]):=by
    have v1:An (Ek) (Aa (vF 1) (Aa (vF 6) (am))) [.fz (.adr x),.fz (.int (n:Int)),.fz a,.fz b,.fz (.str w),O,.fz (lT l)]=O0 (kT l):=by simp only[cK,e2]
    have U:vF 4 [.fz (.adr x),.fz (.int (n:Int)),.fz a,.fz b,.fz (.str w),O,.fz (lT l)]=O0 (.str w):=rfl;unfold RJ;rw[v1,U];show (match bE ("tied":Str) [fS n,fM I,fT p] with | some (O1,d)=>(De d (.str w) (kT l)).map λd'=>(_,OZ "tied" d' [fS n,fM I,fT p]) | _=>W1)=_;rw[lkT];show (De (.dk (oT p)) (.str w) (kT l)).map _=_;rw[e3];show O0 (_,OZ "tied" _ [fS n,fM I,fT p])=_;rw[rpT]
   unfold CZ;rw[Dw,t0,Cm,t1]
  obtain⟨L,J,ih⟩:=Vd n hn x a b I O h5 r (p++[(w,l)]) (.fz (.str w)) (.fz (lT l)) (by simpa using W) (λu hu=>Z u (by simp[hu])) (by simpa using z) (λd=>by simp) (λd=>by simp);refine⟨L,J,?_⟩;rw[ba];unfold JQ;have tg:NM 2 (A_ 4 (A_ 6 NN)) (.tup [.str w,lT l]) [.fz (.adr x),.fz (.int (n:Int)),.fz a,.fz b,T,O,S]=O0 [.fz (.adr x),.fz (.int (n:Int)),.fz a,.fz b,.fz (.str w),O,.fz (lT l)]:=by rw[Mq];rfl
  rw[tg];have no:Pe [.fz (.adr x),.fz (.int (n:Int)),.fz a,.fz b,.fz (.str w),O,.fz (lT l)]=O1:=by
   unfold Pe;cases O with
   |ow d=>exact NI rfl (h5 d)
   |un=>rfl
   |fz d=>rfl
  show (if Pe [.fz (.adr x),.fz (.int (n:Int)),.fz a,.fz b,.fz (.str w),O,.fz (lT l)]=O1 then (CZ [.fz (.adr x),.fz (.int (n:Int)),.fz a,.fz b,.fz (.str w),O,.fz (lT l)] _).bind _ else W1)=_;rw[WH no,b0];show JQ _ _ _ _ _=_;rw[ih];simp
def cF(W:Wl)(h:lu W)(x:Addr):CN x [.int (W.n:Int),.dk (eM W.ms),.dk (eT W.ts)]=O0 [fS W.n,fM W.ms,fT W.ts]:=by
 have L:(W.ms.map (·.1)).Nodup:=(f6.mp h.nd).1;have J:(W.ts.map (·.1)).Nodup:=(f6.mp h.nd).2.1;obtain⟨S,O,g4,g5,m⟩:=Uc W.n h.n5 x (.dk (eM W.ms)) (.dk (eT W.ts)) (.dk []) .un W.ms [] .un .un (by simpa using L) (λq U=>⟨h.mw q U,h.ml q U⟩) (by simpa using h.m3) (λd=>by simp) (λd=>by simp) (λd=>by simp);obtain⟨Y,T,t⟩:=Vd W.n h.n5 x (.dk (eM W.ms)) (.dk (eT W.ts)) W.ms O g5 W.ts [] S .un (by simpa using J) (λq U=>⟨h.tw q U,λz=>(f6.mp h.nd).2.2 q.1 z q.1 (bb.mpr ⟨q,U,rfl⟩) rfl,h.tl q U⟩) (by simpa using h.t3) g4 (λd=>by simp);rw[jv] at m t;change JQ _ _ _ _ [fS W.n,fM [],fT []]=O0 (_,[fS W.n,fM W.ms,fT []]) at m;have r1:=Pu (W.n:Int) 5 (by have:=h.n5;omega);have r2:=Pu ((eM W.ms).length:Int) 3 (by have:=h.m3;simp[eM];omega);have r3:=Pu ((eT W.ts).length:Int) 3 (by have:=h.t3;simp[eT];omega);have I:Pe [.fz (.adr x),.fz (.int (W.n:Int)),.fz (.dk (eM W.ms)),.fz (.dk (eT W.ts)),.un,.un,.un]=O1:=rfl;have p1:OQ (Gi (An (Bb) (Aa (vF 1) (Aa (kF (.int 5)) (am))))) [.fz (.adr x),.fz (.int (W.n:Int)),.fz (.dk (eM W.ms)),.fz (.dk (eT W.ts)),.un,.un,.un] []=O0 ([.fz (.adr x),.fz (.int (W.n:Int)),.fz (.dk (eM W.ms)),.fz (.dk (eT W.ts)),.un,.un,.un],[]):=Rt (by simp only[cK,r1]) I;have p2:OQ (Gi (An (Bb) (Aa (uF uj (vF 2)) (Aa (kF (.int 3)) (am))))) [.fz (.adr x),.fz (.int (W.n:Int)),.fz (.dk (eM W.ms)),.fz (.dk (eT W.ts)),.un,.un,.un] []=O0 ([.fz (.adr x),.fz (.int (W.n:Int)),.fz (.dk (eM W.ms)),.fz (.dk (eT W.ts)),.un,.un,.un],[]):=Rt (by simp only[dK,r2]) I;have p3:OQ (Gi (An (Bb) (Aa (uF uj (vF 3)) (Aa (kF (.int 3)) (am))))) [.fz (.adr x),.fz (.int (W.n:Int)),.fz (.dk (eM W.ms)),.fz (.dk (eT W.ts)),.un,.un,.un] []=O0 ([.fz (.adr x),.fz (.int (W.n:Int)),.fz (.dk (eM W.ms)),.fz (.dk (eT W.ts)),.un,.un,.un],[]):=Rt (by simp only[dK,r3]) I;have s1:Gj "size" (vF 1) [.fz (.adr x),.fz (.int (W.n:Int)),.fz (.dk (eM W.ms)),.fz (.dk (eT W.ts)),.un,.un,.un] []=O0 ([.fz (.adr x),.fz (.int (W.n:Int)),.fz (.dk (eM W.ms)),.fz (.dk (eT W.ts)),.un,.un,.un],[fS W.n]):=rfl;have s2:Ld "marked" (kF (.dk [])) [.fz (.adr x),.fz (.int (W.n:Int)),.fz (.dk (eM W.ms)),.fz (.dk (eT W.ts)),.un,.un,.un] [fS W.n]=O0 ([.fz (.adr x),.fz (.int (W.n:Int)),.fz (.dk (eM W.ms)),.fz (.dk (eT W.ts)),.un,.un,.un],[fS W.n,fM []]):=by
  have l:bE ("marked":Str) [fS W.n]=W1:=by
   rw[bX,q1];rfl
  unfold Ld;show (if (bE ("marked":Str) [fS W.n]).isNone=O1/\[fS W.n].length<1000 then O0 (_,[fS W.n]++[(("marked":Str),O1,D.dk [])]) else W1)=_;rw[l,WH ⟨rfl,(by show 1<1000;decide)⟩];rfl
 have s3:Ld "tied" (kF (.dk [])) [.fz (.adr x),.fz (.int (W.n:Int)),.fz (.dk (eM W.ms)),.fz (.dk (eT W.ts)),.un,.un,.un] [fS W.n,fM []]=O0 ([.fz (.adr x),.fz (.int (W.n:Int)),.fz (.dk (eM W.ms)),.fz (.dk (eT W.ts)),.un,.un,.un],[fS W.n,fM [],fT []]):=by
  have l:bE ("tied":Str) [fS W.n,fM []]=W1:=by
   rw[bX,q2];show bE ("tied":Str) [fM []]=W1;rw[bX,q3];rfl
  unfold Ld;show (if (bE ("tied":Str) [fS W.n,fM []]).isNone=O1/\[fS W.n,fM []].length<1000 then O0 (_,[fS W.n,fM []]++[(("tied":Str),O1,D.dk [])]) else W1)=_;rw[l,WH ⟨rfl,(by show 2<1000;decide)⟩];rfl
 have i1:Qd (vF 2) [.fz (.adr x),.fz (.int (W.n:Int)),.fz (.dk (eM W.ms)),.fz (.dk (eT W.ts)),.un,.un,.un]=O0 (W.ms.map λq=>.tup [.str q.1,lM q.2]):=by
  show O0 ((eM W.ms).map λp=>D.tup [UU p.1,p.2])=_;simp only[eM,cb,eW,Tq]
 have i2:Qd (vF 3) [.fz (.adr x),.fz (.int (W.n:Int)),.fz (.dk (eM W.ms)),.fz (.dk (eT W.ts)),S,O,.un]=O0 (W.ts.map λq=>.tup [.str q.1,lT q.2]):=by
  show O0 ((eT W.ts).map λp=>D.tup [UU p.1,p.2])=_;simp only[eT,cb,eW,Tq]
 have Z:Le 7 x [.int (W.n:Int),.dk (eM W.ms),.dk (eT W.ts)]=[.fz (.adr x),.fz (.int (W.n:Int)),.fz (.dk (eM W.ms)),.fz (.dk (eT W.ts)),.un,.un,.un]:=rfl;unfold CN SY;rw[WH (show [D.int (W.n:Int),.dk (eM W.ms),.dk (eT W.ts)].length+1=4 from rfl),Z];unfold Gr;rw[Dw,p1,Cm,Dw,p2,Cm,Dw,p3,Cm,Dw,s1,Cm,Dw,s2,Cm,Dw,s3,Cm,Dw,lA i1,m,Cm,Dw,lA i2,t,Cm,ZX];rfl
def vQ(W:Wl)(h:lu W)(fs:FA)(ρ:Rho)(z:fs ρ=O0 [.int (W.n:Int),.dk (eM W.ms),.dk (eT W.ts)]):mkI "World" CN fs ρ=O0 (fc W):=by
 unfold mkI;rw[z];simp only[dn,cF W h 0];rw[WH (λx=>cF W h x)];rfl
def Mw(f:Nat->Bool)(h:Nat->D)(z:FI)(hs:z ρ=O0 (Na n))(S:n<=1000)(h1:∀k,k<n->ga (ρ++[.fz (.int k)])=O0 (f k))(O:∀k,k<n->fe (ρ++[.fz (.int k)])=O0 (h k)):BW z ga fe ρ=O0 (.lst (((bg n).filter f).map h)):=by
 have c:∀l:List Nat,(∀k∈l,k<n)->Jo ρ ga fe (l.map λ(k:Nat)=>D.int k)=O0 ((l.filter f).map h):=by
  intro l
  induction l with
  |nil=>intro _;rfl
  |cons k r I=>
   intro Y;rw[ba,J8,h1 k (Y k .(1)),O k (Y k .(1)),I λd L=>Y d (by simp[L]),MC];cases f k<;>rfl
 exact Rm hs (by rw[LQ];omega) (c (bg n) λk J=>d4.mp J)
def fP{l:List Str}(J:l.Nodup){i j:Nat}(I:i<l.length)(U:j<l.length)(e:l[i]=l[j]):i=j:=by
 have h:=vj.mp J
 rcases B4 i j with z | z | z
 .exact NI e (h i j I U z)
 .exact z
 .exact NI e.symm (h j i U I z)
def JG(n:Nat)(f:Nat->Bool):((bg n).filter f).Nodup:=FR MD ya
def Wv(n:Nat)(I:n<=100)(ρ:Rho)(i:Nat)(h:ρ[i]?=O0 (.fz (.int (n:Int)))):NV (vF i) ρ=O0 (Na n):=by
 have z:=Td (n:Int) .(0);simp only[Tc,e_v,h,Qb,z,gg]
def QH{k:Nat}(h:k<ws.length):kc (.lst (ws.map .str)) (.int (k:Int))=O0 (.str ws[k]):=by
 show atI (ws.map D.str) (k:Int)=_;rw[WL,ca];simp[h]
theorem Ud{I:Type}(f:I->D)(w:Str):∀(l:List (Str×I)),vb (.inr w:Key) (l.map λp=>((.inr p.1:Key),f p.2))=(l.find? (λp=>p.1=w)).map λp=>f p.2
 |[]=>rfl
 |p::r=>by
  rw[ba,rl];show (if (.inr p.1:Key)=.inr w then O0 (f p.2) else vb (.inr w:Key) (r.map λp=>((.inr p.1:Key),f p.2)))=_
  by_cases h:p.1=w
  .simp[h]
  .have:¬ ((.inr p.1:Key)=.inr w):=λz=>h (BO z);rw[ZH this,Ud f w r];simp[h]
def Q3(W:Wl):fx "size" (fc W)=O0 (.int (W.n:Int)):=by
 show bE ("size":Str) _=_;rfl
theorem Ue(W:Wl):fx "marked" (fc W)=O0 (.dk (oM W.ms)):=by
 show bE ("marked":Str) [(("size":Str),D.int (W.n:Int)),("marked",.dk (oM W.ms)),("tied",.dk (oT W.ts))]=_;simp only[bE,q1];rfl
theorem Zq(W:Wl):fx "tied" (fc W)=O0 (.dk (oT W.ts)):=by
 show bE ("tied":Str) [(("size":Str),D.int (W.n:Int)),("marked",.dk (oM W.ms)),("tied",.dk (oT W.ts))]=_;simp only[bE,q2,q3];rfl
def cG(x:Nat)(l:List Nat):PZ O2 (.int (x:Int)) (lM l)=O0 (.bl (l.any λt=>decide (t=x))):=by
 have h:∀I:List Nat,OS (I.map iN)=O0 (I.map λ(t:Nat)=>V.int t):=λI=>by
  induction I with
  |nil=>rfl
  |cons y r L=>simp[OS,UX,L]
 show ((UX (.int (x:Int))).bind λv=>(OS (l.map iN)).map λJ=>D.bl (Yf v J))=_;rw[h];show O0 (D.bl (Yf (.int (x:Int)) (l.map λ(t:Nat)=>V.int t)))=_;have e:∀t:Nat,To (.int (t:Int)) (.int (x:Int))=decide (t=x):=λt=>by
  by_cases z:t=x
  .subst z;simp[To]
  .have:¬ ((t:Int)=(x:Int)):=by omega
   simp[To,z,this]
 simp only[Yf,EE,eW,e]
def Ug(x y:Nat)(l:List (Nat×Nat)):PZ O2 (.tup [.int (x:Int),.int (y:Int)]) (lT l)=O0 (.bl (l.any λq=>decide (q.1=x)&&decide (q.2=y))):=by
 have k:∀q:Nat×Nat,Ps 62 (pN q) (.tup [.int (x:Int),.int (y:Int)])=O0 (decide (q.1=x)&&decide (q.2=y)):=λq=>by
  have e:∀a b:Nat,Ps 61 (.int (a:Int)) (.int (b:Int))=O0 (decide (a=b)):=λa b=>by
   show O0 (To (.int (a:Int)) (.int (b:Int)))=_
   by_cases z:a=b
   .subst z;simp[To]
   .have:¬ ((a:Int)=(b:Int)):=by omega
    simp[To,z,this]
  show (if 2=2 then NX (Ps 61) [.int (q.1:Int),.int (q.2:Int)] [.int (x:Int),.int (y:Int)] else W1)=_;rw[WH rfl];simp only[NX,e];cases decide (q.1=x)<;>cases decide (q.2=y)<;>rfl
 have L:(l.map pN).all (SS (.tup [.int (x:Int),.int (y:Int)]))=O1:=by
  rw[eS];intro d I;obtain⟨q,_,rfl⟩:=bb.mp I;unfold SS;rw[k q];rfl
 have J:(l.map pN).any (Oy (.tup [.int (x:Int),.int (y:Int)]))=l.any λq=>decide (q.1=x)&&decide (q.2=y):=by
  rw[EE];congr 1;funext q;show Oy _ (pN q)=_;unfold Oy;rw[k q]
 show (if (l.map pN).all (SS (.tup [.int (x:Int),.int (y:Int)]))=O1 then O0 (D.bl ((l.map pN).any (Oy (.tup [.int (x:Int),.int (y:Int)])))) else W1)=_;rw[WH L,J]
def AAH(x:Nat)(l:List Nat):PZ O2 (.int (x:Int)) (kM l)=O0 (.bl (l.any λt=>decide (t=x))):=by
 have h:∀l:List Nat,(vb (.inl (x:Int):Key) (l.map λ(t:Nat)=>((.inl (t:Int):Key),D.bl O1))).isSome=l.any λt=>decide (t=x):=λl=>by
  induction l with
  |nil=>rfl
  |cons t r I=>
   rw[ba,rj,<-I];show (if (.inl (t:Int):Key)=.inl (x:Int) then _ else _:Option D).isSome=_
   by_cases z:t=x
   .subst z;simp
   .have:¬ ((.inl (t:Int):Key)=.inl (x:Int)):=λq=>z (by have:=w9 q;omega);rw[ZH this];simp[z]
 show PZ O2 (.int (x:Int)) (.dk _)=_;rw[bN];simp only[dQ,WI,h]
def En{z:Type}(l:List z)(e g:z->D)(hs:src ρ=O0 (l.map e))(L:l.length<=1000)(h:∀x∈l,fe (ρ++[.fz (e x)])=O0 (g x)):BW src rc fe ρ=O0 (.lst (l.map g)):=by
 have c:∀l:List z,(∀x∈l,fe (ρ++[.fz (e x)])=O0 (g x))->Jo ρ rc fe (l.map e)=O0 (l.map g):=by
  intro l
  induction l with
  |nil=>intro _;rfl
  |cons x r I=>
   intro Y;rw[ba,J8,Y x .(1),I λd J=>Y d (by simp[J])];rfl
 exact Rm hs (by rw[ay];omega) (c l h)
def Ww(z:List Nat)(t:Nat)(h:t<z.length):kc (lN z) (.int (t:Int))=O0 (iN (z.getD t 0)):=by
 show atI (z.map iN) (t:Int)=_;rw[WL,ca];simp[h]
def nF{z:Type}(f:z->D){l:List (Str×z)}(h:(l.map (·.1)).Nodup):((l.map λp=>((.inr p.1:Key),f p.2)).map (·.1)).Nodup:=by
 unfold lS at h ⊢;rw[iA] at h;rw[cb,iA];exact h.imp λO e=>O (BO e)
def at_M(W:Wl)(h:lu W){p:Str×List Nat}(z:p∈W.ms):kc (.dk (eM W.ms)) (.str p.1)=O0 (lM p.2):=by
 rw[KD];exact WY (nF lM (f6.mp h.nd).1) (bb.mpr ⟨p,z,rfl⟩)
def at_T(W:Wl)(h:lu W){p:Str×List (Nat×Nat)}(z:p∈W.ts):kc (.dk (eT W.ts)) (.str p.1)=O0 (lT p.2):=by
 rw[KD];exact WY (nF lT (f6.mp h.nd).2.1) (bb.mpr ⟨p,z,rfl⟩)
def cH(k:List (Key×D)):QY (.dk k)=O0 (.lst (k.map λp=>UU p.1)):=gn _
def in_i(t:Nat)(l:List Nat):PZ O2 (iN t) (.lst (l.map iN))=O0 (.bl (decide (t∈l))):=by
 have:=cG t l;unfold lM at this;rw[this];congr 2;rw[kg];simp
def in_p(t:Nat×Nat)(l:List (Nat×Nat)):PZ O2 (pN t) (.lst (l.map pN))=O0 (.bl (decide (t∈l))):=by
 have:=Ug t.1 t.2 l;unfold lT at this;rw[this];congr 2;rw[kg];simp
theorem Ye:∀{l m:List Nat},l.Nodup->(∀x∈l,x∈m)->l.length<=m.length
 |[],_,_,_=>eK _
 |x::r,m,h,hs=>by
  obtain⟨L,J⟩:=lI.mp h;have I:x∈m:=hs x da;have:=Ye (l:=r) (m:=m.erase x) J λy z=>(AV (λe=>by subst e;exact L z)).mpr (hs y (ck _ z));rw[AW I] at this;have O:0<m.length:=ve I;simp;omega
def N8{J:Type}{l:List J}(L:l.Nodup){i j:Nat}(I:i<l.length)(U:j<l.length)(e:l[i]=l[j]):i=j:=by
 have h:=vj.mp L
 rcases B4 i j with z | z | z
 .exact NI e (h i j I U z)
 .exact z
 .exact NI e.symm (h j i U I z)
def Wx(z:l.Nodup)(h:∀t∈l,t<n):l.length<=n:=by
 have:=Ye z λt O=>d4.mpr (h t O);simpa using this
def nG{l:List (Nat×Nat)}(S:l.Nodup)(h:∀q∈l,q.1<n/\q.2<n):l.length<=n*n:=by
 have e:(l.map λq=>q.1*n+q.2).Nodup:=by
  unfold lS;rw[iA];refine qf (λ{a b} Z Y O e=>O ?_) S;have J:=h a Z;have I:=h b Y;have L:(a.1*n+a.2)/n=a.1:=by rw[BE,ME .(0),MG J.2];omega
  have d2:(b.1*n+b.2)/n=b.1:=by rw[BE,ME .(0),MG I.2];omega
  have z:(a.1*n+a.2)%n=a.2:=by rw[BE,MH,MI J.2]
  have T:(b.1*n+b.2)%n=b.2:=by rw[BE,MH,MI I.2]
  have e':a.1*n+a.2=b.1*n+b.2:=e;rw[e'] at L z;exact rd (L.symm.trans d2) (z.symm.trans T)
 have:=Wx (n:=n*n) e λt U=>by
  obtain⟨q,W,rfl⟩:=bb.mp U;have:=h q W
  calc q.1*n+q.2<q.1*n+n:=by omega
   _=(q.1+1)*n:=by rw[Nat.add_mul,Nat.one_mul]
   _<=n*n:=Nat.mul_le_mul_right _ .(0)
 simpa using this
def Q4(W:Wl)(h:lu W)(L:List (Str×List Nat))(J:List (Str×List (Nat×Nat)))(T:(L.map (·.1)).Perm (W.ms.map (·.1)))(S:(J.map (·.1)).Perm (W.ts.map (·.1)))(O:∀p∈L,p.2.Nodup/\∀t∈p.2,t<W.n)(I:∀p∈J,p.2.Nodup/\∀q∈p.2,q.1<W.n/\q.2<W.n):lu ⟨W.n,L,J⟩:=by
 refine⟨h.n5,?_,?_,λp z=>?_,λp z=>?_,?_,λp z=>⟨(O p z).1,?_,(O p z).2⟩,λp z=>⟨(I p z).1,?_,(I p z).2⟩⟩
 .have:=T.length_eq;simp at this;have:=h.m3;show L.length<=3;omega
 .have:=S.length_eq;simp at this;have:=h.t3;show J.length<=3;omega
 .obtain⟨q,U,e⟩:=bb.mp (T.mem_iff.mp (bb.mpr ⟨p,z,rfl⟩));rw[<-e];exact h.mw q U
 .obtain⟨q,U,e⟩:=bb.mp (S.mem_iff.mp (bb.mpr ⟨p,z,rfl⟩));rw[<-e];exact h.tw q U
 .exact ((T.append S).nodup_iff).mpr h.nd
 .have:=Wx (O p z).1 (O p z).2;have:=h.n5;omega
 .have:=nG (I p z).1 (I p z).2;have Y:=h.n5;have:W.n*W.n<=25:=Nat.mul_le_mul Y Y;omega
def Uh{z:List Nat}(h:z.Perm (bg n)){s t:Nat}(hs:s<n)(O:t<n)(e:z.getD s 0=z.getD t 0):s=t:=by
 have Y:z.length=n:=by have:=h.length_eq;simpa using this
 have I:z.Nodup:=h.nodup_iff.mpr ya;rw[qo,qo,db .(0),db .(0)] at e;exact N8 I _ _ e
def Wy{z:List Nat}(h:z.Perm (bg n)){s:Nat}(hs:s<n):z.getD s 0<n:=by
 have Y:z.length=n:=by have:=h.length_eq;simpa using this
 rw[qo,db .(0)];exact d4.mp (h.mem_iff.mp (gu .(0)))
def AAL(x y:Nat)(l:List (Nat×Nat)):inTO (O0 [.int (x:Int),.int (y:Int)]) (O0 (kT l))=O0 (.bl (l.any λq=>decide (q.1=x)&&decide (q.2=y))):=by
 have h:∀l:List (Nat×Nat),(vb [(.inl (x:Int):Key),.inl (y:Int)] (l.map λ(q:Nat×Nat)=>([(.inl (q.1:Int):Key),.inl (q.2:Int)],D.bl O1))).isSome=l.any λq=>decide (q.1=x)&&decide (q.2=y):=λl=>by
  induction l with
  |nil=>rfl
  |cons t r I=>
   rw[ba,rj,<-I];show (if [(.inl (t.1:Int):Key),.inl (t.2:Int)]=[.inl (x:Int),.inl (y:Int)] then _ else _:Option D).isSome=_
   by_cases z:t.1=x/\t.2=y
   .obtain⟨Z,Y⟩:=z;subst Z Y;simp
   .have:¬ ([(.inl (t.1:Int):Key),.inl (t.2:Int)]=[.inl (x:Int),.inl (y:Int)]):=λq=>by
     simp only[zv,Sum.inl.injEq,and_true] at q;exact z ⟨by omega,by omega⟩
    rw[ZH this];have:(decide (t.1=x)&&decide (t.2=y))=O2:=by
     rw[Bool.and_eq_false_iff]
     by_cases Z:t.1=x
     .right;exact OI λY=>z ⟨Z,Y⟩
     .left;exact OI Z
    rw[this,IL]
 have e:inTO (O0 [.int (x:Int),.int (y:Int)]) (O0 (kT l))=O0 (.bl ((vb [(.inl (x:Int):Key),.inl (y:Int)] (l.map λ(q:Nat×Nat)=>([(.inl (q.1:Int):Key),.inl (q.2:Int)],D.bl O1))).isSome)):=by
  unfold kT inTO;simp only[dn];rw[WH (Oi (by show 2<=10000000;decide))];rfl
 rw[e,h]
def AAP(fs:FA)(z:FE)(ρ:Rho):inTF fs z ρ=inTO (fs ρ) (z ρ):=gn _
def Yg(I:List (Str×List Nat)):(oM I).map (λp=>UU p.1)=(I.map (·.1)).map .str:=by simp[oM,Tq]
def Yh(z:List (Str×List (Nat×Nat))):(oT z).map (λp=>UU p.1)=(z.map (·.1)).map .str:=by simp[oT,Tq]
def nH{k:List (Key×D)}{z:List Str}(h:k.map (λp=>UU p.1)=z.map .str)(I:z.Nodup)(Y:z.length<=60):sdkD (.dk k)=O0 (.lst ((Fx z).map .str)):=by
 show sdkL k=_;unfold sdkL;rw[h,eE,dn,WH ⟨I,Y⟩]
def cI(i:Nat)(l:List Nat):(l.any λt=>decide (t=i))=decide (i∈l):=by
 rw[kg];simp
def Ui(i j:Nat)(l:List (Nat×Nat)):(l.any λq=>decide (q.1=i)&&decide (q.2=j))=decide ((i,j)∈l):=by
 rw[kg];simp
def R1{z:Type}{w:Str}{l:List (Str×z)}(h:w∈l.map (·.1)):∃q,q∈l/\l.find? (λp=>p.1=w)=O0 q:=by
 obtain⟨p,I,e⟩:=bb.mp h;cases q:l.find? (λp=>p.1=w) with
 |none=>exact NI (by simpa using e) (by simpa using Fn.mp q p I)
 |some x=>exact⟨x,B7 q,rfl⟩
def vR(W:Wl){w:Str}(h:w∈mw W)(i:Nat):∃d,kc (.dk (oM W.ms)) (.str w)=O0 d/\PZ O2 (.int (i:Int)) d=O0 (.bl (mk W w i)):=by
 obtain⟨q,_,e⟩:=R1 h;refine⟨kM q.2,?_,?_⟩
 .rw[KD];unfold oM;rw[Ud kM w,e];rfl
 .rw[AAH,cI,mk,e]
def vV(W:Wl){w:Str}(h:w∈tw W)(i j:Nat):∃d,kc (.dk (oT W.ts)) (.str w)=O0 d/\inTO (O0 [.int (i:Int),.int (j:Int)]) (O0 d)=O0 (.bl (tk W w i j)):=by
 obtain⟨q,_,e⟩:=R1 h;refine⟨kT q.2,?_,?_⟩
 .rw[KD];unfold oT;rw[Ud kT w,e];rfl
 .rw[AAL,Ui,tk,e]
def vW(W:Wl){w:Str}(h:w∈mw W)(i:Nat):∃d,kc (.dk (eM W.ms)) (.str w)=O0 d/\PZ O2 (.int (i:Int)) d=O0 (.bl (mk W w i)):=by
 obtain⟨q,_,e⟩:=R1 h;refine⟨lM q.2,?_,?_⟩
 .rw[KD];unfold eM;rw[Ud lM w,e];rfl
 .rw[cG,cI,mk,e]
def vX(W:Wl){w:Str}(h:w∈tw W)(i j:Nat):∃d,kc (.dk (eT W.ts)) (.str w)=O0 d/\PZ O2 (.tup [.int (i:Int),.int (j:Int)]) d=O0 (.bl (tk W w i j))/\PZ O2 (.tup [.int (j:Int),.int (i:Int)]) d=O0 (.bl (tk W w j i)):=by
 obtain⟨q,_,e⟩:=R1 h;refine⟨lT q.2,?_,?_,?_⟩
 .rw[KD];unfold eT;rw[Ud lT w,e];rfl
 .rw[Ug,Ui,tk,e]
 .rw[Ug,Ui,tk,e]
theorem MN{I:Type}{tg:FG}{b:FS}(L:PV.Slot->Rho)(e:I->D)(P:I->Bool)(r:D)(O:∀d z,tg d (L z)=O0 (L (.fz d))):∀(l:List I) (z:PV.Slot),(∀x∈l,b (L (.fz (e x)))=O0 (if P x=O1 then .nx (L (.fz (e x))) else .rt r (L (.fz (e x))))) ->
  ∃S,MX (TR tg b) (l.map e) (L z)=O0 (if l.all P=O1 then .nx (L S) else .rt r (L S))
 |[],z,_=>⟨z,rfl⟩
 |x::l,z,h=>by
  rw[ba,Ft,Ts,O,Kl,h x .(1),tz];cases U:P x with
  |false=>exact⟨_,rfl⟩
  |true=>
   obtain⟨S,J⟩:=MN L e P r O l (.fz (e x)) λy T=>h y (by simp[T]);exact⟨S,by rw[WH rfl,Fz,J,so]⟩
def Ve(a b:Bool):MY O1 (.bl a) (.bl b)=O0 (.bl (!(a==b))):=by cases a<;>cases b<;>rfl
structure Sp (W V:Wl):Prop where
 mm:∀w∈mw W,w∈mw V
 tt:∀w∈tw W,w∈tw V
def ixp0(q:Pr):kc (pN q) (.int 0)=O0 (.int (q.1:Int)):=rfl
def ixp1(q:Pr):kc (pN q) (.int 1)=O0 (.int (q.2:Int)):=rfl
theorem tX(W V:Wl)(h:Sp W V)(q:Pr):Ff [fc W,fc V,pN q]=O0 (.bl (O5 W V q)):=by
 have I:=Ue W;have T:=Ue V;have O:=ixp0 q;have L:=ixp1 q;have n1:=Yg W.ms;obtain⟨Y,e⟩:=MN (tg:=Bx 3) (b:=GR) (λz=>[.fz (fc W),.fz (fc V),.fz (pN q),z]) D.str (λw=>mk W w q.1==mk V w q.2) (.bl O2) (λd z=>rfl) (mw W) .un λw J=>by
  obtain⟨d1,U,S⟩:=vR W J q.1;obtain⟨Z,b1,b2⟩:=vR V (h.mm w J) q.2;simp only[cK,GR,I,T,O,L,U,S,b1,b2,Ve];cases (mk W w q.1==mk V w q.2)<;>rfl
 have q1:Lf (O0 (D.dk (oM W.ms)))=O0 ((mw W).map .str):=by rw[KH,n1]
 simp only[cK,Ff,Ha,C_,I,q1,e];show _=O0 (D.bl ((mw W).all λw=>mk W w q.1==mk V w q.2));cases (mw W).all (λw=>mk W w q.1==mk V w q.2)<;>rfl
theorem Wz(W V:Wl)(h:Sp W V)(p q:Pr):Cg [fc W,fc V,pN p,pN q]=O0 (.bl (Jv W V p q)):=by
 have I:=Zq W;have T:=Zq V;have U:=ixp0 p;have S:=ixp1 p;have O:=ixp0 q;have L:=ixp1 q;have n1:=Yh W.ts;obtain⟨z',e⟩:=MN (tg:=Bx 4) (b:=GX) (λz=>[.fz (fc W),.fz (fc V),.fz (pN p),.fz (pN q),z]) D.str (λw=>tk W w p.1 q.1==tk V w p.2 q.2) (.bl O2) (λd z=>rfl) (tw W) .un λw J=>by
  obtain⟨d1,Z,Y⟩:=vV W J p.1 q.1;obtain⟨d2,b1,b2⟩:=vV V (h.tt w J) p.2 q.2;simp only[cK,GX,AAP,I,T,U,S,O,L,Z,Y,b1,b2,Ve];cases (tk W w p.1 q.1==tk V w p.2 q.2)<;>rfl
 have q1:Lf (O0 (D.dk (oT W.ts)))=O0 ((tw W).map .str):=by rw[KH,n1]
 simp only[cK,Cg,Hh,C_,I,q1,e];show _=O0 (D.bl ((tw W).all λw=>tk W w p.1 q.1==tk V w p.2 q.2));cases (tw W).all (λw=>tk W w p.1 q.1==tk V w p.2 q.2)<;>rfl
def W0(a b:Nat):decide ((a:Int)=(b:Int))=decide (a=b):=by
 by_cases z:a=b
 .subst z;simp
 .rw[OI z,OI .(0)]
def AAQ(W V:Wl)(h:Sp W V)(p q:Pr):G4 [fc W,fc V,pN p,pN q]=O0 (.bl (goB W V p q)):=by
 have I:=ixp0 p;have z:=ixp1 p;have O:=ixp0 q;have T:=ixp1 q;have L:=Wz W V h p q;have Z:=Wz W V h q p;simp only[ciK,G4,Jj,I,z,O,T,W0,Ve];unfold goB;cases J:(decide (p.1=q.1)==decide (p.2=q.2)) with
 |false=>rfl
 |true=>
  simp only[cK,L,Z];cases Jv W V p q with
  |false=>rfl
  |true=>simp only[cK,Z,so]
def nJ{z:Type}(f:z->Bool)(l:List z):allD (.lst (l.map λx=>.bl (f x)))=O0 (.bl (l.all f)):=by
 show (Rl _).map _=_;rw[bO];simp[eW]
def mzO(c m:Str)(g:List D->Option D)(o:Option D)(ds:Option (List D)):Option D:=o.bind λo=>if CT c m o=O1 then ds.bind λds=>g (o::ds) else W1
def Eo(c m:Str)(g:List D->Option D)(z:FE)(fs:FA)(ρ:Rho):DR c m g z fs ρ=mzO c m g (z ρ) (fs ρ):=gn _
def Yi{o:D}(h:CT c m o=O1):mzO c m g (O0 o) (O0 ds)=g (o::ds):=by
 show (if CT c m o=O1 then _ else _)=_;rw[WH h];rfl
def vY(W:Wl):CT "World" "mark_words" (fc W)=O1:=rfl
def vZ(W:Wl):CT "World" "tie_words" (fc W)=O1:=rfl
def Vf{l m:List Str}(h:l.Perm m):Fx l=Fx m:=ZL (Ol l) (Ol m) λx=>by rw[Mj,Mj,h.mem_iff]
structure Spk (W V:Wl):Prop where
 mm:(mw V).Perm (mw W)
 tt:(tw V).Perm (tw W)
def Spk.sp{W V:Wl}(h:Spk W V):Sp W V:=⟨λw z=>h.mm.mem_iff.mpr z,λw z=>h.tt.mem_iff.mpr z⟩
def Px(a b:Nat):MY O2 (.int (a:Int)) (.int (b:Int))=O0 (.bl (decide (a=b))):=by rw[TY,W0]
def nM(l:List Pr):uj (.lst (l.map pN))=O0 (.int (l.length:Int)):=by
 show Sk (.lst (l.map pN))=_;rw[az,ay]
def vd(a:Nat):gtD (.int (a:Int)) (.int 0)=O0 (.bl (decide (0<a))):=by
 rw[aQ];congr 2
 by_cases z:0<a
 .rw[QI z,QI .(0)]
 .rw[OI z,OI .(0)]
def cJ(I:List Str):MY O1 (.lst (I.map .str)) (.lst (I.map .str))=O0 (.bl O2):=by
 have h:∀I:List Str,NX (Ps 180) (I.map .str) (I.map .str)=O0 O1:=λI=>by
  induction I with
  |nil=>rfl
  |cons z r J=>
   show (match Ps 180 (.str z) (.str z),NX (Ps 180) (r.map .str) (r.map .str) with | some a,O0 b=>O0 (a&&b) | _,_=>W1)=_;rw[J];have:Ps 180 (.str z) (.str z)=O0 O1:=by show O0 (To (.str z) (.str z))=_;simp[To]
   rw[this];rfl
 unfold MY;have:Tl (.lst (I.map .str)) (.lst (I.map .str))=O0 O1:=by
  show (if (I.map D.str).length=(I.map D.str).length then NX (Ps 180) (I.map .str) (I.map .str) else O0 O2)=_;rw[WH rfl,h]
 rw[this];rfl
def Vg(W:Wl)(h:lu W):Ca [fc W]=O0 (.lst ((Fx (mw W)).map .str))/\Cr [fc W]=O0 (.lst ((Fx (tw W)).map .str)):=by
 have z:=f6.mp h.nd;have T:=h.m3;have O:=h.t3;have I:=nH (Yg W.ms) z.1 (by simp;omega);have S:=nH (Yh W.ts) z.2.1 (by simp;omega);have J:=Ue W;have L:=Zq W;constructor
 .simp only[cK,Ca,Fl,J,I]
 .simp only[cK,Cr,GQ,L,S]
def fQ(W V:Wl)(h:lu W)(O:lu V)(hs:Spk W V):Dm [fc W,fc V]=O0 .non:=by
 obtain⟨Y,U⟩:=Vg W h;obtain⟨b1,b2⟩:=Vg V O;rw[Vf hs.mm] at b1;rw[Vf hs.tt] at b2;have L:=vY W;have J:=vY V;have I:=vZ W;have z:=vZ V;have T:=cJ (Fx (mw W));have S:=cJ (Fx (tw W));simp only[cK,Dm,HX,Eo,Yi L,Yi J,Yi I,Yi z,Y,U,b1,b2,T,S]
def tY{z L:Type}(f:z->L)(l:List z)(I J:Option Int):OP (l.map f) I J=(OP l I J).map f:=by
 unfold OP;rw[ay,vn,Bn]
def yR(xs:List Nat):MY O1 (.lst (xs.map iN)) (.lst [])=O0 (.bl (decide (xs≠[]))):=by
 cases xs with
 |nil=>rfl
 |cons x r=>
  show (Tl (.lst _) (.lst _)).map _=_;have:Tl (.lst ((x::r).map iN)) (.lst [])=O0 O2:=by
   show (if ((x::r).map iN).length=([]:List D).length then NX (Ps 180) ((x::r).map iN) [] else O0 O2)=O0 O2;exact ZH .(1)
  rw[this];rfl
def Ie{z:Type}(xs:List z)(j:Nat)(h:j<xs.length):(xs[j]::xs.eraseIdx j).Perm xs:=by
 rw[ML];have e:xs.take j++xs[j]::xs.drop (j+1)=xs:=by rw[<-uk h,B6]
 exact (LN.symm).trans (by rw[e])
def yS(n:Nat)(h:n<=100):X7 (.int (n:Int))=O0 (lN (bg n)):=by
 show (if 0<=(n:Int)/\(n:Int)<=1000000 then O0 (D.lst (Na (n:Int).toNat)) else W1)=_;rw[WH ⟨by omega,by omega⟩,gg];rfl
def W2(I:List (Str×List Nat)):(eM I).map (λp=>UU p.1)=(I.map (·.1)).map .str:=by simp[eM,Tq]
def W3(z:List (Str×List (Nat×Nat))):(eT z).map (λp=>UU p.1)=(z.map (·.1)).map .str:=by simp[eT,Tq]
def ixw0(W:Wl):kc (wd W) (.int 0)=O0 (.int (W.n:Int)):=rfl
def ixw1(W:Wl):kc (wd W) (.int 1)=O0 (.dk (eM W.ms)):=rfl
def ixw2(W:Wl):kc (wd W) (.int 2)=O0 (.dk (eT W.ts)):=rfl
def tZ(W V:Wl)(p q:Pr):goB W V p q=goB W V q p:=by
 unfold goB;rw[Bool.and_comm (Jv W V p q),show decide (p.1=q.1)=decide (q.1=p.1) by simp[eq_comm],show decide (p.2=q.2)=decide (q.2=p.2) by simp[eq_comm]]
def nO(W V:Wl)(p:Pr):goB W V p p=Jv W V p p:=by simp[goB]
def R3(W V:Wl)(ps:List Pr):QP W V ps=O1↔∀p∈ps,(O5 W V p=O1/\Jv W V p p=O1)/\∀q∈ps,goB W V p q=O1:=by
 simp only[QP,eS,eD]
def t6(W V:Wl)(ps:List Pr)(q:Pr):VY W V ps q=O1↔(O5 W V q=O1/\Jv W V q q=O1)/\∀p∈ps,goB W V p q=O1:=by
 simp only[VY,eS,eD]
def cL{W V:Wl}{ps qs:List Pr}(h:∀x∈qs,x∈ps)(a:QP W V ps=O1):QP W V qs=O1:=by
 rw[R3] at a ⊢;exact λp z=>⟨(a p (h p z)).1,λq U=>(a p (h p z)).2 q (h q U)⟩
def R4{W V:Wl}{ps:List Pr}{q:Pr}:QP W V (ps++[q])=O1↔QP W V ps=O1/\VY W V ps q=O1:=by
 rw[R3,R3,t6];constructor
 .intro h;refine⟨λp z=>⟨(h p (by simp[z])).1,λr J=>(h p (by simp[z])).2 r (by simp[J])⟩,(h q .(1)).1,λp z=>(h p (by simp[z])).2 q .(1)⟩
 .rintro⟨L,I,T⟩ p z
  rcases dA.mp z with z | z
  .refine⟨(L p z).1,λr J=>?_⟩
   rcases dA.mp J with J | J
   .exact (L p z).2 r J
   .have:r=q:=by simpa using J
    exact this▸T p z
  .have:p=q:=by simpa using z
   subst this;refine⟨I,λr J=>?_⟩
   rcases dA.mp J with J | J
   .rw[tZ];exact T r J
   .have:r=p:=by simpa using J
    rw[this,nO];exact I.2
def t8(W V:Wl):∀(ps:List Pr),((bg ps.length).all λk=>VY W V (ps.take k) (ps.getD k (0,0)))=QP W V ps:=by
 intro ps;rw[kg];have:∀n,n<=ps.length->(((bg n).all λk=>VY W V (ps.take k) (ps.getD k (0,0)))=O1↔QP W V (ps.take n)=O1):=by
  intro n
  induction n with
  |zero=>intro _;simp[QP]
  |succ n z=>
   intro h;rw[DS,List.all_append,eD,z .(0)];have e:ps.take (n+1)=ps.take n++[ps.getD n (0,0)]:=by
    rw[FU,db .(0),qo,db .(0)];rfl
   rw[e,R4];simp
 have h:=this ps.length (aE _);rw[FV] at h;exact h
def OW(W V:Wl)(ps:List Pr):Prop:=∀p∈ps,p.1<W.n/\p.2<V.n
def in5{W V:Wl}(z:lu W)(I:lu V){ps:List Pr}(h:OW W V ps):∀p∈ps,SL p:=λp J=>by
 have:=h p J;have:=z.n5;have:=I.n5;exact⟨by omega,by omega⟩
def Dc{W V:Wl}(z:lu W)(I:lu V){ps:List Pr}(h:OW W V ps)(x:Pr):x∈Ag ps↔x∈ps:=(O4 (in5 z I h)).2 x
def MP{W V:Wl}(z:lu W)(I:lu V){ps:List Pr}(h:OW W V ps):OW W V (Ag ps):=λp J=>h p ((Dc z I h p).mp J)
def Fj{W V:Wl}{ps:List Pr}{q:Pr}(h:OW W V ps)(U:q.1<W.n/\q.2<V.n):OW W V (ps++[q]):=λp z=>by
 rcases dA.mp z with z | z
 .exact h p z
 .have:p=q:=by simpa using z
  exact this▸U
def Py{W V:Wl}(I:lu W)(J:lu V){ps:List Pr}(h:OW W V ps):QP W V (Ag ps)=QP W V ps:=by
 rw[kg];exact⟨cL λx z=>(Dc I J h x).mpr z,cL λx z=>(Dc I J h x).mp z⟩
def nP:∀{l:List Pr},PM l->l.Nodup:=λ{l} h=>by
 have:(l.map RY).Nodup:=FX (λ{a b} h e=>NI h (by rw[e];exact ka _)) h;rw[lS,iA] at this;exact FX (λ{a b} h (e:a=b)=>h (by rw[e])) this
def MT{W V:Wl}(z:lu W)(I:lu V){ps:List Pr}(h:OW W V ps):PM (Ag ps):=(O4 (in5 z I h)).1
def Vh{W V:Wl}(z:lu W)(I:lu V){ps qs:List Pr}(h:OW W V ps)(k:OW W V qs)(e:∀x,x∈ps↔x∈qs):Ag ps=Ag qs:=Wk (MT z I h) (MT z I k) λx=>by rw[Dc z I h,Dc z I k,e]
theorem Yj:∀{l m:List Pr},l.Nodup->(∀x∈l,x∈m)->l.length<=m.length
 |[],_,_,_=>eK _
 |x::l,m,J,h=>by
  have I:=h x .(1);have W:=lI.mp J;have:=Yj (m:=m.erase x) W.2 λy z=>(AV (λe=>W.1 (by rw[<-e];exact z))).mpr (h y (by simp[z]));rw[AW I] at this;have:=ve I;simp only[ci];omega
def fU{W V:Wl}(z:lu W)(I:lu V){ps:List Pr}(h:OW W V ps):(Ag ps).length<=ps.length:=Yj (nP (MT z I h)) λx J=>(Dc z I h x).mp J
def t_{W V:Wl}{ps:List Pr}(I:ps.Nodup)(h:OW W V ps)(a:QP W V ps=O1):ps.length<=W.n:=by
 rw[R3] at a;have z:(ps.map (·.1)).Nodup:=by
  rw[lS,iA];refine qf (λ{x y} L J ne e=>?_) I;have g:=(a x L).2 y J;unfold goB at g;rw[eD] at g;have U:=g.1;rw[QI e] at U;have:x.2=y.2:=by simpa using U
  exact ne (rd e this)
 have:=Wx z λt O=>by
  obtain⟨p,S,rfl⟩:=bb.mp O;exact (h p S).1
 rwa [ay] at this
def CG{t:Nat}{xs:List Nat}:t∈Pp n xs↔t<n/\t∉xs:=by simp[Pp]
def nQ{xs I:List Nat}(h:∀x∈xs,x∈I){t:Nat}(O:t∈Pp n xs)(L:t∈I):(Pp n I).length<(Pp n xs).length:=by
 have e:Pp n I=(Pp n xs).filter λt=>decide (t∉I):=by
  unfold Pp;rw[List.filter_filter];refine List.filter_congr λx _=>?_
  by_cases J:x∈I
  .simp[J]
  .have:x∉xs:=λz=>J (h x z);simp[J,this]
 rw[e];exact List.length_filter_lt_length_iff_exists.mpr ⟨t,O,by simp[L]⟩
def Q5(n:Nat)(xs:List Nat):(Pp n xs).length<=n:=by
 have:=FY (λt=>decide (t∉xs)) (bg n)
 rwa [mN] at this
theorem Q6{W V:Wl}{R I:List Pr->Nat}{ps:List Pr}(h:∀f∈Pp W.n (ps.map (·.1)),∀s∈Pp V.n (ps.map (·.2)),VY W V ps (f,s)=O1->R (Ag (ps++[(f,s)]))=I (Ag (ps++[(f,s)]))):stp W V R ps=stp W V I ps:=by
 have k:∀f∈Pp W.n (ps.map (·.1)),∀s∈Pp V.n (ps.map (·.2)),(if VY W V ps (f,s)=O1 then R (Ag (ps++[(f,s)])) else 0)=(if VY W V ps (f,s)=O1 then I (Ag (ps++[(f,s)])) else 0):=λf z s hs=>by
  split
  .rename_i e;exact h f z s hs e
  .rfl
 unfold stp;simp only;rw[kH (g:=λf=>NW ((Pp V.n (ps.map (·.2))).map λs=>if VY W V ps (f,s)=O1 then I (Ag (ps++[(f,s)])) else 0)) λf z=>by rw[kH λs hs=>k f z s hs],
  kH (l:=Pp V.n (ps.map (·.2))) (g:=λs=>NW ((Pp W.n (ps.map (·.1))).map λf=>if VY W V ps (f,s)=O1 then I (Ag (ps++[(f,s)])) else 0)) λs hs=>by rw[kH λf z=>k f z s hs]]
theorem Pz{W V:Wl}(z:lu W)(I:lu V){ps:List Pr}(h:OW W V ps){f s:Nat}(J:f∈Pp W.n (ps.map (·.1)))(hs:s∈Pp V.n (ps.map (·.2))):(Pp W.n ((Ag (ps++[(f,s)])).map (·.1))).length<(Pp W.n (ps.map (·.1))).length:=by
 have k:=Fj h (q:=(f,s)) ⟨(CG.mp J).1,(CG.mp hs).1⟩;refine nQ (λx L=>?_) J (bb.mpr ⟨(f,s),(Dc z I k _).mpr .(1),rfl⟩);obtain⟨p,O,rfl⟩:=bb.mp L;exact bb.mpr ⟨p,(Dc z I k _).mpr (by simp[O]),rfl⟩
def Ma{W V:Wl}(z:lu W)(I:lu V){ps:List Pr}(h:OW W V ps){f s:Nat}(J:f∈Pp W.n (ps.map (·.1)))(hs:s∈Pp V.n (ps.map (·.2))):OW W V (Ag (ps++[(f,s)])):=MP z I (Fj h ⟨(CG.mp J).1,(CG.mp hs).1⟩)
def uA{W V:Wl}(I:lu W)(J:lu V):∀(u k j:Nat) (ps:List Pr),OW W V ps->(Pp W.n (ps.map (·.1))).length<=u->u<=k->u<=j->rkN W V (k+1) ps=rkN W V (j+1) ps:=by
 intro u
 induction u with
 |zero=>
  intro k j ps h S _ _;refine Q6 λf z=>?_;rw[pj.mp (G0.mp S)] at z;cases z
 |succ u T=>
  intro k j ps h S U Y;refine Q6 λf z s hs _=>?_;obtain⟨L,rfl⟩:=MM (show k≠0 by omega);obtain⟨O,rfl⟩:=MM (show j≠0 by omega);exact T L O _ (Ma I J h z hs) (sk (eP (Pz I J h z hs) S)) .(0) .(0)
theorem W4{W V:Wl}(z:lu W)(I:lu V){ps:List Pr}(h:OW W V ps)(a:QP W V ps=O1):Nw W V ps=stp W V (Nw W V) ps:=by
 have e:Nw W V ps=stp W V (rkN W V 5) ps:=by unfold Nw;rw[WH a];rfl
 rw[e];refine Q6 λf L s hs J=>?_;have U:=Fj h (q:=(f,s)) ⟨(CG.mp L).1,(CG.mp hs).1⟩;have O:QP W V (Ag (ps++[(f,s)]))=O1:=by rw[Py z I U];exact R4.mpr ⟨a,J⟩
 unfold Nw;rw[WH O];refine uA z I 4 4 5 _ (Ma z I h L hs) ?_ .(0) .(0);exact sk (eP (Pz z I h L hs) (d6 (Q5 W.n (ps.map (·.1))) z.n5))
def N7{W V:Wl}{ps:List Pr}(a:QP W V ps=O2):Nw W V ps=0:=by unfold Nw;rw[a];rfl
def Zr{x:Nat}(h:x∈l):x<=NW l:=by
 induction l with
 |nil=>cases h
 |cons y l z=>
  have e:NW (y::l)=max y (NW l):=rfl;rw[e]
  rcases br.mp h with rfl | h
  .omega
  .have:=z h;omega
def W5{m:Nat}(J:0<m)(h:∀x∈l,x<m):NW l<m:=by
 induction l with
 |nil=>exact J
 |cons y l z=>
  have e:NW (y::l)=max y (NW l):=rfl;rw[e];have:=z λx I=>h x (by simp[I]);have:=h y .(1);omega
def W6{e x:Nat}(h:x∈l):l.foldr min e<=x:=by
 induction l with
 |nil=>cases h
 |cons y l z=>
  rw[AU]
  rcases br.mp h with rfl | h
  .omega
  .have:=z h;omega
def nR(l:List Nat)(e:Nat):l.foldr min e<=e:=by
 induction l with
 |nil=>exact aE _
 |cons y l z=>rw[AU];omega
def Yk(l:List Nat)(e:Nat):l.foldr min e=e∨l.foldr min e∈l:=by
 induction l with
 |nil=>exact .inl rfl
 |cons y l z=>
  rw[AU]
  rcases MO y (l.foldr min e) with h | h
  .exact .inr (by rw[Kk h];simp)
  .rw[Kn h]
   rcases z with z | z
   .exact .inl z
   .exact .inr (by simp[z])
def vf{W V:Wl}(z:lu W)(I:lu V){ps:List Pr}(h:OW W V ps):Nw W V ps<=pp W V:=by
 cases a:QP W V ps with
 |false=>rw[N7 a];exact eK _
 |true=>
  rw[W4 z I h a];unfold stp;simp only;exact Nat.min_le_left ..
def yU{m:List Nat}(h:kM l=kM m):l=m:=by
 unfold kM at h;have h:=D.dk.inj h;have:=RI (List.map λx:Key×D=>match x.1 with | .inl i=>i.toNat | _=>0) h;simpa [cb,eW] using this
def yV{l m:List (Nat×Nat)}(h:kT l=kT m):l=m:=by
 unfold kT at h;have h:=D.dt.inj h;have:=RI (List.map λx:List Key×D=>unk1 x.1) h;simpa [cb,eW,unk1] using this
theorem Uj{z J:Type}{f:z->J}(I:∀x y,f x=f y->x=y):∀{l m:List z},l.map f=m.map f->l=m
 |[],[],_=>rfl
 |[],_::_,h=>by cases h
 |_::_,[],h=>by cases h
 |x::l,y::m,h=>by
  rw[ba,ba] at h;obtain⟨O,L⟩:=List.cons.inj h;rw[I x y O,Uj I L]
def cM{W V:Wl}(h:fc W=fc V):W=V:=by
 obtain⟨n,L,J⟩:=W;obtain⟨n',ms',ts'⟩:=V;unfold fc at h;simp only[D.ob.injEq,zv,sM,true_and,and_true,D.int.injEq,D.dk.injEq] at h;obtain⟨h1,O,T⟩:=h;have e1:n=n':=by omega
 have U:L=ms':=Uj (λx y e=>by
  obtain⟨Y,I⟩:=x;obtain⟨z,Z⟩:=y;simp only[sM,MQ] at e;rw[e.1,yU e.2]) O
 have S:J=ts':=Uj (λx y e=>by
  obtain⟨Y,I⟩:=x;obtain⟨z,Z⟩:=y;simp only[sM,MQ] at e;rw[e.1,yV e.2]) T
 rw[e1,U,S]
def AAR(W V:Wl):FF (fc W) (fc V)=FW W V:=by
 have h:∃x:Wl×Wl,fc W=fc x.1/\fc V=fc x.2:=⟨(W,V),rfl,rfl⟩;unfold FF;rw[dif_pos h];have:=F9 h;rw[<-cM this.1,<-cM this.2]
theorem uB(ps:List Pr):(Tb ps).map unk1=ps:=by
 unfold Tb;rw[cb];have:(unk1 ∘ kk)=id:=by funext p;simp[unk1,kk]
 rw[this,List.map_id]
def vg(W V:Wl)(ps:List Pr):FW W V (Tb ps)=(Nw W V ps:Nat):=by unfold FW;rw[uB]
def fw_t(W V:Wl)(h:Sp W V)(ps:List Pr)(Y:ps.length<=1000)(q:Pr):HD [fc W,fc V,.tup (ps.map pN),pN q]=O0 (.bl (VY W V ps q)):=by
 have b1:=tX W V h q;have L:=Wz W V h q q;have z:BW (nq (vF 2)) rc Jk [.fz (fc W),.fz (fc V),.fz (.tup (ps.map pN)),.fz (pN q)]=O0 (.lst (ps.map λp=>.bl (goB W V p q))):=
  En ps pN (λp=>.bl (goB W V p q)) (by simp only[cK,C_,Rr]) Y λp _=>by
   have g:=AAQ W V h p q;simp only[cK,Jk,g]
 have I:=nJ (λp=>goB W V p q) ps;unfold VY;simp only[cK,HD,Lj,b1];cases O5 W V q with
 |false=>simp only[cK,Cc]
 |true=>
  simp only[cK,L];cases Jv W V q q with
  |false=>simp only[cK,so,Cc]
  |true=>simp only[cK,z,I,so]
def nU{J:Type}(l:List J)(I z g:J->D)(hs:src ρ=O0 (l.map λx=>.tup [I x,z x]))(S:l.length<=1000)(h:∀x∈l,fe (ρ++[.fz (I x),.fz (z x)])=O0 (g x)):YB src rc fe ρ=O0 (.lst (l.map g)):=by
 have c:∀l:List J,(∀x∈l,fe (ρ++[.fz (I x),.fz (z x)])=O0 (g x))->Ep bd2 ρ rc fe (l.map λx=>.tup [I x,z x])=O0 (l.map g):=by
  intro l
  induction l with
  |nil=>intro _;rfl
  |cons x r L=>
   intro Y;rw[ba];show (fe (ρ++[PV.Slot.fz (I x),PV.Slot.fz (z x)])).bind (λy=>(Ep bd2 ρ rc fe (r.map λx=>.tup [I x,z x])).map (y::·))=_;rw[Y x .(1),L λd O=>Y d (by simp[O])];rfl
 unfold YB Ib;rw[hs];show (if (l.map λx=>D.tup [I x,z x]).length<=sizeLine then (Ep bd2 ρ rc fe (l.map λx=>D.tup [I x,z x])).map D.lst else W1)=_;rw[WH (Oi (by rw[ay];omega)),c l h];rfl
theorem nY:∀(ps:List Pr) (i:Nat),enD i (ps.map pN)=(bg ps.length).map λk=>D.tup [.int ((i+k:Nat):Int),pN (ps.getD k (0,0))]
 |[],i=>rfl
 |p::r,i=>by
  rw[ba,ci,JI,ba,cb];show D.tup [.int (i:Int),pN p]::enD (i+1) (r.map pN)=_;rw[nY r (i+1)];congr 1;refine kH λk _=>?_;simp only[eW,List.getD_cons_succ];rw[show i+1+k=i+(k+1) by omega]
def sl_t(ds:List D)(k:Nat)(h:k<ds.length):slD (.tup ds) W1 (O0 (k:Int))=O0 (.tup (ds.take k)):=by
 show (if HT.sIx ds.length 0 W1=0/\HT.sIx ds.length ds.length (O0 (k:Int))=ds.length then W1 else O0 (D.tup (OP ds W1 (O0 (k:Int)))))=_;rw[ZH (by rw[HT.qG];omega),jL]
def sl_l(ds:List D)(k:Nat):slD (.lst ds) W1 (O0 (k:Int))=O0 (.lst (ds.take k)):=by
 show O0 (D.lst (OP ds W1 (O0 (k:Int))))=_;rw[jL]
def AAS(f:FE)(ρ:Rho)(ds:List D)(h:f ρ=O0 (.tup ds)):enIT f ρ=O0 (enD 0 ds):=by unfold enIT;rw[h]
def af_t(W V:Wl)(h:Sp W V)(ps:List Pr)(Y:ps.length<=1000):Hz [fc W,fc V,.tup (ps.map pN)]=O0 (.bl (QP W V ps)):=by
 have J:YB (enIT (vF 2)) rc Ln [.fz (fc W),.fz (fc V),.fz (.tup (ps.map pN))]=O0 (.lst ((bg ps.length).map λk=>.bl (VY W V (ps.take k) (ps.getD k (0,0))))):=
  nU (bg ps.length) (λk=>.int ((0+k:Nat):Int)) (λk=>pN (ps.getD k (0,0))) _ (by rw[AAS _ _ (ps.map pN) rfl,nY]) (by simpa using Y) λk I=>by
   have f:=fw_t W V h (ps.take k) (by rw[ic];omega) (ps.getD k (0,0));have s:=sl_t (ps.map pN) k (by rw[ay];exact d4.mp I);rw[mP];rw[<-vn] at s;simp only[cK,Ln,s,f]
 have z:=nJ (λk=>VY W V (ps.take k) (ps.getD k (0,0))) (bg ps.length);rw[t8] at z;simp only[cK,Hz,Qp,J,z]
def AAT(t:Nat)(l:List Nat):PZ O1 (.int (t:Int)) (.lst (l.map iN))=O0 (.bl (decide (t∉l))):=by
 have h:∀z:List Nat,OS (z.map iN)=O0 (z.map λ(t:Nat)=>V.int t):=λz=>by
  induction z with
  |nil=>rfl
  |cons y r J=>simp[OS,UX,J]
 have i:=in_i t l;change ((UX (.int (t:Int))).bind λv=>(OS (l.map iN)).map λI=>D.bl (Yf v I))=_ at i;show ((UX (.int (t:Int))).bind λv=>(OS (l.map iN)).map λI=>D.bl (!Yf v I))=_;rw[h] at i ⊢;have i:O0 (D.bl (Yf (.int (t:Int)) (l.map λ(t:Nat)=>V.int t)))=O0 (D.bl (decide (t∈l))):=i;show O0 (D.bl (!Yf (.int (t:Int)) (l.map λ(t:Nat)=>V.int t)))=_;injection i with i
 injection i with i
 rw[i];simp
def nZ(n:Nat)(z:n<=100)(xs:List Nat):Io [.int (n:Int),.lst (xs.map iN)]=O0 (.lst ((Pp n xs).map iN)):=by
 have J:BW (NV (vF 0)) Ka Kc [.fz (.int (n:Int)),.fz (.lst (xs.map iN))]=O0 (.lst ((Pp n xs).map iN)):=
  Mw (λt=>decide (t∉xs)) iN (NV (vF 0)) (Wv n z _ 0 rfl) .(0) (λk I=>by
   have s:=AAT k xs;simp only[cK,Ka,s]) (λk I=>by simp only[cK,Kc])
 simp only[cK,Io,Nr,J]
def Uk(l:List Nat):Fp (l.map iN)=O0 (l.map λ(t:Nat)=>(t:Int)):=by
 induction l with
 |nil=>rfl
 |cons y r z=>
  show (Fp (r.map iN)).map (_::·)=_;rw[z];rfl
theorem ni(f:Nat->Int):∀k,(∃i,i<=k/\Ya f k=f i)/\∀i,i<=k->f i<=Ya f k
 |0=>⟨⟨0,aE _,rfl⟩,λi I=>by rw[G0.mp I];exact BF _⟩
 |k+1=>by
  obtain⟨⟨i,I,e⟩,h⟩:=ni f k;have u:Ya f (k+1)=if f (k+1) > Ya f k then f (k+1) else Ya f k:=rfl
  rw[u];split
  .rename_i c;refine⟨⟨k+1,aE _,rfl⟩,λj U=>?_⟩
   rcases xD k j with z | z
   .have:j=k+1:=by omega
    rw[this];exact BF _
   .have:=h j z;omega
  .rename_i c;refine⟨⟨i,by omega,e⟩,λj U=>?_⟩
   rcases xD k j with z | z
   .have:j=k+1:=by omega
    rw[this];omega
   .exact h j z
theorem nu(f:Nat->Int):∀k,(∃i,i<=k/\mnN f k=f i)/\∀i,i<=k->mnN f k<=f i
 |0=>⟨⟨0,aE _,rfl⟩,λi I=>by rw[G0.mp I];exact BF _⟩
 |k+1=>by
  obtain⟨⟨i,I,e⟩,h⟩:=nu f k;have u:mnN f (k+1)=if f (k+1)<mnN f k then f (k+1) else mnN f k:=rfl
  rw[u];split
  .rename_i c;refine⟨⟨k+1,aE _,rfl⟩,λj U=>?_⟩
   rcases xD k j with z | z
   .have:j=k+1:=by omega
    rw[this];exact BF _
   .have:=h j z;omega
  .rename_i c;refine⟨⟨i,by omega,e⟩,λj U=>?_⟩
   rcases xD k j with z | z
   .have:j=k+1:=by omega
    rw[this];omega
   .exact h j z
def Q7(l:List Nat)(i:Nat)(h:i<l.length):(l.map λ(t:Nat)=>(t:Int)).getD i 0=(l[i]:Int):=by
 rw[qo,ca,db h];rfl
theorem n6(l:List Nat):aG (.lst (l.map iN)) (.int 0)=O0 (.int ((NW l:Nat):Int)):=by
 show (Fp (l.map iN)).map _=_;rw[Uk];show O0 (if (l.map λ(t:Nat)=>(t:Int))=[] then D.int 0 else .int (Ya (λi=>(l.map λ(t:Nat)=>(t:Int)).getD i 0) ((l.map λ(t:Nat)=>(t:Int)).length-1)))=_;cases l with
 |nil=>rfl
 |cons x r=>
  rw[ZH .(1)];congr 2;have ⟨⟨i,hi,e⟩,h⟩:=ni (λi=>((x::r).map λ(t:Nat)=>(t:Int)).getD i 0) (((x::r).map λ(t:Nat)=>(t:Int)).length-1);rw[ay,ci] at hi e h;have W:i<(x::r).length:=by rw[ci];omega
  rw[ay,ci,e];show ((x::r).map λ(t:Nat)=>(t:Int)).getD i 0=_;rw[Q7 _ _ W];have S:=Zr (gu W);have L:NW (x::r)<=(x::r)[i]:=by
   have:NW (x::r)<(x::r)[i]+1:=W5 .(0) λy I=>by
    obtain⟨j,U,J⟩:=si.mp I;have z:=h j (by rw[ci] at U;omega);rw[e] at z;change ((x::r).map λ(t:Nat)=>(t:Int)).getD j 0<=((x::r).map λ(t:Nat)=>(t:Int)).getD i 0 at z;rw[Q7 _ _ W,Q7 _ _ U,J] at z;omega
   omega
  omega
theorem yW(l:List Nat)(e:Nat):∃m:Nat,cA (.lst (l.map iN)) (.int (e:Int))=O0 (.int (m:Int))/\min e (1+m)=min e (1+l.foldr min e):=by
 have u:cA (.lst (l.map iN)) (.int (e:Int))=O0 (if (l.map λ(t:Nat)=>(t:Int))=[] then D.int (e:Int) else .int (mnN (λi=>(l.map λ(t:Nat)=>(t:Int)).getD i 0) ((l.map λ(t:Nat)=>(t:Int)).length-1))):=by
  show (Fp (l.map iN)).map _=_;rw[Uk];rfl
 rw[u];cases l with
 |nil=>exact⟨e,rfl,rfl⟩
 |cons x r=>
  rw[ZH .(1)];have ⟨⟨i,hi,ee⟩,h⟩:=nu (λi=>((x::r).map λ(t:Nat)=>(t:Int)).getD i 0) (((x::r).map λ(t:Nat)=>(t:Int)).length-1);rw[ay,ci] at hi ee h;have W:i<(x::r).length:=by rw[ci];omega
  refine⟨(x::r)[i],?_,?_⟩
  .rw[ay,ci,ee];show O0 (D.int (((x::r).map λ(t:Nat)=>(t:Int)).getD i 0))=_;rw[Q7 _ _ W]
  .have S:=W6 (e:=e) (gu W);have L:=nR (x::r) e
   rcases Yk (x::r) e with z | z
   .rw[z] at S ⊢;omega
   .obtain⟨j,U,J⟩:=si.mp z;have I:=h j (by rw[ci] at U;omega);rw[ee] at I;change ((x::r).map λ(t:Nat)=>(t:Int)).getD i 0<=((x::r).map λ(t:Nat)=>(t:Int)).getD j 0 at I;rw[Q7 _ _ W,Q7 _ _ U,J] at I;omega
def ui(W V:Wl):D:=.ob "Ranks" [("one",fc W),("other",fc V),("reckoned",.mem (FW W V)),("endless",.int (pp W V:Nat))]
def u1:(("other":Str)=="one")=O2:=by decide +kernel
def u2:(("reckoned":Str)=="one")=O2:=by decide +kernel
def u3:(("reckoned":Str)=="other")=O2:=by decide +kernel
def u4:(("endless":Str)=="one")=O2:=by decide +kernel
def u5:(("endless":Str)=="other")=O2:=by decide +kernel
def u6:(("endless":Str)=="reckoned")=O2:=by decide +kernel
def cP(W V:Wl):fx "one" (ui W V)=O0 (fc W):=by
 show bE ("one":Str) _=_;rfl
def R5(W V:Wl):fx "other" (ui W V)=O0 (fc V):=by
 show bE ("other":Str) [(("one":Str),fc W),("other",fc V),("reckoned",.mem (FW W V)),("endless",.int (pp W V:Nat))]=_;simp only[bE,u1];rfl
def n8(W V:Wl):fx "reckoned" (ui W V)=O0 (.mem (FW W V)):=by
 show bE ("reckoned":Str) [(("one":Str),fc W),("other",fc V),("reckoned",.mem (FW W V)),("endless",.int (pp W V:Nat))]=_;simp only[bE,u2,u3];rfl
def n_(W V:Wl):fx "endless" (ui W V)=O0 (.int (pp W V:Nat)):=by
 show bE ("endless":Str) [(("one":Str),fc W),("other",fc V),("reckoned",.mem (FW W V)),("endless",.int (pp W V:Nat))]=_;simp only[bE,u4,u5,u6];rfl
def P0{W V:Wl}(h:CT "Ranks" m (ui W V)=O1):mzO "Ranks" m g (O0 (ui W V)) (O0 ds)=g (ui W V::ds):=Yi h
def ob1(W V:Wl):CT "Ranks" "rank_of_fitting" (ui W V)=O1:=rfl
def ob2(W V:Wl):CT "Ranks" "rank_with" (ui W V)=O1:=rfl
def ob3(W V:Wl):CT "Ranks" "best_rank" (ui W V)=O1:=rfl
def ob4(W V:Wl):CT "Ranks" "least_rank" (ui W V)=O1:=rfl
def ob5(W V:Wl):CT "Ranks" "rank_of" (ui W V)=O1:=rfl
def ob6(W V:Wl):CT "Ranks" "told_rank" (ui W V)=O1:=rfl
def AAV{p:Pr}(h:SL p):prD (pN p)=O0 p:=by
 obtain⟨a,b⟩:=p;obtain⟨I,z⟩:=h;show (if 0<=(a:Int)/\(a:Int)<5/\0<=(b:Int)/\(b:Int)<5 then O0 ((a:Int).toNat,(b:Int).toNat) else W1)=_;have I:a<5:=I;have z:b<5:=z;rw[WH .(0),gg,gg]
def Zt{ps:List Pr}(h:∀p∈ps,SL p):Sf (ps.map pN)=O0 ps:=by
 induction ps with
 |nil=>rfl
 |cons p r z=>
  show (prD (pN p)).bind (λp=>(Sf (r.map pN)).map (p::·))=_;rw[AAV (h p .(1)),z λq U=>h q (by simp[U])];rfl
def oA{ps:List Pr}(h:∀p∈ps,SL p)(Y:ps.length<=5):Sl (.tup (ps.map pN))=O0 ps:=by
 show (Sf (ps.map pN)).bind (λps=>if ps.length<=5 then O0 ps else W1)=_;rw[Zt h];show (if ps.length<=5 then O0 ps else W1)=_;rw[WH Y]
def yX{ps:List Pr}(h:∀p∈ps,SL p)(Y:ps.length<=17):tssD (.lst (ps.map pN))=O0 (.tup ((Ag ps).map pN)):=by
 show (Sf (ps.map pN)).bind (λps=>if ps.length<=17 then O0 (D.tup ((Ag ps).map prT)) else W1)=_;rw[Zt h];show (if ps.length<=17 then O0 (D.tup ((Ag ps).map prT)) else W1)=_;rw[WH Y]
def yZ{ps:List Pr}(h:∀p∈ps,SL p)(Y:ps.length<=17)(z:ps.Nodup):tslD (.tup (ps.map pN))=O0 (.tup ((Ag ps).map pN)):=by
 show (Sf (ps.map pN)).bind (λps=>if ps.length<=17/\ps.Nodup then O0 (D.tup ((Ag ps).map prT)) else W1)=_;rw[Zt h];show (if ps.length<=17/\ps.Nodup then O0 (D.tup ((Ag ps).map prT)) else W1)=_;rw[WH ⟨Y,z⟩]
def yc(ps:List Pr)(q:Pr)(Y:ps.length<=100):catU (.tup (ps.map pN)) (.tup [pN q])=O0 (.tup ((ps++[q]).map pN)):=by
 show (if [pN q]≠[]/\(ps.map pN).length+[pN q].length<=1000 then O0 (D.tup (ps.map pN++[pN q])) else W1)=_;rw[WH ⟨by simp,by simp;omega⟩,dP];rfl
def ye{z:FE}{ps:List Pr}{v:Int}(h1:uF (fx f) (vF i) ρ=O0 (.mem F))(J:(vF j ρ).bind Sl=O0 ps)(T:z ρ=O0 (.int v))(I:v=F (Tb ps)):memR i f j z ρ=O0 (.rt (.int v) ρ):=by
 unfold memR;rw[h1,J,T];exact WH I
def uC{fr:FE}{ps:List Pr}(h1:uF (fx f) (vF i) ρ=O0 (.mem F))(z:(vF j ρ).bind Sl=O0 ps)(T:ft ρ=O0 O1):memB i f j ft c m fr ρ=fy fr ρ:=by
 unfold memB;rw[h1,z,T]
def uD{fr:FE}{ps:List Pr}(h1:uF (fx f) (vF i) ρ=O0 (.mem F))(I:(vF j ρ).bind Sl=O0 ps)(T:ft ρ=O0 O2)(z:F (Tb ps)=0)(S:(vF i ρ).map (CT c m)=O0 O1):memB i f j ft c m fr ρ=O0 (.rt (.int 0) ρ):=by
 unfold memB;rw[h1,I,T];exact WH ⟨z,S⟩
abbrev Se (W V:Wl) (ps:List Pr) (q:Pr):Nat:=if VY W V ps q=O1 then Nw W V (Ag (ps++[q])) else 0
section
theorem uE{W V:Wl}(L:lu W)(O:lu V)(h:Sp W V){g:List D->Option D}{ps:List Pr}{q:Pr}(S:OW W V ps)(I:ps.Nodup)(hl:ps.length<=5)(U:q.1<W.n/\q.2<V.n)(Z:q∉ps)(T:VY W V ps q=O1->g [ui W V,.tup ((Ag (ps++[q])).map pN)]=O0 (.int (Nw W V (Ag (ps++[q])):Nat))):Bk g [ui W V,.tup (ps.map pN),pN q]=O0 (.int (Se W V ps q:Nat)):=by
 have f:=fw_t W V h ps .(0) q;have a1:=cP W V;have Y:=R5 W V;simp only[cK,Bk,GZ,a1,Y,f];cases e:VY W V ps q with
 |false=>
  simp only[cK,Se,e];rfl
 |true=>
  have c:=yc ps q .(0);have t:=yZ (in5 L O (Fj S U)) (by simp;omega) (f6.mpr ⟨I,by simp,λx J y z e=>Z (by simp at z;rw[<-z,<-e];exact J)⟩);have m:=P0 (g:=g) (ds:=[.tup ((Ag (ps++[q])).map pN)]) (ob1 W V);simp only[cK,c,t,Eo,m,T e,Se,e,VI]
theorem cQ{W V:Wl}{ps:List Pr}(qs:List Pr)(Y:qs.length<=1000)(z:∀q∈qs,Bk g [ui W V,.tup (ps.map pN),pN q]=O0 (.int (Se W V ps q:Nat))):Ar g [ui W V,.tup (ps.map pN),.lst (qs.map pN)]=O0 (.int (NW (qs.map (Se W V ps)):Nat)):=by
 have I:BW (nq (vF 2)) rc (Er g) [.fz (ui W V),.fz (.tup (ps.map pN)),.fz (.lst (qs.map pN))]=O0 (.lst (qs.map λq=>iN (Se W V ps q))):=
  En qs pN _ (by simp only[cK,C_,E_]) Y λq U=>by
   have m:=P0 (g:=Bk g) (ds:=[.tup (ps.map pN),pN q]) (ob2 W V);simp only[cK,Er,Eo,m,z q U]
 have mx:=n6 (qs.map (Se W V ps));rw[cb] at mx;change aG (.lst (qs.map λq=>iN (Se W V ps q))) (.int 0)=_ at mx;simp only[cK,Ar,Ga,I,mx]
theorem vh{W V:Wl}{g:List D->Option D}{ps:List Pr}(fs Z:List Nat)(hs:Z.length<=100)(O:∀f∈fs,Ar g [ui W V,.tup (ps.map pN),.lst ((Z.map λs=>(f,s)).map pN)]=O0 (.int (NW ((Z.map λs=>(f,s)).map (Se W V ps)):Nat)))(J I:Slot):
  ∀(r:List Nat) (l:List Nat) (z:Slot),(∀f∈r,f∈fs)->l.length+r.length<=900->∃S,MX (TR (Bx 5) (Cu g)) (r.map iN) [.fz (ui W V),.fz (.tup (ps.map pN)),J,.fz (.lst (Z.map iN)),.ow (.lst (l.map iN)),z,I]=O0 (.nx [.fz (ui W V),.fz (.tup (ps.map pN)),J,.fz (.lst (Z.map iN)),.ow (.lst ((l++r.map λf=>NW ((Z.map λs=>(f,s)).map (Se W V ps))).map iN)),S,I])
 |[],l,z,_,_=>⟨z,by rw[fE,fE,fI];rfl⟩
 |f::r,l,z,L,Y=>by
  rw[ci] at Y;have b:=O f (L f .(1));have cm:BW (nq (vF 3)) rc (D_ g) [.fz (ui W V),.fz (.tup (ps.map pN)),J,.fz (.lst (Z.map iN)),.ow (.lst (l.map iN)),.fz (iN f),I]=O0 (.lst ((Z.map λs=>(f,s)).map pN)):=by
   rw[cb];exact En Z iN _ (by simp only[cK,C_,E_]) .(0) λs _=>by simp only[cK,D_,eW]
  have m:=P0 (g:=Ar g) (ds:=[.tup (ps.map pN),.lst ((Z.map λs=>(f,s)).map pN)]) (ob3 W V);have ap:=m_ (l.map iN) (iN (NW ((Z.map λs=>(f,s)).map (Se W V ps)))) (by simp;omega);have bd:Cu g [.fz (ui W V),.fz (.tup (ps.map pN)),J,.fz (.lst (Z.map iN)),.ow (.lst (l.map iN)),.fz (iN f),I]=O0 (.nx [.fz (ui W V),.fz (.tup (ps.map pN)),J,.fz (.lst (Z.map iN)),.ow (.lst ((l++[NW ((Z.map λs=>(f,s)).map (Se W V ps))]).map iN)),.fz (iN f),I]):=by
   simp only[cK,Cu,Eo,cm,m,b,ap,dP]
  obtain⟨S,T⟩:=vh fs Z hs O J I r (l++[NW ((Z.map λs=>(f,s)).map (Se W V ps))]) (.fz (iN f)) (λy U=>L y (by simp[U])) (by simp;omega);refine⟨S,?_⟩
  w_up
  rw[bd,Fz,T];simp
theorem vm{W V:Wl}{g:List D->Option D}{ps:List Pr}(fs Z:List Nat)(hs:fs.length<=100)(L:∀s∈Z,Ar g [ui W V,.tup (ps.map pN),.lst ((fs.map λf=>(f,s)).map pN)]=O0 (.int (NW ((fs.map λf=>(f,s)).map (Se W V ps)):Nat)))(I O:Slot):
  ∀(r:List Nat) (l:List Nat) (z:Slot),(∀f∈r,f∈Z)->l.length+r.length<=900->∃S,MX (TR (Bx 6) (Cv g)) (r.map iN) [.fz (ui W V),.fz (.tup (ps.map pN)),.fz (.lst (fs.map iN)),I,.ow (.lst (l.map iN)),O,z]=O0 (.nx [.fz (ui W V),.fz (.tup (ps.map pN)),.fz (.lst (fs.map iN)),I,.ow (.lst ((l++r.map λs=>NW ((fs.map λf=>(f,s)).map (Se W V ps))).map iN)),O,S])
 |[],l,z,_,_=>⟨z,by rw[fE,fE,fI];rfl⟩
 |s::r,l,z,J,Y=>by
  rw[ci] at Y;have b:=L s (J s .(1));have cm:BW (nq (vF 2)) rc (EY g) [.fz (ui W V),.fz (.tup (ps.map pN)),.fz (.lst (fs.map iN)),I,.ow (.lst (l.map iN)),O,.fz (iN s)]=O0 (.lst ((fs.map λf=>(f,s)).map pN)):=by
   rw[cb];exact En fs iN _ (by simp only[cK,C_,E_]) .(0) λf _=>by simp only[cK,EY,eW]
  have m:=P0 (g:=Ar g) (ds:=[.tup (ps.map pN),.lst ((fs.map λf=>(f,s)).map pN)]) (ob3 W V);have ap:=m_ (l.map iN) (iN (NW ((fs.map λf=>(f,s)).map (Se W V ps)))) (by simp;omega);have bd:Cv g [.fz (ui W V),.fz (.tup (ps.map pN)),.fz (.lst (fs.map iN)),I,.ow (.lst (l.map iN)),O,.fz (iN s)]=O0 (.nx [.fz (ui W V),.fz (.tup (ps.map pN)),.fz (.lst (fs.map iN)),I,.ow (.lst ((l++[NW ((fs.map λf=>(f,s)).map (Se W V ps))]).map iN)),O,.fz (iN s)]):=by
   simp only[cK,Cv,Eo,cm,m,b,ap,dP]
  obtain⟨S,T⟩:=vm fs Z hs L I O r (l++[NW ((fs.map λf=>(f,s)).map (Se W V ps))]) (.fz (iN s)) (λy U=>J y (by simp[U])) (by simp;omega);refine⟨S,?_⟩
  w_up
  rw[bd,Fz,T];simp
end
def Zu(a b:Nat):minD (.int (a:Int)) (.int (b:Int))=O0 (.int ((min a b:Nat):Int)):=by
 show O0 (D.int (if (b:Int)<a then (b:Int) else a))=_;congr 2;split<;>omega
def oE(a b:Nat):YV (.int (a:Int)) (.int (b:Int))=O0 (.int ((max a b:Nat):Int)):=by
 show O0 (D.int (if (b:Int) > a then (b:Int) else a))=_;congr 2;split<;>omega
def oF{W V:Wl}(hw:lu W)(hv:lu V)(h:Sp W V){g:List D->Option D}{ps:List Pr}(hi:OW W V ps)(nd:ps.Nodup)(hl:ps.length<=5)(T:∀f∈Pp W.n (ps.map (·.1)),∀s∈Pp V.n (ps.map (·.2)),VY W V ps (f,s)=O1->g [ui W V,.tup ((Ag (ps++[(f,s)])).map pN)]=O0 (.int (Nw W V (Ag (ps++[(f,s)])):Nat))):Cd g [ui W V,.tup (ps.map pN)]=O0 (.int (stp W V (Nw W V) ps:Nat)):=by
 have hn:=hw.n5;have hm:=hv.n5;generalize O:Pp W.n (ps.map (·.1))=fs at T;generalize L:Pp V.n (ps.map (·.2))=ss at T;have lf:fs.length<=5:=by rw[<-O];exact d6 (Q5 _ _) hn
 have ls:ss.length<=5:=by rw[<-L];exact d6 (Q5 _ _) hm
 have J:∀f∈fs,∀s∈ss,Bk g [ui W V,.tup (ps.map pN),pN (f,s)]=O0 (.int (Se W V ps (f,s):Nat)):=λf I s hs=>by
  have S:=I;have Z:=hs;rw[<-O] at S;rw[<-L] at Z;exact uE hw hv h hi nd hl ⟨(CG.mp S).1,(CG.mp Z).1⟩ (λz=>(CG.mp S).2 (bb.mpr ⟨_,z,rfl⟩)) (T f I s hs)
 have b1:∀f∈fs,Ar g [ui W V,.tup (ps.map pN),.lst ((ss.map λs=>(f,s)).map pN)]=O0 (.int (NW ((ss.map λs=>(f,s)).map (Se W V ps)):Nat)):=λf I=>
  cQ _ (by simp;omega) λq U=>by
   obtain⟨s,hs,rfl⟩:=bb.mp U;exact J f I s hs
 have b2:∀s∈ss,Ar g [ui W V,.tup (ps.map pN),.lst ((fs.map λf=>(f,s)).map pN)]=O0 (.int (NW ((fs.map λf=>(f,s)).map (Se W V ps)):Nat)):=λs hs=>
  cQ _ (by simp;omega) λq U=>by
   obtain⟨f,I,rfl⟩:=bb.mp U;exact J f I s hs
 obtain⟨z5,l1⟩:=vh fs ss .(0) b1 (.fz (.lst (fs.map iN))) .un fs [] .un (λ_ z=>z) (by simp;omega);simp only[jv,fE] at l1;obtain⟨z6,l2⟩:=vm fs ss .(0) b2 (.fz (.lst (ss.map iN))) z5 ss (fs.map λf=>NW ((ss.map λs=>(f,s)).map (Se W V ps))) .un (λ_ z=>z) (by simp;omega);have a1:=cP W V;have a2:=R5 W V;have a3:=n_ W V;have s1:=Q3 W;have s2:=Q3 V;have c1:BW (nq (vF 1)) rc (Dy g) [.fz (ui W V),.fz (.tup (ps.map pN)),.un,.un,.un,.un,.un]=O0 (.lst ((ps.map (·.1)).map iN)):=by
  rw[cb];exact En ps pN _ (by simp only[cK,C_,Rr]) .(0) λp _=>by
   have:=ixp0 p;simp only[cK,Dy,this,eW]
 have c2:BW (nq (vF 1)) rc (Dz g) [.fz (ui W V),.fz (.tup (ps.map pN)),.fz (.lst (fs.map iN)),.un,.un,.un,.un]=O0 (.lst ((ps.map (·.2)).map iN)):=by
  rw[cb];exact En ps pN _ (by simp only[cK,C_,Rr]) .(0) λp _=>by
   have:=ixp1 p;simp only[cK,Dz,this,eW]
 have u1:=nZ W.n .(0) (ps.map (·.1));have u2:=nZ V.n .(0) (ps.map (·.2));rw[O] at u1;rw[L] at u2;obtain⟨m,mi,me⟩:=yW ((fs.map λf=>NW ((ss.map λs=>(f,s)).map (Se W V ps)))++(ss.map λs=>NW ((fs.map λf=>(f,s)).map (Se W V ps)))) (pp W V);have ad:rz (.int 1) (.int (m:Int))=O0 (.int ((1+m:Nat):Int)):=by
  rw[HR];congr 2
 have mn:=Zu (pp W V) (1+m);simp only[cK,Cd,Fo,C_,E_,a1,a2,s1,s2,c1,u1,c2,u2,l1,l2,a3,mi,ad,mn];rw[me];have Y:min (pp W V) (1+((fs.map λf=>NW ((ss.map λs=>(f,s)).map (Se W V ps)))++(ss.map λs=>NW ((fs.map λf=>(f,s)).map (Se W V ps)))).foldr min (pp W V))=stp W V (Nw W V) ps:=by
  unfold stp;simp only[O,L,cb,eW,Se]
 rw[Y]
def cR(d:D):(O0 d:Option D).bind Sl=Sl d:=rfl
theorem oG{W V:Wl}(z:lu W)(I:lu V)(h:Sp W V):∀(n:Nat) (ps:List Pr),OW W V ps->PM ps->QP W V ps=O1->(Pp W.n (ps.map (·.1))).length<n->Ah n [ui W V,.tup (ps.map pN)]=O0 (.int (Nw W V ps:Nat))
 |0,ps,_,_,_,U=>by omega
 |n+1,ps,J,hs,S,U=>by
  have T:=nP hs;have Z:ps.length<=5:=d6 (t_ T J S) z.n5;have lt:=oF (g:=Ah n) z I h J T Z λf O s hs L=>by
   have Y:=Fj J (q:=(f,s)) ⟨(CG.mp O).1,(CG.mp hs).1⟩;exact oG z I h n _ (Ma z I J O hs) (MT z I Y) (by rw[Py z I Y];exact R4.mpr ⟨S,L⟩) (eP (Pz z I J O hs) (sk U))
  rw[<-W4 z I J S] at lt;have a:=n8 W V;have m:=P0 (g:=Cd (Ah n)) (ds:=[.tup (ps.map pN)]) (ob4 W V);have k:=oA (in5 z I J) Z;have r:Be (Ah n) [.fz (ui W V),.fz (.tup (ps.map pN))]=O0 (.rt (.int (Nw W V ps:Nat)) [.fz (ui W V),.fz (.tup (ps.map pN))]):=by
   unfold Be;refine ye (F:=FW W V) (ps:=ps) ?_ ?_ ?_ (vg W V ps).symm
   .simp only[cK,a]
   .simp only[e_v,Qb,kN,ku,cR,k]
   .simp only[cK,Eo,m,lt]
  show jl 2 2 (Be (Ah n)) [ui W V,.tup (ps.map pN)]=_;simp only[cK,r]
theorem of_ok{W V:Wl}(z:lu W)(I:lu V)(h:Sp W V)(rows:List Pr)(L:OW W V rows)(hl:rows.length<=5):Bo [ui W V,.lst (rows.map pN)]=O0 (.int (Nw W V (Ag rows):Nat)):=by
 have J:=MP z I L;have S:(Ag rows).length<=5:=d6 (fU z I L) hl;have t:=yX (in5 z I L) .(0);have k:=oA (in5 z I J) S;have a:=n8 W V;have a1:=cP W V;have Z:=R5 W V;have Y:=af_t W V h (Ag rows) .(0);have U:uF (fx "reckoned") (vF 0) [.fz (ui W V),.fz (.lst (rows.map pN)),.fz (.tup ((Ag rows).map pN))]=O0 (.mem (FW W V)):=by simp only[cK,a]
 have T:(vF 2 [.fz (ui W V),.fz (.lst (rows.map pN)),.fz (.tup ((Ag rows).map pN))]).bind Sl=O0 (Ag rows):=by simp only[e_v,Qb,kN,ku,cR,k]
 cases e:QP W V (Ag rows) with
 |true=>
  have O:=oG z I h 8 (Ag rows) J (MT z I L) e (nI (d6 (Q5 _ _) z.n5) .(2));have m:=P0 (g:=Ah 8) (ds:=[.tup ((Ag rows).map pN)]) (ob1 W V);have b:=uC (c:="Ranks") (m:="rank_of_fitting") (ft:=XW (An (Hz) (Aa (uF (fx "one") (vF 0)) (Aa (uF (fx "other") (vF 0)) (Aa (vF 2) (am)))))) (fr:=DR "Ranks" "rank_of_fitting" (Ah 8) (vF 0) (Aa (vF 2) (am))) U T (by simp only[cK,a1,Z,Y,e]);simp only[cK,Bo,Fg,t];rw[b];simp only[cK,Eo,m,O]
 |false=>
  have b:=uD (c:="Ranks") (m:="rank_of_fitting") (ft:=XW (An (Hz) (Aa (uF (fx "one") (vF 0)) (Aa (uF (fx "other") (vF 0)) (Aa (vF 2) (am)))))) (fr:=DR "Ranks" "rank_of_fitting" (Ah 8) (vF 0) (Aa (vF 2) (am))) U T (by simp only[cK,a1,Z,Y,e]) (by rw[vg,N7 e];rfl) (by simp only[e_v,Qb,ku];rw[<-ob1 W V];rfl);simp only[cK,Bo,Fg,t];rw[b,N7 e];simp only[cK];rfl
def TN(W V:Wl)(r:Nat):D:=if r=pp W V then .non else .int (r:Nat)
theorem uG{W V:Wl}(z:lu W)(I:lu V)(h:Sp W V)(rows:List Pr)(J:OW W V rows)(Y:rows.length<=5):Cw [ui W V,.lst (rows.map pN)]=O0 (TN W V (Nw W V (Ag rows))):=by
 have o:=of_ok z I h rows J Y;have m:=P0 (g:=Bo) (ds:=[.lst (rows.map pN)]) (ob5 W V);have a:=n_ W V;simp only[cK,Cw,Gb,Eo,m,o,a,Px];unfold TN
 by_cases c:Nw W V (Ag rows)=pp W V
 .rw[QI c,WH c];simp only[cK]
 .rw[OI c,ZH c];simp only[cK]
abbrev rO (W:Wl):Str×Bool×D:=("one",O2,fc W)
abbrev rV (V:Wl):Str×Bool×D:=("other",O2,fc V)
abbrev rR (W V:Wl):Str×Bool×D:=("reckoned",O2,.mem (FW W V))
abbrev rE (W V:Wl):Str×Bool×D:=("endless",O2,.int (pp W V:Nat))
theorem Yl(W V:Wl)(x:Addr):CP x [fc W,fc V]=O0 [rO W,rV V,rR W V,rE W V]:=by
 have z:=Q3 W;have S:=Q3 V;have mx:=oE W.n V.n;have Z:rz (.int ((max W.n V.n:Nat):Int)) (.int 1)=O0 (.int (pp W V:Nat)):=by
  rw[HR];congr 2
 have L:bF rz (bF YV (uF (fx "size") (vF 1)) (uF (fx "size") (vF 2))) (kF (.int 1)) [.fz (.adr x),.fz (fc W),.fz (fc V)]=O0 (.int (pp W V:Nat)):=by simp only[cK,z,S,mx,Z]
 have O:memE Phi [.fz (.adr x),.fz (fc W),.fz (fc V)]=O0 (.mem (FW W V)):=by
  show O0 (D.mem (FF (fc W) (fc V)))=_;rw[AAR]
 have U:Le 3 x [fc W,fc V]=[.fz (.adr x),.fz (fc W),.fz (fc V)]:=rfl;unfold CP SY;rw[WH (show [fc W,fc V].length+1=3 from rfl),U];unfold Gs;have T:Gj "one" (vF 1) [.fz (.adr x),.fz (fc W),.fz (fc V)] []=O0 ([.fz (.adr x),.fz (fc W),.fz (fc V)],[rO W]):=rfl;have J:Gj "other" (vF 2) [.fz (.adr x),.fz (fc W),.fz (fc V)] [rO W]=O0 ([.fz (.adr x),.fz (fc W),.fz (fc V)],[rO W,rV V]):=by
  have l:bE ("other":Str) [rO W]=W1:=by rw[bX,u1];rfl
  unfold Gj;show (if (bE ("other":Str) [rO W]).isNone=O1/\1<1000 then O0 (_,[rO W]++[rV V]) else W1)=_;rw[l,WH ⟨rfl,by decide⟩];rfl
 have Y:Gj "reckoned" (memE Phi) [.fz (.adr x),.fz (fc W),.fz (fc V)] [rO W,rV V]=O0 ([.fz (.adr x),.fz (fc W),.fz (fc V)],[rO W,rV V,rR W V]):=by
  have l:bE ("reckoned":Str) [rO W,rV V]=W1:=by
   rw[bX,u2];show bE ("reckoned":Str) [rV V]=W1;rw[bX,u3];rfl
  unfold Gj;rw[O];show (if (bE ("reckoned":Str) [rO W,rV V]).isNone=O1/\2<1000 then O0 (_,[rO W,rV V]++[rR W V]) else W1)=_;rw[l,WH ⟨rfl,by decide⟩];rfl
 have I:Gj "endless" (bF rz (bF YV (uF (fx "size") (vF 1)) (uF (fx "size") (vF 2))) (kF (.int 1))) [.fz (.adr x),.fz (fc W),.fz (fc V)] [rO W,rV V,rR W V]=O0 ([.fz (.adr x),.fz (fc W),.fz (fc V)],[rO W,rV V,rR W V,rE W V]):=by
  have l:bE ("endless":Str) [rO W,rV V,rR W V]=W1:=by
   rw[bX,u4];show bE ("endless":Str) [rV V,rR W V]=W1;rw[bX,u5];show bE ("endless":Str) [rR W V]=W1;rw[bX,u6];rfl
  unfold Gj;rw[L];show (if (bE ("endless":Str) [rO W,rV V,rR W V]).isNone=O1/\3<1000 then O0 (_,[rO W,rV V,rR W V]++[rE W V]) else W1)=_;rw[l,WH ⟨rfl,by decide⟩];rfl
 rw[Dw,T,Cm,Dw,J,Cm,Dw,Y,Cm,Dw,I,Cm,ZX];rfl
def yf(W V:Wl)(fs:FA)(ρ:Rho)(z:fs ρ=O0 [fc W,fc V]):mkI "Ranks" CP fs ρ=O0 (ui W V):=by
 unfold mkI;rw[z];simp only[dn,Yl W V 0];rw[WH (λx=>Yl W V x)];rfl
def rngN(n:Nat)(z:n<=100):rngO (O0 (.int (n:Int)))=O0 ((bg n).map iN):=by
 rw[Td (n:Int) .(0),gg];rfl
def ON(side t r:Nat):Pr:=if side=0 then (t,r) else (r,t)
def OY(W V:Wl)(side:Nat):Nat:=if side=0 then W.n else V.n
def oH(W V:Wl)(side:Nat):DX [ui W V,.int (side:Int)]=O0 (.int (OY W V side:Nat)):=by
 have I:=cP W V;have L:=R5 W V;have z:=Q3 W;have S:=Q3 V;have e:MY O2 (.int (side:Int)) (.int 0)=O0 (.bl (decide (side=0))):=Px side 0;simp only[cK,DX,Ip,e];unfold OY
 by_cases c:side=0
 .rw[QI c,WH c];simp only[cK,I,z]
 .rw[OI c,ZH c];simp only[cK,L,S]
def cT(side t r:Nat):H_ [.int (side:Int),.int (t:Int),.int (r:Int)]=O0 (pN (ON side t r)):=by
 have e:MY O2 (.int (side:Int)) (.int 0)=O0 (.bl (decide (side=0))):=Px side 0;simp only[cK,H_,Qq,e];unfold ON
 by_cases c:side=0
 .rw[QI c,WH c];simp only[cK]
 .rw[OI c,ZH c];simp only[cK]
def oJ{W V:Wl}(z:lu W)(I:lu V)(side:Nat):OY W V side<=5:=by
 have:=z.n5;have:=I.n5;unfold OY;split<;>omega
def uH(n:Nat):((bg n).filter λ_=>O1)=bg n:=by simp
theorem Ul(h:Nat->D)(z:FI)(hs:z ρ=O0 (Na n))(I:n<=1000)(J:∀k,k<n->fe (ρ++[.fz (.int k)])=O0 (h k)):BW z rc fe ρ=O0 (.lst ((bg n).map h)):=by
 have:=Mw (ga:=rc) (λ_=>O1) h z hs I (λ_ _=>rfl) J
 rwa [uH] at this
theorem uI{W V:Wl}(z:lu W)(I:lu V)(side t:Nat)(h1:side<=1):HF [ui W V,.int (side:Int),.int (t:Int)]=O0 (.lst (((bg (OY W V (1-side))).map λr=>ON side t r).map pN)):=by
 have S:SW (.int 1) (.int (side:Int))=O0 (.int ((1-side:Nat):Int)):=by
  rw[QW];congr 2;omega
 have sz:=oH W V (1-side);have J:NV (An (DX) (Aa (vF 0) (Aa (bF SW (kF (.int 1)) (vF 1)) (am)))) [.fz (ui W V),.fz (.int (side:Int)),.fz (.int (t:Int))]=O0 (Na (OY W V (1-side))):=by
  have:=oJ z I (1-side);have:=rngN (OY W V (1-side)) .(0);simp only[cK,S,sz,this];rfl
 have L:=Ul (fe:=Jl) (λr=>pN (ON side t r)) _ J (by have:=oJ z I (1-side);omega) λk _=>by
  have:=cT side t k;simp only[cK,Jl,this]
 simp only[cK,HF,Lq,L,cb,eW]
def AAX(l:List Pr)(q:Pr)(h:l.length<=1000):rz (.lst (l.map pN)) (.lst [pN q])=O0 (.lst ((l++[q]).map pN)):=by
 rw[V9 (by simp;omega)];simp
def oK{W V:Wl}{side t r:Nat}(h1:side<=1)(O:t<OY W V side)(J:r<OY W V (1-side)):(ON side t r).1<W.n/\(ON side t r).2<V.n:=by
 unfold ON OY at *
 rcases G1.mp h1 with rfl | rfl
 .exact⟨O,J⟩
 .exact⟨J,O⟩
theorem fV{W V:Wl}(z:lu W)(I:lu V)(h:Sp W V)(rows:List Pr)(S:OW W V rows)(Y:rows.length<=4)(side t:Nat)(h1:side<=1)(O:t<OY W V side):
  Gd [ui W V,.lst (rows.map pN),.int (side:Int),.int (t:Int)]=O0 (.lst (((bg (OY W V (1-side))).map λr=>Nw W V (Ag (rows++[ON side t r]))).map iN)):=by
 have J:=uI z I side t h1;have sz:=oJ z I (1-side);have T:BW (nq (An (HF) (Aa (vF 0) (Aa (vF 2) (Aa (vF 3) (am)))))) rc Gu [.fz (ui W V),.fz (.lst (rows.map pN)),.fz (.int (side:Int)),.fz (.int (t:Int))]=O0 (.lst (((bg (OY W V (1-side))).map λr=>ON side t r).map λq=>iN (Nw W V (Ag (rows++[q]))))):=
  En _ pN _ (by simp only[cK,J,C_,E_]) (by simp;omega) λq U=>by
   obtain⟨r,L,rfl⟩:=bb.mp U;have o:=of_ok z I h (rows++[ON side t r]) (Fj S (oK h1 O (d4.mp L))) (by simp;omega);have Z:=AAX rows (ON side t r) .(0);have m:=P0 (g:=Bo) (ds:=[.lst ((rows++[ON side t r]).map pN)]) (ob5 W V);simp only[cK,Gu,Eo,Z,m,o]
 simp only[cK,Gd,Ir,T,cb,eW]
abbrev Zs (W V:Wl) (rows:List Pr) (side t:Nat):Nat:=NW ((bg (OY W V (1-side))).map λr=>Nw W V (Ag (rows++[ON side t r])))
def oN(a b:Nat):ltD (.int (a:Int)) (.int (b:Int))=O0 (.bl (decide (a<b))):=by
 rw[U9];congr 2;rw[decide_eq_decide];omega
theorem cU:∀{l:List Nat},l≠[]->NW l∈l
 |[x],_=>by simp[NW]
 |x::y::l,_=>by
  have z:=cU (l:=y::l) .(1);show max x (NW (y::l))∈_
  rcases MO x (NW (y::l)) with h | h
  .rw[Nat.max_eq_right h];exact ck _ z
  .rw[Nat.max_eq_left h];exact da ..
def yg(h:l≠[]):cB (.lst (l.map iN))=O0 (.int ((NW l:Nat):Int)):=by
 have m:=n6 l;have n:¬ (l.map λ(t:Nat)=>(t:Int))=[]:=by simpa using h
 change (Fp (l.map iN)).map _=_ at m;rw[Uk] at m;change O0 (if (l.map λ(t:Nat)=>(t:Int))=[] then D.int 0 else _)=_ at m;rw[ZH n] at m;show (Fp (l.map iN)).bind _=_;rw[Uk];show (if (l.map λ(t:Nat)=>(t:Int))=[] then W1 else _)=_;rw[ZH n];exact m
def AAZ(l:List Nat)(x:Nat)(h:x∈l):∃j,j<l.length/\l[j]?=O0 x/\idxD (.lst (l.map iN)) (.int (x:Int))=O0 (.int (j:Nat)):=by
 have z:(x:Int)∈l.map λ(t:Nat)=>(t:Int):=bb.mpr ⟨x,h,rfl⟩;have U:=Mo.mpr z;have g:=MB U;have L:=U;rw[ay] at L;refine⟨_,L,?_,?_⟩
 .rw[db L];rw[Gc] at g;rw[Int.ofNat.inj g]
 .show (Fp (l.map iN)).bind _=_;rw[Uk];show (if (x:Int)∈(l.map λ(t:Nat)=>(t:Int)) then _ else W1)=_;rw[WH z]
def yh(l:List Nat):uj (.lst (l.map iN))=O0 (.int (l.length:Int)):=by
 show Sk (.lst (l.map iN))=_;rw[az,ay]
abbrev rkB (W V:Wl) (rows:List Pr) (side t r:Nat):Nat:=Nw W V (Ag (rows++[ON side t r]))
theorem oO{W V:Wl}(hw:lu W)(hv:lu V)(h:Sp W V)(rows:List Pr)(hi:OW W V rows)(hl:rows.length<=4)(side t:Nat)(h1:side<=1)(O:t<OY W V side)(c:0<Zs W V rows side t):
  ∃r,r<OY W V (1-side)/\rkB W V rows side t r=Zs W V rows side t/\Hq [ui W V,.lst (rows.map pN),.int (side:Int),.int (t:Int)]=O0 (.int (r:Int)):=by
 have b:=fV hw hv h rows hi hl side t h1 O;have sz:=oH W V side;have S:=Pq (OY W V side) t O;unfold Zs at c ⊢;generalize Y:((bg (OY W V (1-side))).map λr=>Nw W V (Ag (rows++[ON side t r])))=l at b c ⊢;have Z:l.length=OY W V (1-side):=by rw[<-Y];simp
 have U:=yh l;have J:=vd l.length;have L:l≠[]:=λz=>by rw[z] at c;exact ka _ c
 have T:0<l.length:=E6.mpr L;rw[QI T] at J;have mx:=yg L;obtain⟨j,hj,I,ij⟩:=AAZ l (NW l) (cU L);refine⟨j,by omega,?_,by simp only[cK,Hq,Kd,sz,S,b,U,J,mx,ij]⟩;rw[<-Y,ca,xS .(0)] at I;have:=cy I;rw[Y] at this;exact this
def ek_n(k a:Nat):Ps (k+1) (.int (a:Int)) (.int (a:Int))=O0 O1:=by
 show O0 (To (.int (a:Int)) (.int (a:Int)))=_;simp[To]
def AAa(k:Nat)(p:Pr):Ps (k+2) (pN p) (pN p)=O0 O1:=by
 show (if 2=2 then NX (Ps (k+1)) [.int (p.1:Int),.int (p.2:Int)] [.int (p.1:Int),.int (p.2:Int)] else W1)=_;rw[WH rfl];simp only[NX,ek_n];rfl
def AAb(a:Nat):leD (.int 0) (.int (a:Int))=O0 (.bl O1):=by
 rw[aR,QI .(0)]
def oR(t n:Nat):Dn [.int (t:Int),.int (n:Int)]=O0 (.bl (decide (t<n))):=by
 have J:isiD "int" (.int (t:Int))=O0 (.bl O1):=rfl;have I:isiD "bool" (.int (t:Int))=O0 (.bl O2):=rfl;have z:=AAb t;have L:=oN t n;simp only[cK,Dn,Hi,J,I,z,L]
def cV(a b:D)(side:Nat)(h:side<=1):kc (.lst [a,b]) (.int (side:Int))=O0 (if side=0 then a else b):=by
 rcases G1.mp h with rfl | rfl
 .rfl
 .rfl
def uJ(side t r:Nat):(if side=0 then D.tup [.int (t:Int),.int (r:Int)] else .tup [.int (r:Int),.int (t:Int)])=pN (ON side t r):=by
 unfold ON;split<;>rfl
def uK(W V:Wl)(side:Nat):(if side=0 then D.int (W.n:Int) else .int (V.n:Int))=.int ((OY W V side:Nat):Int):=by
 unfold OY;split<;>rfl
def AAc(i:Int):Pf O2 (.int i)=O0 (.bl O2):=rfl
def oU(i j:Int)(h:0<=j):shrD (.int i) (.int j)=O0 (.int (i/2^j.toNat)):=by
 show (if 0<=j then O0 (D.int (i/2^j.toNat)) else W1)=_;rw[WH h]
def cW(i j:Int):aF (.int i) (.int j)=O0 (.int (tj i j)):=gn _
structure Mk (n:Nat) (ws:List Str) (k:Nat) (ms:List (Str×List Nat)):Prop where
 nm:ms.map (·.1)=ws.take k
 ok:∀p∈ms,p.2.Nodup/\p.2.length<=100/\∀t∈p.2,t<n
structure Tk (n:Nat) (ws:List Str) (k:Nat) (ts:List (Str×List (Nat×Nat))):Prop where
 nm:ts.map (·.1)=ws.take k
 ok:∀p∈ts,p.2.Nodup/\p.2.length<=100/\∀q∈p.2,q.1<n/\q.2<n
def oV{z:Type}{I:List (Str×z)}{k:Nat}(nm:I.map (·.1)=ws.take k)(J:ws.Nodup)(L:k<ws.length):ws[k]∉I.map (·.1):=by
 rw[nm];intro q;obtain⟨j,U,e⟩:=B1 q;rw[ic] at U;rw[L8] at e;have:=fP J .(0) L e;omega
def oW{z:Type}{I:List (Str×z)}{k:Nat}(nm:I.map (·.1)=ws.take k):I.length<=k:=by
 have:=RI eC nm;rw[ay,ic] at this;omega
def fW(n:Nat)(hn:n<=5)(T:Slot)(z:Int)(I:List Str)(hw:I.length<=3)(nd:I.Nodup)(k:Nat)(Y:k<I.length)(J:List (Str×List Nat))(U:Mk n I k J)(S O L:Slot):
  ∃ms',GC [.fz (.int (n:Int)),.fz (.lst (I.map .str)),T,.fz (.int z),.ow (.dk (eM J)),.fz (.int (k:Int)),S,O,L]=O0 (.nx [.fz (.int (n:Int)),.fz (.lst (I.map .str)),T,.fz (.int z),.ow (.dk (eM ms')),.fz (.int (k:Int)),S,O,L])/\Mk n I (k+1) ms':=by
 obtain⟨f,hf⟩:∃f:Nat->Bool,∀t,t<n->F_ ([.fz (.int (n:Int)),.fz (.lst (I.map .str)),T,.fz (.int z),.ow (.dk (eM J)),.fz (.int (k:Int)),S,O,L]++[.fz (.int (t:Int))])=O0 (f t):=by
  refine⟨λt=>decide (tj (z/2^(5*(k:Int)+t).toNat) 1=1),λt W=>?_⟩;have m1:=Rk 5 (k:Int) .(2);have Z:=oU z (5*(k:Int)+t) .(0);simp only[ciK,F_,m1,Z,cW]
 have cm:BW (NV (vF 0)) F_ Li [.fz (.int (n:Int)),.fz (.lst (I.map .str)),T,.fz (.int z),.ow (.dk (eM J)),.fz (.int (k:Int)),S,O,L]=O0 (lM ((bg n).filter f)):=
  Mw f iN _ (Wv n .(0) _ 0 rfl) .(0) hf λt W=>rfl
 have ix:=QH Y;have nt:=oV U.nm nd Y;have pk:De (.dk (eM J)) (.str I[k]) (lM ((bg n).filter f))=O0 (.dk (eM (J++[(I[k],(bg n).filter f)]))):=by
  rw[Nk _ _ _ (by have:=oW U.nm;simp[eM];omega)];have:(.inr I[k]:Key)∉(eM J).map (·.1):=JF lM nt;rw[Nl this];simp[eM]
 refine⟨J++[(I[k],(bg n).filter f)],?_,?_,?_⟩
 .simp only[GC,Tp,e_b,e_v,kN,ku,Qb,QX,Xs,ix,cm,Nj,pk,LK,i7,i8]
 .rw[dP,U.nm,FU];simp[Y]
 .intro p hp
  rcases dA.mp hp with q | q
  .exact U.ok p q
  .simp at q;subst q;refine⟨JG n f,?_,λt W=>d4.mp (dS.mp W).1⟩;have:=FY f (bg n);rw[mN] at this;show ((bg n).filter f).length<=100;omega
structure Fd (n k:Nat) (l:List (Nat×Nat)):Prop where
 nd:l.Nodup
 len:l.length<=5*k
 lt:∀q∈l,q.1<k/\q.2<n
def Zv(n:Nat)(hn:n<=5)(S O L J:Slot)(I:Int)(k:Nat)(i:Nat)(hi:i<n)(l:List (Nat×Nat))(Y:Fd n i l):
  ∃l',GF [.fz (.int (n:Int)),S,O,.fz (.int I),L,.fz (.int (k:Int)),J,.fz (lT l),.fz (.int (i:Int))]=O0 (.nx [.fz (.int (n:Int)),S,O,.fz (.int I),L,.fz (.int (k:Int)),J,.fz (lT l'),.fz (.int (i:Int))])/\Fd n (i+1) l':=by
 obtain⟨f,hf⟩:∃f:Nat->Bool,∀u,u<n->GD ([.fz (.int (n:Int)),S,O,.fz (.int I),L,.fz (.int (k:Int)),J,.fz (lT l),.fz (.int (i:Int))]++[.fz (.int (u:Int))])=O0 (f u):=by
  refine⟨λu=>decide (tj (I/2^(15+25*(k:Int)+5*(i:Int)+u).toNat) 1=1),λu T=>?_⟩;have m1:=Rk 25 (k:Int) .(2);have Z:=Rk 5 (i:Int) .(2);have W:=oU I (15+25*(k:Int)+5*(i:Int)+u) .(0);simp only[ciK,GD,m1,Z,W,cW]
 have cm:BW (NV (vF 0)) GD Ij [.fz (.int (n:Int)),S,O,.fz (.int I),L,.fz (.int (k:Int)),J,.fz (lT l),.fz (.int (i:Int))]=O0 (.lst (((bg n).filter f).map λu=>pN (i,u))):=
  Mw f (λu=>pN (i,u)) _ (Wv n .(0) _ 0 rfl) .(0) hf λu T=>by simp only[cK,Ij]
 have fl:=FY f (bg n);rw[mN] at fl;have ad:rz (lT l) (.lst (((bg n).filter f).map λu=>pN (i,u)))=O0 (lT (l++((bg n).filter f).map λu=>(i,u))):=by
  show rz (.lst (l.map pN)) _=_;rw[V9 (by rw[ay,ay];have:=Y.len;omega)];simp[lT]
 refine⟨l++((bg n).filter f).map λu=>(i,u),?_,?_,?_,?_⟩
 .simp only[GF,aV,e_b,e_v,kN,ku,Qb,cm,Xs,ad,V_,i7,i8]
 .rw[f6];refine⟨Y.nd,?_,λa ha c hc e=>?_⟩
  .rw[lS,iA];exact FX (λU e=>U (by simpa using e)) (JG n f)
  .subst e;obtain⟨u,_,rfl⟩:=bb.mp hc;have:=(Y.lt _ ha).1;simp at this
 .have:=Y.len;rw[eA,ay];omega
 .intro q hq
  rcases dA.mp hq with z | z
  .have:=Y.lt q z;exact⟨by omega,this.2⟩
  .obtain⟨u,T,rfl⟩:=bb.mp z;exact⟨by simp,d4.mp (dS.mp T).1⟩
def W7{d:D}(h:(Na n)[i]?=O0 d):i<n/\d=.int (i:Int):=by
 have z:i<n:=by
  have:=(iF.mp h).1
  rwa [LQ] at this
 refine⟨z,?_⟩;unfold Na at h;rw[ca,xS z] at h;exact (cy h).symm
theorem oX(n:Nat)(hn:n<=5)(S O:Slot)(I:Int)(J:List Str)(hw:J.length<=3)(nd:J.Nodup)(k:Nat)(hk:k<J.length)(L:List (Str×List (Nat×Nat)))(T:Tk n J k L)(z7 W:Slot):
  ∃ts' y7 y8,GJ [.fz (.int (n:Int)),S,.fz (.lst (J.map .str)),.fz (.int I),O,.fz (.int (k:Int)),.ow (.dk (eT L)),z7,W]=O0 (.nx [.fz (.int (n:Int)),S,.fz (.lst (J.map .str)),.fz (.int I),O,.fz (.int (k:Int)),.ow (.dk (eT ts')),y7,y8])/\Tk n J (k+1) ts':=by
 obtain⟨N0,ef,l,z',rfl,Y⟩:=Oj (b:=TR (Bx 8) GF) (ds:=Na n) (ρ:=[.fz (.int (n:Int)),S,.fz (.lst (J.map .str)),.fz (.int I),O,.fz (.int (k:Int)),.ow (.dk (eT L)),.fz (lT []),W])
  (P:=λi U=>∃l z,U=[.fz (.int (n:Int)),S,.fz (.lst (J.map .str)),.fz (.int I),O,.fz (.int (k:Int)),.ow (.dk (eT L)),.fz (lT l),z]/\Fd n i l) 0 ⟨[],_,rfl,by simp,by simp,by simp⟩ (by
   rintro i d U hd ⟨l,z,rfl,Y⟩;obtain⟨hi,rfl⟩:=W7 hd;obtain⟨l',e',Z⟩:=Zv n hn S (.fz (.lst (J.map .str))) O (.ow (.dk (eT L))) I k i hi l (by rw[mP] at Y;exact Y);refine⟨_,?_,l',.fz (.int (i:Int)),rfl,by rw[mP];exact Z⟩;rw[Ts,LR,Kl];simp only[i7,i8];exact e')
 rw[LQ,mP] at Y;have ix:=QH hk;have nt:=oV T.nm nd hk;have pk:De (.dk (eT L)) (.str J[k]) (lT l)=O0 (.dk (eT (L++[(J[k],l)]))):=by
  rw[Nk _ _ _ (by have:=oW T.nm;simp[eT];omega)];have:(.inr J[k]:Key)∉(eT L).map (·.1):=JF lT nt;rw[Nl this];simp[eT]
 have rg:=Wv n .(0) [.fz (.int (n:Int)),S,.fz (.lst (J.map .str)),.fz (.int I),O,.fz (.int (k:Int)),.ow (.dk (eT L)),.fz (lT []),W] 0 rfl;have l0:(D.lst [])=lT []:=rfl;refine⟨L++[(J[k],l)],.fz (lT l),z',?_,?_,?_⟩
 .unfold GJ;rw[Et,aV,jU,Xr,ZK,V_,OT];simp only[i7,i8];rw[l0,Et,Te,rg,Ni,ef,OT];simp only[Tp,e_b,e_v,kN,ku,Qb,QX,Xs,ix,Nj,pk,LK,i7,i8]
 .rw[dP,T.nm,FU];simp[hk]
 .intro p hp
  rcases dA.mp hp with q | q
  .exact T.ok p q
  .simp at q;subst q;refine⟨Y.nd,by have:=Y.len;show l.length<=100;omega,Y.lt⟩
structure Wds (mws tws:List Str):Prop where
 m3:mws.length<=3
 t3:tws.length<=3
 nd:(mws++tws).Nodup
 mw:∀x∈mws,Wd x
 tw:∀x∈tws,Wd x
theorem Um(n:Nat)(hn:n<=5)(mws tws:List Str)(h:Wds mws tws)(I:Int):∃W:Wl,W.n=n/\mw W=mws/\tw W=tws/\lu W/\Ei [.int (n:Int),.lst (mws.map .str),.lst (tws.map .str),.int I]=O0 (wd W):=by
 have T0:=(f6.mp h.nd).1;have S0:=(f6.mp h.nd).2.1;have P1:=h.m3;have N1:=h.t3;obtain⟨U1,e1,J,z5,rfl,O⟩:=Oj (b:=TR (Bx 5) GC) (ds:=Na mws.length) (ρ:=[.fz (.int (n:Int)),.fz (.lst (mws.map .str)),.fz (.lst (tws.map .str)),.fz (.int I),.ow (.dk (eM [])),.un,.un,.un,.un])
  (P:=λi S=>∃J z,S=[.fz (.int (n:Int)),.fz (.lst (mws.map .str)),.fz (.lst (tws.map .str)),.fz (.int I),.ow (.dk (eM J)),z,.un,.un,.un]/\Mk n mws i J) 0 ⟨[],_,rfl,by simp,by simp⟩ (by
   rintro i d S hd ⟨J,z,rfl,O⟩;obtain⟨hi,rfl⟩:=W7 hd;rw[mP] at O ⊢;obtain⟨X0,e',T⟩:=fW n hn (.fz (.lst (tws.map .str))) I mws P1 T0 i hi J O .un .un .un;refine⟨_,?_,X0,.fz (.int (i:Int)),rfl,T⟩;rw[Ts,LR,Kl];simp only[i7,i8];exact e')
 rw[LQ,mP] at O;obtain⟨S1,e2,L,y5,Y,U,rfl,ht⟩:=Oj (b:=TR (Bx 5) GJ) (ds:=Na tws.length) (ρ:=[.fz (.int (n:Int)),.fz (.lst (mws.map .str)),.fz (.lst (tws.map .str)),.fz (.int I),.ow (.dk (eM J)),z5,.ow (.dk (eT [])),.un,.un])
  (P:=λi S=>∃L z Y U,S=[.fz (.int (n:Int)),.fz (.lst (mws.map .str)),.fz (.lst (tws.map .str)),.fz (.int I),.ow (.dk (eM J)),z,.ow (.dk (eT L)),Y,U]/\Tk n tws i L) 0 ⟨[],_,_,_,rfl,by simp,by simp⟩ (by
   rintro i d S hd ⟨L,z,Y,U,rfl,O⟩;obtain⟨hi,rfl⟩:=W7 hd;rw[mP] at O ⊢;obtain⟨N0,w7,w8,e',T⟩:=oX n hn (.fz (.lst (mws.map .str))) (.ow (.dk (eM J))) I tws N1 S0 i hi L O Y U;refine⟨_,?_,N0,.fz (.int (i:Int)),w7,w8,rfl,T⟩;rw[Ts,LR,Kl];simp only[i7,i8];exact e')
 rw[LQ,mP] at ht;have mn:J.map (·.1)=mws:=by rw[O.nm,FV]
 have Z:L.map (·.1)=tws:=by rw[ht.nm,FV]
 refine⟨⟨n,J,L⟩,rfl,mn,Z,⟨hn,?_,?_,λp hp=>h.mw _ (by rw[<-mn];exact bb.mpr ⟨p,hp,rfl⟩),λp hp=>h.tw _ (by rw[<-Z];exact bb.mpr ⟨p,hp,rfl⟩),?_,O.ok,ht.ok⟩,?_⟩
 .have:=RI eC mn;rw[ay] at this;show J.length<=3;omega
 .have:=RI eC Z;rw[ay] at this;show L.length<=3;omega
 .show (J.map (·.1)++L.map (·.1)).Nodup;rw[mn,Z];exact h.nd
 .have lm:uj (.lst (mws.map .str))=O0 (.int (mws.length:Int)):=by rw[show uj (.lst (mws.map .str))=O0 (.int ((mws.map D.str).length:Int)) from gn _,ay]
  have lt:uj (.lst (tws.map .str))=O0 (.int (tws.length:Int)):=by rw[show uj (.lst (tws.map .str))=O0 (.int ((tws.map D.str).length:Int)) from gn _,ay]
  have r1:rngO (O0 (.int (mws.length:Int)))=O0 (Na mws.length):=by rw[Td _ .(0),gg]
  have r2:rngO (O0 (.int (tws.length:Int)))=O0 (Na tws.length):=by rw[Td _ .(0),gg]
  have e0:(D.dk [])=.dk (eM []):=rfl;have X1:(D.dk [])=.dk (eT []):=rfl;have s1:setW 4 (kF (.dk [])) [.fz (.int (n:Int)),.fz (.lst (mws.map .str)),.fz (.lst (tws.map .str)),.fz (.int I),.un,.un,.un,.un,.un]=O0 (.nx [.fz (.int (n:Int)),.fz (.lst (mws.map .str)),.fz (.lst (tws.map .str)),.fz (.int I),.ow (.dk (eM [])),.un,.un,.un,.un]):=rfl;have s2:setW 6 (kF (.dk [])) [.fz (.int (n:Int)),.fz (.lst (mws.map .str)),.fz (.lst (tws.map .str)),.fz (.int I),.ow (.dk (eM J)),z5,.un,.un,.un]=O0 (.nx [.fz (.int (n:Int)),.fz (.lst (mws.map .str)),.fz (.lst (tws.map .str)),.fz (.int I),.ow (.dk (eM J)),z5,.ow (.dk (eT [])),.un,.un]):=rfl;unfold Ei KQ;rw[Jt,DQ];simp only[ci,nE,ba,fE,sq,sv,sA,sB,sC,jv];rw[Et,s1,OT,Et,Te,Tc,e_u,e_v];simp only[kN,ku];rw[Qb,e_us,lm,r1,Ni,e1,OT,Et,s2,OT,Et,Te,Tc,e_u,e_v];simp only[kN,ku];rw[Qb,e_us,lt,r2,Ni,e2,OT]
  .rfl
  .rfl
def AAd(xs:List Nat)(j:Nat)(h:j<xs.length):ixD (.lst (xs.map iN)) (.int (j:Int))=O0 (iN xs[j]):=by
 show atI (xs.map iN) (j:Int)=_;rw[WL,ca,db h];rfl
def uL(ds:List D)(k:Nat):slD (.lst ds) (O0 (k:Int)) W1=O0 (.lst (ds.drop k)):=by
 show O0 (D.lst (OP ds (O0 (k:Int)) W1))=_;rw[jM]
theorem Ym(n:D):∀(k:Nat) (xs ys:List Nat) (i:Int) (f:Nat) (z:Slot),xs.length=k->xs.length+ys.length<=100->k<f->∃O J S,J.Perm xs ∧
  Gm Bh Bv f [.fz (.int i),.fz n,.fz (lN xs),.ow (lN ys),z]=O0 (.nx [.fz (.int O),.fz n,.fz (.lst []),.ow (lN (ys++J)),S])
 |k,xs,ys,i,0,z,_,_,W=>by omega
 |0,xs,ys,i,f+1,z,Y,_,W=>by
  have e:xs=[]:=xL Y;subst e;refine⟨i,[],z,.nil,?_⟩;unfold Gm;have t:Bh [.fz (.int i),.fz n,.fz (lN []),.ow (lN ys),z]=O0 O2:=by
   simp only[cK,Bh,lN];rfl
  rw[t,fI];rfl
 |k+1,xs,ys,i,f+1,z,Y,hs,W=>by
  have t:Bh [.fz (.int i),.fz n,.fz (lN xs),.ow (lN ys),z]=O0 O1:=by
   have q:=yR xs;have:xs≠[]:=λz=>by subst z;simp at Y
   simp only[cK,Bh,lN,q,this,ne_eq,not_false_eq_true]
  have j0:0<=i%(xs.length:Int):=ze _ .(0);have j1:i%(xs.length:Int)<xs.length:=zh _ .(0);obtain⟨j,ej⟩:∃j:Nat,(j:Int)=i%(xs.length:Int):=⟨(i%(xs.length:Int)).toNat,by omega⟩;have U:j<xs.length:=by omega
  have T:(xs.eraseIdx j).length=k:=by rw[List.length_eraseIdx_of_lt U];omega
  have m1:=Gp i (xs.length:Int) .(0);have m2:=Eh i (xs.length:Int) (by skip;omega) (by skip;omega);have L:=az (xs.map iN);rw[ay] at L;have ix:=AAd xs j U;have ap:ZI (.lst (ys.map iN)) (iN xs[j])=O0 (.lst ((ys++[xs[j]]).map iN)):=by rw[m_ _ _ (by simp;omega),dP];rfl
  have s1:=sl_l (xs.map iN) j;have a1:rz (.int (j:Int)) (.int 1)=O0 (.int ((j+1:Nat):Int)):=by rw[HR];congr 2
  have Z:=uL (xs.map iN) (j+1);have ad:rz (.lst ((xs.map iN).take j)) (.lst ((xs.map iN).drop (j+1)))=O0 (lN (xs.eraseIdx j)):=by
   rw[V9 (by simp;omega),<-vn,<-Bn,<-dP,<-ML];rfl
  obtain⟨O,J,S,pz,ih⟩:=Ym n k (xs.eraseIdx j) (ys++[xs[j]]) (i/(xs.length:Int)) f (.fz (.int (j:Int))) T (by rw[T,eA];simp;omega) .(0);refine⟨O,xs[j]::J,S,(AX _ pz).trans (Ie xs j U),?_⟩;have b2:Bv [.fz (.int i),.fz n,.fz (lN xs),.ow (lN ys),z]=O0 (.nx [.fz (.int (i/(xs.length:Int))),.fz n,.fz (lN (xs.eraseIdx j)),.ow (lN (ys++[xs[j]])),.fz (.int (j:Int))]):=by
   unfold Bv;simp only[cK,lN,L,m1,m2,<-ej];simp only[cK,ix,ap,s1,a1,Z,ad,lN]
  unfold Gm;rw[t];show (match Bv _ with | some (.nx I)=>Gm Bh Bv f I | some (.ct I)=>Gm Bh Bv f I | some (.bk I)=>O0 (.nx I) | some (.rt e I)=>O0 (.rt e I) | none=>W1)=_;rw[b2];show Gm Bh Bv f _=_;rw[ih,E1];rfl
def Tg(i:Int)(n:Nat)(L:n<=5):∃os:List Nat,os.Perm (bg n)/\Ho [.int i,.int (n:Int)]=O0 (lN os):=by
 obtain⟨O,z,S,I,e⟩:=Ym (.int (n:Int)) n (bg n) [] i 60 .un .(1) (by simp;omega) .(0);rw[jv] at e;refine⟨z,I,?_⟩;have r:=yS n .(0);have J:(D.lst [])=lN []:=rfl;simp only[dK,Ho,KR,r,J,e]
def trn(z:List Nat)(W:Wl):Wl:=⟨W.n,W.ms.map λp=>(p.1,p.2.map λt=>z.getD t 0),W.ts.map λp=>(p.1,p.2.map λq=>(z.getD q.1 0,z.getD q.2 0))⟩
def Zw(z:List Nat)(W:Wl):mw (trn z W)=mw W:=by simp[trn,mw,eW]
def Zx(z:List Nat)(W:Wl):tw (trn z W)=tw W:=by simp[trn,tw,eW]
def oY(W:Wl)(h:lu W)(z:List Nat)(I:z.Perm (bg W.n)):lu (trn z W):=by
 refine Q4 W h _ _ (by rw[show ((W.ms.map λp=>(p.1,p.2.map λt=>z.getD t 0)).map (·.1))=W.ms.map (·.1) from Zw z W]) (by rw[show ((W.ts.map λp=>(p.1,p.2.map λq=>(z.getD q.1 0,z.getD q.2 0))).map (·.1))=W.ts.map (·.1) from Zx z W]) (λp T=>?_) (λp T=>?_)
 .obtain⟨q,U,rfl⟩:=bb.mp T;obtain⟨Z,_,Y⟩:=h.ml q U;refine⟨?_,λt S=>?_⟩
  .unfold lS;rw[iA];exact qf (λ{a b} L J O e=>O (Uh I (Y a L) (Y b J) e)) Z
  .obtain⟨s,hs,rfl⟩:=bb.mp S;exact Wy I (Y s hs)
 .obtain⟨q,U,rfl⟩:=bb.mp T;obtain⟨Z,_,Y⟩:=h.tl q U;refine⟨?_,λt S=>?_⟩
  .unfold lS;rw[iA];refine qf (λ{a b} L J O e=>O ?_) Z;have e1:z.getD a.1 0=z.getD b.1 0:=RI Prod.fst e;have e2:z.getD a.2 0=z.getD b.2 0:=RI Prod.snd e;exact rd (Uh I (Y a L).1 (Y b J).1 e1) (Uh I (Y a L).2 (Y b J).2 e2)
  .obtain⟨s,hs,rfl⟩:=bb.mp S;exact⟨Wy I (Y s hs).1,Wy I (Y s hs).2⟩
def AAe{W:Wl}(h:lu W):(mw W).Nodup:=(f6.mp h.nd).1
def AAf{W:Wl}(h:lu W):(tw W).Nodup:=(f6.mp h.nd).2.1
def yj{W:Wl}(I:List (Str×List Nat))(w:Str)(l:List Nat)(h:w∉I.map (·.1))(Y:I.length<=100):De (.dk (eM I)) (.str w) (lM l)=O0 (.dk (eM (I++[(w,l)]))):=by
 rw[Nk _ _ _ (by simp[eM];omega)];have:(.inr w:Key)∉(eM I).map (·.1):=JF lM h;rw[Nl this];simp[eM]
def yl{W:Wl}(I:List (Str×List (Nat×Nat)))(w:Str)(l:List (Nat×Nat))(h:w∉I.map (·.1))(Y:I.length<=100):De (.dk (eT I)) (.str w) (lT l)=O0 (.dk (eT (I++[(w,l)]))):=by
 rw[Nk _ _ _ (by simp[eT];omega)];have:(.inr w:Key)∉(eT I).map (·.1):=JF lT h;rw[Nl this];simp[eT]
theorem oZ(W:Wl)(h:lu W)(I:List Nat)(ho:I.length=W.n)(L:Slot):∀(r p:List (Str×List Nat)) (z:Slot),W.ms=p++r ->
  ∃S,MX (TR (Bx 3) FJ) ((r.map (·.1)).map .str) [.fz (wd W),.fz (lN I),.ow (.dk (eM (p.map λp=>(p.1,p.2.map λt=>I.getD t 0)))),z,L]=O0 (.nx [.fz (wd W),.fz (lN I),.ow (.dk (eM ((p++r).map λp=>(p.1,p.2.map λt=>I.getD t 0)))),S,L])
 |[],p,z,e=>⟨z,by rw[fI];rfl⟩
 |q::r,p,z,e=>by
  have U:q∈W.ms:=by rw[e];simp
  have i1:=ixw1 W;have a:=at_M W h U;have J:=AAe h;have O:=h.ml q U;have Z:q.1∉p.map (·.1):=by
   have:(W.ms.map (·.1)).Nodup:=J;rw[e,dP,f6] at this;exact λz=>this.2.2 q.1 z q.1 .(1) rfl
  have cm:BW (nq (bF kc (bF kc (vF 0) (kF (.int 1))) (vF 3))) rc HS [.fz (wd W),.fz (lN I),.ow (.dk (eM (p.map λp=>(p.1,p.2.map λt=>I.getD t 0)))),.fz (.str q.1),L]=O0 (.lst ((q.2.map λt=>I.getD t 0).map iN)):=by
   rw[cb];refine En q.2 iN _ ?_ .(0) λt ht=>?_
   .simp only[cK,i1,a,C_];exact E_ _
   .have:=Ww I t (by have:=O.2.2 t ht;omega);simp only[cK,HS,this,eW]
  have T:=yj (W:=W) (p.map λp=>(p.1,p.2.map λt=>I.getD t 0)) q.1 (q.2.map λt=>I.getD t 0) (by rw[cb];exact Z) (by
   have:=RI eC e;rw[eA,ci] at this;have:=h.m3;rw[ay];omega)
  unfold lM at T;have b:FJ [.fz (wd W),.fz (lN I),.ow (.dk (eM (p.map λp=>(p.1,p.2.map λt=>I.getD t 0)))),.fz (.str q.1),L]=O0 (.nx [.fz (wd W),.fz (lN I),.ow (.dk (eM ((p++[q]).map λp=>(p.1,p.2.map λt=>I.getD t 0)))),.fz (.str q.1),L]):=by
   rw[dP];simp only[FJ,Tp,e_v,kN,ku,Qb,QX,cm,Nj,T,LK,i7,i8,ba,fE]
  obtain⟨S,Y⟩:=oZ W h I ho L r (p++[q]) (.fz (.str q.1)) (by rw[e];simp);refine⟨S,?_⟩;rw[ba,ba,Ft,Ts,LR,Kl];simp only[i7,i8];rw[b,Fz,Y];simp
theorem oh(W:Wl)(h:lu W)(I:List Nat)(ho:I.length=W.n)(J:Slot):∀(r p:List (Str×List (Nat×Nat))) (z:Slot),W.ts=p++r ->
  ∃S,MX (TR (Bx 3) FN) ((r.map (·.1)).map .str) [.fz (wd W),.fz (lN I),J,z,.ow (.dk (eT (p.map λp=>(p.1,p.2.map λq=>(I.getD q.1 0,I.getD q.2 0)))))]=O0 (.nx [.fz (wd W),.fz (lN I),J,S,.ow (.dk (eT ((p++r).map λp=>(p.1,p.2.map λq=>(I.getD q.1 0,I.getD q.2 0)))))])
 |[],p,z,e=>⟨z,by rw[fI];rfl⟩
 |q::r,p,z,e=>by
  have U:q∈W.ts:=by rw[e];simp
  have i1:=ixw2 W;have a:=at_T W h U;have Y:=AAf h;have O:=h.tl q U;have Z:q.1∉p.map (·.1):=by
   have:(W.ts.map (·.1)).Nodup:=Y;rw[e,dP,f6] at this;exact λz=>this.2.2 q.1 z q.1 .(1) rfl
  have cm:BW (nq (bF kc (bF kc (vF 0) (kF (.int 2))) (vF 3))) rc HW [.fz (wd W),.fz (lN I),J,.fz (.str q.1),.ow (.dk (eT (p.map λp=>(p.1,p.2.map λq=>(I.getD q.1 0,I.getD q.2 0)))))]=O0 (.lst ((q.2.map λq=>(I.getD q.1 0,I.getD q.2 0)).map pN)):=by
   rw[cb];refine En q.2 pN _ ?_ .(0) λt L=>?_
   .simp only[cK,i1,a,C_];exact E_ _
   .have h1:=Ww I t.1 (by have:=(O.2.2 t L).1;omega);have h2:=Ww I t.2 (by have:=(O.2.2 t L).2;omega);have j0:=ixp0 t;have j1:=ixp1 t;simp only[cK,HW,j0,j1,h1,h2,eW]
  have T:=yl (W:=W) (p.map λp=>(p.1,p.2.map λq=>(I.getD q.1 0,I.getD q.2 0))) q.1 (q.2.map λq=>(I.getD q.1 0,I.getD q.2 0)) (by rw[cb];exact Z) (by
   have:=RI eC e;rw[eA,ci] at this;have:=h.t3;rw[ay];omega)
  unfold lT at T;have b:FN [.fz (wd W),.fz (lN I),J,.fz (.str q.1),.ow (.dk (eT (p.map λp=>(p.1,p.2.map λq=>(I.getD q.1 0,I.getD q.2 0)))))]=O0 (.nx [.fz (wd W),.fz (lN I),J,.fz (.str q.1),.ow (.dk (eT ((p++[q]).map λp=>(p.1,p.2.map λq=>(I.getD q.1 0,I.getD q.2 0)))))]):=by
   rw[dP];simp only[FN,Tp,e_v,kN,ku,Qb,QX,cm,Nj,T,LK,i7,i8,ba,fE]
  obtain⟨S,ih⟩:=oh W h I ho J r (p++[q]) (.fz (.str q.1)) (by rw[e];simp);refine⟨S,?_⟩;rw[ba,ba,Ft,Ts,LR,Kl];simp only[i7,i8];rw[b,Fz,ih];simp
theorem fY(W:Wl)(h:lu W)(z:List Nat)(ho:z.Perm (bg W.n)):G3 [wd W,lN z]=O0 (wd (trn z W)):=by
 have Y:z.length=W.n:=by rw[ho.length_eq,mN]
 obtain⟨Z,L⟩:=oZ W h z Y .un W.ms [] .un rfl;obtain⟨z2,I⟩:=oh W h z Y (.ow (.dk (eM (W.ms.map λp=>(p.1,p.2.map λt=>z.getD t 0))))) W.ts [] Z rfl;rw[jv] at L I;have U:=ixw0 W;have T:=ixw1 W;have O:=ixw2 W;have q1:Lf (O0 (.dk (eM W.ms)))=O0 ((W.ms.map (·.1)).map .str):=by rw[KH,W2]
 have q2:Lf (O0 (.dk (eT W.ts)))=O0 ((W.ts.map (·.1)).map .str):=by rw[KH,W3]
 have J:setW 2 (kF (.dk [])) [.fz (wd W),.fz (lN z),.un,.un,.un]=O0 (.nx [.fz (wd W),.fz (lN z),.ow (.dk (eM (([]:List (Str×List Nat)).map λp=>(p.1,p.2.map λt=>z.getD t 0)))),.un,.un]):=rfl;have S:setW 4 (kF (.dk [])) [.fz (wd W),.fz (lN z),.ow (.dk (eM (W.ms.map λp=>(p.1,p.2.map λt=>z.getD t 0)))),Z,.un]=O0 (.nx [.fz (wd W),.fz (lN z),.ow (.dk (eM (W.ms.map λp=>(p.1,p.2.map λt=>z.getD t 0)))),Z,.ow (.dk (eT (([]:List (Str×List (Nat×Nat))).map λp=>(p.1,p.2.map λq=>(z.getD q.1 0,z.getD q.2 0)))))]):=rfl;unfold G3 Jh;rw[Jt (show [wd W,lN z].length=2 from rfl),DQ];simp only[ci,nE,ba,fE,sq,sv,sA,sB,sC,jv];rw[Et,J,OT,Et,Te];simp only[C_,e_b,e_v,kN,ku,Qb,e_k,Xs,T,q1,Ni];rw[L,OT,Et,S,OT,Et,Te];simp only[C_,e_b,e_v,kN,ku,Qb,e_k,Xs,O,q2,Ni];rw[I,OT];simp only[dK,U];rfl
def YU{α:Type}[DecidableEq α](t:α)(l:List α):List α:=if t∈l then l.filter (λx=>!decide (x=t)) else l++[t]
def ou{z:Type}[DecidableEq z]{t:z}{l:List z}(h:l.Nodup):(YU t l).Nodup:=by
 unfold YU;split
 .exact FR MD h
 .rename_i c;rw[f6];exact⟨h,by simp,λa J b I e=>by simp at I;subst I;subst e;exact c J⟩
def cX{z:Type}[DecidableEq z]{t x:z}{l:List z}(h:x∈YU t l):x∈l∨x=t:=by
 unfold YU at h;split at h
 .exact .inl (dS.mp h).1
 .rcases dA.mp h with h | h
  .exact .inl h
  .exact .inr (by simpa using h)
def uM{z:Type}(l:List z)(e:z->D)(f:z->Bool)(hs:src ρ=O0 (l.map e))(O:l.length<=1000)(h1:∀x∈l,ga (ρ++[.fz (e x)])=O0 (f x))(L:∀x∈l,fe (ρ++[.fz (e x)])=O0 (e x)):BW src ga fe ρ=O0 (.lst ((l.filter f).map e)):=by
 have c:∀m:List z,(∀x∈m,x∈l)->Jo ρ ga fe (m.map e)=O0 ((m.filter f).map e):=by
  intro m
  induction m with
  |nil=>intro _;rfl
  |cons k r I=>
   intro Y;rw[ba,J8,h1 k (Y k .(1)),L k (Y k .(1)),I λd J=>Y d (by simp[J]),MC];cases f k<;>rfl
 exact Rm hs (by rw[ay];omega) (c l λ_ h=>h)
def cY{z:Type}[DecidableEq z](e:z->D)(t:z)(l:List z)(Y:l.length<=1000)(inE:PZ O2 (e t) (.lst (l.map e))=O0 (.bl (decide (t∈l))))(I:∀x y,MY O1 (e x) (e y)=O0 (.bl (!decide (x=y)))):Dg [.lst (l.map e),e t]=O0 (.lst ((YU t l).map e)):=by
 have J:BW (nq (vF 0)) Ik Il [.fz (.lst (l.map e)),.fz (e t)]=O0 (.lst ((l.filter λx=>!decide (x=t)).map e)):=
  uM l e _ (by simp only[cK,C_,E_]) Y (λx _=>by
   have:=I x t;simp only[cK,Ik,this]) λx _=>by simp only[cK,Il]
 simp only[cK,Dg,KY,inE];unfold YU
 by_cases c:t∈l
 .rw[QI c,WH c];simp only[cK,J]
 .rw[OI c,ZH c];have Z:rz (.lst (l.map e)) (.lst [e t])=O0 (.lst ((l++[t]).map e)):=by rw[V9 (by simp;omega)];simp
  simp only[cK,Z]
def AAg(a b:Nat):MY O1 (.int (a:Int)) (.int (b:Int))=O0 (.bl (!decide (a=b))):=by rw[aU,W0]
def AAh(x y:Pr):MY O1 (pN x) (pN y)=O0 (.bl (!decide (x=y))):=by
 have e:∀a b:Nat,Ps 180 (.int (a:Int)) (.int (b:Int))=O0 (decide (a=b)):=λa b=>by
  show O0 (To (.int (a:Int)) (.int (b:Int)))=_
  by_cases z:a=b
  .subst z;simp[To]
  .have:¬ ((a:Int)=(b:Int)):=by omega
   simp[To,z,this]
 have:Tl (pN x) (pN y)=O0 (decide (x=y)):=by
  show (if 2=2 then NX (Ps 180) [.int (x.1:Int),.int (x.2:Int)] [.int (y.1:Int),.int (y.2:Int)] else W1)=_;rw[WH rfl];simp only[NX,e];obtain⟨a,b⟩:=x;obtain⟨c,d⟩:=y
  by_cases J:a=c<;>by_cases I:b=d<;>simp[J,I]
 unfold MY;rw[this];rfl
def uN(t:Nat)(l:List Nat)(Y:l.length<=1000):Dg [lM l,.int (t:Int)]=O0 (lM (YU t l)):=cY iN t l Y (in_i t l) AAg
def uO(t:Pr)(l:List Pr)(Y:l.length<=1000):Dg [lT l,pN t]=O0 (lT (YU t l)):=cY pN t l Y (by rw[in_p t l];congr 2;rw[decide_eq_decide]) AAh
def chg{z:Type}(w:Str)(l:z)(I:List (Str×z)):List (Str×z):=I.map λp=>(p.1,if p.1=w then l else p.2)
def W8{z:Type}(w:Str)(l:z)(I:List (Str×z)):(chg w l I).map (·.1)=I.map (·.1):=by simp[chg,eW]
def cZ{J:Type}(f:J->D)(w:Str)(l:J)(I:List (Str×J))(h:w∈I.map (·.1))(Y:I.length<=100):De (.dk (I.map λp=>((.inr p.1:Key),f p.2))) (.str w) (f l)=O0 (.dk ((chg w l I).map λp=>((.inr p.1:Key),f p.2))):=by
 rw[Nk _ _ _ (by simp;omega)];have g:∀I:List (Str×J),w∈I.map (·.1)->(vb (.inr w:Key) (I.map λp=>((.inr p.1:Key),f p.2))).isSome=O1:=λI=>by
  induction I with
  |nil=>intro h;simp at h
  |cons p r L=>
   intro h;rw[ba];show (if (.inr p.1:Key)=.inr w then O0 (f p.2) else vb (.inr w:Key) (r.map λp=>((.inr p.1:Key),f p.2))).isSome=O1;split
   .rfl
   .rename_i c;refine L ?_
    rcases br.mp h with h | h
    .exact NI (by rw[h]) c
    .exact h
 have r:∀I:List (Str×J),UZ (.inr w:Key) (f l) (I.map λp=>((.inr p.1:Key),f p.2))=(chg w l I).map λp=>((.inr p.1:Key),f p.2):=λI=>by
  induction I with
  |nil=>rfl
  |cons p r L=>
   rw[ba];show ((.inr p.1:Key),if (.inr p.1:Key)=.inr w then f l else f p.2)::UZ (.inr w:Key) (f l) (r.map λp=>((.inr p.1:Key),f p.2))=_;rw[L];show _=((.inr p.1:Key),f (if p.1=w then l else p.2))::(chg w l r).map λp=>((.inr p.1:Key),f p.2);congr 2
   by_cases c:p.1=w
   .rw[WH c,WH (by rw[c])]
   .rw[ZH c,ZH (λz=>c (by simpa using z))]
 unfold QU;rw[g I h,WH rfl,r]
def cg{z:Type}{w:Str}{l:z}{I:List (Str×z)}{p:Str×z}(h:p∈chg w l I):p∈I∨p.2=l:=by
 unfold chg at h;obtain⟨q,U,rfl⟩:=bb.mp h
 by_cases c:q.1=w
 .exact .inr (by show (if q.1=w then l else q.2)=l;rw[WH c])
 .exact .inl (by rw[ZH c];exact U)
structure Lk (W V:Wl):Prop where
 ok:lu V
 n:V.n=W.n
 mm:mw V=mw W
 tt:tw V=tw W
def o6(k:List (Key×D)):uj (.dk k)=O0 (.int (k.length:Int)):=bM k
theorem Zy(W:Wl)(h:lu W)(c:Int):∃V,Lk W V/\CV [wd W,.int c]=O0 (wd V):=by
 have n5:=h.n5;have m3:=h.m3;have t3:=h.t3;have mx:=oE W.n 1;have mx:YV (.int (W.n:Int)) (.int 1)=O0 (.int ((max W.n 1:Nat):Int)):=mx;have O:=Gp c ((max W.n 1:Nat):Int) .(0);have T:=Eh c 5 .(2) .(2);have L:=Gp (c/5) ((max W.n 1:Nat):Int) .(0);have Z:=Eh c 25 .(2) .(2);have en:MY O2 (.int (W.n:Int)) (.int 0)=O0 (.bl (decide (W.n=0))):=Px W.n 0;have lm:uj (.dk (eM W.ms))=O0 (.int (W.ms.length:Int)):=by rw[o6];simp[eM]
 have lt:uj (.dk (eT W.ts))=O0 (.int (W.ts.length:Int)):=by rw[o6];simp[eT]
 have ad:=HR (W.ms.length:Int) (W.ts.length:Int);have U:∀Y:Rho,NM 3 (A_ 2 (A_ 3 (A_ 4 NN))) (wd W) Y=O0 (((Y.set 2 (.fz (.int (W.n:Int)))).set 3 (.fz (.dk (eM W.ms)))).set 4 (.fz (.dk (eT W.ts)))):=λY=>rfl;have I:∀(f:FE) (g:FG) (Y:Rho) (d:D),f Y=O0 d->UO f g Y=(g d Y).map .nx:=λf g Y d e=>by unfold UO;rw[e];rfl
 obtain⟨a,ea⟩:∃a:Nat,(a:Int)=c%((max W.n 1:Nat):Int):=⟨(c%((max W.n 1:Nat):Int)).toNat,by have:=ze c (show ((max W.n 1:Nat):Int)≠0 by omega);omega⟩;obtain⟨b,eb⟩:∃b:Nat,(b:Int)=c/5%((max W.n 1:Nat):Int):=⟨(c/5%((max W.n 1:Nat):Int)).toNat,by have:=ze (c/5) (show ((max W.n 1:Nat):Int)≠0 by omega);omega⟩;have ha:W.n≠0->a<W.n:=λz=>by have:=zh c (show 0<((max W.n 1:Nat):Int) by omega);omega
 have hb:W.n≠0->b<W.n:=λz=>by have:=zh (c/5) (show 0<((max W.n 1:Nat):Int) by omega);omega
 rw[<-ea] at O;rw[<-eb] at L
 by_cases c0:W.n=0
 .refine⟨W,⟨h,rfl,rfl,rfl⟩,?_⟩;rw[QI c0] at en;unfold CV DW;rw[Jt (show [wd W,.int c].length=2 from rfl),DQ,Et,I _ _ _ (wd W) rfl,U];simp only[cK,mx,O,T,L,en]
 .rw[OI c0] at en
  by_cases cz:W.ms.length+W.ts.length=0
  .refine⟨W,⟨h,rfl,rfl,rfl⟩,?_⟩;have ez:MY O2 (.int ((W.ms.length:Int)+(W.ts.length:Int))) (.int 0)=O0 (.bl O1):=by rw[TY,QI .(0)]
   unfold CV DW;rw[Jt (show [wd W,.int c].length=2 from rfl),DQ,Et,I _ _ _ (wd W) rfl,U];simp only[cK,mx,O,T,L,en,lm,lt,ad,ez]
  .have ez:MY O2 (.int ((W.ms.length:Int)+(W.ts.length:Int))) (.int 0)=O0 (.bl O2):=by rw[TY,OI .(0)]
   have N0:=Gp (c/25) ((W.ms.length:Int)+(W.ts.length:Int)) .(0);obtain⟨j,ej⟩:∃j:Nat,(j:Int)=c/25%((W.ms.length:Int)+(W.ts.length:Int)):=⟨(c/25%((W.ms.length:Int)+(W.ts.length:Int))).toNat,by have:=ze (c/25) (show (W.ms.length:Int)+(W.ts.length:Int)≠0 by omega);omega⟩;have hj:j<W.ms.length+W.ts.length:=by have:=zh (c/25) (show 0<(W.ms.length:Int)+(W.ts.length:Int) by omega);omega
   rw[<-ej] at N0;have dm:VD (.dk (eM W.ms))=O0 (.dk (eM W.ms)):=rfl;have dt:VD (.dk (eT W.ts))=O0 (.dk (eT W.ts)):=rfl;have S:ltD (.int (j:Int)) (.int (W.ms.length:Int))=O0 (.bl (decide (j<W.ms.length))):=oN j W.ms.length
   by_cases cj:j<W.ms.length
   .rw[QI cj] at S;have hk:j<(W.ms.map (·.1)).length:=by rw[ay];exact cj
    have lf:QY (.dk (eM W.ms))=O0 (.lst ((W.ms.map (·.1)).map .str)):=by rw[cH,W2]
    have ix:=QH hk;have J:W.ms[j]∈W.ms:=gu cj;have ew:(W.ms.map (·.1))[j]=(W.ms[j]).1:=by rw[Gc]
    rw[ew] at ix;have S0:=at_M W h J;have ml:=h.ml _ J;have ot:=uN a (W.ms[j]).2 .(0);have pc:De (.dk (eM W.ms)) (.str (W.ms[j]).1) (lM (YU a (W.ms[j]).2))=O0 (.dk (eM (chg (W.ms[j]).1 (YU a (W.ms[j]).2) W.ms))):=cZ lM _ _ W.ms (bb.mpr ⟨_,J,rfl⟩) .(0);refine⟨⟨W.n,chg (W.ms[j]).1 (YU a (W.ms[j]).2) W.ms,W.ts⟩,⟨Q4 W h _ _ (by rw[W8]) (.refl _) (λp J=>?_) (λp J=>⟨(h.tl p J).1,(h.tl p J).2.2⟩),rfl,W8 _ _ _,rfl⟩,?_⟩
    .rcases cg J with z | z
     .exact⟨(h.ml p z).1,(h.ml p z).2.2⟩
     .rw[z];refine⟨ou ml.1,λt ht=>?_⟩
      rcases cX ht with y | y
      .exact ml.2.2 t y
      .rw[y];exact ha c0
    .unfold CV DW;rw[Jt (show [wd W,.int c].length=2 from rfl),DQ,Et,I _ _ _ (wd W) rfl,U];simp only[cK,mx,O,T,L,en,lm,lt,ad,ez,Z,N0,dm,dt,S,lf,ix,S0,ot,Tp,Nj,pc];rfl
   .rw[OI cj] at S;have sj:j-W.ms.length<W.ts.length:=by omega
    have sb:SW (.int (j:Int)) (.int (W.ms.length:Int))=O0 (.int ((j-W.ms.length:Nat):Int)):=by rw[QW];congr 2;omega
    have hk:j-W.ms.length<(W.ts.map (·.1)).length:=by rw[ay];exact sj
    have lf:QY (.dk (eT W.ts))=O0 (.lst ((W.ts.map (·.1)).map .str)):=by rw[cH,W3]
    have ix:=QH hk;have J:W.ts[j-W.ms.length]∈W.ts:=gu sj;have ew:(W.ts.map (·.1))[j-W.ms.length]=(W.ts[j-W.ms.length]).1:=by rw[Gc]
    rw[ew] at ix;have S0:=at_T W h J;have ml:=h.tl _ J;have ot:=uO (a,b) (W.ts[j-W.ms.length]).2 .(0);have pc:De (.dk (eT W.ts)) (.str (W.ts[j-W.ms.length]).1) (lT (YU (a,b) (W.ts[j-W.ms.length]).2))=O0 (.dk (eT (chg (W.ts[j-W.ms.length]).1 (YU (a,b) (W.ts[j-W.ms.length]).2) W.ts))):=cZ lT _ _ W.ts (bb.mpr ⟨_,J,rfl⟩) .(0);refine⟨⟨W.n,W.ms,chg (W.ts[j-W.ms.length]).1 (YU (a,b) (W.ts[j-W.ms.length]).2) W.ts⟩,⟨Q4 W h _ _ (.refl _) (by rw[W8]) (λp J=>⟨(h.ml p J).1,(h.ml p J).2.2⟩) (λp J=>?_),rfl,rfl,W8 _ _ _⟩,?_⟩
    .rcases cg J with z | z
     .exact⟨(h.tl p z).1,(h.tl p z).2.2⟩
     .rw[z];refine⟨ou ml.1,λt ht=>?_⟩
      rcases cX ht with y | y
      .exact ml.2.2 t y
      .rw[y];exact⟨ha c0,hb c0⟩
    .unfold CV DW;rw[Jt (show [wd W,.int c].length=2 from rfl),DQ,Et,I _ _ _ (wd W) rfl,U];simp only[cK,mx,O,T,L,en,lm,lt,ad,ez,Z,N0,dm,dt,S,sb,lf,ix,S0,ot,Tp,Nj,pc];rfl
def AAi:shlD (.int 1) (.int 90)=O0 (.int 1237940039285380274899124224):=by
 show (if CShl 1 90 then O0 (D.int (1*2^(90:Int).toNat)) else W1)=_;rw[WH (by unfold CShl;decide +kernel)];rfl
def uP(i:Int)(h:i6 i<=1048576):Sj (.int i) (.int 27182818284590452353602874713526624977572470936999595749669)=O0 (.int (i*27182818284590452353602874713526624977572470936999595749669)):=by
 show (if M5 i _ then O0 (D.int (i*_)) else W1)=_;rw[WH (.inr ⟨by omega,by decide +kernel⟩)]
def SZ:List Nat:=[2,3,1,3,4,2,3,0,4,2,3,5]
def MW:List Str:=["red","o","redo"]
def TW:List Str:=["near","n","under"]
def o7:∀x∈MW++TW,Wd x:=by
 have h:∀x∈MW++TW,(1<=x.length/\x.length<=8)/\(∀c∈cs x,c∈cs LET)/\x∉KEPT:=by decide +kernel
 exact λx z=>⟨(h x z).1.1,(h x z).1.2,(h x z).2.1,(h x z).2.2⟩
def ym:(MW++TW).Nodup:=by decide +kernel
def yo(j k:Nat):Wds (MW.take j) (TW.take k):=by
 refine⟨?_,?_,?_,λx z=>o7 x (by simp[Fh z]),λx z=>o7 x (by simp[Fh z])⟩
 .rw[ic];show min j 3<=3;omega
 .rw[ic];show min k 3<=3;omega
 .exact FR (List.Sublist.append (D3 _ _) (D3 _ _)) ym
def Jf(c:Int)(m:Nat)(h:0<m):∃j:Nat,j<m/\Nn (.int c) (.int (m:Int))=O0 (.int (j:Int))/\c%(m:Int)=(j:Int):=by
 have J:=ze c (show (m:Int)≠0 by omega);have z:=zh c (show 0<(m:Int) by omega);refine⟨(c%(m:Int)).toNat,by omega,?_,by omega⟩;rw[Gp c m .(0)];congr 2;omega
def AAj(j:Nat)(h:j<12):∃n:Nat,n<=5/\kc (.lst [.int 2,.int 3,.int 1,.int 3,.int 4,.int 2,.int 3,.int 0,.int 4,.int 2,.int 3,.int 5]) (.int (j:Int))=O0 (.int (n:Int)):=by
 have e:=Ww SZ j (by show j<12;exact h);refine⟨SZ.getD j 0,?_,e⟩;have:∀x∈SZ,x<=5:=by decide
 rw[qo,db (by show j<12;exact h)];exact this _ (gu _)
def Vi(l:List Str)(k:Nat):slD (.lst (l.map .str)) W1 (O0 (k:Int))=O0 (.lst ((l.take k).map .str)):=by rw[sl_l,vn]
def W9(a b c d e f g h i j k l:D):lstO (O0 [a,b,c,d,e,f,g,h,i,j,k,l])=O0 (.lst [a,b,c,d,e,f,g,h,i,j,k,l]):=gn _
theorem o8(z I S J:Int)(hb:i6 I<=1048576):∃W V,lu W/\lu V/\mw V=mw W/\tw V=tw W/\Cq [.lst [.int z,.int I,.int S,.int J]]=O0 (.lst [wd W,wd V]):=by
 have T0:∀ρ:Rho,NM 4 (A_ 1 (A_ 2 (A_ 3 (A_ 4 NN)))) (.lst [.int z,.int I,.int S,.int J]) ρ=O0 ((((ρ.set 1 (.fz (.int z))).set 2 (.fz (.int I))).set 3 (.fz (.int S))).set 4 (.fz (.int J))):=λρ=>rfl;have L:∀(f:FE) (g:FG) (ρ:Rho) (d:D),f ρ=O0 d->UO f g ρ=(g d ρ).map .nx:=λf g ρ d e=>by unfold UO;rw[e];rfl
 have big:=uP I hb;have sh:=AAi;have mb:=Gp (I*27182818284590452353602874713526624977572470936999595749669) 1237940039285380274899124224 .(2);have U2:=Gp I 1237940039285380274899124224 .(2);have T2:=Gp J 1237940039285380274899124224 .(2);have m3:=Gp z 3 .(2);have e3:=TY (z%3) 2;have d3:=Eh z 3 .(2) .(2);have ml:=aP (z/3) 1000000007 .(2);have mn:=Gp (z/3*1000000007) 2147483647 .(2);generalize (z/3*1000000007)%2147483647=XZ at mn;obtain⟨j0,X2,q0,_⟩:=Jf XZ 12 .(2);obtain⟨n,hn,Y⟩:=AAj j0 X2;have S0:=Eh XZ 12 .(2) .(2);have N0:=Eh XZ 36 .(2) .(2);obtain⟨j1,P4,q1,_⟩:=Jf (XZ/12) 3 .(2);obtain⟨j2,N4,q2,_⟩:=Jf (XZ/36) 3 .(2);have t1:=Vi MW j1;have t2:=Vi TW j2;have N3:((12:Nat):Int)=12:=rfl;have c3:((3:Nat):Int)=3:=rfl;rw[N3] at q0;rw[c3] at q1 q2;change slD (.lst [.str "red",.str "o",.str "redo"]) W1 (O0 (j1:Int))=_ at t1;change slD (.lst [.str "near",.str "n",.str "under"]) W1 (O0 (j2:Int))=_ at t2;have hW:=yo j1 j2;obtain⟨O,eb⟩:∃O:Int,O=if z%3=2 then I%1237940039285380274899124224 else (I*27182818284590452353602874713526624977572470936999595749669)%1237940039285380274899124224:=⟨_,rfl⟩
 obtain⟨W,wn,wm,wt,wo,we⟩:=Um n hn _ _ hW O;obtain⟨k,hk,qk,ek⟩:=Jf S 5 .(2);have d5:=Eh S 5 .(2) .(2);obtain⟨n2,Y3,q5,_⟩:=Jf (S/5) 5 .(2);have c5:((5:Nat):Int)=5:=rfl;rw[c5] at qk q5;have T:MY O2 (.int (k:Int)) (.int 0)=O0 (.bl (decide (k=0))):=Px k 0;have U:MY O2 (.int (k:Int)) (.int 1)=O0 (.bl (decide (k=1))):=Px k 1;have Z:MY O2 (.int (k:Int)) (.int 2)=O0 (.bl (decide (k=2))):=Px k 2;obtain⟨V0,S3,Q2,X1,Y1,S2⟩:=Um n2 .(0) _ _ hW (J%1237940039285380274899124224);obtain⟨V1,P3,S1,N1,P1,U1⟩:=Um (min (n+1) 4) .(0) _ _ hW O;have an:rz (.int (n:Int)) (.int 1)=O0 (.int ((n+1:Nat):Int)):=by rw[HR];congr 2
 have mi:minD (.int ((n+1:Nat):Int)) (.int 4)=O0 (.int ((min (n+1) 4:Nat):Int)):=Zu (n+1) 4;obtain⟨os,po,oe⟩:=Tg (S/5) n hn;rw[<-wn] at po;have te:=fY W wo os po;have Y2:=Eh J 3 .(2) .(2);obtain⟨V3,v3,X0⟩:=Zy (trn os W) (oY W wo os po) (J/3);have st:∀R,dq (mf 5 (bF Nn (bF Sj (vF 2) (kF (.int 27182818284590452353602874713526624977572470936999595749669))) (bF shlD (kF (.int 1)) (kF (.int 90))))) (dq (QO (wh (bF (MY O2) (bF Nn (vF 1) (kF (.int 3))) (kF (.int 2)))) (mf 5 (bF Nn (vF 2) (bF shlD (kF (.int 1)) (kF (.int 90))))) (Si)) R) [.fz (.lst [.int z,.int I,.int S,.int J]),.fz (.int z),.fz (.int I),.fz (.int S),.fz (.int J),.un,.un,.un,.un,.un,.un,.un,.un]=R [.fz (.lst [.int z,.int I,.int S,.int J]),.fz (.int z),.fz (.int I),.fz (.int S),.fz (.int J),.fz (.int O),.un,.un,.un,.un,.un,.un,.un]:=λR=>by
  by_cases c:z%3=2
  .rw[WH c] at eb;rw[QI c] at e3;simp only[cK,big,sh,mb,m3,e3,U2];rw[eb]
  .rw[ZH c] at eb;rw[OI c] at e3;simp only[cK,big,sh,mb,m3,e3];rw[eb]
 by_cases k0:k=0
 .refine⟨W,V0,wo,Y1,by rw[Q2,wm],by rw[X1,wt],?_⟩;rw[QI k0] at T;unfold Cq Ej;rw[Jt (show [D.lst [.int z,.int I,.int S,.int J]].length=1 from rfl),DQ,Et,L _ _ _ (.lst [.int z,.int I,.int S,.int J]) rfl,T0,LK,OT];simp only[ci,nE,ba,fE,sq,sv,sA,sB,sC,jv,i7,i8];rw[st];simp only[cK,W9,d3,ml,mn,q0,Y,S0,q1,t1,N0,q2,t2,we,qk,T,d5,q5,sh,T2,S2]
 .rw[OI k0] at T
  by_cases k1:k=1
  .refine⟨W,V1,wo,P1,by rw[S1,wm],by rw[N1,wt],?_⟩;rw[QI k1] at U;unfold Cq Ej;rw[Jt (show [D.lst [.int z,.int I,.int S,.int J]].length=1 from rfl),DQ,Et,L _ _ _ (.lst [.int z,.int I,.int S,.int J]) rfl,T0,LK,OT];simp only[ci,nE,ba,fE,sq,sv,sA,sB,sC,jv,i7,i8];rw[st];simp only[cK,W9,d3,ml,mn,q0,Y,S0,q1,t1,N0,q2,t2,we,qk,T,U,an,mi,U1]
  .rw[OI k1] at U
   by_cases k2:k=2
   .refine⟨W,trn os W,wo,oY W wo os po,Zw os W,Zx os W,?_⟩;rw[QI k2] at Z;unfold Cq Ej;rw[Jt (show [D.lst [.int z,.int I,.int S,.int J]].length=1 from rfl),DQ,Et,L _ _ _ (.lst [.int z,.int I,.int S,.int J]) rfl,T0,LK,OT];simp only[ci,nE,ba,fE,sq,sv,sA,sB,sC,jv,i7,i8];rw[st];simp only[cK,W9,d3,ml,mn,q0,Y,S0,q1,t1,N0,q2,t2,we,qk,T,U,Z,d5,oe,te]
   .rw[OI k2] at Z;refine⟨W,V3,wo,v3.ok,by rw[v3.mm,Zw],by rw[v3.tt,Zx],?_⟩;unfold Cq Ej;rw[Jt (show [D.lst [.int z,.int I,.int S,.int J]].length=1 from rfl),DQ,Et,L _ _ _ (.lst [.int z,.int I,.int S,.int J]) rfl,T0,LK,OT];simp only[ci,nE,ba,fE,sq,sv,sA,sB,sC,jv,i7,i8];rw[st];simp only[cK,W9,d3,ml,mn,q0,Y,S0,q1,t1,N0,q2,t2,we,qk,T,U,Z,d5,oe,te,Y2,X0]
theorem W_{J:Type}{b:D->FS}(S:Rho->Prop)(e:J->D)(P:J->Bool)(r:D):∀(l:List J) (ρ:Rho),S ρ->(∀x∈l,∀ρ,S ρ->∃z,S z/\b (e x) ρ=O0 (if P x=O1 then .nx z else .rt r z)) ->
  ∃z,S z/\MX b (l.map e) ρ=O0 (if l.all P=O1 then .nx z else .rt r z)
 |[],ρ,s,_=>⟨ρ,s,rfl⟩
 |x::l,ρ,s,h=>by
  obtain⟨I,L,W⟩:=h x .(1) ρ s;rw[ba,Ft,W,tz];cases Y:P x with
  |false=>exact⟨I,L,rfl⟩
  |true=>
   obtain⟨z,O,T⟩:=W_ S e P r l I L λy U=>h y (by simp[U]);exact⟨z,O,by rw[WH rfl,Fz,T,so]⟩
def e_ws(W:Wl):Lf (O0 (D.dk (eM W.ms)))=O0 ((mw W).map .str):=by rw[KH,W2]
def e_wt(W:Wl):Lf (O0 (D.dk (eT W.ts)))=O0 ((tw W).map .str):=by rw[KH,W3]
def o9(a b:Nat):MY O2 (.int (a:Int)) (.int (b:Int))=O0 (.bl (decide (a=b))):=Px a b
theorem fit2{W V:Wl}(h:Sp W V)(p q:Pr)(I O:PV.Slot):∃J,MX (TR (Bx 5) Ht) ((tw W).map .str) [.fz (wd W),.fz (wd V),I,.fz (.int (p.1:Int)),.fz (.int (p.2:Int)),O,.fz (.int (q.1:Int)),.fz (.int (q.2:Int))] =
  O0 (if Jv W V p q=O1 then .nx [.fz (wd W),.fz (wd V),I,.fz (.int (p.1:Int)),.fz (.int (p.2:Int)),J,.fz (.int (q.1:Int)),.fz (.int (q.2:Int))] else .rt (.bl O2) [.fz (wd W),.fz (wd V),I,.fz (.int (p.1:Int)),.fz (.int (p.2:Int)),J,.fz (.int (q.1:Int)),.fz (.int (q.2:Int))]):=by
 have T:=ixw2 W;have S:=ixw2 V;exact MN (tg:=Bx 5) (b:=Ht) (λz=>[.fz (wd W),.fz (wd V),I,.fz (.int (p.1:Int)),.fz (.int (p.2:Int)),z,.fz (.int (q.1:Int)),.fz (.int (q.2:Int))]) D.str (λw=>tk W w p.1 q.1==tk V w p.2 q.2) (.bl O2) (λd z=>rfl) (tw W) O λw L=>by
  obtain⟨d1,Y,U,_⟩:=vX W L p.1 q.1;obtain⟨Z,b1,b2,_⟩:=vX V (h.tt w L) p.2 q.2;simp only[cK,Ht,T,S,Y,U,b1,b2,Ve];cases (tk W w p.1 q.1==tk V w p.2 q.2)<;>rfl
theorem fit1{W V:Wl}(h:Sp W V)(p:Pr)(J L I O:PV.Slot):∃S,MX (TR (Bx 5) Hs) ((mw W).map .str) [.fz (wd W),.fz (wd V),J,.fz (.int (p.1:Int)),.fz (.int (p.2:Int)),L,I,O] =
  O0 (if O5 W V p=O1 then .nx [.fz (wd W),.fz (wd V),J,.fz (.int (p.1:Int)),.fz (.int (p.2:Int)),S,I,O] else .rt (.bl O2) [.fz (wd W),.fz (wd V),J,.fz (.int (p.1:Int)),.fz (.int (p.2:Int)),S,I,O]):=by
 have Y:=ixw1 W;have U:=ixw1 V;exact MN (tg:=Bx 5) (b:=Hs) (λz=>[.fz (wd W),.fz (wd V),J,.fz (.int (p.1:Int)),.fz (.int (p.2:Int)),z,I,O]) D.str (λw=>mk W w p.1==mk V w p.2) (.bl O2) (λd z=>rfl) (mw W) L λw T=>by
  obtain⟨d1,a1,Z⟩:=vW W T p.1;obtain⟨d2,b1,b2⟩:=vW V (h.mm w T) p.2;simp only[cK,Hs,Y,U,a1,Z,b1,b2,Ve];cases (mk W w p.1==mk V w p.2)<;>rfl
def fq(W V:Wl)(p q:Pr):Bool:=(decide (p.1=q.1)==decide (p.2=q.2))&&Jv W V p q
def fp(W V:Wl)(rows:List Pr)(p:Pr):Bool:=O5 W V p&&rows.all (fq W V p)
def uQ(W V:Wl)(rows:List Pr):rows.all (fp W V rows)=QP W V rows:=by
 rw[kg];simp only[fp,fq,QP,goB,eS,eD];constructor
 .intro h p z;exact⟨⟨(h p z).1,((h p z).2 p z).2⟩,λq U=>⟨((h p z).2 q U).1,((h p z).2 q U).2,((h q U).2 p z).2⟩⟩
 .intro h p z;exact⟨(h p z).1.1,λq U=>⟨((h p z).2 q U).1,((h p z).2 q U).2.1⟩⟩
def fit3{W V:Wl}(h:Sp W V)(p q:Pr)(I O T S:PV.Slot):∃J,TR (NM 2 (A_ 6 (A_ 7 NN))) Ge (pN q) [.fz (wd W),.fz (wd V),I,.fz (.int (p.1:Int)),.fz (.int (p.2:Int)),O,T,S] =
  O0 (if fq W V p q=O1 then .nx [.fz (wd W),.fz (wd V),I,.fz (.int (p.1:Int)),.fz (.int (p.2:Int)),J,.fz (.int (q.1:Int)),.fz (.int (q.2:Int))] else .rt (.bl O2) [.fz (wd W),.fz (wd V),I,.fz (.int (p.1:Int)),.fz (.int (p.2:Int)),J,.fz (.int (q.1:Int)),.fz (.int (q.2:Int))]):=by
 have U:=ixw2 W;have Y:=e_wt W;have L:=o9 p.1 q.1;have z:=o9 p.2 q.2;have ne:=Ve (decide (p.1=q.1)) (decide (p.2=q.2));rw[Ts,Mq,Kl];unfold fq;cases c:(decide (p.1=q.1)==decide (p.2=q.2)) with
 |false=>
  rw[c] at ne;refine⟨O,?_⟩;simp only[cK,Ge,L,z,ne];rfl
 |true=>
  rw[c] at ne;obtain⟨J,e⟩:=fit2 h p q I O;refine⟨J,?_⟩;simp only[cK,Ge,L,z,ne,U,C_,Y,e,so]
theorem fit4{W V:Wl}(h:Sp W V)(rows:List Pr)(p:Pr)(z3 z4 L z O:PV.Slot):∃J I Y,TR (NM 2 (A_ 3 (A_ 4 NN))) Gf (pN p) [.fz (wd W),.fz (wd V),.fz (.lst (rows.map pN)),z3,z4,L,z,O] =
  O0 (if fp W V rows p=O1 then .nx [.fz (wd W),.fz (wd V),.fz (.lst (rows.map pN)),.fz (.int (p.1:Int)),.fz (.int (p.2:Int)),J,I,Y] else .rt (.bl O2) [.fz (wd W),.fz (wd V),.fz (.lst (rows.map pN)),.fz (.int (p.1:Int)),.fz (.int (p.2:Int)),J,I,Y]):=by
 have S:=ixw1 W;have T:=e_ws W;rw[Ts,Mq,Kl];unfold fp;obtain⟨J,e⟩:=fit1 h p (.fz (.lst (rows.map pN))) L z O;cases c:O5 W V p with
 |false=>
  rw[c] at e;refine⟨J,z,O,?_⟩;simp only[cK,Gf,S,C_,T,e];rfl
 |true=>
  rw[c] at e;obtain⟨U,⟨u5,u6,u7,rfl⟩,e'⟩:=W_ (b:=TR (NM 2 (A_ 6 (A_ 7 NN))) Ge) (λZ=>∃J I Y,Z=[.fz (wd W),.fz (wd V),.fz (.lst (rows.map pN)),.fz (.int (p.1:Int)),.fz (.int (p.2:Int)),J,I,Y]) pN (fq W V p) (.bl O2) rows [.fz (wd W),.fz (wd V),.fz (.lst (rows.map pN)),.fz (.int (p.1:Int)),.fz (.int (p.2:Int)),J,z,O] ⟨J,z,O,rfl⟩ (by
   rintro q _ _ ⟨v5,v6,v7,rfl⟩;obtain⟨w5,e⟩:=fit3 h p q (.fz (.lst (rows.map pN))) v5 v6 v7;exact⟨_,⟨w5,_,_,rfl⟩,e⟩)
  refine⟨u5,u6,u7,?_⟩;simp only[cK,Gf,S,C_,T,e,VI,E_,e',so]
theorem fZ{W V:Wl}(h:Sp W V)(rows:List Pr):Gv [wd W,wd V,.lst (rows.map pN)]=O0 (.bl (QP W V rows)):=by
 obtain⟨z,_,e⟩:=W_ (b:=TR (NM 2 (A_ 3 (A_ 4 NN))) Gf) (λI=>∃S O L J Y,I=[.fz (wd W),.fz (wd V),.fz (.lst (rows.map pN)),S,O,L,J,Y]) pN (fp W V rows) (.bl O2) rows [.fz (wd W),.fz (wd V),.fz (.lst (rows.map pN)),.un,.un,.un,.un,.un] ⟨_,_,_,_,_,rfl⟩ (by
  rintro q _ _ ⟨v3,v4,v5,v6,v7,rfl⟩;obtain⟨Z,U,T,e⟩:=fit4 h rows q v3 v4 v5 v6 v7;exact⟨_,⟨_,_,Z,U,T,rfl⟩,e⟩)
 rw[uQ] at e;cases c:QP W V rows with
 |false=>
  rw[c] at e;simp only[cK,Gv,Kf,C_,E_,e];rfl
 |true=>
  rw[c] at e;simp only[cK,Gv,Kf,C_,E_,e,VI]
abbrev fsU (W:Wl) (ps:List Pr):List Nat:=Pp W.n (ps.map (·.1))
abbrev ssU (V:Wl) (ps:List Pr):List Nat:=Pp V.n (ps.map (·.2))
abbrev rr (W V:Wl) (ps:List Pr) (f s:Nat):Nat:=Nw W V (Ag (ps++[(f,s)]))
def bsO(W V:Wl)(ps:List Pr):List Nat:=((fsU W ps).map λf=>NW ((ssU V ps).map λs=>rr W V ps f s))++(ssU V ps).map λs=>NW ((fsU W ps).map λf=>rr W V ps f s)
def mO(W V:Wl)(ps:List Pr):Nat:=(bsO W V ps).foldr min (pp W V)
def rr_w{W V:Wl}(I:lu W)(J:lu V){ps:List Pr}(h:OW W V ps){f s:Nat}(L:f∈fsU W ps)(hs:s∈ssU V ps):(if VY W V ps (f,s)=O1 then Nw W V (Ag (ps++[(f,s)])) else 0)=rr W V ps f s:=by
 split
 .rfl
 .rename_i z
  symm
  refine N7 ?_;rw[Py I J (Fj h ⟨(CG.mp L).1,(CG.mp hs).1⟩)];cases e:QP W V (ps++[(f,s)]) with
  |false=>rfl
  |true=>exact NI (R4.mp e).2 z
theorem rk_m{W V:Wl}(z:lu W)(I:lu V){ps:List Pr}(h:OW W V ps)(a:QP W V ps=O1):Nw W V ps=min (pp W V) (1+mO W V ps):=by
 rw[W4 z I h a];unfold stp mO bsO;simp only;rw[kH (g:=λf=>NW ((ssU V ps).map λs=>rr W V ps f s)) λf J=>by rw[kH λs hs=>rr_w z I h J hs],
  kH (l:=ssU V ps) (g:=λs=>NW ((fsU W ps).map λf=>rr W V ps f s)) λs hs=>by rw[kH λf J=>rr_w z I h J hs]]
theorem Yn{W V:Wl}(z:lu W)(I:lu V){ps:List Pr}(h:OW W V ps){f s:Nat}(O:f∈fsU W ps)(hs:s∈ssU V ps):(ssU V (Ag (ps++[(f,s)]))).length<(ssU V ps).length:=by
 have k:=Fj h (q:=(f,s)) ⟨(CG.mp O).1,(CG.mp hs).1⟩;refine nQ (λx J=>?_) hs (bb.mpr ⟨(f,s),(Dc z I k _).mpr .(1),rfl⟩);obtain⟨p,L,rfl⟩:=bb.mp J;exact bb.mpr ⟨p,(Dc z I k _).mpr (by simp[L]),rfl⟩
abbrev mx (W V:Wl) (ps:List Pr):Nat:=max (fsU W ps).length (ssU V ps).length
def uR{W V:Wl}{ps:List Pr}{b:Nat}(h:b∈bsO W V ps):(∃f∈fsU W ps,b=NW ((ssU V ps).map λs=>rr W V ps f s))∨∃s∈ssU V ps,b=NW ((fsU W ps).map λf=>rr W V ps f s):=by
 unfold bsO at h
 rcases dA.mp h with h | h
 .obtain⟨f,z,rfl⟩:=bb.mp h;exact .inl ⟨f,z,rfl⟩
 .obtain⟨s,hs,rfl⟩:=bb.mp h;exact .inr ⟨s,hs,rfl⟩
def vo{W V:Wl}{ps:List Pr}(k:∀f∈fsU W ps,∀s∈ssU V ps,rr W V ps f s=pp W V∨rr W V ps f s<mx W V ps):mO W V ps=pp W V∨mO W V ps<mx W V ps:=by
 have O:mO W V ps<=pp W V:=nR _ _
 rcases Yk (bsO W V ps) (pp W V) with e | e
 .exact .inl e
 .have one:∀(l:List Nat),0<mx W V ps->(∀x∈l,x=pp W V∨x<mx W V ps)->mO W V ps=NW l->mO W V ps=pp W V∨mO W V ps<mx W V ps:=λl L Y e=>by
   by_cases c:∃x∈l,x=pp W V
   .obtain⟨x,I,S⟩:=c;have:=Zr I;exact .inl .(0)
   .right;rw[e];exact W5 L λx I=>(Y x I).elim (λz=>NI ⟨x,I,z⟩ c) id
  rcases uR (show mO W V ps∈bsO W V ps from e) with ⟨f,J,e⟩ | ⟨s,hs,e⟩
  .have:=ve J;exact one _ (by unfold mx;omega) (λx I=>by obtain⟨s,hs,rfl⟩:=bb.mp I;exact k f J s hs) e
  .have:=ve hs;exact one _ (by unfold mx;omega) (λx I=>by obtain⟨f,J,rfl⟩:=bb.mp I;exact k f J s hs) e
theorem rk_u{W V:Wl}(I:lu W)(J:lu V):∀(n:Nat) (ps:List Pr),OW W V ps->(fsU W ps).length<n->Nw W V ps=pp W V∨Nw W V ps<=mx W V ps
 |0,_,_,h=>by omega
 |n+1,ps,L,S=>by
  cases a:QP W V ps with
  |false=>exact .inr (by rw[N7 a];exact eK _)
  |true=>
   have g:=vo (W:=W) (V:=V) (ps:=ps) λf O s hs=>by
    have u1:(fsU W (Ag (ps++[(f,s)]))).length<(fsU W ps).length:=Pz I J L O hs;have u2:=Yn I J L O hs
    rcases rk_u I J n _ (Ma I J L O hs) .(0) with z | z
    .exact .inl z
    .right;show Nw W V (Ag (ps++[(f,s)]))<_;unfold mx at z ⊢;omega
   rw[rk_m I J L a];omega
theorem gap2{W V:Wl}(I:lu W)(J:lu V){ps:List Pr}(L:OW W V ps):mO W V ps=pp W V∨mO W V ps+2<=pp W V:=by
 have S:(fsU W ps).length<=W.n:=Q5 _ _;have Z:(ssU V ps).length<=V.n:=Q5 _ _;have g:=vo (W:=W) (V:=V) (ps:=ps) λf O s hs=>by
  have u1:(fsU W (Ag (ps++[(f,s)]))).length<(fsU W ps).length:=Pz I J L O hs;have u2:=Yn I J L O hs
  rcases rk_u I J _ _ (Ma I J L O hs) (tm _) with z | z
  .exact .inl z
  .right;show Nw W V (Ag (ps++[(f,s)]))<_;unfold mx at z ⊢;omega
 unfold mx at g;unfold pp at g ⊢;omega
theorem o_{W V:Wl}(L:lu W)(O:lu V){rows:List Pr}(I:OW W V rows){side t:Nat}(h1:side<=1)(Y:t<OY W V side):Nw W V (Ag rows)<=1+Zs W V rows side t/\(Nw W V (Ag rows)=pp W V->pp W V<=Zs W V rows side t):=by
 have hs:=MP L O I;have T:∀r,r<OY W V (1-side)->Nw W V (Ag (rows++[ON side t r]))<=Zs W V rows side t:=λr hr=>Zr (bb.mpr ⟨r,d4.mpr hr,rfl⟩);have U:∀r,r<OY W V (1-side)->ON side t r∈rows->Nw W V (Ag rows)<=Zs W V rows side t:=λr hr hm=>by
  have e:Ag (rows++[ON side t r])=Ag rows:=Vh L O (Fj I (I _ hm)) I λx=>by simp;rintro rfl;exact hm
  have:=T r hr;rw[e] at this;exact this
 have rs:∀q:Pr,q.1<W.n/\q.2<V.n->Ag (Ag rows++[q])=Ag (rows++[q]):=λq hq=>Vh L O (Fj hs hq) (Fj I hq) λx=>by simp[Dc L O I]
 have S:Nw W V (Ag rows)<=Zs W V rows side t->Nw W V (Ag rows)<=1+Zs W V rows side t/\(Nw W V (Ag rows)=pp W V->pp W V<=Zs W V rows side t):=λz=>⟨by omega,λe=>by omega⟩;have e0:0<pp W V:=vk _;cases a:QP W V (Ag rows) with
 |false=>rw[N7 a];exact⟨eK _,λz=>by omega⟩
 |true=>
  have new:mO W V (Ag rows)<=Zs W V rows side t->Nw W V (Ag rows)<=1+Zs W V rows side t/\(Nw W V (Ag rows)=pp W V->pp W V<=Zs W V rows side t):=λz=>by
   have m:=rk_m L O hs a;have g:=gap2 L O hs;omega
  rcases G1.mp h1 with rfl | rfl
  .by_cases c:t∈(Ag rows).map (·.1)
   .obtain⟨p,J,rfl⟩:=bb.mp c;have J:=(Dc L O I p).mp J;exact S (U p.2 (I p J).2 J)
   .refine new (d6 (W6 (dA.mpr (.inl (bb.mpr ⟨t,CG.mpr ⟨Y,c⟩,rfl⟩)))) (sk (W5 (vk _) λx Z=>?_)));obtain⟨s,hs,rfl⟩:=bb.mp Z;have hs:=(CG.mp hs).1;show Nw W V (Ag (Ag rows++[(t,s)]))<_;rw[rs (t,s) ⟨Y,hs⟩];exact MR (T s hs)
  .by_cases c:t∈(Ag rows).map (·.2)
   .obtain⟨p,J,rfl⟩:=bb.mp c;have J:=(Dc L O I p).mp J;exact S (U p.1 (I p J).1 J)
   .refine new (d6 (W6 (dA.mpr (.inr (bb.mpr ⟨t,CG.mpr ⟨Y,c⟩,rfl⟩)))) (sk (W5 (vk _) λx Z=>?_)));obtain⟨s,hs,rfl⟩:=bb.mp Z;have hs:=(CG.mp hs).1;show Nw W V (Ag (Ag rows++[(s,t)]))<_;rw[rs (s,t) ⟨hs,Y⟩];exact MR (T s hs)
def XY(W V:Wl)(b:Addr):D:=.ob "Play" [("ranks",ui W V),("put",.adr b)]
def VX(W V:Wl)(rows:List Pr):D:=.ob "Play" [("ranks",ui W V),("put",.lst (rows.map pN))]
def pA{z:Mu}{c:Addr}(I:z.lookup c=O0 (.lst ds)):WO z (.adr c)=.lst ds:=by
 show (match z.lookup c with | some (.lst ds)=>D.lst ds | _=>.adr c)=_;rw[I]
def XD{z:Mu}{rows:List Pr}(W V:Wl)(I:z.lookup b=O0 (.lst (rows.map pN))):JS z (.fz (XY W V b))=.fz (VX W V rows):=by
 show PV.Slot.fz (.ob "Play" [("ranks",ui W V),("put",WO z (.adr b))])=_;rw[pA I];rfl
def yp{z:Mu}{c:Addr}(I:z.lookup c=O0 (.lst ds)):JS z (.fz (.adr c))=.fz (.lst ds):=by
 show PV.Slot.fz (WO z (.adr c))=_;rw[pA I]
def pB{z:Mu}{c:Addr}(I:z.lookup c=O0 (.lst ds)):JR z (.fz (.adr c))=.fz (.lst ds):=by
 show PV.Slot.fz (WO z (.adr c))=_;rw[pA I]
def u7:(("put":Str)=="ranks")=O2:=by decide +kernel
def cu(W V:Wl)(d:D):fx "ranks" (.ob "Play" [("ranks",ui W V),("put",d)])=O0 (ui W V):=by
 show bE ("ranks":Str) _=_;rw[bX,YI]
def Yo(W V:Wl)(d:D):fx "put" (.ob "Play" [("ranks",ui W V),("put",d)])=O0 d:=by
 show bE ("put":Str) _=_;rw[bX,u7];show bE ("put":Str) [("put",d)]=_;rw[bX,YI]
def pC{W V:Wl}{rows:List Pr}(h:CT "Play" m (VX W V rows)=O1):mzO "Play" m g (O0 (VX W V rows)) (O0 ds)=g (VX W V rows::ds):=by
 show (if CT "Play" m (VX W V rows)=O1 then _ else _)=_;rw[WH h];rfl
theorem pD{W V:Wl}(z:lu W)(I:lu V)(h:Sp W V)(rows:List Pr)(J:OW W V rows)(Y:rows.length<=5):Ea [VX W V rows]=O0 (TN W V (Nw W V (Ag rows))):=by
 have t:=uG z I h rows J Y;have m:=P0 (g:=Cw) (ds:=[.lst (rows.map pN)]) (ob6 W V);have S:fx "ranks" (VX W V rows)=O0 (ui W V):=cu W V _;have L:fx "put" (VX W V rows)=O0 (.lst (rows.map pN)):=Yo W V _;simp only[cK,Ea,Lp,Eo,S,L,m,t]
def uT{W V:Wl}(rows:List Pr)(Y:rows.length<=4):Bc [VX W V rows]=O0 .non:=by
 have L:fx "put" (VX W V rows)=O0 (.lst (rows.map pN)):=Yo W V _;have U:=nM rows;have Z:=HR (rows.length:Int) 1;have z:=Pu ((rows.length:Int)+1) 5 .(0);simp only[cK,Bc,DG,L,U,Z,z]
def fj{W V:Wl}(rows:List Pr):Em [VX W V rows]=O0 (.lst (rows.map pN)):=by
 have z:fx "put" (VX W V rows)=O0 (.lst (rows.map pN)):=Yo W V _;have L:QY (.lst (rows.map pN))=O0 (.lst (rows.map pN)):=gn _;simp only[cK,Em,Ke,z,L]
def pF{W V:Wl}(I:lu W)(J:lu V)(hs:Spk W V)(x:Addr):Fe x [fc W,fc V]=O0 (plE [(("ranks":Str),ui W V)]++[(("put":Str),O1,D.lst [])]):=by
 have u:=fQ W V I J hs;have mk:=yf W V (Aa (vF 1) (Aa (vF 2) am)) [.fz (.adr x),.fz (fc W),.fz (fc V)] (by simp only[cK]);have U:Le 3 x [fc W,fc V]=[.fz (.adr x),.fz (fc W),.fz (fc V)]:=rfl;have z:OQ (Gi (An (Dm) (Aa (vF 1) (Aa (vF 2) (am))))) [.fz (.adr x),.fz (fc W),.fz (fc V)] []=O0 ([.fz (.adr x),.fz (fc W),.fz (fc V)],[]):=by
  exact Rt (by simp only[cK,u]) rfl
 have T:Gj "ranks" (mkI "Ranks" (CP) (Aa (vF 1) (Aa (vF 2) (am)))) [.fz (.adr x),.fz (fc W),.fz (fc V)] []=O0 ([.fz (.adr x),.fz (fc W),.fz (fc V)],plE [(("ranks":Str),ui W V)]):=by
  unfold Gj;rw[mk];rfl
 have S:Ld "put" (Cs am) [.fz (.adr x),.fz (fc W),.fz (fc V)] (plE [(("ranks":Str),ui W V)])=O0 ([.fz (.adr x),.fz (fc W),.fz (fc V)],plE [(("ranks":Str),ui W V)]++[(("put":Str),O1,D.lst [])]):=by
  have l:bE ("put":Str) (plE [(("ranks":Str),ui W V)])=W1:=by
   show bE ("put":Str) [("ranks",O2,ui W V)]=W1;rw[bX,u7];rfl
  unfold Ld;show (if (bE ("put":Str) (plE [(("ranks":Str),ui W V)])).isNone=O1/\1<1000 then O0 (_,plE [(("ranks":Str),ui W V)]++[(("put":Str),O1,D.lst [])]) else W1)=_;rw[l,WH ⟨rfl,by decide⟩]
 unfold Fe SY;rw[WH (show [fc W,fc V].length+1=3 from rfl),U];unfold HY;rw[Dw,z,Cm,Dw,T,Cm,Dw,S,Cm,ZX];rfl
def pG(W V:Wl)(r:Nat):lewD (TN W V r)=O1:=by
 unfold TN;split<;>rfl
def sub1(side:Nat)(h:side<=1):SW (.int 1) (.int (side:Int))=O0 (.int ((1-side:Nat):Int)):=by
 rw[QW];congr 2;omega
theorem dB{W V:Wl}(I:lu W)(J:lu V)(h:Sp W V){rows:List Pr}(z:OW W V rows)(Y:rows.length<=5){ρ:Rho}{i:Nat}(L:vF i ρ=O0 (VX W V rows)):DR "Play" "rank" Ea (vF i) am ρ=O0 (TN W V (Nw W V (Ag rows))):=by
 have m:=pC (g:=Ea) (ds:=[]) (show CT "Play" "rank" (VX W V rows)=O1 from rfl);have a:=pD I J h rows z Y;simp only[Eo,L,Xr,m,a]
def yq{t:FT}{g L:FM}{z:Mu}{K:KM}(e:t ρ=O0 O1)(k:g ρ z K):ifM [] t g L ρ z K:=by
 show (match t ρ with | some O1=>g ρ z K | some O2=>L ρ z K | none=>False);rw[e];exact k
theorem pH{W V:Wl}(S:lu W)(T:lu V)(h:Sp W V){rows:List Pr}(hi:OW W V rows)(Y:rows.length<=4){side t:Nat}(L:side<=1)(U:t<OY W V side)(c:0<Zs W V rows side t)(b:Addr)(z:Mu)(I:z.lookup b=O0 (.lst (rows.map pN)))(K:D->Mu->Prop)(k:∀r,r<OY W V (1-side)->rkB W V rows side t r=Zs W V rows side t->K (.int (r:Int)) (YO b (.lst ((rows++[ON side t r]).map pN)) z)):Hr [XY W V b,.int (side:Int),.int (t:Int)] z K:=by
 obtain⟨r,Z,er,e⟩:=oO S T h rows hi Y side t L U c;have f1:fx "ranks" (VX W V rows)=O0 (ui W V):=cu W V _;have f3:fx "put" (VX W V rows)=O0 (.lst (rows.map pN)):=Yo W V _;have f2:fx "put" (XY W V b)=O0 (.adr b):=Yo W V _;have x:=uT (W:=W) (V:=V) rows Y;have m:=pC (g:=Bc) (ds:=[]) (show CT "Play" "refuse_sixth_pair" (VX W V rows)=O1 from rfl);have O:=cT side t r;refine⟨rfl,⟨.non,?_,rfl,⟨.int (r:Int),?_,rfl,?_⟩⟩⟩
 .show DR _ _ _ _ _ [JS z (.fz (XY W V b)),.fz (.int (side:Int)),.fz (.int (t:Int)),.un]=_;rw[XD W V I];simp only[cK,Eo,m,x]
 .show An _ _ [JS z (.fz (XY W V b)),.fz (.int (side:Int)),.fz (.int (t:Int)),.un]=_;rw[XD W V I];simp only[cK,f1,f3,e]
 .show ifM [] (wh (uF (Pf O1) (vF 3))) (VJ (mutE (uF (fx "put") (vF 0)) VQ (Aa (An (H_) (Aa (vF 1) (Aa (vF 2) (Aa (vF 3) (am))))) (am)))) nxM [.fz (XY W V b),.fz (.int (side:Int)),.fz (.int (t:Int)),.fz (.int (r:Int))] z (thM (puM (fy (vF 3))) (finM K));have i:Pf O1 (.int (r:Int))=O0 (.bl O1):=rfl;have J:wh (uF (Pf O1) (vF 3)) [.fz (XY W V b),.fz (.int (side:Int)),.fz (.int (t:Int)),.fz (.int (r:Int))]=O0 O1:=by simp only[cK,i]
  refine yq J ⟨b,[pN (ON side t r)],.lst (rows.map pN),.non,.lst ((rows++[ON side t r]).map pN),?_,?_,I,?_,⟨.rt (.int (r:Int)) [.fz (XY W V b),.fz (.int (side:Int)),.fz (.int (t:Int)),.fz (.int (r:Int))],?_,k r Z er⟩⟩
  .simp only[cK,f2]
  .simp only[cK,O]
  .show (if (rows.map pN).length<sizeLine then O0 (D.non,D.lst (rows.map pN++[pN (ON side t r)])) else W1)=_;rw[WH (by rw[ay];exact nI Y .(2)),dP];rfl
  .simp only[cK]
abbrev szD (W V:Wl):D:=.lst [.int (W.n:Int),.int (V.n:Int)]
theorem XF(W V:Wl)(side:Nat)(h:side<=1):kc (szD W V) (.int (side:Int))=O0 (.int ((OY W V side:Nat):Int)):=(cV (.int (W.n:Int)) (.int (V.n:Int)) side h).trans (RI O0 (uK W V side))
def ix_c{cs:List Int}{k:Nat}(h:k<cs.length):kc (.lst (cs.map .int)) (.int (k:Int))=O0 (.int (cs.getD k 0)):=by
 show atI (cs.map D.int) (k:Int)=_;rw[WL,ca,qo,db h];rfl
def pI(l:List Pr):MY O2 (.lst (l.map pN)) (.lst (l.map pN))=O0 (.bl O1):=by
 have h:∀l:List Pr,NX (Ps 180) (l.map pN) (l.map pN)=O0 O1:=λl=>by
  induction l with
  |nil=>rfl
  |cons p r z=>
   show (match Ps 180 (pN p) (pN p),NX (Ps 180) (r.map pN) (r.map pN) with | some a,O0 b=>O0 (a&&b) | _,_=>W1)=_;rw[z,AAa 178 p];rfl
 unfold MY;have:Tl (.lst (l.map pN)) (.lst (l.map pN))=O0 O1:=by
  show (if (l.map pN).length=(l.map pN).length then NX (Ps 180) (l.map pN) (l.map pN) else O0 O2)=_;rw[WH rfl,h]
 rw[this];rfl
abbrev St (cs:List Int) (W V:Wl) (b c:Addr) (h:D) (z9 z10 z11 z12:PV.Slot):Rho:=[.fz (.lst (cs.map .int)),.fz (fc W),.fz (fc V),.fz (wd W),.fz (wd V),.fz (XY W V b),.fz (szD W V),.fz h,.fz (.adr c),z9,z10,z11,z12]
def Ta(c b:Addr)(xs z:List Pr):Mu:=[(c,.lst (xs.map pN)),(b,.lst (z.map pN))]
def mu_c(c b:Addr)(xs z:List Pr):(Ta c b xs z).lookup c=O0 (.lst (xs.map pN)):=by
 unfold Ta;rw[bX,YI]
def mu_b{c:Addr}(n:c≠b)(xs z:List Pr):(Ta c b xs z).lookup b=O0 (.lst (z.map pN)):=by
 unfold Ta;rw[bX,beq_eq_false_iff_ne.mpr n.symm];show bE b [(b,_)]=_;rw[bX,YI]
def AAk{c:Addr}(n:c≠b)(xs ys z:List Pr):YO c (.lst (z.map pN)) (Ta c b xs ys)=Ta c b z ys:=by
 show [if c=c then (c,_) else _,if b=c then _ else _]=_;rw[WH rfl,ZH n.symm];rfl
def AAl{c:Addr}(n:c≠b)(xs z ys':List Pr):YO b (.lst (ys'.map pN)) (Ta c b xs z)=Ta c b xs ys':=by
 show [if c=b then _ else _,if b=b then (b,_) else _]=_;rw[WH rfl,ZH n];rfl
def Inv(W V:Wl)(h:D)(rows:List Pr):Prop:=(h=.non/\Nw W V (Ag rows)=pp W V)∨∃R:Nat,h=.int (R:Int)/\R<=Nw W V (Ag rows)+rows.length
def tP:FT:=andT (wh (bF gtD (bF kc (vF 6) (vF 10)) (kF (.int 0)))) (orT (wh (uF (Pf O2) (vF 7))) (wh (bF ltD (bF rz (uF uj (vF 8)) (kF (.int 1))) (vF 7))))
def tF:FT:=Pd (XW (An (Gv) (Aa (vF 3) (Aa (vF 4) (Aa (vF 8) (am))))))
def AAm{W V:Wl}{h:D}{rows:List Pr}(v:Inv W V h rows)(side:Nat)(s1:side<=1)(x0 Z Y U T S O J I:PV.Slot):∃t,tP [x0,Z,Y,U,T,S,.fz (szD W V),.fz h,.fz (.lst (rows.map pN)),O,.fz (.int (side:Int)),J,I]=O0 t/\(t=O1->0<OY W V side/\(h=.non∨∃R:Nat,h=.int (R:Int)/\rows.length+1<R)):=by
 have L:=XF W V side s1;have g:=vd (OY W V side);have ln:=nM rows
 by_cases c:0<OY W V side
 .rw[QI c] at g
  rcases v with ⟨rfl,_⟩ | ⟨R,rfl,_⟩
  .have i:Pf O2 .non=O0 (.bl O1):=rfl;exact⟨O1,by simp only[cK,tP,L,g,i],λ_=>⟨c,.inl rfl⟩⟩
  .have ad:rz (.int (rows.length:Int)) (.int 1)=O0 (.int ((rows.length+1:Nat):Int)):=HR _ _;have lt:=oN (rows.length+1) R;have i:=AAc (R:Int);refine⟨decide (rows.length+1<R),by simp only[cK,tP,L,g,i,ln,ad,lt],λz=>⟨c,.inr ⟨R,rfl,SI z⟩⟩⟩
 .rw[OI c] at g;exact⟨O2,by simp only[cK,tP,L,g],λz=>by cases z⟩
theorem XH{W V:Wl}(S:lu W)(T:lu V)(h:Spk W V)(cs:List Int)(b c:Addr)(n:c≠b)(hh:D)(K:KM)(k:∀rows z9 L J I,OW W V rows->Inv W V hh rows->rows.length<=5->K (.nx (St cs W V b c hh z9 L J I)) (Ta c b rows rows)):
  ∀(l:List Int) (rows:List Pr) (z9 L J I:PV.Slot),OW W V rows->Inv W V hh rows->rows.length+l.length<=5->VH (Bx 9) Hj (l.map .int) (St cs W V b c hh z9 L J I) (Ta c b rows rows) K
 |[],rows,z9,L,J,I,Z,v,hl=>k rows z9 L J I Z v (by simpa using hl)
 |x::l,rows,z9,L,J,I,Z,v,hl=>by
  rw[ci] at hl;obtain⟨O,S0,q0,_⟩:=Jf x 2 .(2);have q0:Nn (.int x) (.int 2)=O0 (.int (O:Int)):=q0;have i0:=XF W V O .(0);have ez:MY O2 (.int ((OY W V O:Nat):Int)) (.int 0)=O0 (.bl (decide (OY W V O=0))):=Px _ 0;have sb:=sub1 O .(0);refine⟨St cs W V b c hh (.fz (.int x)) L J I,rfl,?_⟩;refine⟨.nx (St cs W V b c hh (.fz (.int x)) (.fz (.int (O:Int))) J I),by simp only[cK,q0],?_⟩;have go:∀side:Nat,side<=1->ifL tP (OM (puM (mf 11 (bF Nn (bF IK (vF 9) (kF (.int 2))) (bF kc (vF 6) (vF 10))))) (OM (RL 12 (mY "Play" "point" (Hr) (vF 5) (Aa (vF 10) (Aa (vF 11) (am))))) (OM (puM (QO (Pd (XW (An (Dn) (Aa (vF 12) (Aa (bF kc (vF 6) (bF SW (kF (.int 1)) (vF 10))) (am)))))) (fy (kF (.bl O2))) (Si))) (OM (VJ (mutX 8 [] VQ (Aa (bF kc (Cs (Aa (OX (Aa (vF 11) (Aa (vF 12) (am)))) (Aa (OX (Aa (vF 12) (Aa (vF 11) (am)))) (am)))) (vF 10)) (am)))) (ifL tF (puM (fy (kF (.bl O2)))) (nxM)))))) (nxM) (St cs W V b c hh (.fz (.int x)) (.fz (.int (side:Int))) J I) (Ta c b rows rows) (bdM (VH (Bx 9) Hj (l.map .int)) K):=λside U=>by
   obtain⟨tv,te,tt⟩:=AAm v side U (.fz (.lst (cs.map .int))) (.fz (fc W)) (.fz (fc V)) (.fz (wd W)) (.fz (wd V)) (.fz (XY W V b)) (.fz (.int x)) (JR (Ta c b rows rows) J) (JR (Ta c b rows rows) I);show (match tP [.fz (.lst (cs.map .int)),.fz (fc W),.fz (fc V),.fz (wd W),.fz (wd V),.fz (XY W V b),.fz (szD W V),JR (Ta c b rows rows) (.fz hh),JR (Ta c b rows rows) (.fz (.adr c)),.fz (.int x),.fz (.int (side:Int)),JR (Ta c b rows rows) J,JR (Ta c b rows rows) I] with | some O1=>_ | some O2=>_ | none=>False);have lh:JR (Ta c b rows rows) (.fz hh)=.fz hh:=by rcases v with ⟨rfl,_⟩ | ⟨R,rfl,_⟩<;>rfl
   rw[pB (mu_c c b rows rows),lh,te];cases tv with
   |false=>exact XH S T h cs b c n hh K k l rows _ _ _ _ Z v .(0)
   |true=>
    obtain⟨sp,hq⟩:=tt rfl;have d2:=Eh x 2 .(2) .(2);obtain⟨t,ht,qt,_⟩:=Jf (x/2) (OY W V side) sp;have i1:=XF W V side U;obtain⟨g1,g2⟩:=o_ S T Z U ht;have le:=vf S T (MP S T Z);have e0:0<pp W V:=vk _;have bp:0<Zs W V rows side t:=by
     rcases v with ⟨_,ev⟩ | ⟨R,eh,ev⟩
     .exact eP e0 (g2 ev)
     .rcases hq with z | ⟨R',z,hR⟩
      .rw[eh] at z;cases z
      .rw[eh] at z;have:R=R':=by have:=D.int.inj z;omega
       omega
    refine⟨.nx (St cs W V b c hh (.fz (.int x)) (.fz (.int (side:Int))) (.fz (.int (t:Int))) I),by simp only[cK,d2,i1,qt],?_⟩;refine⟨XY W V b,[.int (side:Int),.int (t:Int)],rfl,rfl,by simp only[cK],pH S T h.sp Z .(0) U ht bp b _ (mu_b n rows rows) _ λr hr er=>?_⟩;rw[AAl n];have sb:=sub1 side U;have i2:=XF W V (1-side) .(0);have th:=oR r (OY W V (1-side));rw[QI hr] at th;have ip:=(cV (.tup [.int (t:Int),.int (r:Int)]) (.tup [.int (r:Int),.int (t:Int)]) side U).trans (RI O0 (uJ side t r));have Y:OW W V (rows++[ON side t r]):=Fj Z (oK U ht hr);have er:Nw W V (Ag (rows++[ON side t r]))=Zs W V rows side t:=er;have af:QP W V (rows++[ON side t r])=O1:=by
     rw[<-Py S T Y];cases z:QP W V (Ag (rows++[ON side t r])) with
     |true=>rfl
     |false=>rw[N7 z] at er;omega
    have lf:=fZ h.sp (rows++[ON side t r]);rw[af] at lf;have ll:(rows++[ON side t r]).length=rows.length+1:=by simp
    have v':Inv W V hh (rows++[ON side t r]):=by
     have N0:=vf S T (MP S T Y)
     rcases v with ⟨eh,ev⟩ | ⟨R,eh,ev⟩
     .have:=g2 ev;exact .inl ⟨eh,by omega⟩
     .exact .inr ⟨R,eh,by omega⟩
    refine⟨.nx (St cs W V b c hh (.fz (.int x)) (.fz (.int (side:Int))) (.fz (.int (t:Int))) (.fz (.int (r:Int)))),by simp only[cK,sb,i2,th],?_⟩;refine⟨[pN (ON side t r)],c,.lst (rows.map pN),.non,.lst ((rows++[ON side t r]).map pN),?_,rfl,mu_c c b rows _,?_,?_⟩
    .show Aa _ am (St cs W V b c hh (.fz (.int x)) (.fz (.int (side:Int))) (.fz (.int (t:Int))) (.fz (.int (r:Int))))=_;simp only[cK,ip]
    .show (if (rows.map pN).length<sizeLine then O0 (D.non,D.lst (rows.map pN++[pN (ON side t r)])) else W1)=_;rw[WH (by rw[ay];exact nI (show rows.length<=5 by omega) .(2)),dP];rfl
    .rw[AAk n];show (match tF [.fz (.lst (cs.map .int)),.fz (fc W),.fz (fc V),.fz (wd W),.fz (wd V),.fz (XY W V b),.fz (szD W V),JR (Ta c b (rows++[ON side t r]) (rows++[ON side t r])) (.fz hh),JR (Ta c b (rows++[ON side t r]) (rows++[ON side t r])) (.fz (.adr c)),.fz (.int x),.fz (.int (side:Int)),.fz (.int (t:Int)),.fz (.int (r:Int))] with | some O1=>_ | some O2=>_ | none=>False);rw[pB (mu_c c b _ _)];have tf:∀x7,tF [.fz (.lst (cs.map .int)),.fz (fc W),.fz (fc V),.fz (wd W),.fz (wd V),.fz (XY W V b),.fz (szD W V),x7,.fz (.lst ((rows++[ON side t r]).map pN)),.fz (.int x),.fz (.int (side:Int)),.fz (.int (t:Int)),.fz (.int (r:Int))]=O0 O2:=λx7=>by simp only[cK,tF,lf]
     rw[tf];exact XH S T h cs b c n hh K k l _ _ _ _ _ Y v' .(0)
  by_cases cz:OY W V O=0
  .rw[QI cz] at ez;refine⟨.nx (St cs W V b c hh (.fz (.int x)) (.fz (.int ((1-O:Nat):Int))) J I),by simp only[cK,i0,ez,sb],go (1-O) .(0)⟩
  .rw[OI cz] at ez;refine⟨.nx (St cs W V b c hh (.fz (.int x)) (.fz (.int (O:Int))) J I),by simp only[cK,i0,ez],go O .(0)⟩
theorem Pc{W V:Wl}{rows:List Pr}(z:vF i ρ=O0 (VX W V rows)):DR "Play" "pairs" Em (vF i) am ρ=O0 (.lst (rows.map pN)):=by
 have m:=pC (g:=Em) (ds:=[]) (show CT "Play" "pairs" (VX W V rows)=O1 from rfl);have a:=fj (W:=W) (V:=V) rows;simp only[Eo,z,Xr,m,a]
def pJ{W V:Wl}:Inv W V (TN W V (Nw W V (Ag []))) []:=by
 unfold TN;split
 .rename_i c;exact .inl ⟨rfl,c⟩
 .exact .inr ⟨_,rfl,aE _⟩
theorem Vj{W V:Wl}(S:lu W)(T:lu V)(h:Spk W V)(cs:List Int)(hc:cs.length=5):G6 [.lst (cs.map .int),fc W,fc V,wd W,wd V]=O0 (.bl O1):=by
 have Y:runM 13 5 G5 [.lst (cs.map .int),fc W,fc V,wd W,wd V] [] λd' _=>d'=.bl O1:=by
  have i0:=ixw0 W;have j0:=ixw0 V;refine⟨rfl,⟨[fc W,fc V],[("ranks",ui W V)],.lst [],rfl,λx=>pF S T h x,λb _=>?_⟩⟩;refine⟨.nx [.fz (.lst (cs.map .int)),.fz (fc W),.fz (fc V),.fz (wd W),.fz (wd V),.fz (XY W V b),.fz (szD W V),.un,.un,.un,.un,.un,.un],by simp only[cK,i0,j0];rfl,?_⟩;have lk:bE b [(b,D.lst [])]=O0 (.lst (([]:List Pr).map pN)):=by rw[bX,YI];rfl
  have ra:=dB S T h.sp (rows:=[]) (λp Z=>by cases Z) .(1) (ρ:=[.fz (.lst (cs.map .int)),.fz (fc W),.fz (fc V),.fz (wd W),.fz (wd V),.fz (XY W V b),.fz (szD W V),.un,.un,.un,.un,.un,.un].map (JS [(b,D.lst [])])) (i:=5) (by show vF 5 [_,_,_,_,_,JS [(b,D.lst [])] (.fz (XY W V b)),_,_,_,_,_,_,_]=_;rw[XD W V lk];rfl);have v:=pJ (W:=W) (V:=V);have lw:=pG W V (Nw W V (Ag []));generalize TN W V (Nw W V (Ag []))=hh at ra v lw;refine⟨hh,ra,lw,⟨.lst [],rfl,λc N0=>?_⟩⟩;have n:c≠b:=λz=>N0 (by rw[z];exact da ..);refine⟨cs.map .int,rfl,XH S T h cs b c n hh _ (λI U O L J hi vv hl=>?_) cs [] .un .un .un .un (λp Z=>by cases Z) v (by simp;omega)⟩;have s5:vF 5 ((St cs W V b c hh U O L J).map (JS (Ta c b I I)))=O0 (VX W V I):=by
   show vF 5 [_,_,_,_,_,JS (Ta c b I I) (.fz (XY W V b)),_,_,_,_,_,_,_]=_;rw[XD W V (mu_b n I I)];rfl
  have s8:vF 8 ((St cs W V b c hh U O L J).map (JS (Ta c b I I)))=O0 (.lst (I.map pN)):=by
   show vF 8 [_,_,_,_,_,_,_,_,JS (Ta c b I I) (.fz (.adr c)),_,_,_,_]=_;rw[yp (mu_c c b I I)];rfl
  have s7:vF 7 ((St cs W V b c hh U O L J).map (JS (Ta c b I I)))=O0 hh:=by rcases vv with ⟨rfl,_⟩ | ⟨R,rfl,_⟩<;>rfl
  have pa:=Pc s5;have rk:=dB S T h.sp hi hl s5;have eq:=pI I;refine⟨.bl O1,?_,rfl,rfl⟩
  rcases vv with ⟨rfl,ev⟩ | ⟨R,rfl,_⟩
  .have i:Pf O1 .non=O0 (.bl O2):=rfl;have j:Pf O2 .non=O0 (.bl O1):=rfl;have te:TN W V (Nw W V (Ag I))=.non:=by unfold TN;rw[WH ev]
   rw[te] at rk;simp only[e_b,pa,s8,s7,Xs,eq,WD,Rn,ak,ao,WF,WK,e_u,e_us,i,rk,j,truB]
  .have i:Pf O1 (.int (R:Int))=O0 (.bl O1):=rfl;simp only[e_b,pa,s8,s7,Xs,eq,WD,Rn,ak,ao,WF,WK,e_u,e_us,i,truB]
 obtain⟨e,h1,h2⟩:=sV (P:=m8) Y rfl;show theD (runM 13 5 G5) m8 _=_;rw[h1,show e=.bl O1 from h2]
def pck(I:List Int)(k j:Nat):Int:=I.getD (((k:Int)+4*(j:Int)*(j:Int)+(j:Int))%(I.length:Int)).toNat 0/3
theorem pK:∀ns:List Int,ns.length<=63->(∀i∈ns,i6 i<=1048576)->Yb [.lst (ns.map .int)]=O0 (.bl O1):=by
 intro ns hl S0;have cm:BW (NV (kF (.int 4))) rc Rz [.fz (.lst (ns.map .int)),.un,.un,.un,.un,.un,.un,.un]=O0 (.lst [.int (ns.getD 0 0),.int (ns.getD 1 0),.int (ns.getD 2 0),.int (ns.getD 3 0)]):=
  Ul (n:=4) (λk=>.int (ns.getD k 0)) _ rfl .(2) λk _=>by
   have:=tU ns k;simp only[cK,Rz,this]
 have hb:i6 (ns.getD 1 0)<=1048576:=by
  rw[qo];cases e:ns[1]? with
  |none=>decide
  |some i=>exact S0 i (oS e)
 obtain⟨W,V,U,hv,mm,tt,te⟩:=o8 (ns.getD 0 0) (ns.getD 1 0) (ns.getD 2 0) (ns.getD 3 0) hb;have h:Spk W V:=⟨by rw[mm],by rw[tt]⟩;have T0:∀z:Rho,NM 2 (A_ 1 (A_ 2 NN)) (.lst [wd W,wd V]) z=O0 ((z.set 1 (.fz (wd W))).set 2 (.fz (wd V))):=λz=>rfl;have I:∀(f:FE) (g:FG) (z:Rho) (d:D),f z=O0 d->UO f g z=(g d z).map .nx:=λf g z d e=>by unfold UO;rw[e];rfl
 have t1:An (Cq) (Aa (BW (NV (kF (.int 4))) (rc) (Rz)) (am)) [.fz (.lst (ns.map .int)),.un,.un,.un,.un,.un,.un,.un]=O0 (.lst [wd W,wd V]):=by simp only[cK,cm,te]
 have i0:=ixw0 W;have i1:=ixw1 W;have i2:=ixw2 W;have j0:=ixw0 V;have j1:=ixw1 V;have j2:=ixw2 V;have k1:=vQ W U (Aa (bF kc (vF 1) (kF (.int 0))) (Aa (bF kc (vF 1) (kF (.int 1))) (Aa (bF kc (vF 1) (kF (.int 2))) (am)))) [.fz (.lst (ns.map .int)),.fz (wd W),.fz (wd V),.un,.un,.un,.un,.un] (by simp only[cK,i0,i1,i2]);have k2:=vQ V hv (Aa (bF kc (vF 2) (kF (.int 0))) (Aa (bF kc (vF 2) (kF (.int 1))) (Aa (bF kc (vF 2) (kF (.int 2))) (am)))) [.fz (.lst (ns.map .int)),.fz (wd W),.fz (wd V),.fz (fc W),.un,.un,.un,.un] (by simp only[cK,j0,j1,j2]);have sc:slD (.lst (ns.map .int)) (O0 4) (O0 64)=O0 (.lst ((OP ns (O0 4) (O0 64)).map .int)):=by
  show O0 (D.lst (OP (ns.map D.int) (O0 4) (O0 64)))=_;rw[tY]
 generalize OP ns (O0 4) (O0 64)=ms at sc;have ln:uj (.lst (ms.map .int))=O0 (.int (ms.length:Int)):=by
  show Sk (.lst (ms.map .int))=_;rw[az,ay]
 have mn:minD (.int (ms.length:Int)) (.int 4)=O0 (.int ((min ms.length 4:Nat):Int)):=Zu ms.length 4;obtain⟨Z,N0,N1⟩:∃n,n=min ms.length 4/\True:=⟨_,rfl,trivial⟩;rw[<-N0] at mn;have lp:∀(l:List Nat) (L O:PV.Slot),(∀k∈l,k<Z)->∃S Y,MX (TR (Bx 6) O7) (l.map λ(k:Nat)=>.int (k:Int)) [.fz (.lst (ns.map .int)),.fz (wd W),.fz (wd V),.fz (fc W),.fz (fc V),.fz (.lst (ms.map .int)),L,O]=O0 (.nx [.fz (.lst (ns.map .int)),.fz (wd W),.fz (wd V),.fz (fc W),.fz (fc V),.fz (.lst (ms.map .int)),S,Y]):=by
  intro l
  induction l with
  |nil=>exact λL O _=>⟨L,O,rfl⟩
  |cons k l ih=>
   intro L O T;have X0:=T k .(1);have l0:0<ms.length:=by omega
   have cp:BW (NV (kF (.int 5))) rc Wn [.fz (.lst (ns.map .int)),.fz (wd W),.fz (wd V),.fz (fc W),.fz (fc V),.fz (.lst (ms.map .int)),.fz (.int (k:Int)),O]=O0 (.lst (((bg 5).map (pck ms k)).map .int)):=by
    rw[cb];exact Ul (n:=5) (λj=>.int (pck ms k j)) _ rfl .(2) λj hj=>by
     obtain⟨q,hq,qe,qm⟩:=Jf ((k:Int)+4*(j:Int)*(j:Int)+(j:Int)) ms.length l0;have ix:=ix_c (cs:=ms) (k:=q) hq;have a1:=Rk 4 (j:Int) .(2);have a2:=aP (4*(j:Int)) (j:Int) .(0);have a3:=HR (k:Int) (4*(j:Int)*(j:Int));have a4:=HR ((k:Int)+4*(j:Int)*(j:Int)) (j:Int);have d7:=Eh (ms.getD q 0) 3 .(2) .(2);have pk:pck ms k j=ms.getD q 0/3:=by unfold pck;rw[qm,gg]
     rw[pk];simp only[cK,Wn,a1,a2,a3,a4,ln,qe,ix,d7]
   have J:=Vj U hv h ((bg 5).map (pck ms k)) (by rw[ay,mN]);generalize D.lst (((bg 5).map (pck ms k)).map .int)=X at cp J;obtain⟨S,Y,e⟩:=ih (.fz (.int (k:Int))) (.fz X) λx hx=>T x (by simp[hx]);refine⟨S,Y,?_⟩
   w_up
   have bd:O7 [.fz (.lst (ns.map .int)),.fz (wd W),.fz (wd V),.fz (fc W),.fz (fc V),.fz (.lst (ms.map .int)),.fz (.int (k:Int)),O]=O0 (.nx [.fz (.lst (ns.map .int)),.fz (wd W),.fz (wd V),.fz (fc W),.fz (fc V),.fz (.lst (ms.map .int)),.fz (.int (k:Int)),.fz X]):=by simp only[cK,O7,cp,J]
   rw[bd,Fz,e]
 obtain⟨S,Y,fe⟩:=lp (bg Z) .un .un λk T=>d4.mp T;have fe:MX (TR (Bx 6) O7) (Na Z) [.fz (.lst (ns.map .int)),.fz (wd W),.fz (wd V),.fz (fc W),.fz (fc V),.fz (.lst (ms.map .int)),.un,.un]=_:=fe;have J:=Vj U hv h [0,3,5,6,9] rfl;simp only[ba,fE] at J;have rg:rngO (O0 (.int (Z:Int)))=O0 (Na Z):=(Td _ .(0)).trans (by rw[gg]);unfold Yb m9;rw[Jt (show [D.lst (ns.map .int)].length=1 from rfl),DQ];simp only[ci,nE,ba,fE,sq,sv,sA,sB,sC,jv];rw[Et,I _ _ _ _ t1,T0,LK,OT];simp only[cK,k1,k2,sc,ln,mn,rg,fe,J]
end K67
end
open PySem PySem.W PyProof.Rows
def L2.head_at{r:OpenRow}{q:cw}{d:DefRec}{z:List (Str×Expr)}{N:Nat}(H:Hook)(L:LeftO r.prog q loose (λs=>xlAt q [] s&&recOk r.records s) H.obs H.val N)(Z:defOf q r.name=O0 (d,z))(Y:r.prog.theDef r.name=O0 (d.params,d.body,d.scope))(W:kwWritten? d.params.kwonlyargs d.params.kw_defaults=O0 z)(U:(!r.writes||r.records.isEmpty)=O1)(T:r.wellSaid=O1)(S:(chainsOk q&&opensWell r.prog&&(frees r.toRowW&&r.within.isEmpty))=O1)(O:r.prog.bare)(J:r.toRowW.promised)(I:WalkO q loose (XL q []) H.says r.toRowW d z λf vs=>EN f vs):r.Holds:=
 holds_open (XP:=XL q []) L H.of H.keeps (λs e=>xl_of s (MS.mp e).1) XL.keeps Z Y W (λ_ e=>recFacts_of (MS.mp e).2) U T S O J I
set_option maxHeartbeats 0 in
theorem PySem.Challenge.cw_twinrounds_k67_whole_second_hand_holds : PySem.Challenge.rw_twinrounds_k67_whole_second_hand.Holds := by
 w_on;o_law;refine L2.head_at (q:=K67.vw) (loose:=[]) (N:=6000) K67.hook K67.look (by rfl) (by rfl) (by rfl) (by rfl) (by assumption) (by decide +kernel) ⟨rfl,rfl,rfl,rfl,rfl,by decide +kernel⟩ ?_ ?_
 .w_witness2
 unfold K67.hook
 k_fill
 refine PV.k_ (l:=MV) (n:=63) (k:=41) (x:="_law_script") (CX:=λ_=>L2.CX0) (sp:=λw=>K67.vP _) rfl .(2) rfl ⟨rfl,by decide,by decide⟩ (λw h Y=>PySem.W.kIn_of Y) ?F (λ_ _ a ns hl hbt _ hS=>⟨a,ns,rfl,hS,hl,hbt,λ_=>rfl⟩) λ_ _ _ _ _ z=>z
 case F=>
  intro w mg fa h KX G hmg;have TT:∃c_:Addr,∃w_:Addr,∃y2:Addr,∃T:K67.Tx (K67.gx (L2.KOf KX) c_ w_ y2) mg,∀(s:ah) (u:ac),wq s T.UD.fd ⟨[u],[]⟩ [("_law_script",u)]:=by
   dsimp only [L2.KOf];refine' ⟨_,_,_,{ c_:=_,f_:=PV.Zi,r_:=(PV.cls KX ?pg_World ?hd_World ?po_World ?sa_World :),s_:=se KX G ?aC_World,w_:=_,p0:=(PV.Zj .(2) PV.Zi),z0:=(PV.cls KX ?pg_Ranks ?hd_Ranks ?po_Ranks ?sa_Ranks :),y1:=se KX G ?aC_Ranks,y2:=_,E2:=(PV.Zj .(2) (PV.Zj .(2) PV.Zi)),y3:=(PV.cls KX ?pg_Play ?hd_Play ?po_Play ?sa_Play :),E3:=se KX G ?aC_Play,x4:=(PV.dx KX G ?a0 ?l0 ?c0 ?k0 ?b0 :),y4:=(PV.dx KX G ?a1 ?l1 ?c1 ?k1 ?b1 :),x5:=(PV.dx KX G ?a2 ?l2 ?c2 ?k2 ?b2 :),w6:=(PV.dx KX G ?a3 ?l3 ?c3 ?k3 ?b3 :),x6:=(PV.dx KX G ?a4 ?l4 ?c4 ?k4 ?b4 :),y6:=(PV.dx KX G ?a5 ?l5 ?c5 ?k5 ?b5 :),h7:=(PV.dx KX G ?a6 ?l6 ?c6 ?k6 ?b6 :),e8:=(PV.dx KX G ?a7 ?l7 ?c7 ?k7 ?b7 :),h8:=(PV.dx KX G ?a8 ?l8 ?c8 ?k8 ?b8 :),z8:=(PV.dx KX G ?a9 ?l9 ?c9 ?k9 ?b9 :),h9:=(PV.dx KX G ?a10 ?l10 ?c10 ?k10 ?b10 :),x9:=(PV.ix KX ?mk_World ?kc_World ?a11 ?i11 ?l11 ?c11 ?k11 ?b11 :),NA:=(PV.mx KX ?a12 ?i12 ?l12 ?c12 ?k12 ?b12 :),OA:=(PV.mx KX ?a13 ?i13 ?l13 ?c13 ?k13 ?b13 :),QA:=(PV.dx KX G ?a14 ?l14 ?c14 ?k14 ?b14 :),RA:=(PV.ix KX ?mk_Ranks ?kc_Ranks ?a15 ?i15 ?l15 ?c15 ?k15 ?b15 :),SA:=(PV.ix KX ?mk_Play ?kc_Play ?a16 ?i16 ?l16 ?c16 ?k16 ?b16 :),UA:=(PV.dx KX G ?a17 ?l17 ?c17 ?k17 ?b17 :),VA:=(PV.dx KX G ?a18 ?l18 ?c18 ?k18 ?b18 :),WA:=(PV.dx KX G ?a19 ?l19 ?c19 ?k19 ?b19 :),XA:=(PV.dx KX G ?a20 ?l20 ?c20 ?k20 ?b20 :),YA:=(PV.dx KX G ?a21 ?l21 ?c21 ?k21 ?b21 :),ZA:=(PV.mx KX ?a22 ?i22 ?l22 ?c22 ?k22 ?b22 :),lB:=(PV.mx KX ?a23 ?i23 ?l23 ?c23 ?k23 ?b23 :),OB:=(PV.mx KX ?a24 ?i24 ?l24 ?c24 ?k24 ?b24 :),SB:=(PV.mx KX ?a25 ?i25 ?l25 ?c25 ?k25 ?b25 :),TB:=(PV.dx KX G ?a26 ?l26 ?c26 ?k26 ?b26 :),UB:=(PV.mx KX ?a27 ?i27 ?l27 ?c27 ?k27 ?b27 :),WB:=(PV.mx KX ?a28 ?i28 ?l28 ?c28 ?k28 ?b28 :),XB:=(PV.mx KX ?a29 ?i29 ?l29 ?c29 ?k29 ?b29 :),ZB:=(PV.mx KX ?a30 ?i30 ?l30 ?c30 ?k30 ?b30 :),NC:=(PV.dx KX G ?a31 ?l31 ?c31 ?k31 ?b31 :),OC:=(PV.dx KX G ?a32 ?l32 ?c32 ?k32 ?b32 :),SC:=(PV.dx KX G ?a33 ?l33 ?c33 ?k33 ?b33 :),TC:=(PV.dx KX G ?a34 ?l34 ?c34 ?k34 ?b34 :),UC:=(PV.dx KX G ?a35 ?l35 ?c35 ?k35 ?b35 :),VC:=(PV.mx KX ?a36 ?i36 ?l36 ?c36 ?k36 ?b36 :),WC:=(PV.mx KX ?a37 ?i37 ?l37 ?c37 ?k37 ?b37 :),ND:=(PV.dx KX G ?a38 ?l38 ?c38 ?k38 ?b38 :),PD:=(PV.dx KX G ?a39 ?l39 ?c39 ?k39 ?b39 :),SD:=(PV.dx KX G ?a40 ?l40 ?c40 ?k40 ?b40 :),TD:=(PV.dx KX G ?a41 ?l41 ?c41 ?k41 ?b41 :),UD:=(PV.dx KX G ?a42 ?l42 ?c42 ?k42 ?b42 :),WG:=(PV.KN KX (PV.fl_c (PV.cls KX ?pg_World ?hd_World ?po_World ?sa_World) ?n_World_size (PV.fl_c (PV.cls KX ?pg_Ranks ?hd_Ranks ?po_Ranks ?sa_Ranks) ?n_Ranks_size (PV.fl_c (PV.cls KX ?pg_Play ?hd_Play ?po_Play ?sa_Play) ?n_Play_size (PV.fl_n)))) :),XG:=(PV.KN KX (PV.fl_c (PV.cls KX ?pg_World ?hd_World ?po_World ?sa_World) ?n_World_marked (PV.fl_c (PV.cls KX ?pg_Ranks ?hd_Ranks ?po_Ranks ?sa_Ranks) ?n_Ranks_marked (PV.fl_c (PV.cls KX ?pg_Play ?hd_Play ?po_Play ?sa_Play) ?n_Play_marked (PV.fl_n)))) :),hH:=(PV.KN KX (PV.fl_c (PV.cls KX ?pg_World ?hd_World ?po_World ?sa_World) ?n_World_tied (PV.fl_c (PV.cls KX ?pg_Ranks ?hd_Ranks ?po_Ranks ?sa_Ranks) ?n_Ranks_tied (PV.fl_c (PV.cls KX ?pg_Play ?hd_Play ?po_Play ?sa_Play) ?n_Play_tied (PV.fl_n)))) :),NH:=(PV.KN KX (PV.fl_c (PV.cls KX ?pg_World ?hd_World ?po_World ?sa_World) ?n_World_one (PV.fl_c (PV.cls KX ?pg_Ranks ?hd_Ranks ?po_Ranks ?sa_Ranks) ?n_Ranks_one (PV.fl_c (PV.cls KX ?pg_Play ?hd_Play ?po_Play ?sa_Play) ?n_Play_one (PV.fl_n)))) :),OH:=(PV.KN KX (PV.fl_c (PV.cls KX ?pg_World ?hd_World ?po_World ?sa_World) ?n_World_other (PV.fl_c (PV.cls KX ?pg_Ranks ?hd_Ranks ?po_Ranks ?sa_Ranks) ?n_Ranks_other (PV.fl_c (PV.cls KX ?pg_Play ?hd_Play ?po_Play ?sa_Play) ?n_Play_other (PV.fl_n)))) :),PH:=(PV.KN KX (PV.fl_c (PV.cls KX ?pg_World ?hd_World ?po_World ?sa_World) ?n_World_reckoned (PV.fl_c (PV.cls KX ?pg_Ranks ?hd_Ranks ?po_Ranks ?sa_Ranks) ?n_Ranks_reckoned (PV.fl_c (PV.cls KX ?pg_Play ?hd_Play ?po_Play ?sa_Play) ?n_Play_reckoned (PV.fl_n)))) :),RH:=(PV.KN KX (PV.fl_c (PV.cls KX ?pg_World ?hd_World ?po_World ?sa_World) ?n_World_endless (PV.fl_c (PV.cls KX ?pg_Ranks ?hd_Ranks ?po_Ranks ?sa_Ranks) ?n_Ranks_endless (PV.fl_c (PV.cls KX ?pg_Play ?hd_Play ?po_Play ?sa_Play) ?n_Play_endless (PV.fl_n)))) :),SH:=(PV.KN KX (PV.fl_c (PV.cls KX ?pg_World ?hd_World ?po_World ?sa_World) ?n_World_ranks (PV.fl_c (PV.cls KX ?pg_Ranks ?hd_Ranks ?po_Ranks ?sa_Ranks) ?n_Ranks_ranks (PV.fl_c (PV.cls KX ?pg_Play ?hd_Play ?po_Play ?sa_Play) ?n_Play_ranks (PV.fl_n)))) :),TH:=(PV.KN KX (PV.fl_c (PV.cls KX ?pg_World ?hd_World ?po_World ?sa_World) ?n_World_put (PV.fl_c (PV.cls KX ?pg_Ranks ?hd_Ranks ?po_Ranks ?sa_Ranks) ?n_Ranks_put (PV.fl_c (PV.cls KX ?pg_Play ?hd_Play ?po_Play ?sa_Play) ?n_Play_put (PV.fl_n)))) :),NE:=jI KX G ?NE,OE:=jI KX G ?OE,QE:=jI KX G ?QE,RE:=jI KX G ?RE,SE:=jI KX G ?SE,UE:=jI KX G ?UE,VE:=jI KX G ?VE,WE:=jI KX G ?WE,XE:=jI KX G ?XE,YE:=jI KX G ?YE,ZE:=jI KX G ?ZE,NF:=jI KX G ?NF,OF:=jI KX G ?OF,RF:=jI KX G ?RF,SF:=(PV.sx (f:=(.int 8)) KX G ?a_MOST_LETTERS :),UF:=(PV.sx (f:=(.str "abcdefghijklmnopqrstuvwxyz")) KX G ?a_LETTERS :),NG:=(PV.sx (f:=(.int 5)) KX G ?a_MOST_THINGS :),OG:=(PV.sx (f:=(.int 3)) KX G ?a_MOST_WORDS :),SG:=(PV.sx (f:=(.int 5)) KX G ?a_MOST_PAIRS :),UH:=(PV.kxL (xs:=["not","and","or","some","all"]) KX G ?a_KEPT_TEXTS ?l_KEPT_TEXTS ?h_KEPT_TEXTS ?v_KEPT_TEXTS :) },?bt⟩
   case aC_World | pg_World | hd_World | po_World | sa_World | mk_World | kc_World | n_World_size | n_World_marked | n_World_tied | n_World_one | n_World_other | n_World_reckoned | n_World_endless | n_World_ranks | n_World_put | aC_Ranks | pg_Ranks | hd_Ranks | po_Ranks | sa_Ranks | mk_Ranks | kc_Ranks | n_Ranks_size | n_Ranks_marked | n_Ranks_tied | n_Ranks_one | n_Ranks_other | n_Ranks_reckoned | n_Ranks_endless | n_Ranks_ranks | n_Ranks_put | aC_Play | pg_Play | hd_Play | po_Play | sa_Play | mk_Play | kc_Play | n_Play_size | n_Play_marked | n_Play_tied | n_Play_one | n_Play_other | n_Play_reckoned | n_Play_endless | n_Play_ranks | n_Play_put | a0 | l0 | c0 | k0 | a1 | l1 | c1 | k1 | a2 | l2 | c2 | k2 | a3 | l3 | c3 | k3 | a4 | l4 | c4 | k4 | a5 | l5 | c5 | k5 | a6 | l6 | c6 | k6 | a7 | l7 | c7 | k7 | a8 | l8 | c8 | k8 | a9 | l9 | c9 | k9 | a10 | l10 | c10 | k10 | a11 | i11 | l11 | c11 | k11 | a12 | i12 | l12 | c12 | k12 | a13 | i13 | l13 | c13 | k13 | a14 | l14 | c14 | k14 | a15 | i15 | l15 | c15 | k15 | a16 | i16 | l16 | c16 | k16 | a17 | l17 | c17 | k17 | a18 | l18 | c18 | k18 | a19 | l19 | c19 | k19 | a20 | l20 | c20 | k20 | a21 | l21 | c21 | k21 | a22 | i22 | l22 | c22 | k22 | a23 | i23 | l23 | c23 | k23 | a24 | i24 | l24 | c24 | k24 | a25 | i25 | l25 | c25 | k25 | a26 | l26 | c26 | k26 | a27 | i27 | l27 | c27 | k27 | a28 | i28 | l28 | c28 | k28 | a29 | i29 | l29 | c29 | k29 | a30 | i30 | l30 | c30 | k30 | a31 | l31 | c31 | k31 | a32 | l32 | c32 | k32 | a33 | l33 | c33 | k33 | a34 | l34 | c34 | k34 | a35 | l35 | c35 | k35 | a36 | i36 | l36 | c36 | k36 | a37 | i37 | l37 | c37 | k37 | a38 | l38 | c38 | k38 | a39 | l39 | c39 | k39 | a40 | l40 | c40 | k40 | a41 | l41 | c41 | k41 | a42 | l42 | c42 | k42 | NE | OE | QE | RE | SE | UE | VE | WE | XE | YE | ZE | NF | OF | RF | a_MOST_LETTERS | a_LETTERS | a_MOST_THINGS | a_MOST_WORDS | a_MOST_PAIRS | a_KEPT_TEXTS | l_KEPT_TEXTS=>k_is
   case b5 | b10 | b12 | b13 | b29 | b30 | b37 | b42=>exact λ_ _ _ _ _ _ us hl=>by (obtain⟨_,rfl⟩:=PV.vI hl;rfl)
   case b1 | b2 | b3 | b4 | b6 | b7 | b8 | b9 | b14 | b17 | b24 | b25 | b27 | b28 | b32 | b38 | b41=>exact λ_ _ _ _ _ _ us hl=>by (obtain⟨_,_,rfl⟩:=PV.vJ hl;rfl)
   case b15 | b16 | b18 | b22 | b23 | b26 | b31 | b33 | b36 | b39=>exact λ_ _ _ _ _ _ us hl=>by (obtain⟨_,_,_,rfl⟩:=PV.vK hl;rfl)
   case b0 | b11 | b19 | b20 | b21 | b34 | b35=>exact λ_ _ _ _ _ _ us hl=>by (obtain⟨_,_,_,_,rfl⟩:=PV.vL hl;rfl)
   case b40=>exact λ_ _ _ _ _ _ us hl=>by (obtain⟨_,_,_,_,_,rfl⟩:=PV.zq hl;rfl)
   case h_KEPT_TEXTS=>decide
   case v_KEPT_TEXTS=>exact .cons ⟨_,rfl⟩ (.cons ⟨_,rfl⟩ (.cons ⟨_,rfl⟩ (.cons ⟨_,rfl⟩ (.cons ⟨_,rfl⟩ (.nil)))))
   case bt=>exact λs u=>.of_eq rfl
  obtain⟨c_,w_,y2,T,e1⟩:=TT;have e0:fa=T.UD.f:=by
   have q:=hmg.symm.trans T.UD.m;cases q;rfl
  subst e0;exact⟨T.UD.fd,e1,λbase kb nb=>(K67.yL (w:=w) (base:=base) T).imp (K67.yM K67.pK)⟩
