import PyProof.Rows.All
import Wide.All
import OpenK.AllK
import Wide.FinOn
import Lean
import PyProof.EqAt
import PyProof.EqKinds
import PyProof.TupleCall
import PyProof.TupleKey
import PyProof.DictRoadsH
import PyProof.StationsW
import PyProof.DictWalks
import PyProof.DictItemsLoops
import KE.KPairComp
import KE.KDictList
import PyProof.StrWalks
import PyProof.ConsumeWalk
import PySem.SetOps
import KE.KSortTup
import PyProof.DictUpdate
import PyProof.ExcClass2
import PyProof.ExcClass3
import PyProof.ExcArgsOwn
import PyProof.ExcAttrAll.ValueError
import PyProof.InstStoreFacts
import PyProof.StrLawsRepr
import PyProof.ReprStr
import PyProof.NsDelKeeps
import PyProof.RulesAs
import KE.KIsAll
import KE.KRevIter
import PyProof.EnumMake
import PyProof.MeetsSeq
import Wide.Txt2
import PySem.Challenge.RW_twinrounds_k42_rounds_gone_through
set_option genInjectivity false
set_option compiler.extract_closed false
set_option genSizeOf false
set_option Elab.async false
set_option linter.all false
set_option maxRecDepth 100000
set_option maxHeartbeats 4000000
open Array renaming length_toList->i8,forIn_toList->wm,getElem?_toList->xB,mk->A7,getElem?_eq_getElem->B5,toList->CM,mem_toList_iff->CY,toList_inj->E9,getElem?_eq_none->EK,perm_iff_toList_perm->L6,getD_eq_getD_getElem?->L7
open Bool renaming false_ne_true->de,false_eq_true->dE,and_eq_true->eP,eq_iff_iff->g9,not_true->lI,true_and->ma,false_and->tj,and_true->AX,false_or->DS,not_false->GG,true_or->IE,and_false->Mc,and_eq_true_iff->Md
open Classical renaming byContradiction->EQ,choose_spec->FR
open False renaming elim->ku
open ForInStep renaming yield->u7
open Function renaming comp_def->io
open Int renaming toNat_natCast->eC,emod_nonneg->kK,emod_lt_of_pos->nl,reduceLT->w9,toNat_of_nonneg->BB,le_refl->C8,ediv_one->HU
open List renaming length_map->av,range->aS,mem_map->aT,map_cons->bb,mem_cons->bp,getElem?_map->br,getElem?_eq_getElem->bv,map_map->bE,lookup_cons->ca,lookup->cb,size_toArray->ck,mem_cons_of_mem->cp,length->cy,mem_range->cE,length_cons->d3,mem_cons_self->df,getElem?_eq_some_iff->dP,map_append->dS,all_eq_true->eD,nodup_append->eI,mem_append->eJ,append_nil->f6,length_append->fh,mem_filter->fw,getElem_mem->fA,mem_append_right->fR,getD_eq_getElem?_getD->gv,getElem?_set_ne->i6,mem_of_getElem?->ic,mem_singleton->ii,map_congr_left->ij,nil_append->ip,nodup_cons->iF,map_nil->iO,mem_append_left->jp,length_take->kf,pairwise_map->kH,getElem?_append_right->kS,pairwise_cons->lx,map_reverse->ly,getElem?_append_left->m4,getElem?_set_self->mI,length_drop->mP,append_assoc->mT,mem_iff_getElem->ng,Nodup->nh,length_range->oj,length_eq_zero_iff->ol,any_eq_true->oB,getElem?_cons_succ->oC,set_cons_zero->oP,set_cons_succ->oQ,getElem?_cons_zero->oS,getElem?_eq_none->qf,all_cons->sd,any_cons->se,find?_cons->sg,length_set->sj,length_filter_le->sL,drop_eq_getElem_cons->ua,getD->uk,getElem_of_mem->uS,pairwise_iff_getElem->vt,length_pos_of_mem->vx,take_take->wa,reverse_perm->wb,mem_reverse->wc,cons_append->we,replicate->xp,length_replicate->xv,range_succ->xS,eq_nil_of_length_eq_zero->yA,nodup_range->yT,mem_iff_getElem?->yY,getElem?_zip_eq_some->zd,take_append_drop->ze,map_take->zk,eraseIdx_eq_take_drop_succ->zv,getElem?_replicate->AF,nodup_nil->AO,getElem?_drop->AS,ext_getElem?->AU,drop_length->AY,any_map->B8,mem_erase_of_ne->Bi,length_erase_of_mem->Bn,map_drop->BE,foldr_cons->BH,map->C7,zip_cons_cons->Cf,filterMap_cons->CF,of_mem_zip->D9,getElem?_take_of_lt->Da,length_nil->DT,take_of_length_le->E4,set_append_right->E7,getElem?_inj->ER,getElem_take->ES,mem_of_mem_drop->ET,mem_of_find?_eq_some->EU,length_reverse->FL,take_succ->FV,getElem?_modify->FX,getElem_inj->GU,mem_filterMap->HG,any_eq_false->HI,filterMap_map->HZ,length_singleton->IC,eraseIdxIfInBounds_toArray->ID,drop_zero->IQ,range_succ_eq_map->IR,not_mem_nil->IS,length_pos_iff->Jn,getElem_drop->KB,pairwise_append->KF,mem_of_mem_take->KG,find?_isSome->L0,find?_some->L1,perm_middle->L4,toArray->L8,not_lt->Ll,length_eraseIdx->Lm,getElem_map->LY,flatMap_cons->LZ,filter_congr->M0
open List.Pairwise renaming imp_of_mem->sB,nil->AQ,imp->C4
open List.Perm renaming refl->sC,cons->BD,swap->L3
open List.cons renaming injEq->sM
open Nat renaming le_refl->aw,ne_of_lt->bX,le_trans->cw,zero_le->eW,lt_of_lt_of_le->fF,lt_irrefl->gT,le_succ->kz,not_lt->kD,zero_add->lc,lt_succ_of_lt->mS,ne_of_gt->pd,lt_of_le_of_lt->si,le_of_lt->sR,lt_succ_self->tq,mod_lt->vE,sub_self->xL,le_succ_of_le->y0,lt_or_ge->yi,le_of_lt_succ->zh,add_assoc->zS,lt_trichotomy->B9,eq_zero_or_pos->C3,div_add_mod->C5,mul_comm->C6,le_of_eq->D4,min_self->E6,mul_le_mul->FU,le_zero->FY,lt_trans->IG,succ_ne_self->IO,lt_or_eq_of_le->Kn,add_zero->KI,succ_pos->KL,pos_of_ne_zero->KU,div_lt_of_lt_mul->LT,mul_add_div->LU,div_eq_of_lt->LV,mul_add_mod->LW,mod_eq_of_lt->LX,exists_eq_succ_of_ne_zero->M1,le_total->M2
open Nat.succ renaming inj->BO
open Ne renaming symm->cf
open Option renaming bind_some->eB,map_some->gi,map_eq_some_iff->mv,isNone_iff_eq_none->vj,isSome_map->xD,bind_eq_some_iff->zi,isSome_iff_exists->AE,getD->BC,getD_none->Iy,none->IN
open Option.some renaming inj->cS,injEq->EE
open Or renaming inr->cq,inl->dQ
open Prod renaming ext->rS
open Prod.mk renaming injEq->re,inj->GH
open PyProof.Rows renaming envOfC->gy,AllBare->ny,seqObj->qS,isTrue_and->t5,IntsAre->xE,callWith_type1->AA,subscriptTail->AJ,StrsAre->BM,isTrue_and_nil->CI,isTrue_not->CL,slot_tuple_getitem->DH,Subscript_->DJ,listUpdate_at->F0,seqEpoch_at->F3,entry_proto_collect'->F7,entry_list_iadd'->F8,kind_sorted->Fa,plain_sorted->Fc,entry_sorted->Fh,args_sorted1->Fk,slot_list_sort->Fs,entry_list_sort->Fu,args_list_sort->FB,sortedHeap_at->FC,sortedHeap_old->FD,arrOf->FH,subscriptTail_builtinR->Ic,kmk_tree->IZ,wpAny_notIn_heap->KW,risingS->LA,listItems_at->LG
open PyProof.Rows.F renaming plain_set_update_loop->L5
open PyProof.Rows.IsTup renaming new->DL
open PyProof.Rows.SortSt renaming mk'->L9
open PySem renaming Value->ac,wpAny_bind->ae,wpAny->ag,Shared->ah,model->ai,wpAny_pure->ar,starEach->ay,Around->aE,cLine->bo,World->bP,Program->cr,compareOp->d4,intItems->d6,backTo->dn,bootBuiltins->dL,atKey->eA,pyNext->eK,swapsWith->eR,rawInt->eS,attributeBase->ff,argBest->fq,sysModules->fE,Builtin->fN,codeAny->gg,numAt->gu,mainGlobals->gL,codeAny_builtin->hJ,wpAny_call_entry->hZ,wpAny_mono->i7,keywordEach->i9,Keyword->ib,behindInMarks->iq,sizeLine_eq->iA,assignEach->jv,backToKw->jS,NameKind->ke,Walks->ki,plainId_quiet->ko,wpAny_truthy_bool->kq,execs->kt,binaryOp->kx,wpAny_field->kA,wpAny_newObj_type->kB,wpAny_seqItems->kN,Scope->kP,wpAny_execs_nil->kQ,foldedSetIterable->kR,wpAny_execs_cons->lP,holding->lS,Paired->mE,FuncData->mN,wpAny_tryCatch->n9,IsEnum->nk,wpAny_specialOf->nv,assign->nE,pyIter->nI,Result->nL,getItem->nX,wpAny_callSpecial?_slot->o0,DictEntry->oe,relabel->og,wpAny_updateSeq->om,wpAny_letGo->oy,isTrue->pc,standAt->pw,bindL->pS,bindC->pT,IsPart->qa,valueAt->qc,seqItems?->qh,argsOk->qk,isSubtype_type->qo,wpAny_setState_of->qv,setNext->qA,pickOrder->qE,field->qV,Value->ra,wpAny_forIn_list->rb,wpAny_rule->rc,wpAny_isInstance->rd,tupleKind->ri,wpAny_passesOwn->rj,getMethod->ro,codeAny_mono->rq,callWith->rL,sliceBounds->rX,callerA->sh,wpAny_setField->sw,collect->sD,wpAny_Name->sT,PassesOwn->tf,wpAny_Call_Name_kw->tz,updateSeq->ub,newExc->v3,wpAny_attempt->ve,wpAny_askSetting->vk,wpAny_newList->vS,tupleKeyHash->wf,treeTable->wo,entryOfKey->wv,wpAny_If->wx,wpAny_load->xa,wpAny_pyIter_list->xb,wpAny_pyIter_tuple->xh,wpAny_isTrue_Compare1->xi,BindsTo->xl,bindArgs->xo,mem_of_lookup->xt,wpAny_typeOf->xw,subscripted->xy,storedH->xC,newList->xI,wpAny_of_eq->ya,wpAny_setField_rec->zt,Addr->zw,Str->zC,IsTupleKey->zD,isInstance->A3,eqIsQuiet->A6,wpAny_Return_some->As,letOwnedTupleGo->Au,wpAny_standAt->AD,concat_meets->AG,seqIndex?->AK,call_meets->AL,tupleKind_room_in1->AM,wpAny_Assign_Subscript->AN,lookup_relabel_local->AR,wpAny_getItem_str_slice->AV,post_val_or_str->AW,intItems_at->B0,newTuple->B3,wpAny_fieldsOf->B4,ofAClassStatement->Bz,hashByValue->BA,wpAny_runValue->BF,firstArgMember->BG,setsByText->BI,reduceHash->C9,wpAny_tupleItemsOf->Cb,isSubtype_tuple_tuple->Cc,carriedByValue->Co,wpAny_eqBool_int->CA,Within->CB,builtinsNs->CD,wpAny_Constant_int->CH,wpAny_assign_Name->CO,wpAny_call->D7,noFill_tuple_add->DA,seq_tuple_add->DB,typeLookup->DI,typeIs_str->DM,wpAny_Dict_empty->DU,call->DV,sliceRange->E1,wpAny_dictEntries->EG,wpAny_dictEpoch->EH,isSubtype_stop->EL,wpAny_pyIter_slot->EM,setSearchFrom->EV,unsupported->EW,Slot->F4,wpAny_setEntries_of->F5,checkCount->Fn,Shared->G0,Expr->G1,Stmt->Gc,wpAny_pyHash_tuple->GB,wpAny_eqBool_tuple->GE,wpAny_loadName_local->GV,wpAny_loadName_cell->GW,wpAny_loadName_free->GY,wpAny_pyNext_list_item->HA,wpAny_pyNext_list_end->HC,slot_list_getitem->Iq,wpAny_getItem_heap->IH,wpAny_setItem_heap->II,getitemInPython_of_ne->IJ,wpAny_letTemporaryGo->IL,wpAny_comprehension_free->IP,wpAny_pyIter_keyiter->JA,wpAny_Call_method->JI,evalArgs_none->JU,searchCouldBeSeen->KP,wpAny_eqIsQuiet_tuple->KS,builtinLookup_eq_fast->Lc,wpAny_pyIter_revIter->LH,wpAny_pyIter_enum->LP
open PySem.Around renaming under_plainId->kX,under->D5
open PySem.AutoSeq1 renaming wpAny_loadPart'->BY,wpAny_loadPart'->C0
open PySem.Builtin.Builtins renaming bindParams->AZ
open PySem.Builtin.Dict_items renaming ownsTuple->EI
open PySem.Builtin.Int renaming intBits->DZ
open PySem.Builtin.List renaming listExtendWith->zo,listLengthHint->Lo,listSameRef->Lv
open PySem.Builtin.Range renaming rangeSize->HE
open PySem.Builtin.Slice renaming slicePlaces->AH,sliceAdjust->DF,sliceApplied->HV
open PySem.Builtin.SmallTypes renaming nextOf->BQ,ownedTupleIsFree->LL,ownedTupleHandOut->LM
open PySem.Builtin.Str renaming occurrences->pj
open PySem.Builtin.Tuple renaming tupleHashOf->zI,tupleExact->AI,tupleItemsOf->GA
open PySem.Calls renaming call_function_entry->F9,Name_function_global->H0
open PySem.Challenge renaming pw_twinrounds_k42_rounds_gone_through->Me,rw_twinrounds_k42_rounds_gone_through->Mn
open PySem.Code renaming isFrame->D6,quiet_builtin->EN,frames->HL
open PySem.Data renaming fields->CS,cell->CU
open PySem.F renaming plain_max_loop->sk,plain_min_loop->sK,slot_tuple_hash->wl,plainAttrs_list->yk,slot_dict_keyiterator_next->yB,slot_tuple_eq->A4,slot_enumerate_next->BS,slot_tuple_iterator_next->BU,slot_tuple_add->DC,entry_tuple_add->DD,args_tuple_add_2->DE,entry_max_loop->E8,slot_list_append->Ee,type_list_append->EA,slot_dict_getitem->EB,entry_min_loop->FK,plainAttrs_dict->JJ,slot_dict_items->JO,entry_dict_keyiterator_next->K0,args_dict_keyiterator_next_1->K2,slot_dict_iter->Kb,plain_set_new->Kk,slot_set_iter->Lu,plain_list_iadd->LB,entry_enumerate_next->LI,args_enumerate_next_1->LJ,entry_tuple_iterator_next->LN,args_tuple_iterator_next_1->LO,slot_dict_values->LS
open PySem.Heap renaming get?_push_of_some->ba,lt_size->bn,get?_push_size->bS,SameBut->fI,get?_update_other->gE,size_push->iE,get?_update_self->kG,ExtBut->yn,get?_push_cases->EC
open PySem.Heap.SameBut renaming update->vi,refl->JE
open PySem.Manifest renaming find?->EJ
open PySem.NameKind renaming free->tJ
open PySem.Obj renaming mapSeq->kg,mapFields->sv,data_mapFields->sA,isFreed_of_fields->B6,cls_mapFields->B7
open PySem.Paired renaming length->Ap,snoc->IF
open PySem.PassesOwn renaming never->dc
open PySem.SeqAt renaming EqAt->kU,in_listAt->IA,notIn_listAt->IB
open PySem.SeqAt.EqAt renaming same->DO,of_refs->E5,int_str->GN,str_int->GO
open PySem.SeqAt.RcAt renaming lists->IT,lists_lengths->IU,tuples->IY
open PySem.SetTable renaming runEnd->gI,bits->ja,leap->lh,turns->nc,below->zn,fresh->EZ,slot->Kt,has->KA,fill->KO
open PySem.SetTable.probe renaming go->qr
open PySem.Shared renaming TypeIs->EF
open PySem.Str renaming ofString->dA,empty->nV,length->oa
open PySem.Txt renaming slice->AT
open PySem.Value renaming ref->bg,none->hU,type->mB,bool->nw,int->sQ,str->wq,isInt->GI,isStrOf->GL,bytes->GS,float->GT
open PySem.W renaming Frag->aI,findIn->gX,fnOf->iL,keepIn->jI,mg_none_of->kL,boot_heap->mh,emptyDict->nN,instObj->pb,codeIn->pV,SharedT->sN,isFn->tm,mg_of->vT,plainGet->xk,kas_rev->zl,boot_drawn->A8,boot_toks->A9,lookIn->AB,hasDictIn->AC,nsIn->BN,methodObj->CC,plainGet_of->D0,plainOver->D1,takerIn->D2,makesIn->D3,callWith_K->D8,kdl_call->ED,handedIn->HK,methodCall_KW->HM,cellsFrom_some->HP,kdl_dict->JY,KdlSrc->Ki,KeqHits->Kj,specialIn->LD,readsIn->LE,findCls->LF
open PySem.W.WShape renaming has->IM
open PySem.Walks renaming list->so
open PySem.pickOrder renaming go->F6
open Sum renaming inl->rf,inr->rh
open Sum.inl renaming inj->wt
open Sum.inr renaming inj->Ct,injEq->Mb
open True renaming intro->pE
open Option renaming some->X0,none->W1
open Bool renaming true->E2,false->E3
set_option hygiene false in
local macro_rules
|`(.(0))=>`((by first|assumption|omega))
|`(.(1))=>`((by simp))
|`(.(2))=>`((by decide))
|`(.(3))=>`((ai X.prog X.w))
|`(.(4))=>`((.lst (L.map .int)))
|`(.(5))=>`((.int (n:Int)))
|`(.(6))=>`((.lst (rows.map pN)))
|`(.(7))=>`((∀b o,s.heap.get? b=X0 o->h'.get? b=X0 o))
|`(.(8))=>`((x==("__debug__":Str)))
|`(.(9))=>`((.ListComp elt [⟨tg,iter,ifs,0⟩] scope pos))
|`(.(10))=>`((kF (.int 0)))
|`(.(11))=>`((.ref s.heap.objs.size))
|`(.(12))=>`((s.heap.objs.size+1))
|`(.(13))=>`((.Name x xpos))
def SF:=@if_pos
def UF:=@if_neg
def MG:=@absurd
def NG:=@decide_eq_false
def OG:=@decide_eq_true
def SG:=@congrArg
def WG:=@of_decide_eq_true
def XG:=@beq_iff_eq
def MH:=@if_true
def NH:=@if_false
def OH:=@decide_eq_true_eq
def PH:=@beq_self_eq_true
abbrev zFr:=PySem.W.Frag
abbrev zQ:=PySem.Value->PySem.Shared->Prop
abbrev zP:=List (PySem.Addr×PySem.Obj)
variable {h h':PySem.Heap}{vs us its:List ra}{o:PySem.Obj}{s:G0}{a b it p C q:zw}{u doc pm cdv ct oc:ra}{P prog:PySem.Program}{w:PySem.World}{t' i n j ep x1 k':Nat}{ch A fp B A0:List zw}{x y f m qual c:zC}{e tg:G1}{N ps loose N':List zC}{M:PySem.Model}{E:ra->G0->Prop}{pos pos' py spos xpos apos tp cpos p1 p2 p3 p4 p5 p6 p7 p8 p9 p10 p11 p12 p13:PySem.Pos}{π:List (zw×PySem.Obj)}{es:Array (Int×ra)}{body s1:List Gc}{l:List Nat}{kw:List (zC×ra)}{env:PySem.Env}{mg:zC->Option ra}{fd:PySem.FuncData}{sc scope:PySem.Scope}{an od:Option zw}{osl:Array (Option ra)}{st:Gc}{elts:List G1}
def fy{d:Sort _}(a:d):a=a:=of_eq_true (eq_self a)
namespace PV
open PySem
section
variable {K:Type} [DecidableEq K] (kd:KeyKind prog w K)
inductive Zl (h:Heap):List (List K)->List ac->Prop
 |nil:Zl h [] []
 |cons {k:List K}{b:Addr}{ks:List (List K)}{vs:List ac}:zD kd h k b->Zl h ks vs->Zl h (k::ks) (.ref b::vs)
def OX(h:Heap)(ks:List (List K))(a:Addr):Prop:=∃o xs n,h.get? a=X0 o/\o.cls=.type "tuple"/\o.data=.seq xs n/\Zl kd h ks xs.toList
variable {kd}
theorem Zl.inj{h:Heap}{x y:List (List K)}{vs:List ac}(p:Zl kd h x vs):Zl kd h y vs->x=y:=by
 induction p generalizing y with
 |nil=>intro q;cases q;rfl
 |cons a _ d=>intro q;cases q with | cons b t=>rw[a.inj b,d t]
def Zl.kept{g:Heap}{d:Addr}{es ep}(v:h.get? d=X0 o)(z:o.data=.dict es ep)(hs:fI d h g){x:List (List K)}{vs:List ac}(p:Zl kd h x vs):Zl kd g x vs:=by
 induction p with
 |nil=>exact .nil
 |cons a _ r=>exact .cons (a.keeps v z hs) r
theorem OX.ty{ks:List (List K)}(x:OX kd s.heap ks a):s.TypeIs (.ref a) "tuple":=let ⟨o,_,_,g,c,_⟩:=x;⟨o,g,c⟩
theorem OX.inj{h:Heap}{a:Addr}{x y:List (List K)}(p:OX kd h x a)(q:OX kd h y a):x=y:=by
 obtain⟨o,G,n,g,_,d,i⟩:=p;obtain⟨H,F,m,v,_,z,r⟩:=q;cases g.symm.trans v;cases d.symm.trans z;exact i.inj r
theorem OX.kept{h g:Heap}{ks:List (List K)}{a d:Addr}{o:Obj}{es ep}(x:OX kd h ks a)(v:h.get? d=X0 o)(r:o.data=.dict es ep)(hs:fI d h g):OX kd g ks a:=by
 obtain⟨I,H,n,F,c,G,i⟩:=x;refine⟨I,H,n,(hs.2 a λz=>?_).trans F,c,G,i.kept v r hs⟩;subst z;cases v.symm.trans F;cases r.symm.trans G
def gD(d:KeyKind prog w K)(ks:List (List K)):Int:=C9 (zI (ks.map (wf d)))
def Yl(ks:List (List K)):Nat:=(ks.map λk=>k.length+1).sum+1
variable {A:aE}
theorem dC{ks:List (List K)}{Q:Int->ah->Prop}(S:A.units+1<bo)(I:OX kd s.heap ks a)(k:Q (gD kd ks) { s with toks:=s.toks+Yl ks }):ag (ai prog w) A (pyHash (.ref a)) Q E s:=by
 have ty:=I.ty;obtain⟨o,T,n,g,_,d,i⟩:=I;unfold pyHash pyHashByItsType;refine ae (wpAny_cRoomFor_or (.inr .(0)) ?_);refine ae (nv ty wl.lookup ?_);show ag _ _ (if (X0 (Value.builtin "tuple.__hash__")==X0 hU)=E2 then _ else _) Q E s;rw[UF (by rw[beq_builtin_none];exact de)];refine ae (nv ty wl.lookup ?_);show ag _ _ (callSpecialIfBoundUnlessNone? (.ref a) "__hash__" _ >>= _) Q E s;refine ae (wpAny_callSpecialIfBoundUnlessNone?_slot ty wl (hZ wl ty F.entry_tuple_hash ?_ (F.args_tuple_hash_1 _)));show ag _ _ (GA (.ref a) >>= _) _ _ s;refine ae (Cb g d ?_);refine ae ?_;rw[<-wm];refine rb _ (λr (b:Array Int) z=>∃p q,ks=p++q/\Zl kd s.heap q r/\b.toList=p.map (wf kd)/\z={ s with toks:=s.toks+(p.map λk=>k.length+1).sum }) _ ?_ ?_ _ _ ⟨[],ks,rfl,i,rfl,rfl⟩
 .rintro x r b z ⟨p,q,rfl,G,H,rfl⟩;cases G with
  | @cons m c J _ L v=>
   refine ae (GB (s:={ s with toks:=s.toks+(p.map λk=>k.length+1).sum }) (show A.in1.units<bo from S) L ?_);exact ar ⟨p++[m],J,by simp,v,by simp[H],by simp[zS]⟩
 .rintro b z ⟨p,q,rfl,G,H,rfl⟩;cases G;rw[f6] at k;show ag _ _ (retInt (zI b.toList)) _ _ _;rw[H];refine wpAny_ret_mkInt ?_;generalize O:zI (p.map (wf kd))=y;unfold gD C9 Yl at k;rw[O] at k;show ag _ _ (if (decide (-(2:Int)^63<=y)&&decide (y<2^63))=E2 then _ else _) Q E _
  by_cases c:(decide (-(2:Int)^63<=y)&&decide (y<2^63))=E2
  .rw[SF c] at k ⊢;exact ar (by simpa [zS] using k)
  .rw[UF c] at k ⊢;exact ae (rc (ar (by simpa [zS] using k)))
def pX{x y:List (List K)}{P:Fin->ah->Prop}(hu:A.units<bo)(hx:OX kd s.heap x a)(hy:OX kd s.heap y b)(k:P (.done (.ret (.bool (decide (x=y))))) s):ag (ai prog w) A (fN.«tuple.__eq__» ⟨[.ref a,.ref b],[]⟩) P E s:=by
 have ty:=hy.ty;obtain⟨o,T,n,g,_,d,i⟩:=hx;obtain⟨o2,S,m,g2,_,d2,i2⟩:=hy;show ag _ _ (A3 (.ref b) (.type "tuple") >>= _) _ _ s;refine ae (rd ty Cc ?_);simp only[lI,dE,NH];refine ae (Cb g d (ae (Cb g2 d2 (ae ?_))));refine rb _ (λr q z=>q.1=W1/\z=s/\∃L J G F,r=List.zip G F/\Zl kd s.heap L G/\Zl kd s.heap J F/\decide (L=J)=decide (x=y)/\(G.length==F.length)=(T.size==S.size)) _ ?_ ?_ _ _ ⟨rfl,rfl,x,y,T.toList,S.toList,rfl,i,i2,rfl,by simp⟩
 .rintro⟨u,v⟩ r q z ⟨e,rfl,L,J,G,F,O,I,H,U,Y⟩;cases I with
  |nil=>simp at O
  | @cons k1 b1 x2 X h1 t1=>
   cases H with
   |nil=>simp at O
   | @cons k2 b2 Z W h2 t2=>
    simp only[Cf,sM,re] at O;obtain⟨⟨rfl,rfl⟩,rfl⟩:=O;refine ae (GE hu h1 h2 ?_)
    by_cases c:k1=k2
    .subst c;rw[OG rfl];simp only[lI,dE,NH];refine ar ⟨rfl,rfl,x2,Z,X,W,rfl,t1,t2,?_,by simpa using Y⟩;rw[<-U]
     by_cases c2:x2=Z<;>simp[c2]
    .rw[NG c];simp only[GG,MH];have f:decide (x=y)=E3:=by rw[<-U];simp[c]
     rw[f] at k;exact ae (ar (ar (ar k)))
 .rintro⟨q1,q2⟩ z ⟨e,rfl,L,J,G,F,O,I,H,U,Y⟩;simp only at e;subst e;refine ar ?_;have f:(T.size==S.size)=decide (x=y):=by
   rw[<-U,<-Y];cases I with
   |nil=>cases H<;>simp
   |cons _ _=>
    cases H with
    |nil=>simp
    |cons _ _=>simp at O
  show P (.done (.ret (.bool (T.size==S.size)))) z;rw[f];exact k
def pZ{x y:List (List K)}{Q:Bool->ah->Prop}(S:A.units+1<bo)(d:OX kd s.heap x a)(g:OX kd s.heap y b)(k:Q (decide (x=y)) s):ag (ai prog w) A (eqBool (.ref a) (.ref b)) Q E s:=by
 unfold eqBool;refine wpAny_holding ?_;show ag _ _ (if (bg a==bg b)=E2 then _ else _) Q E s
 by_cases c:(bg a==bg b)=E2
 .rw[SF c];have e:a=b:=by have:=eq_of_beq c;injection this
  subst e;cases d.inj g;exact ae (rc (ar (by simpa using k)))
 .rw[UF c];exact ae (wpAny_richCompare_same_room (op:=.Eq) d.ty g.ty A4 (hZ A4 d.ty F.entry_tuple_eq (pX (show A.in1.units<bo from S) d g ⟨_,rfl,(λe=>nomatch e),kq k⟩) (F.args_tuple_eq_2 _ _)) .(0))
def gF(n:Nat){ks:List K}{a:Addr}{Q:Bool->ah->Prop}(I:zD kd s.heap ks a)(k:Q E2 s):ag (ai prog w) A (A6 (n+1) (.ref a)) Q E s:=by
 have ty:=I.typeIs;obtain⟨o,G,m,g,_,d,i⟩:=I;unfold A6;refine ae (nv ty A4.lookup ?_);show ag _ _ (A3 (.ref a) (.type "tuple") >>= _) _ _ s;refine ae (rd ty Cc ?_);simp only[lI,dE,NH];refine ae (kN g d (ae ?_));show ag _ _ (forIn G _ _) _ _ s;rw[<-wm];refine rb _ (λr q z=>q.1=W1/\z=s/\∀v∈r,Co v=E2) _ ?_ ?_ _ _ ⟨rfl,rfl,i.byValue⟩
 .rintro v r q z ⟨e,rfl,F⟩;rw[eqIsQuiet_byValue _ (F v .(1))];refine ae (ar ?_);simp only[lI,dE,NH];exact ar ⟨rfl,rfl,λu S=>F u (by simp[S])⟩
 .rintro⟨q1,q2⟩ z ⟨e,rfl,_⟩;simp only at e;subst e;exact ar k
def Ym(n:Nat){ks:List (List K)}{a:Addr}{Q:Bool->ah->Prop}(I:OX kd s.heap ks a)(k:Q E2 s):ag (ai prog w) A (A6 (n+2) (.ref a)) Q E s:=by
 have ty:=I.ty;obtain⟨o,H,m,g,_,d,i⟩:=I;unfold A6;refine ae (nv ty A4.lookup ?_);show ag _ _ (A3 (.ref a) (.type "tuple") >>= _) _ _ s;refine ae (rd ty Cc ?_);simp only[lI,dE,NH];refine ae (kN g d (ae ?_));show ag _ _ (forIn H _ _) _ _ s;rw[<-wm];refine rb _ (λr q z=>q.1=W1/\z=s/\∃F,Zl kd s.heap F r) _ ?_ ?_ _ _ ⟨rfl,rfl,_,i⟩
 .rintro v r q z ⟨e,rfl,F,G⟩;cases G with
  |cons L G=>
   refine ae (gF n L ?_);simp only[lI,dE,NH];exact ar ⟨rfl,rfl,_,G⟩
 .rintro⟨q1,q2⟩ z ⟨e,rfl,_⟩;simp only at e;subst e;exact ar k
end
def SQ{prog:cr}{w:bP}{K:Type}[DecidableEq K](d:KeyKind prog w K):HeapKind prog w (List (List K)) where
 is:=OX d
 hash:=gD d
 draws:=Yl
 room:=λA=>A.units+1<bo
 inj:=λp q=>p.inj q
 keeps:=λx v z hs=>x.kept v z hs
 pyHash:=λS I k=>dC S I k
 eqBool:=λS r g k=>pZ S r g k
 quiet:=λI k=>Ym 6 I k
end PV
section
open PySem PySem.W PyProof.Rows
def L2.viewAt(p:cr)(ks:List Nat):cr:={ p with main:={ p.main with body:=ks.filterMap λi=>p.main.body[i]? } }
abbrev K42.R:=PySem.Challenge.rw_twinrounds_k42_rounds_gone_through.row
def K42.vw:cr:=L2.viewAt Me [0,2,3,4,5,6,8,9,10,11,12,13,14,15,16,17,18,20,21,22,23,24,25,26,28,29,30,32,33,34,35,36,37,38,39,40,41,42,43,44,45,46]
namespace L2T
def runG(st:sN->Thread->Option (sN×Thread))(ok:Thread->Bool):Nat->sN->Thread->Option sN
 |0,_,_=>W1
 |n+1,s,t=>match through t with
  |true=>X0 s
  |false=>match ok t with
   |false=>W1
   |true=>match st s t with
    |some (d,t')=>runG st ok n d t'
    |none=>W1
theorem Zu{g:String->Option fN}{p:cr}{w:bP}{d:Nat}{ann:Option ac}:∀{n:Nat}{s v:sN}{t:Thread},runG (stepT (denote g) p w) (stepOk d ann) n s t=X0 v->topRun g p w d ann n s.abs t=X0 v.abs
 |0,_,_,_,h=>by cases h
 |n+1,s,v,t,h=>by
  unfold runG at h;unfold topRun;cases G:through t with
  |true=>rw[G] at h;cases h;rfl
  |false=>
   rw[G] at h;cases I:stepOk d ann t with
   |false=>rw[I] at h;cases h
   |true=>
    rw[I] at h;cases hs:stepT (denote g) p w s t with
    |none=>rw[hs] at h;cases h
    |some r=>obtain⟨F,z⟩:=r;rw[hs] at h;rw[stepT_spec hs];exact Zu h
def treeOf(l:List Obj):BT:=(l.foldl (λ(a:BT×Nat) o=>(a.1.ins a.2 o,a.2+1)) (BT.nil,0)).1
noncomputable abbrev boot (w:bP) (os:OsState):sN:=⟨treeOf (mh w.params).objs.toList,11,(mh w.params).life,A7 [],A8,A9,os⟩
set_option maxHeartbeats 0 in
def boot_abs(w:bP)(d:OsState):(boot w d).abs=⟨mh w.params,A7 [],A8,A9,d⟩:=by kernel_rfl
set_option maxHeartbeats 0 in
def dD(w:bP):((mh w.params).isNs gL,(mh w.params).objs.size)=(E2,11):=by kernel_rfl
noncomputable abbrev ann (w:bP):Option ac:=(mh w.params).nsMap gL "__annotations__"
noncomputable def fits(p:cr)(w:bP)(s:ah):Bool:=staticsOk (importedModules p.main.body) (mh w.params) s.heap&&namesBound p s.heap&&gensDone s&&laidKept (mh w.params) s.heap
def left{p:cr}{N:Nat}{F:Type}{f:ah->F}{v:bP->F}(H:opening p=plainProg p.main.scope.names)(G:∀s,fenceModules? p s=X0 s)(I:Nat.ble 600 N=E2)(h:∀(w:bP) (os:OsState),(runG (Fast.tw10156331382660048174 (Fast.tw11892475500146522536 Fast.tw14364793385576792824) p w) (Fast.tw6613529449190102663 11 (ann w)) N (boot w os) (topStub p)).map (λs=>(fits p w s.abs,f s.abs))=X0 (E2,v w))(w:bP):(openEnds wo p w N).map f=X0 (v w):=by
 obtain⟨⟨J,L,d,k,os⟩,e,O⟩:=mv.mp (boot_open H I G w);obtain⟨rfl,rfl,rfl,rfl⟩:J=mh w.params/\L=A7 []/\d=A8/\k=A9:=by simpa using O
 have h:=h w os;rw[<-Fast.te10156331382660048174,<-Fast.te11892475500146522536,<-Fast.te14364793385576792824,<-Fast.te6613529449190102663] at h;obtain⟨z,r,q⟩:=mv.mp h;obtain⟨q1,q2⟩:=GH q;have t:=Zu r;rw[boot_abs] at t;obtain⟨b1,b2⟩:=GH (dD w);have g:topFrom wo p w N ⟨mh w.params,A7 [],A8,A9,os⟩=X0 z.abs:=by
  unfold topFrom;dsimp only;rw[b1,b2];show (topRun wo p w 11 (ann w) N _ (topStub p)).bind _=_;rw[t];show (match fits p w z.abs with | true=>X0 z.abs | false=>W1)=_;rw[q1]
 unfold openEnds;rw[e];show (topFrom wo p w N _).map f=_;rw[g];exact SG X0 q2
end L2T
section
local macro_rules | `(tactic| o_head $H) => `(tactic| exact ‹∀P : Prop, P› _)
set_option maxHeartbeats 0 in
def K42.side(d:∀P:Prop,P):K42.R.Holds:=by
 k_head
end
def K42.as:List Addr:=[2,3,15,17,18,20,21,22,29,30,31,32,35,42,44,45,47,48,49,50,51,54,61,63,64,66,67,68,69,70,73,80,82,83,85,86,87,88,89,92,99,100,101,104,105,108,109,110,112,113,115,116,117,119,120,122,123,124,126,127,129,130,131,133,134,136,137,145,147,148,150,151,152,154,155,157,158,159,161,162,164,165,166,168,169,171,172,173,175,176,178,179,180,181,182,183,184,187,189,190,192,193,194,196,197,199,200,201,203,204,206,207,208,210,211,213,214,215,217,218,220,221,222,225,226,227,230,231,232,235,236,244,246,247,249,250,251,253,254,256,257,258,260,261,263,264,265,267,268,270,271,272,275,276,277,280,281,282,284,285,287,288,289,291,292,294,295,296,297,298,299,300,303,305,306,308,309,310,312,313,315,316,317,319,320,322,323,324,326,327,329,330,331,334,335,336,338,339,341,342,343,346,347,348,351,352,353,356,357,358,360,361,363,364,365,367,368,370,371,372,374,375,377,378,379,381,382,384,385,386,388,389,391,392,393,396,397,398,400,401,403,404]
set_option maxHeartbeats 0 in
def K42.as_ok:∀P,K42.as=(K42.side.heap_1 P).map (·.1):=λ_=>by kernel_rfl
noncomputable def K42.hook:Hook:=kHook K42.side.heap_1 K42.as K42.as_ok
set_option maxHeartbeats 0 in
theorem K42.look:LeftO K42.R.prog K42.vw [] (λs=>xlAt K42.vw [] s&&recOk K42.R.records s) K42.hook.obs K42.hook.val 6000:=by
 rw[show LeftO K42.R.prog K42.vw [] (λs=>xlAt K42.vw [] s&&recOk K42.R.records s) K42.hook.obs K42.hook.val 6000=∀w,(openEnds wo K42.R.prog w 6000).map (λs=>(openSeen K42.vw [] (importedModules K42.R.prog.main.body) (λs=>xlAt K42.vw [] s&&recOk K42.R.records s) E2 s,K42.hook.obs s))=X0 (openGood K42.vw [],K42.hook.val w) from rfl,Fast.te4187177175401517315];exact L2T.left (by kernel_rfl) (λ_=>by kernel_rfl) rfl (λw d=>by kernel_rfl)
end
open Lean.Parser.Command in
local macro_rules | `(def $i:declId $s:optDeclSig $v:declVal)=>`(noncomputable def $i:declId $s:optDeclSig $v:declVal) | `(abbrev $i:declId $s:optDeclSig $v:declVal)=>`(noncomputable abbrev $i:declId $s:optDeclSig $v:declVal)
namespace L2
open PySem PySem.Spec PyProof.Rows
abbrev Key:=Sum Int Str
def RC:Key->ac->Bool
 |.inl k,v=>GI k v
 |.inr x,v=>GL x v
def keyH(w:bP):Key->Int
 |.inl k=>hashInt k
 |.inr x=>hashStr w x
def Bq:∀{k:Key}{v:ac},RC k v=E2->(∃i t,k=rf i/\v=sQ i t)∨(∃x t,k=rh x/\v=wq x t)
 |.inl i,v,h=>by
  obtain⟨t,e⟩:=Value.isInt_shape (k:=i) (v:=v) h;exact .inl ⟨i,t,rfl,e⟩
 |.inr x,v,h=>by
  obtain⟨t,e⟩:=Value.isStrOf_shape (x:=x) (v:=v) h;exact .inr ⟨x,t,rfl,e⟩
def dF(i:Int)(t:Tok):RC (.inl i) (.int i t)=E2:=by simp[RC,GI]
def dG(x:Str)(t:Tok):RC (.inr x) (.str x t)=E2:=by simp[RC,GL]
def v_(a b:Int):decide ((rf a:Key)=rf b)=(a==b):=by
 by_cases e:a=b
 .subst e;simp
 .have h:¬ (rf a:Key)=rf b:=λq=>e (wt q);rw[NG h];exact (beq_eq_false_iff_ne.mpr e).symm
def wA(a b:Str):decide ((rh a:Key)=rh b)=decide (a=b):=by
 by_cases e:a=b
 .subst e;simp
 .have h:¬ (rh a:Key)=rh b:=λq=>e (Ct q);rw[NG h,NG e]
def wB(a:Int)(b:Str):decide ((rf a:Key)=rh b)=E3:=NG (λq=>nomatch q)
def wC(a:Str)(b:Int):decide ((rh a:Key)=rf b)=E3:=NG (λq=>nomatch q)
def Av(prog:cr)(w:bP):PySem.KeyKind prog w Key where
 is:=RC
 hash:=keyH w
 inj:=λv a b r H=>by
  rcases Bq r with ⟨i,t,rfl,rfl⟩ | ⟨x,t,rfl,rfl⟩
  .rcases Bq H with ⟨j,u,rfl,e⟩ | ⟨y,u,rfl,e⟩
   .injection e with d _;rw[d]
   .exact nomatch e
  .rcases Bq H with ⟨j,u,rfl,e⟩ | ⟨y,u,rfl,e⟩
   .exact nomatch e
   .injection e with d _;rw[d]
 byValue:=λk v h=>by
  rcases Bq h with ⟨i,t,rfl,rfl⟩ | ⟨x,t,rfl,rfl⟩<;>rfl
 pyHash:=λg h=>by
  rcases Bq g with ⟨i,t,rfl,rfl⟩ | ⟨x,t,rfl,rfl⟩
  .exact wpAny_pyHash_int h
  .exact wpAny_pyHash_str h
 eqBool:=λS g h=>by
  rcases Bq S with ⟨i,t,rfl,rfl⟩ | ⟨x,t,rfl,rfl⟩
  .rcases Bq g with ⟨j,u,rfl,rfl⟩ | ⟨y,u,rfl,rfl⟩
   .rw[v_] at h;exact CA h
   .rw[wB] at h;exact GN i t y u _ _ _ _ h
  .rcases Bq g with ⟨j,u,rfl,rfl⟩ | ⟨y,u,rfl,rfl⟩
   .rw[wC] at h;exact GO x t j u _ _ _ _ h
   .rw[wA] at h;exact wpAny_eqBool_str h
 «strs»:=λk x t v h=>by
  rcases Bq h with ⟨i,u,rfl,e⟩ | ⟨y,u,rfl,e⟩
  .exact nomatch e
  .injection e with d _
   subst d;cases v<;>rfl
def Wy(prog:cr)(w:bP)(i:Int)(t:Tok):(Av prog w).is (.inl i) (.int i t)=E2:=dF i t
def Wz(prog:cr)(w:bP)(x:Str)(t:Tok):(Av prog w).is (.inr x) (.str x t)=E2:=dG x t
set_option genInjectivity true in
inductive V where
 |non | bl (b:Bool) | int (i:Int) | str (x:Str) | byt (b:Array UInt8) | flt (b:UInt64) | ref (a:Addr) | ty (n:String)
 deriving DecidableEq
def dm:V->ac->Prop
 |.non,u=>u=hU
 |.bl b,u=>u=nw b
 |.int i,u=>∃t,u=sQ i t
 |.str x,u=>∃t,u=wq x t
 |.byt b,u=>∃t,u=GS b t
 |.flt b,u=>∃t,u=GT b t
 |.ref a,u=>u=bg a
 |.ty n,u=>u=mB n
abbrev cx:List V->List ac->Prop:=mE dm
theorem cx.length{xs:List V}{us:List ac}(r:cx xs us):xs.length=us.length:=Ap r
theorem cx.get:∀{xs:List V}{us:List ac}{i:Nat}{x:V},cx xs us->xs[i]?=X0 x->∃u,us[i]?=X0 u/\dm x u
 |_,_,_,_,.nil,e=>by simp at e
 |_,_,0,_,.cons r _,e=>by simp at e;subst e;exact⟨_,rfl,r⟩
 |_,_,i+1,x,.cons _ t,e=>by
  obtain⟨u,g,d⟩:=cx.get (i:=i) (x:=x) t (by simpa using e);exact⟨u,by simpa using g,d⟩
theorem cx.append:∀{xs d:List V}{us g:List ac},cx xs us->cx d g->cx (xs++d) (us++g)
 |_,_,_,_,.nil,s=>s
 |_,_,_,_,.cons r t,s=>.cons r (cx.append t s)
theorem cx.take:∀{xs:List V}{us:List ac}(n:Nat),cx xs us->cx (xs.take n) (us.take n)
 |_,_,0,_=>.nil
 |_,_,_+1,.nil=>.nil
 |_,_,n+1,.cons r t=>.cons r (cx.take n t)
theorem cx.drop:∀{xs:List V}{us:List ac}(n:Nat),cx xs us->cx (xs.drop n) (us.drop n)
 |_,_,0,r=>r
 |_,_,_+1,.nil=>.nil
 |_,_,n+1,.cons _ t=>cx.drop n t
def NY:Option V->Option ac->Prop
 |some v,X0 u=>dm v u
 |none,W1=>True
 |_,_=>False
def KV{d:Type}:List (d×V)->List (d×ac)->Prop:=mE λ(p:d×V) (q:d×ac)=>p.1=q.1/\dm p.2 q.2
def kV:Key->V
 |.inl i=>.int i
 |.inr x=>.str x
set_option genInjectivity true in
inductive HO where
 |lst (xs:List V)
 |tup (xs:List V)
 |dK (kvs:List (Key×V)) | dT (kvs:List (List Key×V))
 |set (S:Int->Bool) (n:Nat)
 |ins (C dx:Addr) (fs:List (Str×V))
 |own (x:Addr)
 |xd (fs:List (Str×V))
 |met (f x:Addr)
 |rng (lo hi:Int)
 |frz (o:Obj) (u:HO)
 |tbl (ps:Array ac)
 |ext (φ:Heap->Prop)
 |mem (F:List (List Key)->Int) (K:aI)
abbrev Hp:=Addr->Option HO
def fk(H:Hp)(a:Addr)(o:HO):Hp:=λb=>if b=a then X0 o else H b
def Ah{H:Hp}{o:HO}:fk H a o a=X0 o:=by unfold fk;rw[SF rfl]
def Al{H:Hp}{o:HO}(h:b≠a):fk H a o b=H b:=by unfold fk;rw[UF h]
def uc{H:Hp}{o u:HO}(h:H a=X0 o)(h':H b=X0 u)(d:o≠u):a≠b:=by
 intro e;subst e;rw[h] at h';exact d (cS h')
def Dd{H:Hp}{o:HO}(h:H a=X0 o)(h':H b=W1):a≠b:=by
 intro e;subst e;rw[h] at h';cases h'
def NL(K:aI)(H:Hp)(a:Addr)(xs:List V):Prop:=(H a=X0 (.tup xs)∨∃o,H a=X0 (.frz o (.tup xs))) ∨
 ∃(o:Obj) (d:Array ac) (n:Nat),K.lookup a=X0 o/\o.cls=.type "tuple"/\o.data=.seq d n/\d.size<=sizeLine/\cx xs d.toList
def MX(K:aI)(H:Hp)(ks:List (List Key))(b:Addr):Prop:=∃bs:List Addr,NL K H b (bs.map V.ref)/\mE (λk c=>NL K H c (k.map kV)) ks bs
def TN(ks:List (List Key)):Prop:=∃ps:List (Nat×Nat),ks=ps.map (λp=>[.inl (p.1:Int),.inl (p.2:Int)])/\ps.length<=5/\∀p∈ps,p.1<5/\p.2<5
def Tu:HO->Prop
 |.tup _=>True
 |.frz _ (.tup _)=>True
 |_=>False
section
variable (P:cr) (w:bP)
def BV(H:Hp)(h:Heap)(a:Addr):HO->Prop
  |.mem F K=>(a==fE)=E3/\∃xs:List (List (List Key)×Addr×ac),(∀q∈xs,MX K H q.1 q.2.1/\TN q.1/\dm (.int (F q.1)) q.2.2) ∧
      ∃o es ep,h.get? a=X0 o/\o.ExactDict/\o.data=.dict es ep/\es.toList=xs.map (wv (PV.SQ (Av P w)))/\(xs.map (·.1)).Nodup
  |.lst xs=>xs.length<=sizeLine/\∃(d:List ac) (n:Nat),cx xs d/\h.get? a=X0 { cls:=.type "list",data:=.seq d.toArray n }
  |.tup xs=>xs.length<=sizeLine/\∃d:List ac,cx xs d/\IsTup h a d.toArray
  |.dK kvs=>kvs.length<=sizeLine/\(a==fE)=E3/\∃vs,KV kvs vs/\h.DictOf (Av P w) a vs
  |.dT kvs=>kvs.length<=sizeLine/\(a==fE)=E3/\∃xs:List (List Key×Addr×ac),
      mE (λ(p:List Key×V) (q:List Key×Addr×ac)=>p.1=q.1/\H q.2.1=X0 (.tup (p.1.map kV))/\dm p.2 q.2.2) kvs xs ∧
      ∃o es ep,h.get? a=X0 o/\o.ExactDict/\o.data=.dict es ep/\es.toList=xs.map (wv (ri (Av P w)))/\(xs.map (·.1)).Nodup
  |.set S n=>h.SetOf (intKind P w) a S n
  |.ins C dx fs=>H dx=X0 (.own a)/\fs.length<=1000/\dx≠a/\h.get? a=X0 (pb C dx) ∧
      ∃mA,h.Ns1 dx mA/\(∀f,NY (fs.lookup f) (mA f))/\CB mA (fs.map (·.1))
  |.own _=>∃o,h.get? a=X0 o
  |.xd fs=>∃mA,h.Ns1 a mA/\∀f,NY (fs.lookup f) (mA f)
  |.rng r z=>∃t u v,h.get? a=X0 { cls:=.type "range",data:=.fields #[.int r t,.int z u,.int 1 v] }
  |.frz o u=>h.get? a=X0 o/\BV H h a u
  |.tbl ps=>h.get? a=X0 { cls:=.none,data:=.fields ps }
  |.met f x=>h.get? a=X0 (CC (.ref f) (.ref x))
  |.ext φ=>φ h/\(∃o,h.get? a=X0 o)/\∀h1 g:Heap,φ h1->(∀o,h1.get? a=X0 o->g.get? a=X0 o)->φ g
def Pp(H:Hp)(h:Heap):Prop:=∀a o,H a=X0 o->BV P w H h a o
end
section
variable {H H':Hp}{o:HO}
theorem BV.lt(x:BV P w H h a o):a<h.objs.size:=by
 cases o with
 |mem F K=>obtain⟨_,_,_,o,_,_,e,_⟩:=x;exact bn e
 |lst g=>obtain⟨_,_,_,_,e⟩:=x;exact bn e
 |tup g=>obtain⟨_,_,_,p⟩:=x;exact p.lt
 |dK d=>obtain⟨_,_,_,_,o,_,_,e,_⟩:=x;exact bn e
 |dT d=>obtain⟨_,_,_,_,o,_,_,e,_⟩:=x;exact bn e
 |set S n=>obtain⟨o,_,_,_,e,_⟩:=x;exact bn e
 |ins C dx fs=>obtain⟨_,_,_,e,_⟩:=x;exact bn e
 |own y=>obtain⟨_,e⟩:=x;exact bn e
 |xd fs=>obtain⟨_,⟨_,_,_,e,_⟩,_⟩:=x;exact bn e
 |rng v z=>obtain⟨_,_,_,e⟩:=x;exact bn e
 |frz ob u=>obtain⟨e,_⟩:=x;exact bn e
 |tbl r=>exact bn (show h.get? a=X0 _ from x)
 |met f y=>exact bn (show h.get? a=X0 _ from x)
 |ext φ=>obtain⟨_,⟨_,e⟩,_⟩:=x;exact bn e
theorem Paired.mapP{z v:Type}{F G:z->v->Prop}:∀{g:List z}{d:List v},mE F g d->(∀a b,F a b->G a b)->mE G g d
 |_,_,.nil,_=>.nil
 |_,_,.cons r t,f=>.cons (f _ _ r) (Paired.mapP t f)
def BV.stay(x:BV P w H h a o)(k:∀b u,(b=a∨H b=X0 (.own a))->h.get? b=X0 u->h'.get? b=X0 u)(ho:∀b,H b=X0 (.own a)->H' b=X0 (.own a))(O:∀b o,Tu o->H b=X0 o->H' b=X0 o):BV P w H' h' a o:=by
 have T:∀{K:aI}{b:Addr}{xs:List V},NL K H b xs->NL K H' b xs:=λ{K b xs} z=>by
  rcases z with (z | ⟨o,z⟩) | z
  .exact .inl (.inl (O b _ trivial z))
  .exact .inl (.inr ⟨o,O b _ trivial z⟩)
  .exact .inr z
 induction o with
 |mem F K=>
  obtain⟨y,xs,al,ob,g,G,e,c⟩:=x;exact⟨y,xs,λq hq=>by
   obtain⟨⟨bs,Z,Y⟩,X⟩:=al q hq;exact⟨⟨bs,T Z,Paired.mapP Y λ_ _ z=>T z⟩,X⟩,ob,g,G,k _ _ (.inl rfl) e,c⟩
 |lst xs=>obtain⟨z,I,n,r,e⟩:=x;exact⟨z,I,n,r,k _ _ (.inl rfl) e⟩
 |tup xs=>obtain⟨z,I,r,ob,e,c⟩:=x;exact⟨z,I,r,ob,k _ _ (.inl rfl) e,c⟩
 |dK L=>obtain⟨z,y,vs,r,ob,g,G,e,c⟩:=x;exact⟨z,y,vs,r,ob,g,G,k _ _ (.inl rfl) e,c⟩
 |dT L=>
  obtain⟨z,y,xs,r,ob,g,G,e,c⟩:=x;exact⟨z,y,xs,Paired.mapP r λp q z=>⟨z.1,O _ _ trivial z.2.1,z.2.2⟩,ob,g,G,k _ _ (.inl rfl) e,c⟩
 |set S n=>obtain⟨ob,g,G,t,e,c⟩:=x;exact⟨ob,g,G,t,k _ _ (.inl rfl) e,c⟩
 |ins C dx fs=>
  obtain⟨d,z,ne,e,mA,⟨J,g,G,e2,c⟩,r⟩:=x;exact⟨ho _ d,z,ne,k _ _ (.inl rfl) e,mA,⟨J,g,G,k _ _ (.inr d) e2,c⟩,r⟩
 |own y=>obtain⟨ob,e⟩:=x;exact⟨ob,k _ _ (.inl rfl) e⟩
 |xd fs=>obtain⟨mA,⟨J,g,G,e,c⟩,r⟩:=x;exact⟨mA,⟨J,g,G,k _ _ (.inl rfl) e,c⟩,r⟩
 |rng lo hi=>obtain⟨t,u,v,e⟩:=x;exact⟨t,u,v,k _ _ (.inl rfl) e⟩
 |frz ob u ih=>obtain⟨e,q⟩:=x;exact⟨k _ _ (.inl rfl) e,ih q⟩
 |tbl W=>
  have e:h.get? a=X0 { cls:=.none,data:=.fields W }:=x;show h'.get? a=X0 { cls:=.none,data:=.fields W };exact k a _ (.inl rfl) e
 |met f y=>
  have e:h.get? a=X0 (CC (.ref f) (.ref y)):=x;show h'.get? a=X0 (CC (.ref f) (.ref y));exact k a _ (.inl rfl) e
 |ext φ=>obtain⟨p,⟨o,e⟩,U⟩:=x;exact⟨U _ _ p λo q=>k _ _ (.inl rfl) q,⟨o,k _ _ (.inl rfl) e⟩,U⟩
theorem Pp.lt(x:Pp P w H h)(e:H a=X0 o):a<h.objs.size:=(x a o e).lt
def Pp.fresh(x:Pp P w H h)(e:h.objs.size<=a):H a=W1:=by
 cases q:H a with
 |none=>rfl
 |some u=>exact MG (fF (x.lt q) e) (gT _)
def Pp.kept(x:Pp P w H h)(k:∀b u,h.get? b=X0 u->h'.get? b=X0 u):Pp P w H h':=λa o e=>
 (x a o e).stay (λb u _ q=>k b u q) (λ_ q=>q) λ_ _ _ q=>q
def Pp.laid(x:Pp P w H h)(k:∀b u,h.get? b=X0 u->h'.get? b=X0 u)(r:h.objs.size<=a)(new:BV P w (fk H a o) h' a o):Pp P w (fk H a o) h':=λb u e=>by
 have d:=x.fresh r
 by_cases g:b=a
 .subst g;rw[Ah] at e;cases e;exact new
 .rw[Al g] at e;exact (x b u e).stay (λc v _ q=>k c v q) (λc q=>by rw[Al (Dd q d)];exact q) λc z _ q=>by rw[Al (Dd q d)];exact q
end
def Rd(H:Hp)(a:Addr)(u:HO):Prop:=H a=X0 u∨∃o,H a=X0 (.frz o u)
def Rd.of{H:Hp}{u:HO}(h:H a=X0 u):Rd H a u:=.inl h
def Rd.ok{H:Hp}{u:HO}(r:Rd H a u)(x:Pp P w H h):BV P w H h a u:=by
 rcases r with r | ⟨o,r⟩
 .exact x a u r
 .obtain⟨_,q⟩:=x a _ r;exact q
def Mut:Option HO->Prop
 |some (.lst _)=>True
 |some (.dK _)=>True
 |some (.dT _)=>True
 |some (.set _ _)=>True
 |some (.ins _ _ _)=>True
 |some (.ext _)=>True
 |some (.mem _ _)=>True
 |_=>False
section
variable {H:Hp}{x e:Addr}{o':HO}
def Pp.write(ok:Pp P w H h)(G:Mut (H x))(U:e=x∨H e=X0 (.own x))(k:∀b u,b≠e->h.get? b=X0 u->h'.get? b=X0 u)(O:∃u,h'.get? e=X0 u)(new:BV P w (fk H x o') h' x o'):Pp P w (fk H x o') h':=λb u q=>by
 have g:∀c y,H c=X0 (.own y)->c≠x:=λc y r z=>by subst z;rw[r] at G;exact G
 have F:∀c o,Tu o->H c=X0 o->c≠x:=λc o L r z=>by
  subst z;rw[r] at G;cases o with
  |tup S=>exact G
  |frz p u=>exact G
  |_=>exact L
 by_cases J:b=x
 .subst J;rw[Ah] at q;cases q;exact new
 .rw[Al J] at q
  by_cases d:b=e
  .have T:H b=X0 (.own x):=by
    rcases U with z | z
    .exact MG (d.trans z) J
    .rw[d];exact z
   rw[q] at T;cases T;obtain⟨v,W⟩:=O;exact⟨v,by rw[d];exact W⟩
  .refine (ok b u q).stay (λc v I r=>k c v ?_ r) (λc r=>by rw[Al (g c b r)];exact r) λc S L r=>by rw[Al (F c S L r)];exact r
   rcases I with rfl | I
   .exact d
   .rintro rfl
    rcases U with z | z
    .exact g c b I z
    .rw[I] at z;cases z;exact J rfl
end
structure Un (fs ex:List Addr) (H H':Hp) (h h':Heap):Prop where
 keep:∀b o,h.get? b=X0 o->H b=W1->b∉fs->b∉ex->h'.get? b=X0 o
 slot:∀b o,h.get? b=X0 o->H b=W1->b∈fs->b∉ex->∃sl,h'.get? b=X0 { o with slots:=sl }
 free:∀b o,h.get? b=X0 o->H b=W1->b∉ex->H' b=W1
 there:∀b o,h.get? b=X0 o->b∉ex->∃o',h'.get? b=X0 o'
 tups:∀b xs,H b=X0 (.tup xs)->H' b=X0 (.tup xs)
 frzs:∀b o u,H b=X0 (.frz o u)->H' b=X0 (.frz o u)
 tbls:∀b ps,H b=X0 (.tbl ps)->∃more,H' b=X0 (.tbl (ps++more))
section
variable {fs fs' ex ex':List Addr}{H H1 H2:Hp}{h1 h2:Heap}{x e:Addr}{o:HO}
def Un.any(u:Un fs ex H H1 h h1){b:Addr}{ob:Obj}(q:h.get? b=X0 ob)(n:H b=W1)(d:b∉ex):∃sl,h1.get? b=X0 { ob with slots:=sl }:=by
 by_cases g:b∈fs
 .exact u.slot b ob q n g d
 .exact⟨ob.slots,u.keep b ob q n g d⟩
def Un.kept(k:∀b u,h.get? b=X0 u->h'.get? b=X0 u):Un fs ex H H h h':=
 ⟨λb ob q _ _ _=>k b ob q,λb ob q _ _ _=>⟨ob.slots,k b ob q⟩,λ_ _ _ n _=>n,λb ob q _=>⟨ob,k b ob q⟩,λ_ _ q=>q,λ_ _ _ q=>q,λ_ r q=>⟨#[],by rw[q];simp⟩⟩
def Un.refl:Un fs ex H H h h:=Un.kept λ_ _ q=>q
def Un.laid(k:∀b u,h.get? b=X0 u->h'.get? b=X0 u)(r:h.objs.size<=a)(d:H a=W1):Un fs ex H (fk H a o) h h' where
 keep:=λb u q _ _ _=>k b u q
 slot:=λb u q _ _ _=>⟨u.slots,k b u q⟩
 free:=λb u q n _=>by rw[Al (bX (fF (bn q) r))];exact n
 there:=λb u q _=>⟨u,k b u q⟩
 tups:=λb g q=>by rw[Al (Dd q d)];exact q
 frzs:=λb u g q=>by rw[Al (Dd q d)];exact q
 tbls:=λb v q=>⟨#[],by rw[Al (Dd q d),q];simp⟩
def Un.write(G:Mut (H x))(L:e=x∨H e=X0 (.own x))(k:∀b u,b≠e->h.get? b=X0 u->h'.get? b=X0 u)(O:∃u,h'.get? e=X0 u):Un fs ex H (fk H x o) h h':=by
 have v:∀b,H b=W1->b≠x:=λb n z=>by subst z;rw[n] at G;exact G
 have F:∀b,H b=W1->b≠e:=λb n z=>by
  subst z
  rcases L with r | r
  .exact v b n r
  .rw[n] at r;cases r
 have g:∀b u,H b=X0 u->¬ Mut (X0 u)->b≠x:=λb u q J z=>by subst z;rw[q] at G;exact J G
 refine⟨λb u q n _ _=>k b u (F b n) q,λb u q n _ _=>⟨u.slots,k b u (F b n) q⟩,λb u q n _=>by rw[Al (v b n)];exact n,λb u q _=>?_,
  λb I q=>by rw[Al (g b _ q λz=>z)];exact q,λb u I q=>by rw[Al (g b _ q λz=>z)];exact q,λb S q=>⟨#[],by rw[Al (g b _ q λz=>z),q];simp⟩⟩
 by_cases d:b=e
 .subst d;exact O
 .exact⟨u,k b u d q⟩
end
def trk(h:Heap)(H:Hp):List Addr:=(aS h.objs.size).filter λa=>(H a).isSome
def US(h:Heap)(H:Hp):Heap:=PySem.W.hideAll h (trk h H)
def dH(h:Heap)(H:Hp):(US h H).objs.size=h.objs.size:=PySem.W.hideAll_size _ _
def gG{H:Hp}(e:h.get? b=X0 o)(n:H b=W1):(US h H).get? b=X0 o:=
 PySem.W.hideAll_get _ e λg=>by
  have q:(H b).isSome=E2:=(fw.mp g).2;rw[n] at q;simp at q
def p_{H:Hp}(e:(US h H).get? b=X0 o):h.get? b=X0 o/\H b=W1:=by
 have O:h.get? b=X0 o:=PySem.W.of_hideAll (trk h H) e;refine⟨O,?_⟩;cases q:H b with
 |none=>rfl
 |some x=>
  have g:b∈trk h H:=fw.mpr ⟨cE.mpr (bn O),by simp[q]⟩;have z:(US h H).get? b=W1:=PySem.W.hideAll_none (trk h H) g;rw[z] at e;cases e
def qC(g h:Heap)(L:Addr):List (Addr×Obj):=(aS h.objs.size).filterMap λa=>if a=L∨(g.get? a).isSome=E2 then W1 else (h.get? a).map λo=>(a,o)
def hQ(g h:Heap)(L d:Addr):List (Addr×Obj):=(qC g h L).filter λp=>decide (p.1≠d)
structure Mod (K:aI) (mg:Str->Option ac) (base:Heap):Prop where
 kin:K.In base
 glob:base.Ns gL mg
 blt:∃mb,base.Ns CD mb/\∀x:Str,x≠"__name__"->mb x=dL x
 nolimit:base.NoLimit
set_option genInjectivity true in
structure Cx where
 prog:cr
 w:bP
 K:aI
 mg:Str->Option ac
 base:Heap
 A:aE
 N:List Str
 s₀:ah
 H₀:Hp
 env:Env
 outer:List Env
 stack:List Env
 ex:List Addr
 fn:Str->Bool
 calm:Bool
 pn:List (Addr×Obj)
 xe:ac->ah->Prop
def frs(l:List Env):List Addr:=l.filterMap (·.frame)
abbrev Cx.fs (X:Cx):List Addr:=frs X.outer
def UY(sc:kP)(x:Str):Prop:=sc.names.lookup x=X0 .local ∨sc.names.lookup x=X0 .cell ∨sc.names.lookup x=X0 .free
def Loc(sc:kP)(x:Str):Prop:=sc.names.lookup x=X0 .local ∨sc.names.lookup x=X0 .cell
def Look(env:Env)(h:Heap)(m:Str->Option ac)(x:Str)(u:ac):Prop:=
 (env.kindOf x=X0 .local /\m x=X0 u)∨((env.kindOf x=X0 .cell ∨env.kindOf x=X0 .free)/\∃c,env.cells.lookup x=X0 c/\h.IsCell c (X0 u))
structure Cx.Ok (X:Cx):Prop where
 mod:Mod X.K X.mg X.base
 kind:X.env.scope.kind=.function
 glob:X.env.globals=gL
 blt:X.env.builtins=CD
 above:X.s₀.heap.objs.size<=X.env.locals
 inj:∀x y c,X.env.cells.lookup x=X0 c->X.env.cells.lookup y=X0 c->x=y
 has:∀x,(X.env.kindOf x=X0 .cell ∨X.env.kindOf x=X0 .free)->∃c,X.env.cells.lookup x=X0 c
 cab:∀x c,X.fn x=E2->X.env.cells.lookup x=X0 c->X.s₀.heap.objs.size<=c
 hd:X.calm=E2->X.A.handled=W1
 frames:X.A.frames=X0 X.stack
 stk:X.stack=X.outer∨(X.stack=X.env::X.outer/\X.env.frame=X0 X.env.locals)
 exf:∀b∈X.ex,b≠X.env.locals/\∀x c,X.env.cells.lookup x=X0 c->c≠b
 bs:∀b o,X.base.get? b=X0 o->X.s₀.heap.get? b=X0 o/\X.H₀ b=W1
 bsz:X.base.objs.size<=X.s₀.heap.objs.size
 noex:∀b o,X.base.get? b=X0 o->b∉X.ex
 exfs:∀b∈X.ex,b∉X.fs
 funs:X.s₀.heap.FunFrames X.base X.outer
 frf:∀b∈X.fs,X.H₀ b=W1
structure Inv (X:Cx) (π:zP) (σ:List (Option V)) (H:Hp) (s:ah):Prop where
 ok:X.Ok
 os:s.os=X.s₀.os
 bare:ny s.gens
 base:Un X.fs X.ex X.H₀ H X.s₀.heap s.heap
 loc:∃m,s.heap.Ns X.env.locals m/\∀(i:Nat) (x:Str) (v:V),X.N[i]?=X0 x->σ[i]?=X0 (X0 v)->UY X.env.scope x->∃u,dm v u/\Look X.env s.heap m x u
 cell:∀x c,X.env.cells.lookup x=X0 c->∃v,s.heap.IsCell c v
 free:H X.env.locals=W1
 freeC:∀x c,X.env.cells.lookup x=X0 c->H c=W1
 pin:∀p∈X.pn++π,s.heap.get? p.1=X0 p.2/\H p.1=W1/\p.1≠X.env.locals/\p.1∉X.fs/\∀v,p.2.data≠.cell v
 hok:Pp X.prog X.w H s.heap
 len:σ.length=X.N.length
section
variable {X:Cx}{H H':Hp}
def Cx.Ok.nofr(ok:X.Ok){b:Addr}{o:Obj}(e:X.base.get? b=X0 o):b∉X.fs:=λd=>by
 have:=(ok.funs.mem d).1;rw[e] at this;cases this
theorem Inv.bs(I:Inv X π σ H s):∀b o,X.base.get? b=X0 o->s.heap.get? b=X0 o/\H b=W1:=λb o e=>
 ⟨I.base.keep b o (I.ok.bs b o e).1 (I.ok.bs b o e).2 (I.ok.nofr e) (I.ok.noex b o e),I.base.free b o (I.ok.bs b o e).1 (I.ok.bs b o e).2 (I.ok.noex b o e)⟩
def Inv.bk(I:Inv X π σ H s):∀b o,X.base.get? b=X0 o->s.heap.get? b=X0 o:=λb o e=>(I.bs b o e).1
theorem Inv.mod(I:Inv X π σ H s):Mod X.K X.mg X.base:=I.ok.mod
def Inv.kIn(I:Inv X π σ H s):X.K.In s.heap:=I.ok.mod.kin.keeps I.bk
theorem Inv.lt(I:Inv X π σ H s):X.env.locals<s.heap.objs.size:=let ⟨_,hn,_⟩:=I.loc;hn.lt
def Inv.sz(I:Inv X π σ H s):X.s₀.heap.objs.size<=s.heap.objs.size:=cw I.ok.above (sR I.lt)
def Inv.nofs(I:Inv X π σ H s){a:Addr}(h:s.heap.objs.size<=a):a∉X.fs:=λd=>by
 obtain⟨_,o,v,_⟩:=I.ok.funs.mem d;exact MG (fF (bn v) (cw I.sz h)) (gT _)
def Inv.cne(I:Inv X π σ H s):∀x c,X.env.cells.lookup x=X0 c->c≠X.env.locals:=λx c e z=>by
 obtain⟨v,o,r,F⟩:=I.cell x c e;obtain⟨m,⟨G,J,L,d,g,_⟩,_⟩:=I.loc;rw[z,d] at r;cases r;rw[g] at F;cases F
theorem Inv.funs(I:Inv X π σ H s):s.heap.FunFrames X.base X.outer:=by
 have all:∀(l:List Env),(∀b∈frs l,b∈X.fs)->X.s₀.heap.FunFrames X.base l->s.heap.FunFrames X.base l:=by
  intro l
  induction l with
  |nil=>intro _ _;trivial
  |cons U r v=>
   intro hs Y;obtain⟨S,⟨L,o,G,O,J,T⟩,F⟩:=Y;have g:L∈X.fs:=hs L (by unfold frs;rw[CF,G];exact df);obtain⟨W,e⟩:=I.base.slot L o J (I.ok.frf L g) g λz=>I.ok.exfs L z g;exact⟨S,⟨L,_,G,O,e,T⟩,v (λb d=>hs b (by unfold frs;rw[CF,G];exact cp _ d)) F⟩
 exact all X.outer (λ_ d=>d) I.ok.funs
theorem Inv.stack(I:Inv X π σ H s):s.heap.FunFrames X.base X.stack:=by
 rcases I.ok.stk with e | ⟨e,G⟩
 .rw[e];exact I.funs
 .rw[e];obtain⟨m,d,_⟩:=I.loc;refine .cons (by rw[I.ok.kind];decide) G d ?_ I.funs;exact Heap.get?_none_of_le (cw I.ok.bsz I.ok.above)
def Inv.stkSub(I:Inv X π σ H s):∀b∈frs X.stack,b∈X.env.locals::X.fs:=λb d=>by
 rcases I.ok.stk with e | ⟨e,G⟩
 .rw[e] at d;exact cp _ d
 .rw[e] at d;unfold frs at d;rw[CF,G] at d;exact d
def Inv.stkFree(I:Inv X π σ H s):∀b∈frs X.stack,H b=W1:=λb d=>by
 rcases bp.mp (I.stkSub b d) with e | d
 .rw[e];exact I.free
 .obtain⟨_,o,v,_⟩:=I.ok.funs.mem d;exact I.base.free b o v (I.ok.frf b d) λz=>I.ok.exfs b z d
def Inv.step{g':Array GenState}{d':Drawn}(I:Inv X π σ H s)(G:∀b∈ch,(b∈X.ex∨X.s₀.heap.objs.size<=b)/\b≠X.env.locals/\(∀x c,X.env.cells.lookup x=X0 c->c≠b)/\∀p∈X.pn++π,p.1≠b)(keep:∀b o,b≠X.env.locals->b∉X.fs->b∉ch->s.heap.get? b=X0 o->H b=W1->h'.get? b=X0 o)(S:∀b o,b≠X.env.locals->b∈X.fs->b∉ch->s.heap.get? b=X0 o->H b=W1->∃sl,h'.get? b=X0 { o with slots:=sl })(free:∀b o,b∉ch->s.heap.get? b=X0 o->H b=W1->H' b=W1)(T:∀b o,b∉ch->s.heap.get? b=X0 o->∃o',h'.get? b=X0 o')(Y:∀b xs,H b=X0 (.tup xs)->H' b=X0 (.tup xs))(S0:∀b o u,H b=X0 (.frz o u)->H' b=X0 (.frz o u))(Z:∀b ps,H b=X0 (.tbl ps)->∃O0,H' b=X0 (.tbl (ps++O0)))(ns:∀m,s.heap.Ns X.env.locals m->h'.Ns X.env.locals m)(N1:Pp X.prog X.w H' h')(hg:ny g'):
  Inv X π σ H' { s with heap:=h',gens:=g',drawn:=d',toks:=t' }:=by
 have N0:∀b o,X.s₀.heap.get? b=X0 o->b≠X.env.locals:=λb o e=>bX (fF (bn e) I.ok.above);have L:∀b o,X.s₀.heap.get? b=X0 o->b∉X.ex->b∉ch:=λb o e g U=>by
  rcases (G b U).1 with z | z
  .exact g z
  .exact MG (fF (bn e) z) (gT _)
 have J:∀x c,X.env.cells.lookup x=X0 c->∀v,s.heap.IsCell c v->h'.IsCell c v:=by
  rintro x c e v ⟨o,W,hd⟩
  have F:c∉ch:=λz=>(G c z).2.2.1 x c e rfl
  by_cases hc:c∈X.fs
  .obtain⟨sl,q⟩:=S c o (I.cne x c e) hc F W (I.freeC x c e);exact⟨_,q,hd⟩
  .exact⟨o,keep c o (I.cne x c e) hc F W (I.freeC x c e),hd⟩
 refine⟨I.ok,I.os,hg,⟨λb o e n U g=>?_,λb o e n U g=>?_,λb o e n g=>?_,λb o e g=>?_,λb xs e=>Y b xs (I.base.tups b xs e),λb o xs e=>S0 b o xs (I.base.frzs b o xs e),λb ps e=>?_⟩,?_,λx c e=>?_,?_,λx c e=>?_,λp hp=>?_,N1,I.len⟩
 .exact keep b o (N0 b o e) U (L b o e g) (I.base.keep b o e n U g) (I.base.free b o e n g)
 .obtain⟨sl,O⟩:=I.base.slot b o e n U g;obtain⟨T0,e2⟩:=S b _ (N0 b o e) U (L b o e g) O (I.base.free b o e n g);exact⟨T0,e2⟩
 .obtain⟨o',O⟩:=I.base.there b o e g;exact free b o' (L b o e g) O (I.base.free b o e n g)
 .obtain⟨o',O⟩:=I.base.there b o e g;exact T b o' (L b o e g) O
 .obtain⟨m1,O⟩:=I.base.tbls b ps e;obtain⟨m2,e2⟩:=Z b _ O;exact⟨m1++m2,by rw[e2,Array.append_assoc]⟩
 .obtain⟨m,hn,hl⟩:=I.loc;refine⟨m,ns m hn,λi x v O e2 e3=>?_⟩;obtain⟨u,r,l⟩:=hl i x v O e2 e3;refine⟨u,r,?_⟩
  rcases l with l | ⟨k,c,e,z⟩
  .exact .inl l
  .exact .inr ⟨k,c,e,J x c e _ z⟩
 .obtain⟨v,z⟩:=I.cell x c e;exact⟨v,J x c e v z⟩
 .obtain⟨m,⟨o,_,_,W,_⟩,_⟩:=I.loc;exact free _ o (λz=>(G _ z).2.1 rfl) W I.free
 .obtain⟨v,o,W,hd⟩:=I.cell x c e;exact free c o (λz=>(G c z).2.2.1 x c e rfl) W (I.freeC x c e)
 .obtain⟨e,n,ne,nf,d⟩:=I.pin p hp;have F:p.1∉ch:=λz=>(G p.1 z).2.2.2 p hp rfl;exact⟨keep p.1 p.2 ne nf F e n,free p.1 p.2 F e n,ne,nf,d⟩
theorem Inv.un(I:Inv X π σ H s)(u:Un X.fs [] H H' s.heap h')(g:Pp X.prog X.w H' h'):Inv X π σ H' { s with heap:=h',toks:=t' }:=by
 obtain⟨m,⟨o,Y,Z,J,r⟩,_⟩:=id I.loc;obtain⟨W,S⟩:=u.any J I.free .(1);exact I.step (g':=s.gens) (d':=s.drawn) (ch:=[]) (λ_ z=>nomatch z) (λb o _ v _ e n=>u.keep b o e n v .(1)) (λb o _ v _ e n=>u.slot b o e n v .(1)) (λb o _ e n=>u.free b o e n .(1)) (λb o _ e=>u.there b o e .(1)) u.tups u.frzs u.tbls (λU O=>by
  obtain⟨T,F,G,d,L⟩:=O;rw[J] at d;cases d;exact⟨_,F,G,S,L⟩) g I.bare
def Inv.call{g':Array GenState}{d':Drawn}(I:Inv X π σ H s)(u:Un (frs X.stack) ch H H' s.heap h')(v:Pp X.prog X.w H' h')(U:ny g')(G:∀b∈ch,(b∈X.ex∨X.s₀.heap.objs.size<=b)/\b≠X.env.locals/\(∀x c,X.env.cells.lookup x=X0 c->c≠b)/\∀p∈X.pn++π,p.1≠b):
  Inv X π σ H' { s with heap:=h',gens:=g',drawn:=d',toks:=t' }:=by
 obtain⟨m,⟨o,es,ep,O,r⟩,_⟩:=id I.loc;obtain⟨Y,F⟩:=u.any O I.free λz=>(G _ z).2.1 rfl;exact I.step (ch:=ch) G (λb o F W d e n=>u.keep b o e n (λz=>(bp.mp (I.stkSub b z)).elim F W) d) (λb o _ _ d e n=>u.any e n d) (λb o d e n=>u.free b o e n d) (λb o d e=>u.there b o e d) u.tups u.frzs u.tbls (λm' T=>by
  obtain⟨Z,J,L,g,S⟩:=T;rw[O] at g;cases g;exact⟨_,J,L,F,S⟩) v U
theorem Inv.turned(I:Inv X π σ H s)(k:∀b o,b≠it->s.heap.get? b=X0 o->h'.get? b=X0 o)(J:H it=W1)(F:it≠X.env.locals)(h1:it∈X.ex∨X.s₀.heap.objs.size<=it)(T:∀x c,X.env.cells.lookup x=X0 c->c≠it)(S:∀p∈X.pn++π,p.1≠it):Inv X π σ H { s with heap:=h',toks:=t' }:=by
 have g:∀b u,H b=X0 u->b≠it:=λb u e z=>by rw[z,J] at e;cases e
 refine I.step (g':=s.gens) (d':=s.drawn) (ch:=[it]) (λb O=>?_) (λb o _ _ d e _=>k b o (λz=>d (by simp[z])) e) (λb o _ _ d e _=>⟨o.slots,k b o (λz=>d (by simp[z])) e⟩) (λ_ _ _ _ n=>n)
  (λb o d e=>⟨o,k b o (λz=>d (by simp[z])) e⟩) (λ_ _ e=>e) (λ_ _ _ e=>e) (λb Y e=>⟨#[],by rw[e];simp⟩) (λm L=>?_) (λb u e=>?_) I.bare
 .have e:b=it:=by simpa using O
  subst e;exact⟨h1,F,T,S⟩
 .obtain⟨o,U,W,G,r⟩:=L;exact⟨o,U,W,k _ o (cf F) G,r⟩
 .refine (I.hok b u e).stay (λc v d q=>k c v ?_ q) (λ_ q=>q) λ_ _ _ q=>q
  rcases d with z | z
  .rw[z];exact g b u e
  .exact g c _ z
theorem Inv.tok(I:Inv X π σ H s)(t:Nat):Inv X π σ H { s with toks:=t }:=I.un (h':=s.heap) (t':=t) Un.refl I.hok
theorem Inv.kept{t':Nat}(I:Inv X π σ H s)(k:∀b u,s.heap.get? b=X0 u->h'.get? b=X0 u):Inv X π σ H { s with heap:=h',toks:=t' }:=I.un (Un.kept k) (I.hok.kept k)
theorem Inv.laid{a:Addr}{o:HO}{t':Nat}(I:Inv X π σ H s)(k:∀b u,s.heap.get? b=X0 u->h'.get? b=X0 u)(r:s.heap.objs.size<=a)(new:BV X.prog X.w (fk H a o) h' a o):
  Inv X π σ (fk H a o) { s with heap:=h',toks:=t' }:=I.un (Un.laid k r (I.hok.fresh r)) (I.hok.laid k r new)
theorem Inv.write{x e:Addr}{o:HO}{t':Nat}(I:Inv X π σ H s)(G:Mut (H x))(d:e=x∨H e=X0 (.own x))(k:∀b u,b≠e->s.heap.get? b=X0 u->h'.get? b=X0 u)(O:∃u,h'.get? e=X0 u)(new:BV X.prog X.w (fk H x o) h' x o):Inv X π σ (fk H x o) { s with heap:=h',toks:=t' }:=I.un (Un.write G d k O) (I.hok.write G d k O new)
def Inv.pins_of{d:zP}(I:Inv X π σ H s)(h:∀p∈d,s.heap.get? p.1=X0 p.2/\H p.1=W1/\p.1≠X.env.locals/\p.1∉X.fs/\∀v,p.2.data≠.cell v):Inv X d σ H s:=
 ⟨I.ok,I.os,I.bare,I.base,I.loc,I.cell,I.free,I.freeC,λp r=>(eJ.mp r).elim (λz=>I.pin p (jp _ z)) (h p),I.hok,I.len⟩
def Lx(I:N.Nodup){i j:Nat}{x:Str}(a:N[i]?=X0 x)(b:N[j]?=X0 x):i=j:=by
 obtain⟨v,g⟩:=dP.mp a;obtain⟨r,d⟩:=dP.mp b;exact (GU I).mp (g.trans d.symm)
def Uq(N:List Str)(x:Str):Prop:=∀i j:Nat,N[i]?=X0 x->N[j]?=X0 x->i=j
def zQ(I:N.Nodup):Uq N x:=λ_ _ a b=>Lx I a b
theorem SX{A:aE}{v:V}{Q:Unit->ah->Prop}(I:Inv X π σ H s)(hN:Uq X.N x)(hi:X.N[i]?=X0 x)(J:Loc X.env.scope x)(r:dm v u)(h:∀s',Inv X π (σ.set i (X0 v)) H s'->(∃a,fI a s.heap s'.heap/\(a=X.env.locals∨X.env.cells.lookup x=X0 a))->Q () s')(hf:X.fn x=E2∨X.env.scope.names.lookup x=X0 .local :=by first | exact .inl rfl | exact .inr rfl | assumption):ag M A (storeName X.env x u) Q E s:=by
 obtain⟨m,hn,hl⟩:=id I.loc;have O0:(X.env.scope.kind==.class||(X.env.scope.kind==.module&&X.env.locals != X.env.globals))=E3:=by rw[I.ok.kind];rfl
 have T:i<σ.length:=by rw[I.len];exact (dP.mp hi).1
 have cne:=I.cne;have g:∀{a:Addr}{h':Heap},(∃o,s.heap.get? a=X0 o/\H a=W1)->fI a s.heap h'->Pp X.prog X.w H h':=λ{a h'} ha hs b ob e=>by
  obtain⟨_,_,L⟩:=ha;refine (I.hok b ob e).stay (λc w' G q=>(hs.2 c ?_).trans q) (λ_ q=>q) λ_ _ _ q=>q;rintro rfl
  rcases G with rfl | G
  .rw[L] at e;cases e
  .rw[L] at G;cases G
 rcases J with S | S
 .refine wpAny_storeName_local S hn (λh' P1 hs=>?_) O0;obtain⟨oL,_,_,N1,_⟩:=id hn;refine h _ ⟨I.ok,I.os,I.bare,⟨λb o e n Y J=>?_,λb o e n Y J=>?_,I.base.free,λb o e J=>?_,I.base.tups,I.base.frzs,I.base.tbls⟩,⟨_,P1,λj y v' F O e3=>?_⟩,λy c e=>?_,I.free,I.freeC,λp hp=>?_,g ⟨oL,N1,I.free⟩ hs,by simpa using I.len⟩ ⟨_,hs,.inl rfl⟩
  .exact (hs.2 b (bX (fF (bn e) I.ok.above))).trans (I.base.keep b o e n Y J)
  .obtain⟨sl,F⟩:=I.base.slot b o e n Y J;exact⟨sl,(hs.2 b (bX (fF (bn e) I.ok.above))).trans F⟩
  .obtain⟨o',F⟩:=I.base.there b o e J;exact⟨o',(hs.2 b (bX (fF (bn e) I.ok.above))).trans F⟩
  .by_cases U:j=i
   .subst U;rw[hi] at F;cases F;rw[mI T] at O;cases O;exact⟨u,r,.inl ⟨S,by simp⟩⟩
   .rw[i6 (cf U)] at O;obtain⟨u',r',q⟩:=hl j y v' F O e3;refine⟨u',r',?_⟩
    rcases q with ⟨k,e⟩ | ⟨k,c,e,z⟩
    .refine .inl ⟨k,?_⟩;have:y≠x:=λe=>U (hN _ _ (e▸F) hi);simp[this,e]
    .exact .inr ⟨k,c,e,z.sameBut hs (cne y c e)⟩
  .obtain⟨w',z⟩:=I.cell y c e;exact⟨w',z.sameBut hs (cne y c e)⟩
  .obtain⟨e,n,ne,nf,d⟩:=I.pin p hp;exact⟨(hs.2 p.1 ne).trans e,n,ne,nf,d⟩
 .have W:X.fn x=E2:=by
   rcases hf with z | z
   .exact z
   .rw[z] at S;cases S
  obtain⟨c,G⟩:=I.ok.has x (.inl S);obtain⟨w',z⟩:=I.cell x c G;refine wpAny_storeName_cell I.ok.kind S G z (λh' T0 hs=>?_);obtain⟨oc,N0,Z⟩:=id z;refine h { s with heap:=h' } ⟨I.ok,I.os,I.bare,⟨λb o e n Y J=>?_,λb o e n Y J=>?_,I.base.free,λb o e J=>?_,I.base.tups,I.base.frzs,I.base.tbls⟩,⟨m,hn.sameBut hs (cf (cne x c G)),λj y v' F O e3=>?_⟩,λy c' e=>?_,I.free,I.freeC,λp hp=>?_,g ⟨oc,N0,I.freeC x c G⟩ hs,by simpa using I.len⟩ ⟨c,hs,.inr G⟩
  .exact (hs.2 b (bX (fF (bn e) (I.ok.cab x c W G)))).trans (I.base.keep b o e n Y J)
  .obtain⟨sl,F⟩:=I.base.slot b o e n Y J;exact⟨sl,(hs.2 b (bX (fF (bn e) (I.ok.cab x c W G)))).trans F⟩
  .obtain⟨o',F⟩:=I.base.there b o e J;exact⟨o',(hs.2 b (bX (fF (bn e) (I.ok.cab x c W G)))).trans F⟩
  .by_cases U:j=i
   .subst U;rw[hi] at F;cases F;rw[mI T] at O;cases O;exact⟨u,r,.inr ⟨.inl S,c,G,T0⟩⟩
   .rw[i6 (cf U)] at O;obtain⟨u',r',q⟩:=hl j y v' F O e3;refine⟨u',r',?_⟩
    rcases q with q | ⟨k,c',e,z'⟩
    .exact .inl q
    .refine .inr ⟨k,c',e,z'.sameBut hs ?_⟩;rintro rfl;exact U (hN _ _ (I.ok.inj _ _ _ e G▸F) hi)
  .by_cases S0:c'=c
   .subst S0;exact⟨_,T0⟩
   .obtain⟨w2,z2⟩:=I.cell y c' e;exact⟨w2,z2.sameBut hs S0⟩
  .obtain⟨e,n,ne,nf,d⟩:=I.pin p hp;refine⟨(hs.2 p.1 ?_).trans e,n,ne,nf,d⟩;intro q;rw[q,N0] at e;have q':oc=p.2:=cS e;exact d w' (by rw[<-q'];exact Z)
def U3{A:aE}{v:V}{Q:Unit->ah->Prop}(I:Inv X π σ H s)(F:X.N.Nodup)(z:X.N[i]?=X0 x)(g:Loc X.env.scope x)(r:dm v u)(h:∀d,Inv X π (σ.set i (X0 v)) H d->(∃a,fI a s.heap d.heap/\(a=X.env.locals∨X.env.cells.lookup x=X0 a))->Q () d)(G:X.fn x=E2∨X.env.scope.names.lookup x=X0 .local :=by first | exact .inl rfl | exact .inr rfl | assumption):ag M A (storeName X.env x u) Q E s:=SX I (zQ F) z g r h G
def W2{A:aE}{v:V}{Q:Unit->ah->Prop}(I:Inv X π σ H s)(F:X.N.Nodup)(z:X.N[i]?=X0 x)(g:Loc X.env.scope x)(r:dm v u)(h:∀d,Inv X π (σ.set i (X0 v)) H d->Q () d)(G:X.fn x=E2∨X.env.scope.names.lookup x=X0 .local :=by first | exact .inl rfl | exact .inr rfl | assumption):ag M A (storeName X.env x u) Q E s:=
 U3 I F z g r (λd J _=>h d J) G
theorem Inv.call'{s':ah}(I:Inv X π σ H s)(F:s'.os=s.os)(u:Un (frs X.stack) ch H H' s.heap s'.heap)(g:Pp X.prog X.w H' s'.heap)(U:ny s'.gens)(G:∀b∈ch,(b∈X.ex∨X.s₀.heap.objs.size<=b)/\b≠X.env.locals/\(∀x c,X.env.cells.lookup x=X0 c->c≠b)/\∀p∈X.pn++π,p.1≠b):Inv X π σ H' s':=by
 obtain⟨J,r,v,d,z⟩:=s';have e:z=s.os:=F;subst e;exact I.call (g':=r) (t':=d) (d':=v) u g U G
end
abbrev XK:=ac->Option Addr->Hp->Prop
abbrev St:=List (Option V)
abbrev VK:=V->Hp->Prop
abbrev TE:=St->Hp->VK->Prop
abbrev TT:=St->Hp->(Bool->Hp->Prop)->Prop
abbrev TA:=St->Hp->(List V->Hp->Prop)->Prop
structure QY where
 nx:St->Hp->Prop
 rt:VK
 bk:St->Hp->Prop:=λ_ _=>False
 ct:St->Hp->Prop:=λ_ _=>False
abbrev TS:=QY->St->Hp->Prop
def EP(X:Cx)(r:zP)(g:St)(Q:VK)(u:ac)(z:ah):Prop:=∃v d,Inv X r g d z/\dm v u/\Q v d
def TP(X:Cx)(r:zP)(g:St)(Q:Bool->Hp->Prop)(b:Bool)(v:ah):Prop:=∃d,Inv X r g d v/\Q b d
def AP(X:Cx)(r:zP)(g:St)(Q:List V->Hp->Prop)(us:List ac)(v:ah):Prop:=∃vs d,Inv X r g d v/\cx vs us/\Q vs d
def SP(X:Cx)(r:zP)(D:QY)(f:Flow)(z:ah):Prop:=
 match f with
 |.next=>∃d g,Inv X r d g z/\D.nx d g
 |.brk=>∃d g,Inv X r d g z/\D.bk d g
 |.cont=>∃d g,Inv X r d g z/\D.ct d g
 |.ret u=>∃v d g,Inv X r d g z/\dm v u/\D.rt v g
def PE(X:Cx)(e:Expr)(t:TE):Prop:=
 ∀(r:zP) (s:ah) (g:St) (H:Hp) (Q:VK),Inv X r g H s->t g H Q->ag .(3) X.A (eval e X.env) (EP X r g Q) X.xe s
def PT(X:Cx)(e:Expr)(t:TT):Prop:=
 ∀(r:zP) (s:ah) (g:St) (H:Hp) (Q:Bool->Hp->Prop),Inv X r g H s->t g H Q->ag .(3) X.A (pc e X.env (eval e X.env)) (TP X r g Q) X.xe s
def PW(X:Cx)(e:Expr)(t:TT):Prop:=
 ∀(whole:Sem ac) (r:zP) (s:ah) (g:St) (H:Hp) (Q:Bool->Hp->Prop),Inv X r g H s->t g H Q->ag .(3) X.A (pc e X.env whole) (TP X r g Q) X.xe s
def PW.pt{X:Cx}{t:TT}(h:PW X e t):PT X e t:=h _
def PA(X:Cx)(es:List Expr)(t:TA):Prop:=
 ∀(d:Pos) (r:zP) (s:ah) (g:St) (H:Hp) (Q:List V->Hp->Prop),Inv X r g H s->t g H Q->ag .(3) X.A (spliced (dn d (ay es X.env))) (AP X r g Q) X.xe s
def PS(X:Cx)(st:Stmt)(t:TS):Prop:=
 ∀(r:zP) (s:ah) (g:St) (H:Hp) (D:QY),Inv X r g H s->t D g H->ag .(3) X.A (exec st X.env) (SP X r D) X.xe s
def SV(X:Cx)(st:List Stmt)(t:TS):Prop:=
 ∀(r:zP) (s:ah) (g:St) (H:Hp) (D:QY),Inv X r g H s->t D g H->ag .(3) X.A (kt st X.env) (SP X r D) X.xe s
def mo{d:Type}{t:Sem d}{Q g:d->ah->Prop}{A:aE}(h:ag M A t Q E s)(r:∀a s,Q a s->g a s):ag M A t g E s:=i7 h r λ_ _ x=>x
section
variable {X:Cx}
def OL(i:Nat):TE:=λg H Q=>∃v,g[i]?=X0 (X0 v)/\Q v H
def tC(v:V):TE:=λ_ H Q=>Q v H
def Yn(U:X.N[i]?=X0 x)(O:UY X.env.scope x)(z:.(8)=E3:=by decide)(F:(x==("__classdict__":Str))=E3:=by decide):PE X (.Name x pos) (OL i):=by
 intro L s J H Q I h;obtain⟨v,e,h⟩:=h;obtain⟨m,S,Y⟩:=I.loc;obtain⟨u,r,l⟩:=Y i x v U e O;have rz:EP X L J Q u s:=⟨v,H,I,r,h⟩
 rcases l with ⟨g,T⟩ | ⟨g,c,G,d⟩
 .exact sT (GV I.ok.kind g S T rz) z
 .rcases g with g | g
  .exact sT (GW I.ok.kind g G d rz) z
  .exact sT (GY I.ok.kind g G d rz F) z
def wD{i j pos}:PE X (.Constant (.int i) j pos) (tC (.int i)):=λ_ _ _ H _ I h=>CH ⟨.int i,H,I.tok _,⟨_,rfl⟩,h⟩
def zR{b j pos}:PE X (.Constant (.bool b) j pos) (tC (.bl b)):=λ_ _ _ H _ I h=>Constant_bool ⟨.bl b,H,I,rfl,h⟩
def wF{x j pos}:PE X (.Constant (.str x) j pos) (tC (.str x)):=λ_ _ _ H _ I h=>Calls.Constant_str ⟨.str x,H,I.tok _,⟨_,rfl⟩,h⟩
def Gl(X:Cx)(x:Str):Prop:=X.env.kindOf x=X0 .globalImplicit
def Vo{g:St}{H:Hp}{Q:ac->ah->Prop}(I:Inv X π g H s)(U:Gl X x)(d:X.mg x=X0 u)(h:Q u s)(z:.(8)=E3:=by decide):ag .(3) X.A (eval (.Name x pos) X.env) Q E s:=
 H0 I.ok.kind U (Calls.loadGlobal_global (by rw[I.ok.glob];exact I.mod.glob.keeps I.bk) d h) z
def N5{g:St}{H:Hp}{Q:ac->ah->Prop}(I:Inv X π g H s)(U:Gl X x)(v:X.mg x=W1)(d:dL x=X0 u)(h:Q u s)(r:x≠"__name__":=by decide)(z:.(8)=E3:=by decide):ag .(3) X.A (eval (.Name x pos) X.env) Q E s:=by
 obtain⟨J,G,F⟩:=I.mod.blt;exact H0 I.ok.kind U (Calls.loadGlobal_builtin (by rw[I.ok.glob];exact I.mod.glob.keeps I.bk) v (by rw[I.ok.blt];exact G.keeps I.bk) ((F x r).trans d) h) z
def M5{v:V}(U:Gl X x)(g:X.mg x=X0 u)(r:dm v u)(z:.(8)=E3:=by decide):PE X (.Name x pos) (tC v):=
 λ_ _ _ H _ I h=>Vo I U g ⟨v,H,I,r,h⟩ z
def t2I(r d:TE)(k:Int->Int->Hp->Prop):St->Hp->Prop:=λg H=>r g H λx z=>d g z λy v=>∃i j,x=.int i/\y=.int j/\k i j v
variable {a b:Expr}{ta tb:TE}
def tCmp(p:Int->Int->Bool)(r d:TE):TE:=λg H Q=>t2I r d (λi j v=>Q (.bl (p i j)) v) g H
abbrev tLt:TE->TE->TE:=tCmp λi j=>decide (i<j)
abbrev tLe:TE->TE->TE:=tCmp λi j=>decide (i<=j)
abbrev tGt:TE->TE->TE:=tCmp λi j=>decide (j<i)
abbrev tGe:TE->TE->TE:=tCmp λi j=>decide (j<=i)
variable {tA tB':TT}{hQ:List Expr}
def tAnd(t u:TT):TT:=λg H Q=>t g H λc z=>if c=E2 then u g z Q else Q E3 z
def tOr(t u:TT):TT:=λg H Q=>t g H λc z=>if c=E2 then Q E2 z else u g z Q
def tNot(t:TT):TT:=λg H Q=>t g H λc z=>Q (!c) z
def qD(d:PT X a tA):PW X (.BoolOp .And [a] pos) tA:=by
 intro v r s g H Q I h;refine t5 (mo (d r s g H Q I h) λc z e=>?_);cases c with
 |true=>exact CI e
 |false=>exact e
def gH(d:PT X a tA):PW X (.BoolOp .Or [a] pos) tA:=by
 intro v r s g H Q I h;refine isTrue_or (mo (d r s g H Q I h) λc z e=>?_);cases c with
 |false=>exact isTrue_or_nil e
 |true=>exact e
def wG(J:PT X a tA)(G:PW X (.BoolOp .And (b::hQ) pos) tB'):PW X (.BoolOp .And (a::b::hQ) pos) (tAnd tA tB'):=by
 intro v r s g H Q I h;refine t5 (mo (J r s g H _ I h) λc F q0=>?_);obtain⟨z,d,q1⟩:=q0;cases c with
 |true=>exact G v r F g z Q d q1
 |false=>exact⟨z,d,q1⟩
def ud(J:PT X a tA)(G:PW X (.BoolOp .Or (b::hQ) pos) tB'):PW X (.BoolOp .Or (a::b::hQ) pos) (tOr tA tB'):=by
 intro v r s g H Q I h;refine isTrue_or (mo (J r s g H _ I h) λc F q9=>?_);obtain⟨z,d,q1⟩:=q9;cases c with
 |true=>exact⟨z,d,q1⟩
 |false=>exact G v r F g z Q d q1
def wH(d:PT X a tA):PT X (.UnaryOp .Not a pos) (tNot tA):=by
 intro r s g H Q I h;exact CL (d r s g H (λc z=>Q (!c) z) I h)
def zT(r d:TE):TE:=λg H Q=>r g H λx z=>∃c,x=.bl c/\if c=E2 then d g z Q else Q (.bl E3) z
def tOrV(r d:TE):TE:=λg H Q=>r g H λx z=>∃c,x=.bl c/\if c=E2 then Q (.bl E2) z else d g z Q
def wI{op}{t:TE}(h:PE X a t):PE X (.BoolOp op [a] pos) t:=λr s g H Q I d=>BoolOp_one (h r s g H Q I d)
def wJ(L:PE X a ta)(J:PE X (.BoolOp .And (b::hQ) pos) tb):PE X (.BoolOp .And (a::b::hQ) pos) (zT ta tb):=by
 intro r s g H Q I h;refine BoolOp_and (mo (L r s g H _ I h) λv F p0=>?_);obtain⟨x,z,d,G,q1⟩:=p0;obtain⟨c,rfl,q1⟩:=q1;cases G;refine kq ?_;cases c with
 |true=>exact J r F g z Q d q1
 |false=>exact⟨.bl E3,z,d,rfl,q1⟩
def zU(L:PE X a ta)(J:PE X (.BoolOp .Or (b::hQ) pos) tb):PE X (.BoolOp .Or (a::b::hQ) pos) (tOrV ta tb):=by
 intro r s g H Q I h;refine BoolOp_or (mo (L r s g H _ I h) λv F p9=>?_);obtain⟨x,z,d,G,q1⟩:=p9;obtain⟨c,rfl,q1⟩:=q1;cases G;refine kq ?_;cases c with
 |false=>exact J r F g z Q d q1
 |true=>exact⟨.bl E2,z,d,rfl,q1⟩
end
def MO(K:aI)(H:Hp)(a:Addr)(xs:List V):Prop:=
 Rd H a (.lst xs) ∨
  ∃(o:Obj) (d:Array ac) (n:Nat),K.lookup a=X0 o/\o.cls=.type "list"/\o.dict=W1/\o.data=.seq d n/\d.size<=sizeLine/\cx xs d.toList
def MZ(K:aI)(H:Hp)(a:Addr)(xs:List V):Prop:=
 Rd H a (.tup xs) ∨
  ∃(o:Obj) (d:Array ac) (n:Nat),K.lookup a=X0 o/\o.cls=.type "tuple"/\o.data=.seq d n/\d.size<=sizeLine/\cx xs d.toList
def absV:ac->Option V
 |.none=>X0 .non
 |.bool b=>X0 (.bl b)
 |.int i _=>X0 (.int i)
 |.str x _=>X0 (.str x)
 |.bytes b _=>X0 (.byt b)
 |.float b _=>X0 (.flt b)
 |.ref a=>X0 (.ref a)
 |.type n=>X0 (.ty n)
 |_=>W1
def dm.abs{x:V}(r:dm x u):absV u=X0 x:=by
 cases x with
 |non=>cases r;rfl
 |bl _=>cases r;rfl
 |int _=>obtain⟨t,rfl⟩:=r;rfl
 |str _=>obtain⟨t,rfl⟩:=r;rfl
 |byt _=>obtain⟨t,rfl⟩:=r;rfl
 |flt _=>obtain⟨t,rfl⟩:=r;rfl
 |ref _=>cases r;rfl
 |ty _=>cases r;rfl
def dm.inj{x y:V}{u:ac}(r:dm x u)(q:dm y u):x=y:=cS (r.abs.symm.trans q.abs)
theorem cx.inj:∀{xs d:List V}{us:List ac},cx xs us->cx d us->xs=d
 |_,_,_,.nil,.nil=>rfl
 |_,_,_,.cons r t,.cons L g=>by rw[r.inj L,cx.inj t g]
section
variable {X:Cx}{H:Hp}{xs ys:List V}
def MO.of{K:aI}(h:H a=X0 (.lst xs)):MO K H a xs:=.inl (.inl h)
def MZ.of{K:aI}(h:H a=X0 (.tup xs)):MZ K H a xs:=.inl (.inl h)
def Inv.list(I:Inv X π σ H s)(h:MO X.K H a xs):∃its:List ac,cx xs its/\PlainL s.heap a its.toArray/\xs.length<=sizeLine:=by
 rcases h with h | ⟨o,its,n,d,v,g,hs,O,r⟩
 .obtain⟨z,its,n,r,e⟩:=h.ok I.hok;exact⟨its,r,⟨_,n,e,rfl,rfl,rfl⟩,z⟩
 .refine⟨its.toList,r,⟨o,n,I.kIn a o d,v,g,by simpa using hs⟩,?_⟩;have e:=r.length;simp only[i8] at e;omega
def Inv.tuple(I:Inv X π σ H s)(h:MZ X.K H a xs):∃its:List ac,cx xs its/\IsTup s.heap a its.toArray/\xs.length<=sizeLine:=by
 rcases h with h | ⟨o,its,n,d,g,hs,O,r⟩
 .obtain⟨z,its,r,p⟩:=h.ok I.hok;exact⟨its,r,p,z⟩
 .refine⟨its.toList,r,⟨o,I.kIn a o d,g,n,by simpa using hs⟩,?_⟩;have e:=r.length;simp only[i8] at e;omega
def Inv.list_inj(I:Inv X π σ H s)(h:MO X.K H a xs)(h':MO X.K H a ys):xs=ys:=by
 obtain⟨g,r,⟨o,n,e,_,_,d⟩,_⟩:=I.list h;obtain⟨its',L,⟨G,F,O,_,_,v⟩,_⟩:=I.list h';rw[e] at O;cases O;rw[d] at v;injection v with z _
 have:g=its':=by simpa using SG CM z
 subst this;exact r.inj L
def Inv.tuple_inj(I:Inv X π σ H s)(h:MZ X.K H a xs)(h':MZ X.K H a ys):xs=ys:=by
 obtain⟨g,r,⟨o,e,_,n,d⟩,_⟩:=I.tuple h;obtain⟨its',L,⟨G,O,_,F,v⟩,_⟩:=I.tuple h';rw[e] at O;cases O;rw[d] at v;injection v with z _
 have:g=its':=by simpa using SG CM z
 subst this;exact r.inj L
end
abbrev Cx.wish (X:Cx) (E:ac->ah->Prop):Cx:={ X with xe:=E }
abbrev Cx.nox (X:Cx):Cx:=X.wish λ_ _=>False
theorem Cx.Ok.wish{X:Cx}(ok:X.Ok)(E:ac->ah->Prop):(X.wish E).Ok:=
 ⟨ok.mod,ok.kind,ok.glob,ok.blt,ok.above,ok.inj,ok.has,ok.cab,ok.hd,ok.frames,ok.stk,ok.exf,ok.bs,ok.bsz,ok.noex,ok.exfs,ok.funs,ok.frf⟩
def Cx.Ok.unwish{X:Cx}(ok:(X.wish E).Ok):X.Ok:=
 ⟨ok.mod,ok.kind,ok.glob,ok.blt,ok.above,ok.inj,ok.has,ok.cab,ok.hd,ok.frames,ok.stk,ok.exf,ok.bs,ok.bsz,ok.noex,ok.exfs,ok.funs,ok.frf⟩
section
variable {X:Cx}{H:Hp}
theorem Inv.wish(I:Inv X π σ H s)(E:ac->ah->Prop):Inv (X.wish E) π σ H s:=⟨I.ok.wish E,I.os,I.bare,I.base,I.loc,I.cell,I.free,I.freeC,I.pin,I.hok,I.len⟩
theorem Inv.unwish(I:Inv (X.wish E) π σ H s):Inv X π σ H s:=⟨I.ok.unwish,I.os,I.bare,I.base,I.loc,I.cell,I.free,I.freeC,I.pin,I.hok,I.len⟩
theorem SP.unwish{D:QY}{f:Flow}{s':ah}(h:SP (X.wish E) π D f s'):SP X π D f s':=by
 cases f with
 |next=>obtain⟨d,g,I,q⟩:=h;exact⟨d,g,I.unwish,q⟩
 |brk=>obtain⟨d,g,I,q⟩:=h;exact⟨d,g,I.unwish,q⟩
 |cont=>obtain⟨d,g,I,q⟩:=h;exact⟨d,g,I.unwish,q⟩
 |ret u=>obtain⟨v,d,g,I,r,q⟩:=h;exact⟨v,d,g,I.unwish,r,q⟩
theorem SV.nox{st:List Stmt}{t:TS}(h:SV X.nox st t):SV X st t:=λr s g H D I d=>
 i7 (h r s g H D (I.wish _) d) (λ_ _ q=>q.unwish) λ_ _ z=>ku z
end
section
variable {X:Cx}{hQ:List Stmt}{t u:TS}{te:TE}
def zV:TS:=λD g H=>D.nx g H
def tSeq(t u:TS):TS:=λD g H=>t { D with nx:=u D } g H
def Kh:SV X [] zV:=λ_ _ g H _ I h=>kQ ⟨g,H,I,h⟩
def Ow(h1:PS X st t)(F:SV X hQ u):SV X (st::hQ) (tSeq t u):=by
 intro r s g H D I h;refine lP (mo (h1 r s g H { D with nx:=u D } I h) λf z q=>?_);cases f with
 |next=>
  obtain⟨d,G,J,q⟩:=q;exact F r z d G D J q
 |ret v=>exact q
 |brk=>exact q
 |cont=>exact q
def Vp(h1:PS X st t):SV X [st] t:=by
 intro r s g H D I h;refine lP (mo (h1 r s g H D I h) λf z q=>?_);cases f with
 |next=>exact kQ q
 |ret v=>exact q
 |brk=>exact q
 |cont=>exact q
def Inv.quiet{g:St}{H:Hp}(I:Inv X π g H s):interactive X.env=E3:=by simp[interactive,I.ok.kind]
def zW(te:TE):TS:=λD g H=>te g H λ_ z=>D.nx g z
def Rh(G:PE X e te)(hs:eR e W1 pos.line X.env=pure E3:=by rfl):PS X (.Expr e pos) (zW te):=by
 intro r s g H D I h;exact wpAny_Expr_any (mo (G r s g H _ I h) (by rintro v F ⟨x,z,d,J,q1⟩;exact ⟨g,z,d,q1⟩)) I.quiet hs
def tRet(te:TE):TS:=λD g H=>te g H D.rt
def wK(d:PE X e te):PS X (.Return (X0 e) pos) (tRet te):=by
 intro r s g H D I h;exact As (mo (d r s g H _ I h) (by rintro v J ⟨x,F,z,G,q1⟩;exact ⟨x,g,F,z,G,q1⟩))
def zX:TS:=λD _ H=>D.rt .non H
def qF:PS X (.Return W1 pos) zX:=λ_ _ g H _ I h=>wpAny_Return_none ⟨.non,g,H,I,rfl,h⟩
def tIfS(c:TT)(t u:TS):TS:=λD g H=>c g H λb z=>if b=E2 then t D g z else u D g z
def gJ{c:Expr}{a b:List Stmt}{tc:TT}(G:PT X c tc)(L:SV X a t)(J:SV X b u):PS X (.If c a b pos) (tIfS tc t u):=by
 intro r s g H D I h;refine wx (mo (G r s g H _ I h) λd z q0=>?_);obtain⟨F,v,q1⟩:=q0;cases d with
 |true=>exact L r z g F D v q1
 |false=>exact J r z g F D v q1
end
abbrev TG:=V->St->Hp->(St->Hp->Prop)->Prop
abbrev TGs:=List V->St->Hp->(St->Hp->Prop)->Prop
def PG(X:Cx)(d:Expr)(t:TG):Prop:=
 ∀(z:zP) (s:ah) (r:St) (H:Hp) (v:V) (u:ac) (Q:St->Hp->Prop),Inv X z r H s->dm v u->t v r H Q ->
  ag .(3) X.A (nE d X.env u) (λ_ G=>∃g F,Inv X z g F G/\Q g F) X.xe s
def PGs(X:Cx)(z:List Expr)(t:TGs):Prop:=
 ∀(r:zP) (s:ah) (g:St) (H:Hp) (vs:List V) (us:List ac) (Q:St->Hp->Prop),Inv X r g H s->cx vs us->t vs g H Q ->
  ag .(3) X.A (assignInOrder ((jv z X.env).map (·.2)) us) (λ_ F=>∃d v,Inv X r d v F/\Q d v) X.xe s
section
variable {X:Cx}
def Ff(i:Nat):TG:=λv g H Q=>Q (g.set i (X0 v)) H
def qG(g:X.N.Nodup)(z:X.N[i]?=X0 x)(d:Loc X.env.scope x)(G:X.fn x=E2∨X.env.scope.names.lookup x=X0 .local :=by first | exact .inl rfl | exact .inr rfl | assumption):PG X (.Name x pos) (Ff i):=by
 intro L s F H v u Q I r h;exact CO (W2 I g z d r (λO J=>⟨_,H,J,h⟩) G)
def gNil:TGs:=λvs g H Q=>vs=[]/\Q g H
def W3(t:TG)(u:TGs):TGs:=λvs g H Q=>∃v r,vs=v::r/\t v g H λd z=>u r d z Q
def Zv:PGs X [] gNil:=by
 intro d s g H F G Q I r h;obtain⟨e,h⟩:=h;subst e;cases r;exact assignInOrder_nil ⟨g,H,I,h⟩
def Sd{es:List Expr}{t:TG}{u:TGs}(h1:PG X e t)(G:PGs X es u)(hs:(jv (e::es) X.env).map (·.2)=nE e X.env::(jv es X.env).map (·.2):=by rfl):PGs X (e::es) (W3 t u):=by
 intro g s z H S T Q I r h;obtain⟨v,vr,J,h⟩:=h;subst J;cases r with
 |cons r rr=>
  rw[hs];refine assignInOrder_cons (mo (h1 g s z H _ _ _ I r h) λ_ F q9=>?_);obtain⟨d,O,L,q1⟩:=q9;exact G g F d O _ _ Q L rr q1
def gTup(K:aI)(n:Nat)(t:TGs):TG:=λv g H Q=>∃a xs,v=.ref a/\MZ K H a xs/\xs.length=n/\t xs g H Q
theorem gK{es:List Expr}{k:Nat}{t:TGs}(W:X.calm=E2)(h:PGs X es t)(U:(jv es X.env).length=n:=by rfl)(g:(jv es X.env).findIdx? (·.1)=W1:=by rfl):PG X (.Tuple es k pos) (gTup X.K n t):=by
 intro F s z H v u Q I r d;obtain⟨a,J,e1,T,Y,d⟩:=d;subst e1;cases r;obtain⟨L,G,S,hz⟩:=I.tuple T;refine assign_Tuple_tuple (I.ok.hd W) S (by simp[U,<-Y,G.length]) g λZ O=>?_;have I1:Inv X F z H { s with heap:=Z }:=I.kept (t':=s.toks) λb o e=>O b o (bX (bn e)) e;exact h F _ z H J _ Q I1 (by simpa using G) d
def TZ(te:TE)(g:TG):TS:=λD d H=>te d H λx z=>g x d z D.nx
def wL{te:TE}{g:TG}(J:PE X e te)(U:PG X tg g)(hs:swapsWithSole [tg] e pos.line X.env=pure E3:=by rfl)(F:swappedStores [tg] e X.env=pure W1:=by rfl)(h1:(jv [tg] X.env).map (·.2)=[nE tg X.env]:=by rfl):PS X (.Assign [tg] e pos) (TZ te g):=by
 intro r s d H D I h;refine wpAny_Assign_stores (mo (J r s d H _ I h) λv z p0=>?_) hs F;obtain⟨x,O,L,G,q1⟩:=p0;rw[h1];exact mo (U r z d O x v _ L G q1) λ_ S q=>q
def Yo{te:TE}(L:X.N.Nodup)(z:X.N[i]?=X0 x)(d:Loc X.env.scope x)(J:PE X e te)(hs:eR e (X0 (.Name x pos')) pos.line X.env=pure E3:=by rfl)(F:X.fn x=E2∨X.env.scope.names.lookup x=X0 .local :=by first | exact .inl rfl | exact .inr rfl | assumption):
  PS X (.Assign [.Name x pos'] e pos) (TZ te (Ff i)):=by
 intro r s g H D I h;refine wpAny_Assign_Name (mo (J r s g H _ I h) λv W p9=>?_) hs;obtain⟨y,T,S,G,q1⟩:=p9;exact W2 S L z d G (λU O=>⟨_,T,O,q1⟩) F
end
section
variable {X:Cx}
def wM(c:TT)(v:TS):TS:=λD g H=>∃W:Nat->St->Hp->Prop,(∃m,W m g H)/\∀m g H,W m g H ->
 c g H λb z=>if b=E2 then ∃N:St->Hp->Prop,(∀d r,N d r->∃U,U<m/\W U d r)/\v { D with nx:=N,ct:=N,bk:=D.nx } g z else D.nx g z
def gM{c:Expr}{tc:TT}{S:TS}(T:tf .(3) X.A X.env X.xe)(hc:PT X c tc)(hb:SV X body S):PS X (.While c body [] pos) (wM tc S):=by
 intro G s σ H D I h;obtain⟨W,⟨m0,w0⟩,z⟩:=h;refine wpAny_While (codeAny_whileLoop (λn s'=>∃r H',Inv X G r H' s'/\W n r H') ?_ m0 ⟨σ,H,I,w0⟩);rintro n s1 ⟨g,H1,I1,w1⟩;refine rj T (mo (hc G s1 g H1 _ I1 (z n g H1 w1)) λb s2 g0=>?_);obtain⟨H2,Z,q2⟩:=g0;cases b with
 |true=>
  obtain⟨N,Y,q2⟩:=q2;rw[SF rfl];refine rj T (mo (hb G s2 g H2 _ Z q2) λf s3 q3=>?_);cases f with
  |next=>
   obtain⟨d,F,O,n3⟩:=q3;obtain⟨U,L,J⟩:=Y d F n3;exact⟨U,L,d,F,O,J⟩
  |cont=>
   obtain⟨d,F,O,n3⟩:=q3;obtain⟨U,L,J⟩:=Y d F n3;exact⟨U,L,d,F,O,J⟩
  |brk=>exact q3
  |ret v=>exact q3
 |false=>
  rw[UF de];exact kQ ⟨g,H2,Z,q2⟩
end
structure It where
 go:Nat->Hp->Prop
 yld:Nat->Hp->V->Hp->Prop
 stop:Nat->Hp->Prop
def Ts(X:Cx)(r:zP)(H:Hp)(b:Addr):Prop:=
 H b=W1/\b≠X.env.locals/\b∉X.fs/\(b∈X.ex∨X.s₀.heap.objs.size<=b)/\(∀x c,X.env.cells.lookup x=X0 c->c≠b)/\∀p∈X.pn++r,p.1≠b
def Inv.fpOk{X:Cx}{r:St}{H g:Hp}(I:Inv X π r H s)(d:s.heap.objs.size<=b)(G:g b=W1):Ts X π g b:=by
 refine⟨G,pd (fF I.lt d),I.nofs d,.inr (cw I.sz d),λx c e z=>?_,λp F z=>?_⟩
 .obtain⟨v,q⟩:=I.cell x c e;exact MG (fF q.lt (by rw[z];exact d)) (gT _)
 .exact MG (fF (bn (I.pin p F).1) (by rw[z];exact d)) (gT _)
structure To (P:cr) (w:bP) (K:aI) (tg:Expr) (J:It) (fp:List Addr) (it:Addr) (tn:Nat->Heap->Prop):Prop where
 mem:it∈fp
 obj:∀i h,tn i h->∀b∈fp,∃o,h.get? b=X0 o/\∀v,o.data≠.cell v
 keep:∀i h h',tn i h->(∀b∈fp,∀o,h.get? b=X0 o->h'.get? b=X0 o)->tn i h'
 item:∀(X:Cx),X.prog=P->X.w=w->X.K=K->X.calm=E2->∀(i:Nat) (π:zP) (s:ah) (σ:St) (H:Hp) (E:ac->ah->Prop),Inv X π σ H s->(∀b∈fp,Ts X π H b)->tn i s.heap->J.go i H ->
  ag (ai P w) X.A (eK (.ref it)) (λr s1=>∃u,r=X0 u ∧
   ag (ai P w) X.A (Au tg (.ref it) u) (λ_ s2=>∃x H',Inv X π σ H' s2/\dm x u/\J.yld i H x H'/\tn (i+1) s2.heap/\∀b∈fp,H' b=W1) E s1) E s
 done:∀(X:Cx),X.prog=P->X.w=w->X.K=K->X.calm=E2->∀(i:Nat) (π:zP) (s:ah) (σ:St) (H:Hp) (E:ac->ah->Prop),Inv X π σ H s->(∀b∈fp,Ts X π H b)->tn i s.heap->J.stop i H ->
  ag (ai P w) X.A (eK (.ref it)) (λr s1=>r=W1/\Inv X π σ H s1) E s
 self:∀(A:aE) (i:Nat) (s:ah) (Q:ac->ah->Prop) (E:ac->ah->Prop),tn i s.heap->Q (.ref it) s->ag (ai P w) A (nI (.ref it)) Q E s
abbrev TI:=St->Hp->(It->Hp->Prop)->Prop
def PIE(X:Cx)(r:zP)(z:St)(tg:Expr)(R:It->Hp->Prop)(d:ac)(S:ah):Prop:=
 ∃(it:Addr) (fp:List Addr) (v:Nat->Heap->Prop) (J:It) (g:Hp),d=.ref it/\Inv X r z g S/\To X.prog X.w X.K tg J fp it v/\v 0 S.heap/\(∀b∈fp,Ts X r g b)/\R J g
def PI(X:Cx)(tg d:Expr)(z:TI):Prop:=
 ∀(r:zP) (s:ah) (g:St) (H:Hp) (R:It->Hp->Prop),Inv X r g H s->z g H R ->
  ag .(3) X.A (eval d X.env) (λv F=>ag .(3) X.A (nI v) (PIE X r g tg R) X.xe F) X.xe s
def U4{A:aE}{n:String}{vs:Array ac}{Q:Unit->ah->Prop}(v:s.heap.get? it=X0 o)(I:o.cls=.type n)(z:o.data=.fields vs)(d:["enumerate","zip","dict_itemiterator","dict_reverseitemiterator","odict_iterator","itertools.zip_longest","itertools.pairwise"].contains n=E3)(r:Q () s):ag M A (Au tg (.ref it) u) Q E s:=by
  unfold Au;cases tg<;>first
    |exact ar r
    | (cases u<;>first
        |exact ar r
        | (refine ae (xa v ?_)
           rw[I,z];show ag M A (if (["enumerate","zip","dict_itemiterator","dict_reverseitemiterator","odict_iterator","itertools.zip_longest","itertools.pairwise"].contains n&&vs[0]?==X0 (eS _))=E2 then _ else _) Q E s;rw[UF (by intro h;rw[d,tj] at h;cases h)];exact ar r))
def Itl(K:aI)(a:Addr):It:=
 ⟨λi H=>∃xs x,MO K H a xs/\xs[i]?=X0 x,λi H x d=>d=H/\∀xs,MO K H a xs->xs[i]?=X0 x,λi H=>∃xs,MO K H a xs/\xs.length<=i⟩
def Itt(K:aI)(a:Addr):It:=
 ⟨λi H=>∃xs x,MZ K H a xs/\xs[i]?=X0 x,λi H x d=>d=H/\∀xs,MZ K H a xs->xs[i]?=X0 x,λi H=>∃xs,MZ K H a xs/\xs.length<=i⟩
def Itr(r:Int)(n:Nat):It:=⟨λi _=>i<n,λi H x d=>d=H/\x=.int (r+i),λi _=>n<=i⟩
theorem dI{K:aI}(a it:Addr):To P w K tg (Itl K a) [it] it (λi h=>h.IsListIter it a i) where
 mem:=by simp
 obj:=λi h U b g=>by
  have e:b=it:=by simpa using g
  subst e;obtain⟨o,e,c,d⟩:=U;exact⟨o,e,λv z=>by rw[d] at z;cases z⟩
 keep:=λi h J U k=>U.at λo e=>k it .(1) o e
 item:=by
  intro X hP S Y hc i π s σ H E I G U W;subst hP S Y;obtain⟨xs,x,T,O⟩:=W;obtain⟨L,F,p,hz⟩:=I.list T;obtain⟨u,hu,ru⟩:=F.get O;obtain⟨f0,f1,f2,f3,f4,Z⟩:=G it .(1);refine HA U p.isList (x:=u) (by simpa using hu) λJ r sb=>?_;have I1:Inv X π σ H { s with heap:=J }:=I.turned (t':=s.toks) (λb o g e=>(sb.2 b g).trans e) f0 f1 f3 f4 Z;obtain⟨o,e,c,d⟩:=id r;exact⟨u,rfl,U4 (s:={ s with heap:=J }) e c d .(2) ⟨x,H,I1,ru,⟨rfl,λys hy=>by rw[I.list_inj hy T];exact O⟩,r,λb g=>(G b g).1⟩⟩
 done:=by
  intro X hP S Y hc i π s σ H E I G U W;subst hP S Y;obtain⟨xs,T,O⟩:=W;obtain⟨L,F,p,hz⟩:=I.list T;obtain⟨f0,f1,f2,f3,f4,Z⟩:=G it .(1);have hl:=F.length;exact HC (I.ok.hd hc) U p.isList (by simp;omega) λJ eb=>⟨rfl,I.turned (t':=s.toks) (λb o g e=>eb b o g e) f0 f1 f3 f4 Z⟩
 self:=λ_ _ _ _ _ U h=>wpAny_pyIter_listiter U h
theorem Yp{K:aI}(a it:Addr):To P w K tg (Itt K a) [it] it (λi h=>h.IsTupleIter it a i) where
 mem:=by simp
 obj:=λi h U b r=>by
  have e:b=it:=by simpa using r
  subst e;obtain⟨o,e,c,d⟩:=U;exact⟨o,e,λv z=>by rw[d] at z;cases z⟩
 keep:=λi h J U k=>U.at λo e=>k it .(1) o e
 item:=by
  intro X hP S Y hc i π s σ H E I G U W;subst hP S Y;obtain⟨xs,x,T,O⟩:=W;obtain⟨g,L,p,hz⟩:=I.tuple T;obtain⟨u,hu,ru⟩:=L.get O;obtain⟨f0,f1,f2,f3,f4,Z⟩:=G it .(1);refine wpAny_pyNext_tuple_item U (show s.heap.IsTuple a g.toArray from p) (x:=u) (by simpa using hu) λJ F sb=>?_;have I1:Inv X π σ H { s with heap:=J }:=I.turned (t':=s.toks) (λb o r e=>(sb.2 b r).trans e) f0 f1 f3 f4 Z;obtain⟨o,e,c,d⟩:=id F;exact⟨u,rfl,U4 (s:={ s with heap:=J }) e c d .(2) ⟨x,H,I1,ru,⟨rfl,λys hy=>by rw[I.tuple_inj hy T];exact O⟩,F,λb r=>(G b r).1⟩⟩
 done:=by
  intro X hP S Y hc i π s σ H E I G U W;subst hP S Y;obtain⟨xs,T,O⟩:=W;obtain⟨g,L,p,hz⟩:=I.tuple T;obtain⟨f0,f1,f2,f3,f4,Z⟩:=G it .(1);have hl:=L.length;exact wpAny_pyNext_tuple_end (I.ok.hd hc) U (show s.heap.IsTuple a g.toArray from p) (by simp;omega) λJ eb=>⟨rfl,I.turned (t':=s.toks) (λb o r e=>eb b o r e) f0 f1 f3 f4 Z⟩
 self:=λ_ _ _ _ _ U h=>wpAny_pyIter_tupleiter U h
theorem Yq{K:aI}(it:Addr)(g:Int)(n:Nat):To P w K tg (Itr g n) [it] it (λi h=>IsRangeIter h it (g+(i:Nat)*1) ((n:Int)-(i:Nat)) 1) where
 mem:=by simp
 obj:=λi h U b d=>by
  have e:b=it:=by simpa using d
  subst e;exact⟨_,U,λv z=>by
   have z':CS _=CU v:=z;cases z'⟩
 keep:=λi h J U k=>k it .(1) _ U
 item:=by
  intro X hP F Y O i π s σ H E I G U L;subst hP F Y;obtain⟨f0,f1,f2,T,S,Z⟩:=G it .(1);have W:=Walks.range (prog:=X.prog) (w:=X.w) (I.ok.hd O) it g 1 n;refine W.item i s _ _ L U λv J tk hv r kk=>?_;obtain⟨t,rfl⟩:=hv;have I1:Inv X π σ H { s with heap:=J,toks:=tk }:=I.turned (λb o d e=>kk b o (by simpa using d) e) f0 f1 T S Z;refine⟨_,rfl,U4 (s:={ s with heap:=J,toks:=tk }) (n:="range_iterator") r rfl rfl .(2) ⟨.int (g+i),H,I1,⟨t,?_⟩,⟨rfl,rfl⟩,r,λb d=>(G b d).1⟩⟩;rw[Int.mul_one]
 done:=by
  intro X hP F Y O i π s σ H E I G U L;subst hP F Y;obtain⟨f0,f1,f2,T,S,Z⟩:=G it .(1);exact wpAny_pyNext_range_end (I.ok.hd O) U (by have:n<=i:=L;omega) λJ eb=>⟨rfl,I.turned (t':=s.toks) (λb o d e=>eb b o d e) f0 f1 T S Z⟩
 self:=λ_ _ _ _ _ U h=>wpAny_pyIter_rangeiter U h
section
variable {X:Cx}
def zY(K:aI)(d:TE):TI:=λg H R=>d g H λx z=>∃a,x=.ref a/\(∃xs,MO K z a xs)/\R (Itl K a) z
def iTup(K:aI)(d:TE):TI:=λg H R=>d g H λx z=>∃a,x=.ref a/\(∃xs,MZ K z a xs)/\R (Itt K a) z
theorem Zw{l:Expr}{g:TE}(Y:PE X l g):PI X tg l (zY X.K g):=by
 intro F s r H R I h;refine mo (Y F s r H _ I h) λv z q0=>?_;obtain⟨x,O,d,G,q1⟩:=q0;obtain⟨a,e,⟨S,T⟩,q⟩:=q1;subst e;cases G;obtain⟨J,U,p,W⟩:=d.list T;refine xb p.isList ?_;refine⟨z.heap.objs.size,[z.heap.objs.size],_,_,O,rfl,d.kept (t':=z.toks) λb o e=>ba _ e,dI a _,⟨_,bS _ rfl,rfl,rfl⟩,λb L=>?_,q⟩;have e:b=z.heap.objs.size:=by simpa using L
 subst e;exact d.fpOk (aw _) (d.hok.fresh (aw _))
theorem gO{l:Expr}{r:TE}(Y:PE X l r):PI X tg l (iTup X.K r):=by
 intro G s F H R I h;refine mo (Y G s F H _ I h) λv z q9=>?_;obtain⟨x,O,d,J,q1⟩:=q9;obtain⟨a,e,⟨S,T⟩,q⟩:=q1;subst e;cases J;obtain⟨g,U,p,W⟩:=d.tuple T;refine xh (show z.heap.IsTuple a g.toArray from p) ?_;refine⟨z.heap.objs.size,[z.heap.objs.size],_,_,O,rfl,d.kept (t':=z.toks) λb o e=>ba _ e,Yp a _,⟨_,bS _ rfl,rfl,rfl⟩,λb L=>?_,q⟩;have e:b=z.heap.objs.size:=by simpa using L
 subst e;exact d.fpOk (aw _) (d.hok.fresh (aw _))
theorem gP{g:St}{H:Hp}{R:It->Hp->Prop}{lo z:Int}{t u v:Tok}{tk:Nat}(I:Inv X π g H s)(h1 : -(2^62)<=lo)(G:lo<2^62)(S : -(2^62)<=z)(F:z<2^62)(q:R (Itr lo (z-lo).toNat) H):ag .(3) X.A (nI .(11)) (PIE X π g tg R) E { s with heap:=s.heap.push { cls:=.type "range",data:=.fields #[.int lo t,.int z u,.int 1 v] },toks:=tk }:=by
 refine wpAny_pyIter_range (IsRange.new ..) (small_one h1 G S F) ?_;have d:Inv X π g H { s with heap:=s.heap.push { cls:=.type "range",data:=.fields #[.int lo t,.int z u,.int 1 v] },toks:=tk }:=I.kept λb o e=>ba _ e;refine⟨(s.heap.push { cls:=.type "range",data:=.fields #[.int lo t,.int z u,.int 1 v] }).objs.size,[(s.heap.push { cls:=.type "range",data:=.fields #[.int lo t,.int z u,.int 1 v] }).objs.size],_,_,H,rfl,
  d.kept (t':=tk) λb o e=>ba _ e,Yq _ lo (z-lo).toNat,?_,λb r=>?_,q⟩
 .have L:lo+((0:Nat):Int)*1=lo:=by simp
  have J:(((z-lo).toNat:Nat):Int)-((0:Nat):Int)=HE lo z 1:=by rw[rangeSize_one];split<;>omega
  show IsRangeIter _ _ (lo+((0:Nat):Int)*1) ((((z-lo).toNat:Nat):Int)-((0:Nat):Int)) 1;rw[L,J];exact bS _ rfl
 .have e:b=(s.heap.push { cls:=.type "range",data:=.fields #[.int lo t,.int z u,.int 1 v] }).objs.size:=by simpa using r
  subst e;exact d.fpOk (aw _) (d.hok.fresh (aw _))
def zZ(r:TA):TI:=λg H R=>r g H λvs z=>∃j:Int,vs=[.int j]/\-(2^62)<=j/\j<2^62/\R (Itr 0 j.toNat) z
def dJ{a:Expr}{d:TA}{p:Pos}(U:Gl X "range")(z:X.mg "range"=W1)(F:PA X [a] d)(hs:ay [a] X.env=[(E3,eval a X.env)]:=by rfl):PI X tg (.Call (.Name "range" p) [a] [] pos) (zZ d):=by
 intro v s g H R I h;refine Call_ (N5 I U z boot_range (AA (mo (F pos v s g H _ I h) λO S p0=>?_) hs rfl));obtain⟨L,T,J,G,q1⟩:=p0;obtain⟨j,e,q1,q2,q⟩:=q1;subst e;cases G with
 |cons r rr=>
  cases rr;obtain⟨t,rfl⟩:=r;exact call_range_1 (gP J .(0) .(0) q1 q2 (by simpa using q))
def tFor(F:TI)(g:TG)(G:TS):TS:=λD d H=>F d H λJ L=>∃W:Nat->Nat->St->Hp->Prop,(∃m,W 0 m d L)/\∀i m d H,W i m d H ->
 (J.stop i H/\D.nx d H)∨(J.go i H/\∃N:St->Hp->Prop,(∀r v,N r v->∃U,U<m/\W (i+1) U r v)/\∀x v,J.yld i H x v->g x d v λz I=>G { D with nx:=N,ct:=N,bk:=D.nx } z I)
def Sg(fp:List Addr)(h:Heap):List (Addr×Obj):=fp.filterMap λb=>(h.get? b).map λo=>(b,o)
def Kl(H:b∈fp)(e:h.get? b=X0 o):(b,o)∈Sg fp h:=HG.mpr ⟨b,H,by rw[e];rfl⟩
def dM{p:Addr×Obj}(r:p∈Sg fp h):p.1∈fp/\h.get? p.1=X0 p.2:=by
 obtain⟨b,H,e⟩:=HG.mp r;cases q:h.get? b with
 |none=>rw[q] at e;cases e
 |some o=>
  rw[q] at e;have O:(b,o)=p:=cS e;subst O;exact⟨H,q⟩
def Inv.pinned{g:St}{H:Hp}(I:Inv X π g H s)(J:∀b∈fp,Ts X π H b)(G:∀b∈fp,∃o,s.heap.get? b=X0 o/\∀v,o.data≠.cell v):Inv X (π++Sg fp s.heap) g H s:=
 I.pins_of λp F=>(eJ.mp F).elim (λz=>I.pin p (fR _ z)) λz=>by
  obtain⟨r,e⟩:=dM z;obtain⟨T,S,L,_⟩:=J p.1 r;obtain⟨o,O,d⟩:=G p.1 r;rw[e] at O;cases O;exact⟨e,T,S,L,d⟩
def Inv.unpinned{pl:zP}{g:St}{H:Hp}(I:Inv X (π++pl) g H s):Inv X π g H s:=I.pins_of λp r=>I.pin p (fR _ (jp _ r))
def Yr{O:Expr}{wi:TI}{g:TG}{tb:TS}(hp:tf .(3) X.A X.env X.xe)(hc:X.calm=E2)(hi:PI X tg O wi)(hg:PG X tg g)(S:SV X body tb)(hs:∀x,kR O X.env x=pure x:=by intro _;rfl):PS X (.For tg O body [] pos) (tFor wi g tb):=by
 intro π s σ H D I h;refine wpAny_For (mo (hi π s σ H _ I h) λv s1 h1=>mo h1 λY1 s2 h2=>?_) hs;obtain⟨it,fp,tn,J,H2,e,I2,T,S1,f2,W,⟨m0,w0⟩,O0⟩:=h2;subst e;have L:∀{H':Hp},(∀b∈fp,H' b=W1)->∀b∈fp,Ts X π H' b:=λhn b S=>⟨hn b S,(f2 b S).2⟩;refine codeAny_forLoop_any (λn s'=>∃i G H',Inv X π G H' s'/\tn i s'.heap/\(∀b∈fp,H' b=W1)/\W i n G H') ?_ m0 ⟨0,σ,H2,I2,S1,λb S=>(f2 b S).1,w0⟩;rintro n s3 ⟨i,F,H3,I3,T0,N1,w3⟩
 rcases O0 i n F H3 w3 with ⟨S0,qn⟩ | ⟨go,N,hN,step⟩
 .refine rj hp (mo (T.done X rfl rfl rfl hc i π s3 F H3 X.xe I3 (L N1) T0 S0) λr s4 p9=>?_);obtain⟨hr,I4⟩:=p9;subst hr;exact kQ ⟨F,H3,I4,qn⟩
 .refine rj hp (mo (T.item X rfl rfl rfl hc i π s3 F H3 X.xe I3 (L N1) T0 go) λr s4 g0=>?_);obtain⟨u,hr,h4⟩:=g0;subst hr;refine rj hp (mo h4 λ_ s5 u0=>?_);obtain⟨x,H5,I5,r5,y5,N0,U1⟩:=u0;have X1:=I5.pinned (L U1) (T.obj _ _ N0);refine rj hp (mo (hg _ s5 F H5 x u _ X1 r5 (step x H5 y5)) λ_ s6 v0=>?_);obtain⟨P1,H6,I6,q6⟩:=v0;refine rj hp (mo (S _ s6 P1 H6 _ I6 q6) λf s7 q7=>?_);have U:∀{z:St}{Z:Hp},Inv X (π++Sg fp s5.heap) z Z s7->N z Z->∃m,m<n/\∃i G H',Inv X π G H' s7/\tn i s7.heap/\(∀b∈fp,H' b=W1)/\W i m G H':=λ{z Z} Y n7=>by
   obtain⟨m',hm,w7⟩:=hN z Z n7;refine⟨m',hm,i+1,z,Z,Y.unpinned,T.keep _ _ _ N0 λb S o e=>(Y.pin (b,o) (fR _ (fR _ (Kl S e)))).1,λb S=>?_,w7⟩;obtain⟨o,e,d⟩:=T.obj _ _ N0 b S;exact (Y.pin (b,o) (fR _ (fR _ (Kl S e)))).2.1
  cases f with
  |next=>obtain⟨z,Z,Y,n7⟩:=q7;exact U Y n7
  |cont=>obtain⟨z,Z,Y,n7⟩:=q7;exact U Y n7
  |brk=>obtain⟨z,Z,Y,q7⟩:=q7;exact⟨z,Z,Y.unpinned,q7⟩
  |ret v=>obtain⟨x7,z,Z,Y,r7,q7⟩:=q7;exact⟨x7,z,Z,Y.unpinned,r7,q7⟩
end
abbrev R2:=V->V->Hp->VK->Prop
def Na(X:Cx)(f:ac->ac->Sem ac)(r:R2):Prop:=
 ∀(d:zP) (s:ah) (g:St) (H:Hp) (x y:V) (v u:ac) (Q:VK),Inv X d g H s->dm x v->dm y u->r x y H Q ->
  ag .(3) X.A (f v u) (EP X d g Q) X.xe s
def Di(X:Cx)(f:ac)(r:List V->Hp->VK->Prop):Prop:=
 ∀(d:zP) (s:ah) (g:St) (H:Hp) (xs:List V) (us:List ac) (Q:VK),Inv X d g H s->cx xs us->r xs H Q ->
  ag .(3) X.A (call f us) (EP X d g Q) X.xe s
def TruR(X:Cx)(r:V->Hp->(Bool->Hp->Prop)->Prop):Prop:=
 ∀(d:zP) (s:ah) (g:St) (H:Hp) (x:V) (v:ac) (Q:Bool->Hp->Prop),Inv X d g H s->dm x v->r x H Q ->
  ag .(3) X.A (truthy v) (TP X d g Q) X.xe s
def tOp(r:R2)(v d:TE):TE:=λg H Q=>v g H λx F=>d g F λy z=>r x y z Q
def rI(C:Int->Int->Prop)(g:Int->Int->V):R2:=λx y H Q=>∃i j,x=.int i/\y=.int j/\C i j/\Q (g i j) H
def XW(g:Int->Int->V):R2:=λx y H Q=>∃i j,x=.int i/\y=.int j/\Q (g i j) H
section
variable {X:Cx}{a b:Expr}{ta tb:TE}
def binT(W:PE X a ta)(U:PE X b tb){z:zP}{s:ah}{g:St}{H:Hp}{R:V->V->Hp->Prop}(I:Inv X z g H s)(h:ta g H λx G=>tb g G λy d=>R x y d){Q:ac->ah->Prop}{f:ac->ac->Sem ac}(T:∀v u S x y d,Inv X z g d S->dm x v->dm y u->R x y d->ag .(3) X.A (f v u) Q X.xe S):
  ag .(3) X.A (eval a X.env) (λv r=>ag .(3) X.A (eval b X.env) (λu F=>ag .(3) X.A (f v u) Q X.xe F) X.xe r) X.xe s:=by
 refine mo (W z s g H _ I h) λv J y0=>?_;obtain⟨x,G,Z,O,q1⟩:=y0;refine mo (U z J g G _ Z q1) λu S z9=>?_;obtain⟨y,d,Y,L,q2⟩:=z9;exact T v u S x y d Y O L q2
def ue{op:Operator}{r:R2}(F:Na X (kx op) r)(J:PE X a ta)(G:PE X b tb):PE X (.BinOp a op b pos) (tOp r ta tb):=by
 intro d s g H Q I h;exact wpAny_BinOp (binT J G I h λv u S x y L O rx z q=>F d S g L x y v u Q O rx z q)
def opI{f:ac->ac->Sem ac}{C:Int->Int->Prop}{g:Int->Int->Int}(d:∀(i j:Int) (t u:Tok) (s:ah) (Q:ac->ah->Prop) (E:ac->ah->Prop),C i j->Q (.int (g i j) s.toks) { s with toks:=s.toks+1 }->ag .(3) X.A (f (.int i t) (.int j u)) Q E s):
  Na X f (rI C λi j=>.int (g i j)):=by
 intro J s G H x y v u Q I rx z h;obtain⟨i,j,rfl,rfl,F,q⟩:=h;obtain⟨t,rfl⟩:=rx;obtain⟨r,rfl⟩:=z;exact d i j t r s _ _ F ⟨.int (g i j),H,I.tok _,⟨_,rfl⟩,q⟩
def opI0{f:ac->ac->Sem ac}{g:Int->Int->Int}(d:∀(i j:Int) (t u:Tok) (s:ah) (Q:ac->ah->Prop) (E:ac->ah->Prop),Q (.int (g i j) s.toks) { s with toks:=s.toks+1 }->ag .(3) X.A (f (.int i t) (.int j u)) Q E s):
  Na X f (XW λi j=>.int (g i j)):=by
 intro G s F H x y v u Q I rx z h;obtain⟨i,j,rfl,rfl,q⟩:=h;obtain⟨t,rfl⟩:=rx;obtain⟨r,rfl⟩:=z;exact d i j t r s _ _ ⟨.int (g i j),H,I.tok _,⟨_,rfl⟩,q⟩
def opB0{f:ac->ac->Sem ac}{g:Int->Int->Bool}(d:∀(i j:Int) (t u:Tok) (s:ah) (Q:ac->ah->Prop) (E:ac->ah->Prop),Q (.bool (g i j)) s->ag .(3) X.A (f (.int i t) (.int j u)) Q E s):
  Na X f (XW λi j=>.bl (g i j)):=by
 intro G s F H x y v u Q I rx z h;obtain⟨i,j,rfl,rfl,q⟩:=h;obtain⟨t,rfl⟩:=rx;obtain⟨r,rfl⟩:=z;exact d i j t r s _ _ ⟨.bl (g i j),H,I,rfl,q⟩
def CDiv(i j:Int):Prop:=0<j/\j<1073741824
def CPow(i j:Int):Prop:=0<=j/\j<=1000000/\i.natAbs<2^64
def CMul(i j:Int):Prop:=(-(2^64)<i/\i<2^64)∨(-(2^64)<j/\j<2^64)
def CMul.ok{i j:Int}(h:CMul i j):IntMulOk i j:=by
 rcases h with ⟨g,d⟩ | ⟨g,d⟩
 .exact .of_left (intBits_le_64 g d)
 .exact .of_right (intBits_le_64 g d)
def wN:Na X (kx .Add) (XW λi j=>.int (i+j)):=opI0 λ_ _ _ _ _ _ _ q=>add_int q
def wO:Na X (kx .Sub) (XW λi j=>.int (i-j)):=opI0 λ_ _ _ _ _ _ _ q=>sub_int q
def qH:Na X (kx .FloorDiv) (rI CDiv λi j=>.int (i/j)):=opI λi j _ _ _ _ _ I q=>by
 have g:(0:Int)<j:=I.1;have d:j<1073741824:=I.2;exact floordiv_int .(0) (by rw[Int.fdiv_eq_ediv_of_nonneg i .(0)];exact q) (.inl (PyProof.noPylong_small .(0)))
def wQ:Na X (kx .Mod) (rI (λ_ j=>0<j) λi j=>.int (i%j)):=opI λi j _ _ _ _ _ I q=>by
 have g:(0:Int)<j:=I;exact mod_int' .(0) (by rw[Int.fmod_eq_emod_of_nonneg i .(0)];exact q)
end
def scal:V->V->Bool
 |.non,.non=>E2 | .non,.int _=>E2 | .int _,.non=>E2 | .non,.bl _=>E2 | .bl _,.non=>E2 | .non,.str _=>E2 | .str _,.non=>E2
 |.int _,.int _=>E2 | .bl _,.bl _=>E2 | .str _,.str _=>E2 | .byt _,.byt _=>E2
 |.int _,.str _=>E2 | .str _,.int _=>E2 | .bl _,.str _=>E2 | .str _,.bl _=>E2
 |_,_=>E3
def rEq:R2:=λx y H Q=>scal x y=E2/\Q (.bl (decide (x=y))) H
def rNe:R2:=λx y H Q=>scal x y=E2/\Q (.bl (!decide (x=y))) H
def Zx{i j:Int}:decide (V.int i=V.int j)=(i==j):=by
 rw[g9];simp
def gQ{i j:Bool}:decide (V.bl i=V.bl j)=(i==j):=by
 rw[g9];simp
def Zy{i j:Str}:decide (V.str i=V.str j)=(i==j):=by
 rw[g9];simp
def Zz{i j:Array UInt8}:decide (V.byt i=V.byt j)=(i.toList==j.toList):=by
 rw[g9];cases i;cases j;simp
section
variable {X:Cx}{a b c:Expr}{ta tb tc:TE}
def BW{g:St}{H:Hp}{Q:VK}{k d:Bool}(I:Inv X π g H s)(q:Q (.bl k) H)(e:k=d):EP X π g Q (.bool d) s:=by
 subst e;exact⟨.bl k,H,I,rfl,q⟩
def za:Na X (d4 .Eq) rEq:=by
 intro r s g H x y v u Q I rx z h;obtain⟨hs,q⟩:=h;cases x with
 |non=>
  cases rx;cases y with
  |non=>cases z;exact PySem.EqNone.eq_none_none (BW I q .(1))
  |bl j=>cases z;exact PySem.EqNone.eq_none_bool (BW I q .(1))
  |int j=>obtain⟨d,rfl⟩:=z;exact PySem.EqNone.eq_none_int (BW I q .(1))
  |str j=>obtain⟨d,rfl⟩:=z;exact PySem.EqNone.eq_none_str (BW I q .(1))
  |_=>exact MG (show E3=E2 from hs) de
 |bl i=>
  cases rx;cases y with
  |non=>cases z;exact PySem.EqNone.eq_bool_none (BW I q .(1))
  |bl j=>cases z;exact eq_bool (BW I q gQ)
  |str j=>obtain⟨d,rfl⟩:=z;exact PySem.EqMixed.eq_bool_str (BW I q .(1))
  |_=>exact MG (show E3=E2 from hs) de
 |int i=>
  obtain⟨t,rfl⟩:=rx;cases y with
  |non=>cases z;exact PySem.EqNone.eq_int_none (BW I q .(1))
  |int j=>obtain⟨d,rfl⟩:=z;exact eq_int (BW I q Zx)
  |str j=>obtain⟨d,rfl⟩:=z;exact PySem.EqMixed.eq_int_str (BW I q .(1))
  |_=>exact MG (show E3=E2 from hs) de
 |str i=>
  obtain⟨t,rfl⟩:=rx;cases y with
  |non=>cases z;exact PySem.EqNone.eq_str_none (BW I q .(1))
  |bl j=>cases z;exact PySem.EqMixed.eq_str_bool (BW I q .(1))
  |int j=>obtain⟨d,rfl⟩:=z;exact PySem.EqMixed.eq_str_int (BW I q .(1))
  |str j=>obtain⟨d,rfl⟩:=z;exact eq_str (BW I q Zy)
  |_=>exact MG (show E3=E2 from hs) de
 |byt i=>
  obtain⟨t,rfl⟩:=rx;cases y with
  |byt j=>obtain⟨d,rfl⟩:=z;exact PySem.W.eq_bytes (BW I q Zz)
  |_=>exact MG (show E3=E2 from hs) de
 |_=>cases y<;>exact MG (show E3=E2 from hs) de
def zb:Na X (d4 .NotEq) rNe:=by
 intro r s g H x y v u Q I rx z h;obtain⟨hs,q⟩:=h;cases x with
 |non=>
  cases rx;cases y with
  |non=>cases z;exact PySem.EqNone.ne_none_none (BW I q .(1))
  |bl j=>cases z;exact PySem.EqNone.ne_none_bool (BW I q .(1))
  |int j=>obtain⟨d,rfl⟩:=z;exact PySem.EqNone.ne_none_int (BW I q .(1))
  |str j=>obtain⟨d,rfl⟩:=z;exact PySem.EqNone.ne_none_str (BW I q .(1))
  |_=>exact MG (show E3=E2 from hs) de
 |bl i=>
  cases rx;cases y with
  |non=>cases z;exact PySem.EqNone.ne_bool_none (BW I q .(1))
  |bl j=>cases z;exact ne_bool (BW I q (SG not gQ))
  |str j=>obtain⟨d,rfl⟩:=z;exact PySem.EqMixed.ne_bool_str (BW I q .(1))
  |_=>exact MG (show E3=E2 from hs) de
 |int i=>
  obtain⟨t,rfl⟩:=rx;cases y with
  |non=>cases z;exact PySem.EqNone.ne_int_none (BW I q .(1))
  |int j=>obtain⟨d,rfl⟩:=z;exact ne_int (BW I q (SG not Zx))
  |str j=>obtain⟨d,rfl⟩:=z;exact PySem.EqMixed.ne_int_str (BW I q .(1))
  |_=>exact MG (show E3=E2 from hs) de
 |str i=>
  obtain⟨t,rfl⟩:=rx;cases y with
  |non=>cases z;exact PySem.EqNone.ne_str_none (BW I q .(1))
  |bl j=>cases z;exact PySem.EqMixed.ne_str_bool (BW I q .(1))
  |int j=>obtain⟨d,rfl⟩:=z;exact PySem.EqMixed.ne_str_int (BW I q .(1))
  |str j=>obtain⟨d,rfl⟩:=z;exact ne_str (BW I q (SG not Zy))
  |_=>exact MG (show E3=E2 from hs) de
 |byt i=>
  obtain⟨t,rfl⟩:=rx;cases y with
  |byt j=>obtain⟨d,rfl⟩:=z;exact PySem.W.ne_bytes (BW I q (SG not Zz))
  |_=>exact MG (show E3=E2 from hs) de
 |_=>cases y<;>exact MG (show E3=E2 from hs) de
def uf:Na X (d4 .Lt) (XW λi j=>.bl (decide (i<j))):=opB0 λ_ _ _ _ _ _ _ q=>lt_int q
def zc:Na X (d4 .LtE) (XW λi j=>.bl (decide (i<=j))):=opB0 λ_ _ _ _ _ _ _ q=>le_int q
def zf:Na X (d4 .Gt) (XW λi j=>.bl (decide (j<i))):=opB0 λ_ _ _ _ _ _ _ q=>gt_int q
def zg:Na X (d4 .GtE) (XW λi j=>.bl (decide (j<=i))):=opB0 λ_ _ _ _ _ _ _ q=>ge_int q
def dN:Na X (d4 .In) (λx y H Q=>∃i j,x=.str i/\y=.str j/\Q (.bl (!(pj j i 0 j.length 1).isEmpty)) H):=by
 intro r s g H x y v u Q I rx z h;obtain⟨i,j,rfl,rfl,q⟩:=h;obtain⟨t,rfl⟩:=rx;obtain⟨d,rfl⟩:=z;exact in_str (BW I q rfl)
def Vq:Na X (d4 .NotIn) (λx y H Q=>∃i j,x=.str i/\y=.str j/\Q (.bl (!(!(pj j i 0 j.length 1).isEmpty))) H):=by
 intro r s g H x y v u Q I rx z h;obtain⟨i,j,rfl,rfl,q⟩:=h;obtain⟨t,rfl⟩:=rx;obtain⟨d,rfl⟩:=z;exact notIn_str (BW I q rfl)
def Na.or{f:ac->ac->Sem ac}{r L:R2}(h:Na X f r)(h':Na X f L):Na X f (λx y H Q=>r x y H Q∨L x y H Q):=by
 intro d s g H x y v u Q I rx z q
 rcases q with q | q
 .exact h d s g H x y v u Q I rx z q
 .exact h' d s g H x y v u Q I rx z q
def Jy(b:Expr){op:CmpOp}(h:op≠.In:=by decide)(d:op≠.NotIn:=by decide):iq op b=E3:=by
 have r:(op==CmpOp.In)=E3:=by cases op<;>first | rfl | exact MG rfl h
 have g:(op==CmpOp.NotIn)=E3:=by cases op<;>first | rfl | exact MG rfl d
 cases b<;>simp[iq,r,g]
def Z0{op:CmpOp}{r:R2}(F:Na X (d4 op) r)(L:PE X a ta)(J:PE X b tb)(G:iq op b=E3):PE X (.Compare a [op] [b] pos) (tOp r ta tb):=by
 intro d s g H Q I h;exact wpAny_Compare1 (binT L J I h λv u S x y T O rx z q=>F d S g T x y v u Q O rx z q) G
def zj(t:TE):TT:=λg H Q=>t g H λx d=>∃k,x=.bl k/\Q k d
def Z1{op:CmpOp}{r:R2}(O:Na X (d4 op) r)(W:PE X a ta)(U:PE X b tb)(T:iq op b=E3):PT X (.Compare a [op] [b] pos) (zj (tOp r ta tb)):=by
 intro d s g H Q I h;refine xi (mo (W d s g H _ I h) λv F ⟨x,H1,I1,J,q1⟩=>mo (U d F g H1 _ I1 q1) λu S ⟨y,H2,Z,L,q2⟩=>
  mo (O d S g H2 x y v u _ Z J L q2) λc s3 ⟨z,H3,Y,G,k,e,q3⟩=>?_) T
 subst e;cases G;exact kq ⟨H3,Y,q3⟩
def TruV(K:aI)(x:V)(H:Hp)(k:Bool):Prop:=
 match x with
 |.non=>k=E3
 |.bl b=>k=b
 |.int i=>k=(i != 0)
 |.str y=>y.length<=sizeLine/\k=((y.length:Int) != 0)
 |.byt y=>y.size<=sizeLine/\k=((y.size:Int) != 0)
 |.ref p=>(∃xs,MO K H p xs/\k=!xs.isEmpty)∨(∃xs,MZ K H p xs/\k=!xs.isEmpty)∨∃kvs,H p=X0 (.dK kvs)/\k=!kvs.isEmpty
 |_=>False
def Ys{d:Type}{kvs:List (d×V)}{vs:List (d×ac)}(r:KV kvs vs):(!vs.isEmpty)=!kvs.isEmpty:=by
 cases r<;>rfl
def Sh{xs:List V}(r:cx xs its):(!its.toArray.isEmpty)=!xs.isEmpty:=by
 cases r<;>simp
def Sq:(sizeLine:Nat)<2^63:=by rw[iA];decide
theorem wR:TruR X (λx H Q=>∃k,TruV X.K x H k/\Q k H):=by
 intro Y s U H x v Q I rx h;obtain⟨k,e,q⟩:=h;have Z:=Sq;have hs:sizeLine=16777216:=iA;cases x with
 |non=>
  cases rx;have O:k=E3:=e;subst O;exact truthy_none ⟨H,I,q⟩
 |bl b=>
  cases rx;have O:k=b:=e;subst O;exact kq ⟨H,I,q⟩
 |int i=>
  obtain⟨t,rfl⟩:=rx;have O:k=(i != 0):=e;subst O;exact PySem.P.truthy_int ⟨H,I,q⟩
 |str y=>
  obtain⟨t,rfl⟩:=rx;obtain⟨S,O⟩:y.length<=sizeLine/\k=((y.length:Int) != 0):=e;subst O;exact PySem.P.truthy_str .(0) ⟨H,I.tok _,q⟩
 |byt y=>
  obtain⟨t,rfl⟩:=rx;obtain⟨S,O⟩:y.size<=sizeLine/\k=((y.size:Int) != 0):=e;subst O;exact PySem.W.truthy_bytes .(0) ⟨H,I.tok _,q⟩
 |ref p=>
  cases rx;have O:(∃z,MO X.K H p z/\k=!z.isEmpty)∨(∃z,MZ X.K H p z/\k=!z.isEmpty)∨∃d,H p=X0 (.dK d)/\k=!d.isEmpty:=e
  rcases O with ⟨z,F,O⟩ | ⟨z,F,O⟩ | ⟨d,F,O⟩
  .subst O;obtain⟨J,r,G,L⟩:=I.list F;have g:=r.length;exact wpAny_truthy_list G.isList (by simp only[ck];omega) ⟨H,I.tok _,by rw[Sh r];exact q⟩
  .subst O;obtain⟨J,r,G,L⟩:=I.tuple F;have g:=r.length;exact truthy_tuple G (by simp only[ck];omega) ⟨H,I.tok _,by rw[Sh r];exact q⟩
  .subst O;obtain⟨L,T,vs,r,m⟩:d.length<=sizeLine/\(p==fE)=E3/\∃vs,KV d vs/\s.heap.DictOf (Av X.prog X.w) p vs:=I.hok p _ F;have g:d.length=vs.length:=Ap r;exact wpAny_truthy_dict T m .(0) ⟨H,I.tok _,by rw[Ys r];exact q⟩
 |_=>exact (show False from e).elim
def gR(J:PE X a ta)(F:∀whole,pc a X.env whole=(do let v <-whole;pw a.pos;lS [v] (truthy v))):
  PT X a (λg H Q=>ta g H λx d=>∃k,TruV X.K x d k/\Q k d):=by
 intro r s g H Q I h;exact isTrue_plain (mo (J r s g H _ I h) (by rintro v z ⟨x,O,L,G,q1⟩;exact wR r z g O x v Q L G q1)) (F _)
def Yt:Na X (kx .Add) (λx y H Q=>∃i j,x=.str i/\y=.str j/\i.length+j.length<=sizeLine/\Q (.str (i++j)) H):=by
 intro r s g H x y v u Q I rx z h;obtain⟨i,j,rfl,rfl,O,q⟩:=h;obtain⟨t,rfl⟩:=rx;obtain⟨d,rfl⟩:=z;exact add_str (λd tk=>⟨.str (i++j),H,I.tok _,⟨_,rfl⟩,q⟩) O
def OI{x:V}(r:cx [x] us):∃u,us=[u]/\dm x u:=by
 cases r with
 |cons G L=>cases L;exact⟨_,rfl,G⟩
def vals2{x y:V}(r:cx [x,y] us):∃u w',us=[u,w']/\dm x u/\dm y w':=by
 cases r with
 |cons g L=>
  cases L with
  |cons G d=>cases d;exact⟨_,_,rfl,g,G⟩
def dO(d:X.calm=E2):Di X (.builtin "max") (λxs H Q=>∃i j,xs=[.int i,.int j]/\Q (.int (if j > i then j else i)) H):=by
 intro v s g H xs G Q I r h;obtain⟨i,j,rfl,q⟩:=h;obtain⟨u,z,rfl,⟨t,rfl⟩,⟨F,rfl⟩⟩:=vals2 r;refine max_two_ints (I.ok.hd d) λJ tk k=>⟨_,H,I.kept k,?_,q⟩
 by_cases U:j > i
 .rw[SF U,SF U];exact⟨_,rfl⟩
 .rw[UF U,UF U];exact⟨_,rfl⟩
def dR(d:X.calm=E2):Di X (.builtin "min") (λxs H Q=>∃i j,xs=[.int i,.int j]/\Q (.int (if j<i then j else i)) H):=by
 intro v s g H xs G Q I r h;obtain⟨i,j,rfl,q⟩:=h;obtain⟨u,z,rfl,⟨t,rfl⟩,⟨F,rfl⟩⟩:=vals2 r;refine min_two_ints (I.ok.hd d) λJ tk k=>⟨_,H,I.kept k,?_,q⟩
 by_cases U:j<i
 .rw[SF U,SF U];exact⟨_,rfl⟩
 .rw[UF U,UF U];exact⟨_,rfl⟩
def U5:Di X (.type "int") (λxs H Q=>(∃i,xs=[.int i]/\Q (.int i) H)∨∃k,xs=[.bl k]/\Q (.int (if k then 1 else 0)) H):=by
 intro d s g H xs v Q I r h
 rcases h with ⟨i,rfl,q⟩ | ⟨k,rfl,q⟩
 .obtain⟨u,rfl,t,rfl⟩:=OI r;exact call_int_int ⟨.int i,H,I,⟨_,rfl⟩,q⟩
 .obtain⟨u,rfl,G⟩:=OI r;cases G;exact call_int_bool ⟨.int (if k then 1 else 0),H,I.tok _,⟨_,rfl⟩,q⟩
def LenV(K:aI)(x:V)(H:Hp)(n:Nat):Prop:=
 match x with
 |.str y=>y.length<=sizeLine/\n=y.length
 |.byt y=>y.size<=sizeLine/\n=y.size
 |.ref p=>(∃xs,MO K H p xs/\n=xs.length)∨∃xs,MZ K H p xs/\n=xs.length
 |_=>False
def gU:Di X (.builtin "len") (λxs H Q=>∃x n,xs=[x]/\LenV X.K x H n/\Q (.int n) H):=by
 intro S s J H xs T Q I r h;obtain⟨x,n,rfl,e,q⟩:=h;obtain⟨u,rfl,rx⟩:=OI r;have Y:=Sq;have hs:sizeLine=16777216:=iA;cases x with
 |str y=>
  obtain⟨t,rfl⟩:=rx;obtain⟨F,O⟩:y.length<=sizeLine/\n=y.length:=e;subst O;exact len_str .(0) ⟨.int _,H,I.tok _,⟨_,rfl⟩,q⟩
 |byt y=>
  obtain⟨t,rfl⟩:=rx;obtain⟨F,O⟩:y.size<=sizeLine/\n=y.size:=e;subst O;exact PySem.W.len_bytes .(0) ⟨.int _,H,I.tok _,⟨_,rfl⟩,q⟩
 |ref p=>
  cases rx;have O:(∃xs,MO X.K H p xs/\n=xs.length)∨∃xs,MZ X.K H p xs/\n=xs.length:=e
  rcases O with ⟨xs,v,O⟩ | ⟨xs,v,O⟩
  .subst O;obtain⟨d,L,G,z⟩:=I.list v;have g:=L.length;exact Calls.call_len_list G.isList (by simp only[ck];omega) ⟨.int xs.length,H,I.tok _,⟨_,by simp only[ck];rw[g]⟩,q⟩
  .subst O;obtain⟨d,L,G,z⟩:=I.tuple v;have g:=L.length;exact len_tuple G (by simp only[ck];omega) ⟨.int xs.length,H,I.tok _,⟨_,by simp only[ck];rw[g]⟩,q⟩
 |_=>exact (show False from e).elim
end
structure YY (h:Heap) (x dx C:Addr) (mA:Str->Option ac):Prop where
 obj:h.get? x=X0 (pb C dx)
 ns:h.Ns1 dx mA
 ne:dx≠x
def dU{dx:Addr}{mA:Str->Option ac}(n:h.Ns1 dx mA):∃od,h.get? dx=X0 od/\∀name,AB name od=X0 (mA name):=by
 obtain⟨o,g,J,v,G,I,_,F⟩:=n;refine⟨o,v,λname=>?_⟩;have e:=F name;unfold nsFind findBy at e;rw[<-Array.find?_toList] at e;unfold AB;rw[G];dsimp only;split
 .rename_i y q;rw[q] at e;exact SG X0 e
 .rename_i q;rw[q] at e;have a:g.toList.any (·.refKey)=E3:=by
   rw[HI];intro y r;obtain⟨z,t,d⟩:=I y (CY.mp r);simp[DictEntry.refKey,d]
  have H:¬ g.toList.any (·.refKey)=E2:=by rw[a];exact de
  rw[UF H];exact SG X0 e
def YY.look{x dx:Addr}{mA:Str->Option ac}(I:YY h x dx C mA):∃od,PySem.W.InstAt h x (pb C dx) C (X0 od)/\∀name,AB name od=X0 (mA name):=
 let ⟨od,ho,hl⟩:=dU I.ns
 ⟨od,⟨I.obj,rfl,rfl,ho⟩,hl⟩
section
variable {A:aE}{K:aI}{x dx f:Addr}{mA:Str->Option ac}{name:Str}{v:ac}
def Vr{d:Bool}{Q:ac->ah->Prop}(X:K.In s.heap)(I:YY s.heap x dx C mA)(U:xk K C name=E2)(z:AC K C=E2)(F:gX K (.ref C) name=X0 W1)(r:mA name=X0 v)(g:HK v=E2)(h:Q v { s with toks:=s.toks+1 }):
  ag (ai prog w) A (getAttr (.ref x) name d) Q E s:=by
 obtain⟨G,J,Y⟩:=I.look;exact PySem.W.get_value X J (D0 U).1 (PySem.W.findObj_own z F rfl (by rw[Y,r])) g h
def gW{pl:Sem Bool}{Q:ac×List ac->ah->Prop}(X:K.In s.heap)(I:YY s.heap x dx C mA)(U:xk K C name=E2)(G:gX K (.ref C) name=X0 (X0 (.ref f)))(O:tm K (.ref f)=E2)(g:mA name=W1)(h:Q (.ref f,[.ref x]) s):
  ag (ai prog w) A (ro (.ref x) name pl) Q E s:=by
 obtain⟨d,J,Y⟩:=I.look;exact PySem.W.method_fn X J (D0 U).1 (D0 U).2 G (beq_iff_eq.mp O) (by show (AB name d).map (·.isSome)=X0 E3;rw[Y,g];rfl) h
theorem qI{L:List Str}{Q:Unit->ah->Prop}(X:K.In s.heap)(I:YY s.heap x dx C mA)(hs:gX K (.ref C) "__setattr__"=X0 (X0 (.builtin "object.__setattr__")))(U:D1 K C=E2)(T:D2 K C name=X0 W1)(Y:AC K C=E2)(S:CB mA L)(hsz:L.length<=sizeLine)(h:∀h',YY h' x dx C (λy=>if y=name then X0 v else mA y)->fI dx s.heap h'->Q () { s with heap:=h',toks:=s.toks+2 }):
  ag (ai prog w) A (setAttr (.ref x) name v) Q E s:=by
 obtain⟨od,J,hl⟩:=I.look;refine PySem.W.set_plain X J hs (PySem.W.osa_open (s:={ s with toks:=s.toks+1 }) (r:=W1) X J U T λb=>?_);obtain⟨cd,Z,G⟩:=PySem.W.any_some Y;have O:s.heap.get? x=X0 ⟨.ref C,X0 dx,.plain,#[]⟩:=I.obj;refine ae (ar (ae (ae (wpAny_loadPart O (ae (PySem.W.Looks.here (s:={ s with toks:=s.toks+1 }) (PySem.W.looks_clsIn X Z) ?_))))));rw[G];refine ar (a:=X0 dx) (ae (ar (ae ?_)));refine wpAny_nsSet1 (s:={ s with toks:=s.toks+1 }) I.ns λh' g d=>?_;obtain⟨oD,N0,O0,z,F,H⟩:=g.count (PySem.Within.cons name v S);refine ae (wpAny_lookBehind z (by rw[F];exact pastItsLine_dict (cw H (by rw[d3];omega))) ?_);exact ar (h _ ⟨(d.2 _ (cf I.ne)).trans I.obj,g,I.ne⟩ d)
def gY{R:nL->ah->Prop}(X:K.In s.heap)(z:D3 K C=E2)(F:gX K (.ref C) "__init__"=X0 (X0 (.ref f)))(G:PySem.W.typeIn K (.ref f)=X0 (.type "function"))(h:gg (ai prog w) (A.under (.builtin "type.__call__" ⟨.ref C::vs,kw⟩)) (.call (.ref f) ⟨.ref .(12)::vs,kw⟩) (PySem.W.InitBack .(12) R)
   { s with heap:=(s.heap.push nN).push (pb C s.heap.objs.size) }):
  gg (ai prog w) A (.call (.ref C) ⟨vs,kw⟩) R s:=by
 obtain⟨I,g,d,t,H⟩:=s;exact PySem.W.make_core (PySem.W.makes_of X z) (PySem.W.looks_findIn X F) (λr=>PySem.W.bind_fn X r G) (.inl rfl) h
end
def putF(f:Str)(v:V):List (Str×V)->List (Str×V)
 |[]=>[(f,v)]
 | (g,x)::r=>if g=f then (g,v)::r else (g,x)::putF f v r
theorem RD(f g:Str)(v:V):∀fs:List (Str×V),(putF f v fs).lookup g=if g=f then X0 v else fs.lookup g
 |[]=>by
  show cb g [(f,v)]=_
  by_cases h:g=f
  .have H:(g==f)=E2:=beq_iff_eq.mpr h;simp only[cb,H,SF h]
  .have H:(g==f)=E3:=beq_eq_false_iff_ne.mpr h;simp only[cb,H,UF h]
 | (k,x)::r=>by
  have d:=RD f g v r;rw[show putF f v ((k,x)::r)=(if k=f then (k,v)::r else (k,x)::putF f v r) from rfl]
  by_cases I:k=f
  .rw[SF I]
   by_cases h:g=k
   .have H:(g==k)=E2:=beq_iff_eq.mpr h;simp only[cb,H,SF (h.trans I)]
   .have H:(g==k)=E3:=beq_eq_false_iff_ne.mpr h;simp only[cb,H,UF (λe:g=f=>h (e.trans I.symm))]
  .rw[UF I]
   by_cases h:g=k
   .have H:(g==k)=E2:=beq_iff_eq.mpr h;simp only[cb,H,UF (λe:g=f=>I (h.symm.trans e))]
   .have H:(g==k)=E3:=beq_eq_false_iff_ne.mpr h;simp only[cb,H];exact d
theorem Qa(f:Str)(v:V):∀fs:List (Str×V),f∈(putF f v fs).map (·.1)/\∀g,g∈fs.map (·.1)->g∈(putF f v fs).map (·.1)
 |[]=>⟨by simp[putF],λg h=>by simp at h⟩
 | (k,x)::r=>by
  obtain⟨z,d⟩:=Qa f v r;rw[show putF f v ((k,x)::r)=(if k=f then (k,v)::r else (k,x)::putF f v r) from rfl]
  by_cases I:k=f
  .rw[SF I];subst I;exact⟨by simp,λg h=>by simpa using h⟩
  .rw[UF I];refine⟨?_,λg h=>?_⟩
   .rw[bb];exact cp _ z
   .rw[bb] at h ⊢
    rcases bp.mp h with e | e
    .exact bp.mpr (.inl e)
    .exact cp _ (d g e)
theorem RG(f:Str)(v:V):∀fs:List (Str×V),(putF f v fs).length<=fs.length+1
 |[]=>by simp[putF]
 | (k,x)::r=>by
  have d:=RG f v r;rw[show putF f v ((k,x)::r)=(if k=f then (k,v)::r else (k,x)::putF f v r) from rfl]
  by_cases I:k=f
  .rw[SF I,d3,d3];omega
  .rw[UF I,d3,d3];omega
def NY.some_of{v:V}{o:Option ac}(r:NY (X0 v) o):∃u,o=X0 u/\dm v u:=by
 cases o with
 |none=>exact (show False from r).elim
 |some u=>exact⟨u,rfl,r⟩
def NY.none_of{o:Option ac}(r:NY W1 o):o=W1:=by
 cases o with
 |none=>rfl
 |some u=>exact (show False from r).elim
def Qc{v:V}(r:dm v u):HK u=E2:=by
 cases v with
 |non=>cases (show u=hU from r);rfl
 |bl b=>cases (show u=nw b from r);rfl
 |int i=>obtain⟨t,e⟩:=(show ∃t,u=sQ i t from r);cases e;rfl
 |str x=>obtain⟨t,e⟩:=(show ∃t,u=wq x t from r);cases e;rfl
 |byt b=>obtain⟨t,e⟩:=(show ∃t,u=GS b t from r);cases e;rfl
 |flt b=>obtain⟨t,e⟩:=(show ∃t,u=GT b t from r);cases e;rfl
 |ref a=>cases (show u=bg a from r);rfl
 |ty n=>cases (show u=mB n from r);rfl
section
variable {H:Hp}{dx:Addr}{fs:List (Str×V)}
def Ox(g:Pp P w H h)(e:H a=X0 (.ins C dx fs)):∃mA,YY h a dx C mA/\(∀f,NY (fs.lookup f) (mA f))/\CB mA (fs.map (·.1))/\fs.length<=1000/\H dx=X0 (.own a):=by
 obtain⟨d,z,ne,ob,mA,n,r,q⟩:=(show BV P w H h a (.ins C dx fs) from g a _ e);exact⟨mA,⟨ob,n,ne⟩,r,q,z,d⟩
end
structure On (K:aI) (C:Addr):Prop where
 pg:xk K C nV=E2
 hd:AC K C=E2
 po:D1 K C=E2
 sa:gX K (.ref C) "__setattr__"=X0 (X0 (.builtin "object.__setattr__"))
def On.get{K:aI}(c:On K C)(f:Str):xk K C f=E2:=c.pg
def Bd(K:aI)(C:Addr)(f:Str):Prop:=gX K (.ref C) f=X0 W1
def Bd.taker{K:aI}(n:Bd K C f):D2 K C f=X0 W1:=by
 unfold D2;rw[show gX K (.ref C) f=X0 W1 from n];rfl
structure Meth (K:aI) (C:Addr) (m:Str) (f:Addr):Prop where
 at_:gX K (.ref C) m=X0 (X0 (.ref f))
 fn:tm K (.ref f)=E2
 kp:jI K (.ref f)=E2
section
variable {X:Cx}{H:Hp}{dx:Addr}{fs:List (Str×V)}{v:V}{A:aE}
theorem Yu{b:Bool}{Q:ac->ah->Prop}(I:Inv X π σ H s)(e:H a=X0 (.ins C dx fs))(c:On X.K C)(n:Bd X.K C f)(l:fs.lookup f=X0 v)(h:∀u d,Inv X π σ H d->dm v u->Q u d):ag .(3) A (getAttr (.ref a) f b) Q E s:=by
 obtain⟨mA,O,r,_,_,_⟩:=Ox I.hok e;obtain⟨u,S,g⟩:=NY.some_of (v:=v) (o:=mA f) (by rw[<-l];exact r f);exact Vr I.kIn O (c.get f) c.hd n S (Qc g) (h u _ (I.tok _) g)
def Ss{g:Addr}{pl:Sem Bool}{Q:ac×List ac->ah->Prop}(I:Inv X π σ H s)(e:H a=X0 (.ins C dx fs))(c:On X.K C)(k:Meth X.K C m g)(l:fs.lookup m=W1)(h:Q (.ref g,[.ref a]) s):ag .(3) A (ro (.ref a) m pl) Q E s:=by
 obtain⟨mA,O,r,_,_,_⟩:=Ox I.hok e;have d:mA m=W1:=NY.none_of (by rw[<-l];exact r m);exact gW I.kIn O (c.get m) k.at_ k.fn d h
theorem Yv{y:V}{Q:Unit->ah->Prop}(I:Inv X π σ H s)(e:H a=X0 (.ins C dx fs))(c:On X.K C)(n:Bd X.K C f)(hl:fs.length<1000)(S:dm y u)(h:∀G,Inv X π σ (fk H a (.ins C dx (putF f y fs))) G->Q () G):ag .(3) A (setAttr (.ref a) f u) Q E s:=by
 obtain⟨mA,O,r,F,_,J⟩:=Ox I.hok e;have T:(fs.map (·.1)).length<=sizeLine:=by rw[av,iA];omega
 refine qI I.kIn O c.sa c.po n.taker c.hd F T λZ d L=>h _ ?_;have W:∃o,Z.get? dx=X0 o:=let ⟨o,_,_,e',_⟩:=d.ns;⟨o,e'⟩;refine I.write (x:=a) (e:=dx) (by rw[e];exact pE) (.inr J) (λb q Y z=>(L.2 b Y).trans z) W ?_;refine⟨by rw[Al O.ne];exact J,?_,O.ne,d.obj,_,d.ns,λg=>?_,λg U=>?_⟩
 .have:=RG f y fs;omega
 .show NY ((putF f y fs).lookup g) (if g=f then X0 u else mA g);rw[RD]
  by_cases q:g=f
  .rw[SF q,SF q];exact S
  .rw[UF q,UF q];exact r g
 .by_cases q:g=f
  .rw[q];exact (Qa f y fs).1
  .refine (Qa f y fs).2 g (F g λz=>U ?_);show (if g=f then X0 u else mA g)=W1;rw[UF q];exact z
theorem Inv.made(I:Inv X π σ H s):Inv X π σ (fk (fk H s.heap.objs.size (.own .(12))) .(12) (.ins C s.heap.objs.size []))
  { s with heap:=(s.heap.push nN).push (pb C s.heap.objs.size) }:=by
 have d:(s.heap.push nN).get? s.heap.objs.size=X0 nN:=bS s.heap rfl;have z:((s.heap.push nN).push (pb C s.heap.objs.size)).get? .(12)=X0 (pb C s.heap.objs.size):=by
  have:=bS (s.heap.push nN) (o:=pb C s.heap.objs.size) rfl
  rwa [iE] at this
 have r:(s.heap.push nN).Ns s.heap.objs.size (λ_=>W1):=⟨nN,#[],_,d,rfl,(λe G=>MG G .(1)),λ_=>rfl⟩;have F:=I.laid (a:=s.heap.objs.size) (o:=.own .(12)) (h':=s.heap.push nN) (t':=s.toks) (λb u q=>ba _ q) (aw _) ⟨_,d⟩;refine F.laid (a:=s.heap.objs.size+1) (o:=.ins C s.heap.objs.size []) (t':=s.toks) (λb u q=>ba _ q) (D4 (iE _ _)) ?_;have ne:s.heap.objs.size≠s.heap.objs.size+1:=bX (tq _);refine⟨by rw[Al ne,Ah],eW _,ne,z,λ_=>W1,(Heap.Ns1.of_empty r).at λo q=>ba _ q,λ_=>pE,λy g=>MG rfl g⟩
def Vs{Q:ac->ah->Prop}(d:ff e f env (eval e env)=eval e env)(h:ag (ai prog w) A (eval e env) (λo r=>ag (ai prog w) A (getAttr o f E2) Q E r) E s):ag (ai prog w) A (eval (.Attribute e f pos) env) Q E s:=
 Attribute_any_ h (by rw[arm_eval_Attribute,d])
end
def tFld(K:aI)(r:TE)(f:Str):TE:=λg H Q=>r g H λx z=>∃a C dx fs v,x=.ref a/\z a=X0 (.ins C dx fs)/\On K C/\Bd K C f/\fs.lookup f=X0 v/\Q v z
def sFld(K:aI)(r d:TE)(f:Str):TS:=λD g H=>d g H λy z=>r g z λx v=>∃a C dx fs,x=.ref a/\v a=X0 (.ins C dx fs)/\On K C/\Bd K C f/\fs.length<1000 ∧
 D.nx g (fk v a (.ins C dx (putF f y fs)))
section
variable {X:Cx}{o value:Expr}{tpos:Pos}{ta tv:TE}
def Yw(G:PE X e ta)(z:ff e f X.env (eval e X.env)=eval e X.env):PE X (.Attribute e f pos) (tFld X.K ta f):=by
 intro r s g H Q I h;refine Vs z (mo (G r s g H _ I h) λu W q0=>?_);obtain⟨x,S,L,rx,a,C,dx,fs,v,F,J,c,n,l,q⟩:=q0;subst F;obtain rfl:u=bg a:=rx;exact Yu L J c n l λT U O d=>⟨v,S,O,d,q⟩
def gZ(G:PE X o ta)(F:PE X value tv)(hs:eR value (X0 (.Attribute o f pos')) pos.line X.env=pure E3):PS X (.Assign [.Attribute o f pos'] value pos) (sFld X.K ta tv f):=by
 intro r s g H D I h;refine plainObj_wpAny_Assign_Attribute (mo (F r s g H _ I h) λu z ⟨y,U,T,d,q⟩=>mo (G r z g U _ T q) λv Y q9=>?_) hs;obtain⟨x,Z,S,rx,a,C,dx,fs,J,L,c,n,l,q2⟩:=q9;subst J;obtain rfl:v=bg a:=rx;exact Yv S L c n l d λW O=>⟨g,_,O,q2⟩
def rAdd:V->V->Hp->VK->Prop:=λx y H Q=>∃i j,x=.int i/\y=.int j/\Q (.int (i+j)) H
end
structure Room (k:Nat) (A:aE):Prop where
 hd:A.handled=W1
 dp:A.depth+3*k+5<recursionLimit
 un:A.units+16*k+200<bo
def Room.mono{k:Nat}{A:aE}(r:Room k A)(h:j<=k):Room j A:=⟨r.hd,by have:=r.dp;omega,by have:=r.un;omega⟩
theorem Room.deeper{k:Nat}{A:aE}(r:Room (k+1) A)(env:Env):Room k (A.deeper env):=
 ⟨r.hd,by have:=r.dp;show A.depth+1+3*k+5<_;omega,by have:=r.un;show A.units+3+16*k+200<_;omega⟩
def Yx{A:aE}:(A.under (.builtin "type.__call__" ⟨.ref C::us,kw⟩)).depth=A.depth+1:=by
 first | rfl | simp[D5,Code.weight,Code.isCreation,Code.isGuard,Code.isCaller,HL,D6,guardIds]
def Yy{A:aE}:(A.under (.builtin "type.__call__" ⟨.ref C::us,kw⟩)).units=A.units+1:=by
 first | rfl | simp[D5,Code.cUnits,HL,D6]
def Room.make{k:Nat}{A:aE}(r:Room (k+1) A)(C:Addr)(us:List ac)(d:List (Str×ac)):Room k (A.under (.builtin "type.__call__" ⟨.ref C::us,d⟩)):=
 ⟨r.hd,by have:=r.dp;rw[Yx];omega,by have:=r.un;rw[Yy];omega⟩
theorem Room.depth{k:Nat}{A:aE}(r:Room k A):A.depth<recursionLimit:=by have:=r.dp;omega
theorem Room.units{k:Nat}{A:aE}(r:Room k A):A.units+64<bo:=by have:=r.un;omega
def tNil:TA:=λ_ H Q=>Q [] H
def W4(r:TE)(tr:TA):TA:=λg H Q=>r g H λx z=>tr g z λxs v=>Q (x::xs) v
section
variable {X:Cx}{es:List Expr}{te:TE}{t:TA}
def De:PA X [] tNil:=λ_ _ _ _ H Q I h=>Calls.spliced_nil ⟨[],H,I,.nil,h⟩
def Bt(J:PE X e te)(F:PA X es t)(hs:ay (e::es) X.env=(E3,eval e X.env)::ay es X.env:=by rfl):PA X (e::es) (W4 te t):=by
 intro d r s g H Q I h;rw[hs];show ag _ _ (spliced ((E3,eval e X.env)::dn d (ay es X.env))) _ _ s;refine Calls.spliced_cons (mo (J r s g H _ I h) λu z p0=>?_);obtain⟨x,U,S,G,q1⟩:=p0;exact mo (F d r z g U _ S q1) (by rintro W Y ⟨v,T,O,L,q2⟩;exact ⟨x::v,T,O,.cons G L,q2⟩)
def tTup(t:TA):TE:=λg H Q=>t g H λxs z=>xs.length<=sizeLine/\∀p,z p=W1->Q (.ref p) (fk z p (.tup xs))
def tLst(t:TA):TE:=λg H Q=>t g H λxs z=>xs.length<=sizeLine/\∀p,z p=W1->Q (.ref p) (fk z p (.lst xs))
theorem Yz{x1}(h:PA X es t):PE X (.Tuple es x1 pos) (tTup t):=by
 intro G s F H Q I T;refine wpAny_Tuple_spliced (mo (h pos G s F H _ I T) λL d ⟨J,v,g,r,z,q⟩=>⟨by rw[<-r.length];exact z,?_⟩);have O:v d.heap.objs.size=W1:=g.hok.fresh (aw _);refine⟨.ref d.heap.objs.size,fk v d.heap.objs.size (.tup J),g.laid (t':=d.toks) (λb u e=>ba _ e) (aw _) ?_,rfl,q _ O⟩;exact⟨z,L,r,⟨_,bS _ rfl,rfl,_,rfl⟩⟩
theorem gf(h:PA X es t):PE X (.List es pos) (tLst t):=by
 intro G s F H Q I T;refine wpAny_List_spliced (mo (h pos G s F H _ I T) λL d ⟨J,v,g,r,z,q⟩=>⟨by rw[<-r.length];exact z,?_⟩);have O:v d.heap.objs.size=W1:=g.hok.fresh (aw _);refine⟨.ref d.heap.objs.size,fk v d.heap.objs.size (.lst J),g.laid (t':=d.toks) (λb u e=>ba _ e) (aw _) ?_,rfl,q _ O⟩;exact⟨z,L,0,r,bS _ rfl⟩
end
abbrev Sp:=List V->Hp->VK->XK->Prop
abbrev CXT:=List Env->Hp->ah->XK->ac->ah->Prop
structure Zp (P:cr) (w:bP) (K:aI) (mg:Str->Option ac) (base:Heap) (A:aE) (outer:List Env) (s:ah) (H:Hp):Prop where
 frames:A.frames=X0 outer
 mod:Mod K mg base
 bs:∀b o,base.get? b=X0 o->s.heap.get? b=X0 o/\H b=W1
 bsz:base.objs.size<=s.heap.objs.size
 funs:s.heap.FunFrames base outer
 frf:∀b∈frs outer,H b=W1
 hok:Pp P w H s.heap
 bare:ny s.gens
def CE(d:List Env)(P:cr)(w:bP)(H:Hp)(s:ah)(Q:VK)(u:ac)(g:ah):Prop:=
 ∃v r,g.os=s.os/\ny g.gens/\Un (frs d) [] H r s.heap g.heap/\Pp P w r g.heap/\dm v u/\Q v r
def CR(CX:CXT)(d:List Env)(P:cr)(w:bP)(H:Hp)(s:ah)(Q:VK)(E:XK)(r:nL)(g:ah):Prop:=
 match r with
 |.ok (.ret u)=>CE d P w H s Q u g
 |.ok _=>False
 |.error e=>CX d H s E e g
structure kr (P:cr) (w:bP) (K:aI) (mg:Str->Option ac) (base:Heap) (CX:CXT) (k:Nat) (f:Addr) (fd:mN) (ps:List Str) (sp:Sp):Prop where
 len:∀vs H Q E,sp vs H Q E->vs.length=ps.length
 run:∀(A:aE) (outer:List Env) (s:ah) (H:Hp) (args:Args) (us:List ac) (vs:List V) (Q:VK) (E:XK),Room k A->Zp P w K mg base A outer s H->xl s fd args (ps.zip us)->cx vs us->sp vs H Q E ->
  gg (ai P w) A (.call (.ref f) args) (CR CX outer P w H s Q E) s
theorem kr.mono{P:cr}{w:bP}{K:aI}{r:Str->Option ac}{base:Heap}{CX:CXT}{j k:Nat}{f:Addr}{v:mN}{ps:List Str}{sp:Sp}(F:kr P w K r base CX j f v ps sp)(h:j<=k):
  kr P w K r base CX k f v ps sp:=⟨F.len,λA d s H g G z Q E I=>F.run A d s H g G z Q E (I.mono h)⟩
def kr.imp{K:aI}{base:Heap}{CX:CXT}{k:Nat}{f:Addr}{sp sp':Sp}(F:kr P w K mg base CX k f fd ps sp)(h:∀vs H Q E,sp' vs H Q E->sp vs H Q E):kr P w K mg base CX k f fd ps sp':=
 ⟨λvs H Q E q=>F.len vs H Q E (h _ _ _ _ q),λA d s H g G vs Q E v z I r hs=>F.run A d s H g G vs Q E v z I r (h _ _ _ _ hs)⟩
def Zp.make{K:aI}{base:Heap}{A:aE}{d:List Env}{H:Hp}(e:Zp P w K mg base A d s H)(C:Addr)(us:List ac)(g:List (Str×ac)):
  Zp P w K mg base (A.under (.builtin "type.__call__" ⟨.ref C::us,g⟩)) d s H:=⟨by first | exact e.frames | (simpa [D5,Code.envs,D6,pushEnvs] using e.frames),e.mod,e.bs,e.bsz,e.funs,e.frf,e.hok,e.bare⟩
section
variable {X:Cx}{H:Hp}{s':ah}
def Inv.env0(I:Inv X π σ H s):Zp X.prog X.w X.K X.mg X.base X.A X.stack s H:=
 ⟨I.ok.frames,I.ok.mod,I.bs,cw I.ok.bsz I.sz,I.stack,I.stkFree,I.hok,I.bare⟩
theorem Inv.after{Q:VK}(I:Inv X π σ H s)(h:CE X.stack X.prog X.w H s Q u s'):EP X π σ Q u s':=by
 obtain⟨v,O,os,F,un,J,r,q⟩:=h;obtain⟨L,g,d,t,G⟩:=s';obtain rfl:G=s.os:=os;exact⟨v,O,I.call (h':=L) (g':=g) (d':=d) (t':=t) (ch:=[]) un J F (λb z=>MG z .(1)),r,q⟩
end
def zm(sp:Sp)(d:List V)(E:XK)(t:TA):TE:=λg H Q=>t g H λvs z=>sp (vs++d) z Q E
def ug(C:Addr)(m:Str)(sp:Sp)(d:List V)(E:XK)(r:TE)(t:TA):TE:=λg H Q=>r g H λx z=>∃a dx fs,x=.ref a/\z a=X0 (.ins C dx fs)/\fs.lookup m=W1 ∧
 t g z λvs v=>sp (x::(vs++d)) v Q E
def zp(C:Addr)(sp:Sp)(d:List V)(E:XK)(t:TA):TE:=λg H Q=>t g H λvs z=>∀x dx,z x=W1->z dx=W1->dx≠x ->
 sp (.ref x::(vs++d)) (fk (fk z dx (.own x)) x (.ins C dx [])) (λv r=>v=.non/\Q (.ref x) r) E
def MV(K:aI)(v:mN)(ps:List Str)(ds:List ac):Prop:=
 ∀(s:ah) (us:List ac),K.In s.heap->(us++ds).length=ps.length->xl s v ⟨us,[]⟩ (ps.zip (us++ds))
def MV.all{K:aI}(h:∀us:List ac,us.length=ps.length->xo fd ⟨us,[]⟩=pure (ps.zip us)):MV K fd ps []:=λs us _ Y=>by
 rw[f6] at Y ⊢;exact .of_eq (h us Y)
def N6(CX:CXT)(X:Cx)(E:XK):Prop:=∀(r:zP) (g:St) (H:Hp) (s:ah) (e:ac) (d:ah),Inv X r g H s->CX X.stack H s E e d->X.xe e d
section
variable {X:Cx}{CX:CXT}{k:Nat}{f:Addr}{sp:Sp}{dvs:List V}{ds:List ac}{E:XK}{p:Pos}{o:Expr}{es:List Expr}{ta:TE}{t:TA}
def Y0{g:St}{H:Hp}{Q:VK}{vs:List V}(F:kr X.prog X.w X.K X.mg X.base CX k f fd ps sp)(z:Room k X.A)(J:MV X.K fd ps ds)(G:cx dvs ds)(v:N6 CX X E)(I:Inv X π g H s)(r:cx vs us)(h:sp (vs++dvs) H Q E):ag .(3) X.A (call (.ref f) us) (EP X π g Q) X.xe s:=by
 have L:cx (vs++dvs) (us++ds):=r.append G;have Y:(us++ds).length=ps.length:=by rw[<-L.length];exact F.len _ _ _ _ h
 refine D7 (rq (F.run X.A X.stack s H ⟨us,[]⟩ (us++ds) (vs++dvs) Q E z I.env0 (J s us I.kIn Y) L h) λr d T=>?_);cases r with
 |error e=>exact v π g H s e d I T
 |ok O=>
  cases O with
  |ret u=>exact I.after T
  |next=>exact ku T
  |brk=>exact ku T
  |cont=>exact ku T
def Z2(F:kr X.prog X.w X.K X.mg X.base CX k f fd ps sp)(L:Room k X.A)(U:Gl X x)(O:X.mg x=X0 (.ref f))(S:jI X.K (.ref f)=E2)(Y:MV X.K fd ps ds)(W:cx dvs ds)(J:N6 CX X E)(Z:PA X (e::es) t)(g:.(8)=E3:=by decide)(T:ay (e::es) X.env=(E3,eval e X.env)::ay es X.env:=by rfl)(d:(dn pos (ay es X.env)).any (·.1)=E3:=by rfl):
  PE X (.Call (.Name x p) (e::es) [] pos) (zm sp dvs E t):=by
 intro G s z H Q I h;refine tz (Vo I U O ?_ g);refine D8 (h₀:=X.base) I.ok.mod.kin S (mo (Z pos G s z H _ I h) λus s1 ⟨vs,H1,v,r,q⟩=>⟨v.kIn,?_⟩) T d;exact Y0 F L Y W J v r q
theorem Z3{pl:Sem Bool}(Z:PE X o ta)(c:On X.K C)(L:Meth X.K C m f)(F:kr X.prog X.w X.K X.mg X.base CX k f fd ps sp)(Y:Room k X.A)(hb:MV X.K fd ps ds)(hd:cx dvs ds)(U:N6 CX X E)(ha:PA X (e::es) t)(g:ay (e::es) X.env=(E3,eval e X.env)::ay es X.env:=by rfl)(d:(dn pos (ay es X.env)).any (·.1)=E3:=by rfl)(W:eval (.Call (.Attribute o m apos) (e::es) [] pos) X.env=(do
   let ov <-eval o X.env
   pw apos.atName
   let (f,first) <-lS [ov] (ro ov m pl)
   rL pos f first (dn pos (ay (e::es) X.env)) (jS pos (i9 [] X.env))):=by rfl):
  PE X (.Call (.Attribute o m apos) (e::es) [] pos) (ug C m sp dvs E ta t):=by
 intro z s v H Q I h;refine HM (pl:=pl) (mo (Z z s v H _ I h) λu T q0=>?_) W;obtain⟨x,H1,S,rx,a,dx,fs,ex,ea,l,q⟩:=q0;subst ex;obtain rfl:u=bg a:=rx;refine Ss S ea c L l ?_;refine D8 (first:=[.ref a]) (h₀:=X.base) I.ok.mod.kin L.kp (mo (ha pos z T v H1 _ S q) λJ s2 ⟨G,H2,O,r,q2⟩=>⟨O.kIn,?_⟩) g d;exact Y0 (us:=.ref a::J) (vs:=.ref a::G) F Y hb hd U O (.cons rfl r) q2
theorem gj{pl:Sem Bool}(J:PE X o ta)(c:On X.K C)(g:Meth X.K C m f)(F:kr X.prog X.w X.K X.mg X.base CX k f fd ps sp)(G:Room k X.A)(S:MV X.K fd ps ds)(L:cx dvs ds)(z:N6 CX X E)(O:eval (.Call (.Attribute o m apos) [] [] pos) X.env=(do
   let ov <-eval o X.env
   pw apos.atName
   let (f,first) <-lS [ov] (ro ov m pl)
   rL pos f first (dn pos (ay [] X.env)) (jS pos (i9 [] X.env))):=by rfl):
  PE X (.Call (.Attribute o m apos) [] [] pos) (ug C m sp dvs E ta tNil):=by
 intro v s r H Q I h;refine HM (pl:=pl) (mo (J v s r H _ I h) λu Y q9=>?_) O;obtain⟨x,Z,d,rx,a,dx,fs,T,U,l,q⟩:=q9;subst T;obtain rfl:u=bg a:=rx;refine Ss d U c g l ?_;exact PySem.W.callWith_K0 (first:=[.ref a]) d.kIn g.kp (Y0 (us:=[.ref a]) (vs:=[.ref a]) F G S L z d (.cons rfl .nil) q)
structure Mk (K:aI) (C f:Addr):Prop where
 makes:D3 K C=E2
 init:gX K (.ref C) "__init__"=X0 (X0 (.ref f))
 fn:tm K (.ref f)=E2
 kp:jI K (.ref C)=E2
def gk{g:St}{H:Hp}{Q:VK}{vs:List V}(M:Mk X.K C f)(F:kr X.prog X.w X.K X.mg X.base CX k f fd ps sp)(S:Room (k+1) X.A)(W:MV X.K fd ps ds)(U:cx dvs ds)(J:N6 CX X E)(I:Inv X π g H s)(r:cx vs us)(h:∀x dx,H x=W1->H dx=W1->dx≠x->sp (.ref x::(vs++dvs)) (fk (fk H dx (.own x)) x (.ins C dx [])) (λv H2=>v=.non/\Q (.ref x) H2) E):
  ag .(3) X.A (call (.ref C) us) (EP X π g Q) X.xe s:=by
 have T:=h .(12) s.heap.objs.size (I.hok.fresh (kz _)) (I.hok.fresh (aw _)) (bX (tq _));have O:=Inv.made (C:=C) I;have L:cx (V.ref .(12)::(vs++dvs)) (bg .(12)::(us++ds)):=.cons rfl (r.append U);have Y:(bg .(12)::us++ds).length=ps.length:=by
  have e:=L.length;rw[F.len _ _ _ _ T] at e;exact e.symm
 refine D7 (gY (f:=f) I.kIn M.makes M.init (beq_iff_eq.mp M.fn) (rq (F.run _ X.stack _ _ ⟨bg .(12)::us,[]⟩ (bg .(12)::(us++ds)) _ _ E (S.make C us [])
  (O.env0.make C us []) (W _ (bg .(12)::us) O.kIn Y) L T) λr z d=>?_))
 cases r with
 |error e=>exact J π g _ _ e z O d
 |ok Z=>
  cases Z with
  |ret u=>
   obtain⟨v,H',I3,G,ev,q3⟩:=O.after d;subst ev;exact⟨G,⟨V.ref .(12),H',I3,rfl,q3⟩⟩
  |next=>exact ku d
  |brk=>exact ku d
  |cont=>exact ku d
def qJ(M:Mk X.K C f)(F:kr X.prog X.w X.K X.mg X.base CX k f fd ps sp)(L:Room (k+1) X.A)(U:Gl X x)(O:X.mg x=X0 (.ref C))(W:MV X.K fd ps ds)(T:cx dvs ds)(J:N6 CX X E)(Y:PA X (e::es) t)(g:.(8)=E3:=by decide)(S:ay (e::es) X.env=(E3,eval e X.env)::ay es X.env:=by rfl)(d:(dn pos (ay es X.env)).any (·.1)=E3:=by rfl):
  PE X (.Call (.Name x p) (e::es) [] pos) (zp C sp dvs E t):=by
 intro G s z H Q I h;refine tz (Vo I U O ?_ g);refine D8 (h₀:=X.base) I.ok.mod.kin M.kp (mo (Y pos G s z H _ I h) λus s1 ⟨Z,H1,v,r,q⟩=>⟨v.kIn,?_⟩) S d;exact gk M F L W T J v r q
end
def PK(X:Cx)(r:List ib)(t:TA):Prop:=
 ∀(d:Pos) (v:zP) (s:ah) (g:St) (H:Hp) (Q:List V->Hp->Prop),Inv X v g H s->t g H Q->ag .(3) X.A (evalAll ((jS d (i9 r X.env)).map (·.2))) (AP X v g Q) X.xe s
section
variable {X:Cx}{CX:CXT}{k:Nat}{f:Addr}{ks:List Str}{sp:Sp}{E:XK}{p kpos:Pos}{es:List Expr}{kws:List ib}{te:TE}{t tk:TA}{nm:Option Str}
def gr:PK X [] tNil:=λ_ _ _ _ H Q I h=>wpAny_evalAll_nil ⟨[],H,I,.nil,h⟩
theorem Z4(O:PE X e te)(J:PK X kws t):PK X (⟨nm,e,kpos⟩::kws) (W4 te t):=by
 intro d r s g H Q I h;show ag _ _ (evalAll ((do let v <-eval e X.env;pw d;pure v)::(jS d (i9 kws X.env)).map (·.2))) _ _ s;refine wpAny_evalAll_cons (ae (mo (O r s g H _ I h) λu F ⟨x,W,T,G,q1⟩=>ae (AD (ar ?_))));exact mo (J d r F g W _ T q1) (by rintro Y Z ⟨z,U,S,L,q2⟩;exact ⟨x::z,U,S,.cons G L,q2⟩)
variable {g:List ac->List ac->List ac}{gV:List V->List V->List V}
end
structure bc (N P:List Str) (sc:kP):Prop where
 kind:sc.kind=.function
 co:sc.isCoroutine=E3
 gen:sc.isGenerator=E3
 nd:N.Nodup
 pre:N.take P.length=P
 par:∀x∈P,sc.names.lookup x=X0 .local ∨sc.names.lookup x=X0 .cell
 nofree:∀y∈sc.names,y.2≠.free
theorem U6{d:Str->Option ke}{x:Str}:∀{binds:List (Str×ac)}{m:Str->Option ac},(∀v,(x,v)∉binds)->pS d binds m x=m x
 |[],_,_=>rfl
 | (n,v)::r,m,h=>by
  unfold pS;rw[U6 λw g=>h w (cp _ g)];split
  .have:x≠n:=by rintro rfl;exact h v df
   simp[this]
  .rfl
theorem U7{d:Str->Option ke}{x:Str}:∀{binds:List (Str×ac)}{m:Str->Option ac},(∀v,(x,v)∉binds)->pT d binds m x=m x
 |[],_,_=>rfl
 | (n,v)::r,m,h=>by
  unfold pT;rw[U7 λw g=>h w (cp _ g)];split
  .rfl
  .have:x≠n:=by rintro rfl;exact h v df
   simp[this]
theorem U8{d:Str->Option ke}{x:Str}{v:ac}:∀{P:List Str}{vs:List ac}{i:Nat}{m:Str->Option ac},P.Nodup->P[i]?=X0 x->vs[i]?=X0 v->d x=X0 .local ->
  pS d (P.zip vs) m x=X0 v
 |[],_,_,_,_,h,_,_=>by simp at h
 |_::_,[],_,_,_,_,h,_=>by simp at h
 |p::P,w::vs,0,m,z,r,g,I=>by
  simp at r g;subst r;subst g;show pS d ((p,w)::P.zip vs) m p=_;unfold pS;rw[U6 λv F=>(iF.mp z).1 (D9 F).1,SF I];simp
 |p::P,w::vs,i+1,m,z,r,g,I=>by
  show pS d ((p,w)::P.zip vs) m x=_;unfold pS;exact U8 (i:=i) (iF.mp z).2 (by simpa using r) (by simpa using g) I
theorem U9{d:Str->Option ke}{x:Str}{v:ac}:∀{P:List Str}{vs:List ac}{i:Nat}{m:Str->Option ac},P.Nodup->P[i]?=X0 x->vs[i]?=X0 v->d x≠X0 .local ->
  pT d (P.zip vs) m x=X0 v
 |[],_,_,_,_,h,_,_=>by simp at h
 |_::_,[],_,_,_,_,h,_=>by simp at h
 |p::P,w::vs,0,m,z,r,g,I=>by
  simp at r g;subst r;subst g;show pT d ((p,w)::P.zip vs) m p=_;unfold pT;rw[U7 λv F=>(iF.mp z).1 (D9 F).1,UF I];simp
 |p::P,w::vs,i+1,m,z,r,g,I=>by
  show pT d ((p,w)::P.zip vs) m x=_;unfold pT;exact U9 (i:=i) (iF.mp z).2 (by simpa using r) (by simpa using g) I
def start(N:List Str)(vs:List V):St:=vs.map X0++xp (N.length-vs.length) W1
def Po(CX:CXT)(P:cr)(w:bP)(K:aI)(mg:Str->Option ac)(base:Heap)(N:List Str)(g:Str)(d:kP)(f:Addr)(v:ac)(A:aE)(outer:List Env)(s:ah)(H:Hp)(E:XK):Cx where
 prog:=P
 w:=w
 K:=K
 mg:=mg
 base:=base
 A:=A.deeper (gy g d s.heap.objs.size f v)
 N:=N
 s₀:=s
 H₀:=H
 env:=gy g d s.heap.objs.size f v
 outer:=outer
 stack:=gy g d s.heap.objs.size f v::outer
 ex:=[]
 calm:=E2
 fn:=λ_=>E2
 pn:=[]
 xe:=λe z=>ag (ai P w) (A.deeper (gy g d s.heap.objs.size f v)) (leaving (gy g d s.heap.objs.size f v) e) (λ_ r=>CX outer H s E e r) (λO r=>CX outer H s E O r) z
def W5(h:sc.names.lookup x=X0 .cell):∃c,(cellsFrom n sc.names []).lookup x=X0 c:=by
 have q:=HP sc.names n [] (.inl h);exact AE.mp q
theorem dW{CX:CXT}{K:aI}{base:Heap}{f:Addr}{U:ac}{A:aE}{d:List Env}{s1:ah}{H:Hp}{E:XK}{vs:List V}(S:bc N ps scope)(hd:A.handled=W1)(F:Zp P w K mg base A d s H)(hl:vs.length=ps.length)(r:cx vs us)(x:InCallC s s.heap.objs.size (pS (gy qual scope s.heap.objs.size f U).kindOf (ps.zip us) λ_=>W1) (cellsFrom .(12) scope.names []) (pT (gy qual scope s.heap.objs.size f U).kindOf (ps.zip us) λ_=>W1) s1):
  Inv (Po CX P w K mg base N qual scope f U A d s H E) [] (start N vs) H s1:=by
 have Z:ps.length<=N.length:=by have:=SG cy S.pre;rw[kf] at this;omega
 obtain⟨T,tk,rfl,X⟩:=x.done;have G:∀b:Addr,b∉(Po CX P w K mg base N qual scope f U A d s H E).ex:=λb z=>MG (show b∈([]:List Addr) from z) .(1);refine⟨⟨F.mod,S.kind,rfl,rfl,aw _,λy z c T g=>?_,λy I=>?_,λy c _ h=>?_,λ_=>hd,Around.frames_deeper F.frames,.inr ⟨rfl,rfl⟩,λb z=>MG z (G b),F.bs,F.bsz,λb _ _=>G b,λb z=>MG z (G b),F.funs,F.frf⟩,
  rfl,F.bare,Un.kept X,⟨_,x.toInCall.ns,λi y v T g h3=>?_⟩,λy c h=>⟨_,x.cell y c h⟩,F.hok.fresh (aw _),λy c h=>?_,λp L=>MG (show p∈([]:zP) from L) .(1),F.hok.kept X,?_⟩
 .exact name_of_addr x.apart (xt T) (xt g)
 .have I:scope.names.lookup y=X0 .cell ∨scope.names.lookup y=X0 .free :=I
  rcases I with I | I
  .exact W5 I
  .exact MG rfl (S.nofree _ (xt I))
 .exact sR (x.above y c (xt h))
 .have O:i<vs.length:=by
   unfold start at g
   by_cases O:i<vs.length
   .exact O
   .rw[kS (by simpa using O)] at g;rw[AF] at g;split at g<;>cases g
  have ha:vs[i]?=X0 v:=by
   unfold start at g;rw[m4 (by simpa using O),br] at g;cases e:vs[i]? with
   |none=>rw[e] at g;cases g
   |some a=>rw[e] at g;cases g;rfl
  obtain⟨u,W,Y⟩:=r.get ha;have L:ps[i]?=X0 y:=by
   rw[<-S.pre,Da .(0)];exact T
  have J:ps.Nodup:=by rw[<-S.pre];exact S.nd.sublist (List.take_sublist _ _)
  refine⟨u,Y,?_⟩
  rcases S.par y (ic L) with k | k
  .exact .inl ⟨k,U8 J L W k⟩
  .obtain⟨c,e⟩:=W5 (n:=s.heap.objs.size+1) k;refine .inr ⟨.inl k,c,e,?_⟩;have q:=x.cell y c e;rw[U9 J L W (by show scope.names.lookup y≠_;rw[k];decide)] at q;exact q
 .exact F.hok.fresh (sR (x.above y c (xt h)))
 .unfold start;show _=N.length;rw[fh,av,xv];omega
def gw{CX:CXT}{K:aI}{base:Heap}{k:Nat}{f:Addr}{name:Str}{g:Arguments}{dV kV:ac}{sp:Sp}(lk:K.lookup f=X0 ⟨oc,od,.func (iL name qual g body scope dV kV doc pm an cdv ct),osl⟩)(Z:pV K cdv qual=E2)(S:bc N ps scope)(len:∀vs H Q E,sp vs H Q E->vs.length=ps.length)(L:∀(A:aE) (d:List Env) (s:ah) (H:Hp) (vs:List V) (Q:VK) (E:XK),Room k (A.deeper (gy qual scope s.heap.objs.size f cdv))->sp vs H Q E ->
   ∃t,SV (Po CX P w K mg base N qual scope f cdv A d s H E) body t/\t { nx:=λ_ F=>Q .non F,rt:=Q } (start N vs) H):
  kr P w K mg base CX (k+1) f (iL name qual g body scope dV kV doc pm an cdv ct) ps sp:=by
 refine⟨len,λA d s H N0 us vs Q E Y T hb r O=>?_⟩;have hl:=len _ _ _ _ O;have KX:K.In s.heap:=T.mod.kin.keeps λb o e=>(T.bs b o e).1;have X:s.heap.NoLimit:=T.mod.nolimit.keeps λb o e=>(T.bs b o e).1;have G:∀y∈ps.zip us,scope.names.lookup y.1=X0 .local ∨(scope.names.lookup y.1=X0 .cell /\((cellsFrom .(12) scope.names []).lookup y.1).isSome=E2):=by
  rintro ⟨n,v⟩ hy
  rcases S.par n (D9 hy).1 with q | q
  .exact .inl q
  .exact .inr ⟨q,HP _ _ _ (.inl q)⟩
 refine codeAny_call_function Y.depth (KX _ _ lk) rfl S.co S.gen rfl (PySem.W.codeRec_of KX Z) (hb _ _ _ _ ?_);refine wpAny_newFunctionEnv_cells S.kind G λO0 he s1 x=>?_;subst he;refine⟨X.keeps x.toInCall.keep,codeAny_func ?_⟩;obtain⟨t,ht,hq⟩:=L A d s H vs Q E (Y.deeper _) O;have I:Inv (Po CX P w K mg base N qual scope f cdv A d s H E) [] (start N vs) H s1:=dW S Y.hd T hl r x;refine i7 (ht [] s1 (start N vs) H _ I hq) (λfl s' hs=>?_) λe s' hs=>hs;have rz:∀{z:St}{F:Hp}{v:V}{u:ac},Inv (Po CX P w K mg base N qual scope f cdv A d s H E) [] z F s'->dm v u->Q v F->CE d P w H s Q u s':=
  λ{z F v u} J U q=>⟨v,F,J.os,J.bare,J.base,J.hok,U,q⟩
 cases fl with
 |ret u=>
  obtain⟨v,z,F,J,U,q⟩:=hs;exact rz J U q
 |next=>
  obtain⟨z,F,J,q⟩:=hs;exact rz (v:=V.non) (u:=hU) J rfl q
 |brk=>
  obtain⟨_,_,_,q⟩:=hs;exact ku q
 |cont=>
  obtain⟨_,_,_,q⟩:=hs;exact ku q
end L2
variable {xs ys:List L2.V}{H H' H1 H2 F2 F1 He Hf:L2.Hp}{v:L2.V}{X:L2.Cx}{σ:L2.St}{tc:L2.TT}{te:L2.TE}{CX:L2.CXT}{r:List L2.V->L2.Hp->L2.VK->Prop}{kvs:List (List L2.Key×L2.V)}{ks:List (List L2.Key)}{F:List (List L2.Key)->Int}
namespace L2
open PySem PySem.Spec PyProof.Rows
section
variable {p:Pos}{es:List Expr}{t:TA}{id T:String}
def tCB(r:List V->Hp->VK->Prop)(t:TA):TE:=λg H Q=>t g H λvs z=>r vs z Q
def Oz(hc:Di X (.builtin id) r)(Z:Gl X x)(Y:X.mg x=W1)(U:dL x=X0 (.builtin id))(ha:PA X (e::es) t)(W:x≠"__name__":=by decide)(g:.(8)=E3:=by decide)(he:ay (e::es) X.env=(E3,eval e X.env)::ay es X.env:=by rfl)(d:(dn pos (ay es X.env)).any (·.1)=E3:=by rfl):PE X (.Call (.Name x p) (e::es) [] pos) (tCB r t):=by
 intro G s z H Q I h;refine tz (N5 I Z Y U ?_ W g);exact PyProof.Rows.callWith_builtin1 (mo (ha pos G s z H _ I h) (by rintro L O ⟨J,H1,I1,S,q1⟩;exact hc G O z H1 J L Q I1 S q1)) he d
def HH(hc:Di X (.type T) r)(Z:Gl X x)(Y:X.mg x=W1)(U:dL x=X0 (.type T))(ha:PA X (e::es) t)(W:x≠"__name__":=by decide)(g:.(8)=E3:=by decide)(he:ay (e::es) X.env=(E3,eval e X.env)::ay es X.env:=by rfl)(d:(dn pos (ay es X.env)).any (·.1)=E3:=by rfl):PE X (.Call (.Name x p) (e::es) [] pos) (tCB r t):=by
 intro G s z H Q I h;refine tz (N5 I Z Y U ?_ W g);exact AA (mo (ha pos G s z H _ I h) (by rintro L O ⟨J,H1,I1,S,q1⟩;exact hc G O z H1 J L Q I1 S q1)) he d
end
end L2
namespace HT
open PySem PyProof.Rows
section
open PySem.SeqAt
open PySem.AutoSeq1 (wpAny_loadPart')
open PySem.MeetsSeq PySem.MeetsSeq2 PySem.MeetsSeq3
end
section
variable {A:aE}
def qK{t:Addr}{g:List ac}{Q:ac->ah->Prop}(ht:IsTup s.heap t vs.toArray)(hb:IsTup s.heap b g.toArray)(T:vs≠[])(h1:g=[]->Q (.ref t) s)(h2:g≠[]->Q .(11) { s with heap:=s.heap.push { cls:=.type "tuple",data:=.seq (vs++g).toArray } })(hsz:vs.length+g.length<=sizeLine):ag (ai prog w) A (kx .Add (.ref t) (.ref b)) Q E s:=by
 obtain⟨⟨cls,Z,data,W⟩,O,Y,n,U⟩:=id ht;obtain⟨⟨N0,J,S,z⟩,d,I,n2,G⟩:=id hb;simp only at Y U I G;subst Y U I G;have e:vs.toArray++g.toArray=(vs++g).toArray:=by simp
 by_cases L:g=[]
 .exact AG ⟨_,O,rfl⟩ ⟨_,d,rfl⟩ DA DB DC DD (DE _ _)
   (tuple_addW1 t b vs.toArray g.toArray n n2 Z J W z (by simpa using T) (by simp[L])) ⟨O,d,h1 L⟩
 .refine AG ⟨_,O,rfl⟩ ⟨_,d,rfl⟩ DA DB DC DD (DE _ _)
   (tuple_addW2 t b vs.toArray g.toArray n n2 Z J W z (by simpa using T) (by simpa using L) (by rw[ck,ck];exact hsz)) ⟨O,d,?_⟩
  rw[e];exact h2 L
def sIx(n d:Nat):Option Int->Nat
 |none=>d
 |some v=>if v<0 then (v+(n:Int)).toNat else min v.toNat n
def qL(n d k:Nat):sIx n d (X0 (k:Int))=min k n:=by
 show (if (k:Int)<0 then ((k:Int)+(n:Int)).toNat else min (k:Int).toNat n)=min k n;rw[UF .(0),eC]
def wU(n d:Nat)(z:d<=n)(o:Option Int):sIx n d o<=n:=by
 cases o with
 |none=>exact z
 |some v=>
  show (if v<0 then (v+(n:Int)).toNat else min v.toNat n)<=n
  by_cases g:v<0
  .rw[SF g];omega
  .rw[UF g];exact Nat.min_le_right _ _
def Z5(v:Int)(n d:Nat):(if v<0 then max (v+(n:Int)) 0 else min v (n:Int))=((sIx n d (X0 v):Nat):Int):=by
 show (if v<0 then max (v+(n:Int)) 0 else min v (n:Int))=(((if v<0 then (v+(n:Int)).toNat else min v.toNat n):Nat):Int)
 by_cases g:v<0
 .simp only[SF g];omega
 .simp only[UF g];omega
def Y4(d z:Option Int)(n:Nat):DF d z 1 (n:Int)=(((sIx n 0 d:Nat):Int),((sIx n n z:Nat):Int)):=by
 have g:¬ ((1:Int)<0):=by omega
 unfold DF;simp only[g,NH];refine rS ?_ ?_
 .cases d with
  |none=>rfl
  |some v=>exact Z5 v n 0
 .cases z with
  |none=>rfl
  |some v=>exact Z5 v n n
def Y5(i j:Nat):AH (i:Int) (j:Int) 1=j-i:=by
 unfold AH;have g:(1:Int) > 0:=by omega
 simp only[g,MH,HU];split<;>omega
def Su{v:ac}{o:Option Int}{Q:Option Int->ah->Prop}(p:qa v o)(h:Q o s):ag (ai prog w) A (Builtin.Slice.slicePartIndex v) Q E s:=by
 cases p with
 |none=>exact slicePart_none h
 |int i t=>exact slicePart_int h
theorem Qd{sl:Addr}{J I:ac}{d z:Option Int}{Q:Int×Int×Nat->ah->Prop}(hs:s.heap.IsSliceOf sl J I .none)(pl:qa J d)(pu:qa I z)(h:Q (((sIx n 0 d:Nat):Int),1,sIx n n z-sIx n 0 d) s):ag (ai prog w) A (HV (.ref sl) (pure (n:Int))) Q E s:=by
 obtain⟨O,g,L,G⟩:=id hs;unfold HV Builtin.Slice.sliceFields;refine ae (ae (kA g G (x:=J) rfl (ae (kA g G (x:=I) rfl (ae (kA g G (x:=.none) rfl (ar ?_)))))));refine ae (slicePart_none ?_);show ag _ _ (if ((1:Int)==0)=E2 then _ else _) _ _ s;rw[UF .(2)];refine ae (Su pl (ae (Su pu (ae (ar ?_)))));show ag _ _ (match DF d z 1 (n:Int) with | (d,z)=>pure (d,(1:Int),AH d z 1)) _ _ s;rw[Y4 d z n];show ag _ _ (pure (((sIx n 0 d:Nat):Int),(1:Int),AH ((sIx n 0 d:Nat):Int) ((sIx n n z:Nat):Int) 1)) _ _ s;rw[Y5];exact ar h
def g8(xs:Array ac)(i k:Nat):((aS k).filterMap λ(m:Nat)=>xs[((i:Int)+(m:Int)*1).toNat]?).toArray=((xs.toList.drop i).take k).toArray:=by
 have e:(λ(m:Nat)=>xs[((i:Int)+(m:Int)*1).toNat]?)=λm=>xs[i+m]?:=by
  funext m;have:((i:Int)+(m:Int)*1).toNat=i+m:=by omega
  rw[this]
 rw[e];have:=pick_run xs i k;rw[HZ] at this;have d:((λx=>xs[x]?) ∘ λx=>i+x)=λm=>xs[i+m]?:=rfl;rw[d] at this;rw[this]
theorem O1{t sl:Addr}{items:Array ac}{T S:ac}{g z:Option Int}{Q:ac->ah->Prop}(O:IsTup s.heap t items)(hs:s.heap.IsSliceOf sl T S .none)(pl:qa T g)(pu:qa S z)(W:¬ (sIx items.size 0 g=0/\sIx items.size items.size z=items.size))(h:Q .(11) { s with heap:=s.heap.push { cls:=.type "tuple",data:=.seq ((items.toList.drop (sIx items.size 0 g)).take (sIx items.size items.size z-sIx items.size 0 g)).toArray } })(hsz:items.size<=sizeLine):ag (ai prog w) A (nX (.ref t) (.ref sl)) Q E s:=by
 have d:sizeOk (.seq ((items.toList.drop (sIx items.size 0 g)).take (sIx items.size items.size z-sIx items.size 0 g)).toArray):=by
  show ((items.toList.drop (sIx items.size 0 g)).take (sIx items.size items.size z-sIx items.size 0 g)).toArray.size<=sizeLine;rw[ck,kf,mP,i8];omega
 have Z:sIx items.size items.size z<=items.size:=wU _ _ (aw _) z;obtain⟨U,G,L,Y⟩:=id hs;have J:s.TypeIs (.ref sl) "slice":=⟨U,G,L⟩;unfold nX
 try with_reducible refine wpAny_holding ?_
 first | refine ae (ar ?_) | skip
 refine ae (wpAny_sequenceKey O.typeIs .(2) ?_);refine ae (o0 (name:=dA "__getitem__") O.typeIs DH
  (hZ DH O.typeIs entry_tuple_getitem ?_ (args_tuple_getitem _ _)))
 show ag _ _ (GA (.ref t) >>= _) _ _ s;refine ae (tupleItemsOf_ O ?_);refine ae (xw J ?_);rw[SF .(2)];refine ae (Qd hs pl pu ?_);have I:¬ ((((sIx items.size 0 g:Nat):Int)==0&&(1:Int)==1&&(sIx items.size items.size z-sIx items.size 0 g)==items.size)=E2):=by
  intro q;rw[eP,eP] at q;have q1:((sIx items.size 0 g:Nat):Int)=0:=eq_of_beq q.1.1;have q2:sIx items.size items.size z-sIx items.size 0 g=items.size:=eq_of_beq q.2;exact W ⟨by omega,by omega⟩
 show ag _ _ (if (((sIx items.size 0 g:Nat):Int)==0&&(1:Int)==1&&(sIx items.size items.size z-sIx items.size 0 g)==items.size)=E2 then _ else _) _ _ s;rw[UF I,g8]
 first
  |exact ae (m:=AI _) (kB (ar ⟨_,rfl,ar h⟩) d)
  |exact ae (m:=AI _) (kB (ae (ar (ar ⟨_,rfl,ar h⟩))) d)
  |exact ae (ae (m:=AI _) (kB (ar (ar ⟨_,rfl,ar h⟩)) d))
  |exact ae (ae (m:=AI _) (kB (ar ⟨_,rfl,ar h⟩) d))
end
end HT
namespace L2
open PySem PySem.Spec PyProof.Rows
abbrev TO:=St->Hp->(Option Int->Hp->Prop)->Prop
def PO(X:Cx)(e:Option Expr)(t:TO):Prop:=
 ∀(d:zP) (s:ah) (g:St) (H:Hp) (Q:Option Int->Hp->Prop),Inv X d g H s->t g H Q ->
  ag .(3) X.A (evalPart e X.env) (λu G=>∃o z,Inv X d g z G/\qa u o/\Q o z) X.xe s
def qM:TO:=λ_ H Q=>Q W1 H
def zq(t:TE):TO:=λg H Q=>t g H λx z=>∃i,x=.int i/\Q (X0 i) z
section
variable {lo hi:Option Expr}{tl th:TO}
def qN:PO X W1 qM:=by
 intro d s g H Q I h;rw[evalPart_none];exact ar ⟨W1,H,I,.none,h⟩
def qO(h:PE X e te):PO X (X0 e) (zq te):=by
 intro d s g H Q I z;rw[evalPart_some];refine mo (h d s g H _ I z) λu O q0=>?_;obtain⟨x,L,J,G,q1⟩:=q0;obtain⟨i,rfl,q⟩:=q1;obtain⟨t,rfl⟩:=G;exact⟨X0 i,L,J,.int i t,q⟩
def SlR(X:Cx)(r:V->Option Int->Option Int->Hp->VK->Prop):Prop:=
 ∀(d:zP) (s:ah) (g:St) (H:Hp) (x:V) (v J I:ac) (z G:Option Int) (sl:Addr) (Q:VK),Inv X d g H s->dm x v->s.heap.IsSliceOf sl J I .none->qa J z->qa I G->r x z G H Q ->
  ∃T id,DI (.type T) "__getitem__"=pure (X0 (.builtin id))/\s.TypeIs v T/\ag .(3) X.A (nX v (.ref sl)) (EP X d g Q) X.xe s
def SlR.or{r L:V->Option Int->Option Int->Hp->VK->Prop}(h:SlR X r)(h':SlR X L):SlR X (λx lo hi H Q=>r x lo hi H Q∨L x lo hi H Q):=by
 intro d s g H x v J z lo hi W Q I rx hs G pu q
 rcases q with q | q
 .exact h d s g H x v J z lo hi W Q I rx hs G pu q
 .exact h' d s g H x v J z lo hi W Q I rx hs G pu q
def tSl(r:V->Option Int->Option Int->Hp->VK->Prop)(te:TE)(d z:TO):TE:=λg H Q=>te g H λx J=>d g J λl I=>z g I λu G=>r x l u G Q
theorem g_{r:V->Option Int->Option Int->Hp->VK->Prop}(Z:SlR X r)(he:PE X e te)(hl:PO X lo tl)(Y:PO X hi th):PE X (.Subscript e (.Slice lo hi W1 p2) pos) (tSl r te tl th):=by
 intro d s g H Q I h;refine DJ (mo (he d s g H _ I h) λv L q9=>?_);obtain⟨x,H1,I1,O,q1⟩:=q9;refine wpAny_Slice (mo (hl d L g H1 _ I1 q1) λJ S ⟨l,H2,I2,U,q2⟩=>mo (Y d S g H2 _ I2 q2) λz W p0=>?_);obtain⟨u,G,I3,pu,q3⟩:=p0;rw[evalPart_none];refine ar ?_;have I4:Inv X d g G { W with heap:=W.heap.push { cls:=.type "slice",data:=.fields #[J,z,.none] } }:=I3.kept (t':=W.toks) λb ob q=>ba _ q;obtain⟨T,id,hT,ht,hg⟩:=Z d { W with heap:=W.heap.push { cls:=.type "slice",data:=.fields #[J,z,.none] } } g G x v J z l u W.heap.objs.size Q I4 O (Heap.IsSliceOf.new ..) U pu q3;show ag .(3) X.A (AJ e (.Slice lo hi W1 p2) v (.ref W.heap.objs.size)) (EP X d g Q) X.xe { W with heap:=W.heap.push { cls:=.type "slice",data:=.fields #[J,z,.none] } };exact tail_any (ops:=[.ref W.heap.objs.size,v]) ht hT hg (by with_unfolding_all rfl)
def WI(xs:List V)(d z:Option Int):List V:=(xs.drop (HT.sIx xs.length 0 d)).take (HT.sIx xs.length xs.length z-HT.sIx xs.length 0 d)
def RJ(xs:List V)(d z:Option Int):(WI xs d z).length<=xs.length:=by
 unfold WI;rw[kf,mP];omega
def rSlT(K:aI):V->Option Int->Option Int->Hp->VK->Prop:=λx d z H Q=>∃a xs,x=.ref a/\MZ K H a xs ∧
 ¬ (HT.sIx xs.length 0 d=0/\HT.sIx xs.length xs.length z=xs.length)/\∀p,H p=W1->Q (.ref p) (fk H p (.tup (WI xs d z)))
theorem wV:SlR X (rSlT X.K):=by
 intro Y s W H x v vl Z z J sl Q I rx hs S pu h;obtain⟨a,d,rfl,T,U,q⟩:=h;cases rx;obtain⟨G,r,L,O⟩:=I.tuple T;have g:G.toArray.size=d.length:=by rw[ck];exact r.length.symm
 refine⟨"tuple",_,DH.lookup,L.typeIs,?_⟩;refine HT.O1 L hs S pu (by rw[g];exact U) ?_ (by rw[g];exact O);rw[g];refine⟨.ref s.heap.objs.size,_,I.laid (t':=s.toks) (o:=.tup (WI d z J)) (λb ob q=>ba _ q) (aw _) ?_,rfl,q _ (I.hok.fresh (aw _))⟩;exact⟨cw (RJ d z J) O,_,(r.drop (HT.sIx d.length 0 z)).take (HT.sIx d.length d.length J-HT.sIx d.length 0 z),DL _ _⟩
def cx.nil_iff(r:cx xs us):us=[]↔xs=[]:=by
 cases r with
 |nil=>simp
 |cons _ _=>simp
end
def ixN(n:Nat)(i:Int):Option Nat:=if 0<=i then (if i<n then X0 i.toNat else W1) else if -(n:Int)<=i then X0 (i+n).toNat else W1
def atI{α:Type}(xs:List α)(i:Int):Option α:=(ixN xs.length i).bind λj=>xs[j]?
def qP{i:Int}(h:ixN n i=X0 j):AK i n=X0 j/\j<n/\-(n:Int)<=i/\i<n:=by
 unfold ixN at h
 by_cases J:0<=i
 .rw[SF J] at h
  by_cases g:i<n
  .rw[SF g] at h;have e:i.toNat=j:=cS h;exact⟨by rw[seqIndex_of J g,e],by omega,by omega,g⟩
  .rw[UF g] at h;cases h
 .rw[UF J] at h
  by_cases g : -(n:Int)<=i
  .rw[SF g] at h;have e:(i+n).toNat=j:=cS h;exact⟨by rw[seqIndex_neg .(0) g,e],by omega,g,by omega⟩
  .rw[UF g] at h;cases h
def Vt{d:Type}{xs:List d}{i:Int}{v:d}(h:atI xs i=X0 v):∃j,AK i xs.length=X0 j/\xs[j]?=X0 v/\j<xs.length/\-(xs.length:Int)<=i/\i<xs.length:=by
 unfold atI at h;cases e:ixN xs.length i with
 |none=>rw[e] at h;cases h
 |some j=>
  rw[e] at h;obtain⟨G,z,S,g⟩:=qP e;exact⟨j,G,h,z,S,g⟩
def O2(b:Expr):Prop:=∀o i,xy b E3 o i=operate [o,i] (nX o i)
def IxR(X:Cx)(r:R2):Prop:=
 ∀(g d:Expr) (G:zP) (s:ah) (z:St) (H:Hp) (x y:V) (v u:ac) (Q:VK),Inv X G z H s->dm x v->dm y u->r x y H Q ->
  xy d E3 v u=operate [v,u] (nX v u)->ag .(3) X.A (AJ g d v u) (EP X G z Q) X.xe s
def MtR(X:Cx)(id:String)(r:V->List V->Hp->VK->Prop):Prop:=
 ∀(d:zP) (s:ah) (g:St) (H:Hp) (x:V) (xs:List V) (v:ac) (us:List ac) (Q:VK),Inv X d g H s->dm x v->cx xs us->r x xs H Q ->
  ag .(3) X.A (call (.builtin id) (v::us)) (EP X d g Q) X.xe s
section
variable {a b:Expr}{ta tb:TE}
def IxR.or{r L:R2}(h:IxR X r)(h':IxR X L):IxR X (λx y H Q=>r x y H Q∨L x y H Q):=by
 intro g d G s z H x y v u Q I rx J q hs
 rcases q with q | q
 .exact h g d G s z H x y v u Q I rx J q hs
 .exact h' g d G s z H x y v u Q I rx J q hs
def uh{r:R2}(G:IxR X r)(L:PE X a ta)(J:PE X b tb)(hs:O2 b):PE X (.Subscript a b pos) (tOp r ta tb):=by
 intro d s g H Q I h;exact DJ (binT L J I h λv u S x y T O rx z q=>G a b d S g T x y v u Q O rx z q (hs _ _))
def rIxL(K:aI):R2:=λx y H Q=>∃p xs i v,x=.ref p/\y=.int i/\MO K H p xs/\atI xs i=X0 v/\Q v H
def rIxT(K:aI):R2:=λx y H Q=>∃p xs i v,x=.ref p/\y=.int i/\MZ K H p xs/\atI xs i=X0 v/\Q v H
def rIxS:R2:=λx y H Q=>∃z i c,x=.str z/\y=.int i/\z.length<=sizeLine/\atI z.cps.toList i=X0 c/\Q (.str ⟨#[c]⟩) H
def qQ:IxR X (rIxL X.K):=by
 intro d G T s S H x y v u Q I rx ry h hs;obtain⟨p,xs,i,z,rfl,rfl,hq,he,q⟩:=h;cases rx;obtain⟨t,rfl⟩:=ry;obtain⟨O,r,L,hz⟩:=I.list hq;obtain⟨j,g,h2,h3,h4,h5⟩:=Vt he;obtain⟨w,Y,J⟩:=r.get h2;have hl:=r.length;have hn:=Sq;have rz:EP X T S Q w s:=⟨z,H,I,J,q⟩
 by_cases W:0<=i
 .have U:i.toNat=j:=by
   rw[seqIndex_of W h5] at g;exact cS g
  exact item_listR L.isList W .(0) (by rw[U];simpa using Y) rz hs
 .have U:(i+(O.toArray.size:Int)).toNat=j:=by
   rw[seqIndex_neg .(0) h4] at g;rw[ck,<-hl];exact cS g
  exact Ic (x:=w) L.isList.typeIs Iq.lookup
   (wpAny_getItem_list_neg (Q:=λr Z=>r=w/\EP X T S Q r Z) L.isList .(0) (by rw[ck]<;>omega) .(0) (by rw[U];simpa using Y) ⟨rfl,rz⟩) hs
def wW:IxR X (rIxT X.K):=by
 intro g d L s G H x y v u Q I rx T h hs;obtain⟨p,xs,i,z,rfl,rfl,W,Z,q⟩:=h;cases rx;obtain⟨t,rfl⟩:=T;obtain⟨U,r,O,hz⟩:=I.tuple W;obtain⟨j,h1,h2,h3,h4,h5⟩:=Vt Z;obtain⟨w,ew,J⟩:=r.get h2;have Y:=r.length;have hn:=Sq;have rz:EP X L G Q w s:=⟨z,H,I,J,q⟩;exact Ic (x:=w) O.typeIs slot_tuple_getitem.lookup
  (getItem_tuple (j:=j) (Q:=λr S=>r=w/\EP X L G Q r S) O .(0) .(0) (by rw[ck,<-Y];exact h1) (by simpa using ew) ⟨rfl,rz⟩) hs
def Vu:IxR X rIxS:=by
 intro g d π s Z H x y v u Q I rx J h hs;obtain⟨z,i,c,rfl,rfl,hz,L,q⟩:=h;obtain⟨t,rfl⟩:=rx;obtain⟨t',rfl⟩:=J;obtain⟨j,G,T,h3,S,O⟩:=Vt L;have Y:z.cps.toList.length=z.length:=by simp[oa]
 rw[Y] at G S O;have hn:=Sq;exact tail_any (DM s z t) slot_str_getitem.lookup (getItem_str (c:=c) (by
  have W:decide (i < -(2^63:Int))=E3:=NG .(0);have U:decide (i≥2^63)=E3:=NG .(0);rw[W,U,Bool.or_false]) (by rw[G];simpa using T) ⟨.str ⟨#[c]⟩,H,I.tok _,⟨_,rfl⟩,q⟩) hs
def rIx(K:aI):R2:=λx y H Q=>rIxL K x y H Q∨rIxT K x y H Q∨rIxS x y H Q
def h_:IxR X (rIx X.K):=qQ.or (wW.or Vu)
def Vv(d z:Option Int)(n:Nat):(rX d z W1 n).1=((HT.sIx n 0 d:Nat):Int)/\(rX d z W1 n).2.1=((HT.sIx n n z:Nat):Int)/\(rX d z W1 n).2.2=1:=by
 refine⟨?_,?_,rfl⟩
 .cases d with
  |none=>simp[rX,HT.sIx]
  |some i=>
   simp only[rX,HT.sIx,Iy,show (1:Int) > 0 by decide,MH]
   by_cases h:i<0
   .simp only[h,MH]<;>omega
   .simp only[h,NH]<;>omega
 .cases z with
  |none=>simp[rX,HT.sIx]
  |some i=>
   simp only[rX,HT.sIx,Iy,show (1:Int) > 0 by decide,MH]
   by_cases h:i<0
   .simp only[h,MH]<;>omega
   .simp only[h,NH]<;>omega
def Us(d:List ac)(g z:Option Int):slicePick d.toArray g z W1=((d.drop (HT.sIx d.length 0 g)).take (HT.sIx d.length d.length z-HT.sIx d.length 0 g)).toArray:=by
 obtain⟨I,G,S⟩:=Vv g z d.toArray.size;unfold slicePick;rw[I,G,S];simp only[sliceRange_one,pick_run,ck]<;>rfl
def rSlL(K:aI):V->Option Int->Option Int->Hp->VK->Prop:=λx d z H Q=>∃a xs,x=.ref a/\MO K H a xs/\∀p,H p=W1->Q (.ref p) (fk H p (.lst (WI xs d z)))
theorem qR:SlR X (rSlL X.K):=by
 intro W s U H x v Z Y z G sl Q I rx hs J pu h;obtain⟨a,g,rfl,T,q⟩:=h;cases rx;obtain⟨L,r,O,S⟩:=I.list T;have d:=r.length;refine⟨"list",_,Iq.lookup,O.isList.typeIs,?_⟩;refine wpAny_getItem_list_slice O.isList hs J pu .none .(1) ?_ (by rw[ck]<;>omega);rw[Us,<-d];refine⟨.ref s.heap.objs.size,_,I.laid (t':=s.toks) (o:=.lst (WI g z G)) (λb ob q=>ba _ q) (aw _) ?_,rfl,q _ (I.hok.fresh (aw _))⟩;exact⟨cw (RJ g z G) S,_,0,(r.drop (HT.sIx g.length 0 z)).take (HT.sIx g.length g.length G-HT.sIx g.length 0 z),bS _ rfl⟩
def Lf:V->Bool
 |.non=>E2
 |.bl _=>E2
 |.int _=>E2
 |.str _=>E2
 |_=>E3
def RI:V->V->Bool
 |.non,.non=>E2
 |.bl a,.bl b=>a==b
 |.bl a,.int b=>(if a then 1 else 0)==b
 |.int a,.bl b=>a==(if b then 1 else 0)
 |.int a,.int b=>a==b
 |.str a,.str b=>a==b
 |_,_=>E3
def iB{A:aE}{y x:V}{v:ac}(z:dm y u)(rx:dm x v)(G:Lf y=E2)(g:Lf x=E2):kU A s u v (RI y x):=by
 cases y with
 |non=>
  cases z;cases x with
  |non=>cases rx;exact DO _
  |bl b=>cases rx;exact SeqAt.EqAt.none_bool b
  |int b=>obtain⟨t,rfl⟩:=rx;exact SeqAt.EqAt.none_int b t
  |str b=>obtain⟨t,rfl⟩:=rx;exact SeqAt.EqAt.none_str b t
  |_=>exact MG (show E3=E2 from g) de
 |bl a=>
  cases z;cases x with
  |non=>cases rx;exact SeqAt.EqAt.bool_none a
  |bl b=>cases rx;exact SeqAt.EqAt.bool_bool a b
  |int b=>obtain⟨t,rfl⟩:=rx;exact SeqAt.EqAt.bool_int a b t
  |str b=>obtain⟨t,rfl⟩:=rx;exact SeqAt.EqAt.bool_str a b t
  |_=>exact MG (show E3=E2 from g) de
 |int a=>
  obtain⟨d,rfl⟩:=z;cases x with
  |non=>cases rx;exact SeqAt.EqAt.int_none a d
  |bl b=>cases rx;exact SeqAt.EqAt.int_bool a d b
  |int b=>obtain⟨t,rfl⟩:=rx;exact SeqAt.EqAt.int_int a d b t
  |str b=>obtain⟨t,rfl⟩:=rx;exact GN a d b t
  |_=>exact MG (show E3=E2 from g) de
 |str a=>
  obtain⟨d,rfl⟩:=z;cases x with
  |non=>cases rx;exact SeqAt.EqAt.str_none a d
  |bl b=>cases rx;exact SeqAt.EqAt.str_bool a d b
  |int b=>obtain⟨t,rfl⟩:=rx;exact GO a d b t
  |str b=>obtain⟨t,rfl⟩:=rx;exact SeqAt.EqAt.str_str a d b t
  |_=>exact MG (show E3=E2 from g) de
 |_=>exact MG (show E3=E2 from G) de
def YR(x:V)(u:ac):Bool:=match u with
 |.none=>RI .non x
 |.bool b=>RI (.bl b) x
 |.int i _=>RI (.int i) x
 |.str z _=>RI (.str z) x
 |_=>E3
def iC{x y:V}(r:dm y u)(f:Lf y=E2):YR x u=RI y x:=by
 cases y with
 |non=>cases r;rfl
 |bl b=>cases r;rfl
 |int i=>obtain⟨t,rfl⟩:=r;rfl
 |str z=>obtain⟨t,rfl⟩:=r;rfl
 |_=>exact MG (show E3=E2 from f) de
theorem O3{x:V}:∀{xs:List V}{us:List ac},cx xs us->xs.all Lf=E2->us.any (YR x)=xs.any λy=>RI y x
 |_,_,.nil,_=>rfl
 |y::xs,u::us,.cons r t,f=>by
  rw[sd,eP] at f;rw[se,se,iC r f.1,O3 t f.2]
theorem Ly{A:aE}{s:ah}{x:V}{v:ac}(rx:dm x v)(g:Lf x=E2):∀{xs:List V}{us:List ac},cx xs us->xs.all Lf=E2->∀u∈us,kU A s u v (YR x u)
 |_,_,.nil,_=>λu S=>by cases S
 |y::xs,u::us,.cons r t,f=>λT S=>by
  rw[sd,eP] at f
  rcases bp.mp S with rfl | S
  .rw[iC r f.1];exact iB r rx f.1 g
  .exact Ly rx g t f.2 T S
def VO(x:V)(xs:List V):Bool:=xs.any λy=>RI y x
def rIn(K:aI)(d:Bool):R2:=λx y H Q=>∃p xs,y=.ref p/\(MO K H p xs∨MZ K H p xs)/\Lf x=E2/\xs.all Lf=E2/\Q (.bl (if d then !VO x xs else VO x xs)) H
def dX:Na X (d4 .In) (rIn X.K E3):=by
 intro S s L H x y v u Q I rx J h;obtain⟨p,U,rfl,T,z,fs,q⟩:=h;cases J
 rcases T with T | T
 .obtain⟨d,r,G,O⟩:=I.list T;refine IA (YR x) G.isList (λw g=>Ly rx z r fs w (by simpa using g)) ⟨.bl _,H,I,rfl,?_⟩;rw[show d.toArray.any (YR x)=d.any (YR x) by simp,O3 r fs];exact q
 .obtain⟨d,r,G,O⟩:=I.tuple T;refine SeqAt.in_tupleAt (YR x) G (λw g=>Ly rx z r fs w (by simpa using g)) ⟨.bl _,H,I,rfl,?_⟩;rw[show d.toArray.any (YR x)=d.any (YR x) by simp,O3 r fs];exact q
def Vw:Na X (d4 .NotIn) (rIn X.K E2):=by
 intro S s L H x y v u Q I rx J h;obtain⟨p,U,rfl,T,z,fs,q⟩:=h;cases J
 rcases T with T | T
 .obtain⟨d,r,G,O⟩:=I.list T;refine IB (YR x) G.isList (λw g=>Ly rx z r fs w (by simpa using g)) ⟨.bl _,H,I,rfl,?_⟩;rw[show d.toArray.any (YR x)=d.any (YR x) by simp,O3 r fs];exact q
 .obtain⟨d,r,G,O⟩:=I.tuple T;refine SeqAt.notIn_tupleAt (YR x) G (λw g=>Ly rx z r fs w (by simpa using g)) ⟨.bl _,H,I,rfl,?_⟩;rw[show d.toArray.any (YR x)=d.any (YR x) by simp,O3 r fs];exact q
def Di.or{f:ac}{L:List V->Hp->VK->Prop}(h:Di X f r)(h':Di X f L):Di X f (λxs H Q=>r xs H Q∨L xs H Q):=by
 intro d s g H xs G Q I z q
 rcases q with q | q
 .exact h d s g H xs G Q I z q
 .exact h' d s g H xs G Q I z q
theorem O4:Di X (.type "list") (λxs H Q=>∃p ys,xs=[.ref p]/\(MO X.K H p ys∨MZ X.K H p ys)/\∀l,H l=W1->Q (.ref l) (fk H l (.lst ys))):=by
  intro π s σ H xs us Q I r h;obtain⟨p,ys,rfl,T,q⟩:=h;obtain⟨u,rfl,rx⟩:=OI r;cases rx;have rz:∀(d:List ac),cx ys d->ys.length<=sizeLine->∀(J:Heap) (g:Nat),(∀b Z,s.heap.get? b=X0 Z->J.get? b=X0 Z) ->
      J.get? s.heap.objs.size=X0 { cls:=.type "list",dict:=W1,data:=.seq d.toArray g,slots:=#[] }->EP X π σ Q .(11) { s with heap:=J }:=λd L O J g z e=>
    ⟨.ref s.heap.objs.size,_,I.laid (t':=s.toks) z (aw _) (show BV X.prog X.w _ J _ (.lst ys) from⟨O,d,g,L,e⟩),rfl,q _ (I.hok.fresh (aw _))⟩
  rcases T with T | T
  . obtain⟨d,L,S,O⟩:=I.list T
    have G:=L.length;obtain⟨o,U,Y,n,W⟩:=S.isList;exact call_list_seq p (.inl rfl) U Y W (λJ g z e=>rz d L O J g z e) (by simp only[ck]<;>omega)
  . obtain⟨d,L,S,O⟩:=I.tuple T
    have G:=L.length;obtain⟨o,U,Y,n,W⟩:=S;exact call_list_seq p (.inr rfl) U Y W (λJ g z e=>rz d L O J g z e) (by simp only[ck]<;>omega)
theorem Nb:Di X (.type "tuple") (λxs H Q=>∃p ys,xs=[.ref p]/\((MO X.K H p ys/\∀l,H l=W1->Q (.ref l) (fk H l (.tup ys)))∨(MZ X.K H p ys/\Q (.ref p) H))):=by
 intro z s g H xs Z Q I r h;obtain⟨p,ys,rfl,h⟩:=h;obtain⟨u,rfl,rx⟩:=OI r;cases rx
 rcases h with ⟨T,q⟩ | ⟨T,q⟩
 .obtain⟨d,L,G,O⟩:=I.list T;have S:=L.length;refine call_tuple_list G.isList (λJ W=>?_) (by simp only[ck]<;>omega);have U:Inv X z g H { s with heap:=J }:=I.kept (t':=s.toks) W;have Y:Inv X z g (fk H J.objs.size (.tup ys)) { s with heap:=J.push { cls:=.type "tuple",data:=.seq d.toArray } }:=
   U.laid (t':=s.toks) (λb o e=>ba _ e) (aw _) (show BV X.prog X.w _ _ _ (.tup ys) from⟨O,d,L,DL _ _⟩)
  exact⟨.ref J.objs.size,_,Y,rfl,q _ (U.hok.fresh (aw _))⟩
 .obtain⟨d,L,G,O⟩:=I.tuple T;exact call_tuple_same G ⟨.ref p,H,I,rfl,q⟩
def tyV(K:aI)(T:String)(x:V)(H:Hp):Prop:=match x with
  |.str _=>T="str"
  |.int _=>T="int"
  |.ref p=>(T="list"/\∃xs,MO K H p xs)∨(T="tuple"/\∃o,K.lookup p=X0 o/\o.cls=.type "tuple"/\o.dict=W1) ∨
      (T="dict"/\((∃kvs,H p=X0 (.dK kvs))∨∃kvs,H p=X0 (.dT kvs)))∨(T="set"/\∃S n,H p=X0 (.set S n))
  |_=>False
def wX{T:String}{x:V}{v:ac}(I:Inv X π σ H s)(r:dm x v)(ty:tyV X.K T x H):
  s.TypeIs v T/\∀a,v=.ref a->∃ob,s.heap.get? a=X0 ob/\ob.dict=W1:=by
 cases x with
 |str z=>
  obtain⟨t,rfl⟩:=r;cases (show T="str" from ty);exact⟨DM s z t,λ_ e=>nomatch e⟩
 |int i=>
  obtain⟨t,rfl⟩:=r;cases (show T="int" from ty);exact⟨typeIs_int s i t,λ_ e=>nomatch e⟩
 |ref p=>
  cases r
  rcases ty with ⟨rfl,Z,W⟩ | ⟨rfl,o,d,Y,J⟩ | ⟨rfl,d⟩ | ⟨rfl,S,n,d⟩
  .obtain⟨U,_,O,_⟩:=I.list W;refine⟨O.isList.typeIs,λa e=>?_⟩;cases e;obtain⟨o,n,e,c,J,_⟩:=O;exact⟨o,e,J⟩
  .refine⟨⟨o,I.kIn p o d,Y⟩,λa e=>?_⟩;cases e;exact⟨o,I.kIn _ o d,J⟩
  .have z:∃o,s.heap.get? p=X0 o/\o.ExactDict:=by
    rcases d with ⟨G,d⟩ | ⟨G,d⟩
    .obtain⟨_,_,_,_,o,_,_,e,g,_⟩:=I.hok p _ d;exact⟨o,e,g⟩
    .obtain⟨_,_,_,_,o,_,_,e,g,_⟩:=I.hok p _ d;exact⟨o,e,g⟩
   obtain⟨o,e,g⟩:=z;refine⟨⟨o,e,g.1⟩,λa L=>?_⟩;cases L;exact⟨o,e,g.2.1⟩
  .obtain⟨o,_,_,_,e,g,_⟩:=I.hok p _ d;refine⟨⟨o,e,g.1⟩,λa L=>?_⟩;cases L;exact⟨o,e,g.2.1⟩
 |_=>exact ku ty
def tBM(K:aI)(T:String)(r:V->List V->Hp->VK->Prop)(d:TE)(t:TA):TE:=λg H Q=>d g H λx z=>tyV K T x z/\t g z λxs G=>r x xs G Q
variable {o:Expr}{es:List Expr}{to:TE}{t:TA}{name:Str}{T id:String}{r:V->List V->Hp->VK->Prop}
def Z6(pa:PlainAttrs T)(S:Slot T name id)(O:typeOf (.builtin id)=pure (.type "method_descriptor"))(hm:MtR X id r)(ho:PE X o to)(ha:PA X (e::es) t)(z:ff o name X.env (eval o X.env)=eval o X.env:=by rfl)(G:((dn cpos (ay (e::es) X.env)).all (λx=>!x.1)&&(jS cpos (i9 [] X.env)).all (λx=>x.1.isSome)
   && decide ((e::es).length+([]:List ib).length+(if ([]:List ib).isEmpty then 0 else 1)<30))=E2:=by rfl)(g:(apos.endLine==cpos.line)=E2:=by rfl)(hs:ay (e::es) X.env=(E3,eval e X.env)::ay es X.env:=by rfl)(d:(dn cpos (ay es X.env)).any (·.1)=E3:=by rfl):
  PE X (.Call (.Attribute o name apos) (e::es) [] cpos) (tBM X.K T r to t):=by
 intro L s J H Q I h;refine wpAny_Call_method_late z G g rfl (mo (ho L s J H _ I h) λv s1 q0=>?_);obtain⟨x,H1,Y,U,ty,q1⟩:=q0;obtain⟨h1,h2⟩:=wX Y U ty;refine⟨T,id,pa,S,O,h1,h2,?_⟩;have W:=ha cpos L s1 J H1 _ Y q1;rw[hs] at W ⊢;refine Calls.callWith_builtin (by show (E3||(dn cpos (ay es X.env)).any (·.1))=E3;rw[d]<;>rfl) (Calls.evalArgs_plain ?_);exact mo W (by rintro us s2 ⟨Z,H2,I2,r2,q2⟩;exact hm L s2 J H2 x Z v us Q I2 U r2 q2)
end
def MtM(X:Cx)(id:String)(r:V->List V->Hp->VK->Prop):Prop:=
 ∀(d:zP) (s:ah) (g:St) (H:Hp) (x:V) (xs:List V) (v:ac) (us:List ac) (Q:VK),Inv X d g H s->dm x v->cx xs us->r x xs H Q ->
  ag .(3) X.A (call (.builtin id) (v::us)) (EP X d g Q) X.xe s
def cx.one:∀{x:V}{us:List ac},cx [x] us->∃u,us=[u]/\dm x u
 |_,_,.cons r .nil=>⟨_,rfl,r⟩
theorem cx.eraseIdx:∀{xs:List V}{us:List ac}(i:Nat),cx xs us->cx (xs.eraseIdx i) (us.eraseIdx i)
 |_,_,_,.nil=>.nil
 |_,_,0,.cons _ t=>t
 |_,_,i+1,.cons r t=>.cons r (cx.eraseIdx i t)
theorem Qe{d:Type}:∀(l:List d) (i:Nat),(l.eraseIdx i).length<=l.length
 |[],_=>aw _
 |_::_,0=>kz _
 |_::r,i+1=>Nat.succ_le_succ (Qe r i)
section
variable {l:Addr}
theorem Inv.lset{its':List ac}{f:Array ac->Array ac}(I:Inv X π σ H s)(z:H l=X0 (.lst xs))(e:s.heap.get? l=X0 { cls:=.type "list",data:=.seq its.toArray n })(G:f its.toArray=its'.toArray)(g:cx ys its')(hz:ys.length<=sizeLine):
  Inv X π σ (fk H l (.lst ys)) { s with heap:=s.heap.update l (kg f),toks:=t' }:=by
 have q:=PySem.IsL.update e f;rw[G] at q;refine I.write (x:=l) (e:=l) (by rw[z];exact trivial) (.inl rfl) (λJ u d S=>(gE s.heap (kg f) (cf d)).trans S) ⟨_,q⟩ ?_;exact⟨hz,its',_,g,q⟩
def Inv.lnew(I:Inv X π σ H s)(g:cx ys its)(hz:ys.length<=sizeLine):
  Inv X π σ (fk H s.heap.objs.size (.lst ys)) { s with heap:=s.heap.push { cls:=.type "list",data:=.seq its.toArray },toks:=t' }:=
 I.laid (λ_ _ q=>ba _ q) (aw _) ⟨hz,its,0,g,bS _ rfl⟩
theorem Inv.fresh(I:Inv X π σ H s):H s.heap.objs.size=W1:=I.hok.fresh (aw _)
def Inv.lstM(I:Inv X π σ H s)(d:H l=X0 (.lst xs)):xs.length<=sizeLine/\∃(its:List ac) (n:Nat),cx xs its/\xs.length=its.length/\s.heap.get? l=X0 { cls:=.type "list",data:=.seq its.toArray n }:=by
 obtain⟨z,its,n,r,e⟩:=I.hok l _ d;exact⟨z,its,n,r,r.length,e⟩
end
section
def Z7:V->List V->Hp->VK->Prop:=λx vs H Q=>∃l xs y,x=.ref l/\vs=[y]/\H l=X0 (.lst xs)/\xs.length<sizeLine/\Q .non (fk H l (.lst (xs++[y])))
theorem M6:MtM X "list.append" Z7:=by
 intro O s L H x T v U Q I rx G h;obtain⟨l,S,y,rfl,rfl,g,W,q⟩:=h;cases rx;obtain⟨u,rfl,J⟩:=G.one;obtain⟨z,d,n,r,Y,e⟩:=I.lstM g;refine AL F.slot_list_append ⟨_,e,rfl⟩ F.entry_list_append (F.args_list_append_2 _ _) (PySem.list_append l d.toArray n u (by rw[ck];omega)) ⟨e,?_⟩;refine⟨.non,_,I.lset (its':=d++[u]) g e .(1) (r.append (.cons J .nil)) ?_,rfl,q⟩;rw[fh,IC];omega
def wZ:V->List V->Hp->VK->Prop:=λx vs H Q=>∃l xs i k y,x=.ref l/\vs=[.int i]/\H l=X0 (.lst xs)/\-(2^63)<=i/\i<2^63/\AK i xs.length=X0 k/\xs[k]?=X0 y/\Q y (fk H l (.lst (xs.eraseIdx k)))
theorem iG:MtM X "list.pop" wZ:=by
 intro π s σ H x vs v us Q I rx L h;obtain⟨l,G,i,k,y,rfl,rfl,g,Z,W,U,S,q⟩:=h;cases rx;obtain⟨u,rfl,O⟩:=L.one;obtain⟨t,rfl⟩:=O;obtain⟨z,d,n,r,Y,e⟩:=I.lstM g;obtain⟨w,T,J⟩:=r.get S;refine AL F.slot_list_pop ⟨_,e,rfl⟩ F.entry_list_pop (F.args_list_pop_2 _ _)
  (MeetsSeq.list_pop_at l d.toArray n i t k w (fitsIndex_both Z W) (by rw[ck,<-Y];exact U) (by rw[<-xB];exact T) (by rw[ck];omega)) ⟨e,?_⟩
 refine⟨y,_,I.lset (its':=d.eraseIdx k) g e ?_ (r.eraseIdx k) ?_,J,q⟩
 .show d.toArray.eraseIdxIfInBounds k=(d.eraseIdx k).toArray;rw[ID]
 .have:=Qe G k;omega
end
section
variable {κ:Type} [DecidableEq κ]
def OS(kvs:List (κ×V))(k:κ):Option V:=(kvs.find? λd=>decide (d.1=k)).map (·.2)
def OT(kvs:List (κ×V))(k:κ)(v:V):List (κ×V):=
 if (kvs.any λd=>decide (d.1=k))=E2 then kvs.map (λd=>if d.1=k then (d.1,v) else d) else kvs++[(k,v)]
def O5{p:κ×V}{r:List (κ×V)}{k:κ}(e:p.1=k):OS (p::r) k=X0 p.2:=by simp[OS,sg,e]
def O6{p:κ×V}{r:List (κ×V)}{k:κ}(e:¬ p.1=k):OS (p::r) k=OS r k:=by simp[OS,sg,e]
theorem Sv(k:κ):∀kvs:List (κ×V),(kvs.any λd=>decide (d.1=k))=(OS kvs k).isSome
 |[]=>rfl
 |p::r=>by
  rw[se]
  by_cases e:p.1=k
  .simp only[O5 e,OG e,IE,Option.isSome_some]
  .rw[O6 e,NG e,DS];exact Sv k r
def RK(kvs:List (κ×V))(k:κ)(v:V):(OT kvs k v).length<=kvs.length+1:=by
 unfold OT;split
 .rw[av];omega
 .rw[fh,d3,DT];omega
def NY.isSome_eq{o:Option V}{u:Option ac}(r:NY o u):o.isSome=u.isSome:=by
 cases o with
 |none=>cases u with
  |none=>rfl
  |some _=>exact (show False from r).elim
 |some _=>cases u with
  |none=>exact (show False from r).elim
  |some _=>rfl
def KV.val{kvs:List (κ×V)}{vs:List (κ×ac)}(r:KV kvs vs)(k:κ):NY (OS kvs k) (qc vs k):=by
 unfold KV at r
 induction r with
 |nil=>exact pE
 | @cons p q J d h t G=>
  obtain⟨g,I⟩:=h
  by_cases e:p.1=k
  .have O:q.1=k:=g.symm.trans e;have b:qc (q::d) k=X0 q.2:=by simp[qc,sg,O]
   rw[O5 e,b];exact I
  .have O:¬ q.1=k:=λz=>e (g.trans z);have b:qc (q::d) k=qc d k:=by simp[qc,sg,O]
   rw[O6 e,b];exact G
theorem KV.any{kvs:List (κ×V)}{vs:List (κ×ac)}(r:KV kvs vs)(k:κ):(kvs.any λd=>decide (d.1=k))=vs.any λd=>decide (d.1=k):=by
 unfold KV at r
 induction r with
 |nil=>rfl
 |cons h t g=>rw[se,se,g,h.1]
def KV.repl{kvs:List (κ×V)}{vs:List (κ×ac)}(r:KV kvs vs)(k:κ){y:V}{u:ac}(G:dm y u):
  KV (kvs.map λd=>if d.1=k then (d.1,y) else d) (vs.map λd=>if d.1=k then (d.1,u) else d):=by
 unfold KV at r ⊢
 induction r with
 |nil=>exact .nil
 | @cons p q O L h t I=>
  rw[bb,bb];refine .cons ?_ I;obtain⟨g,J⟩:=h
  by_cases e:p.1=k
  .rw[SF e,SF (g.symm.trans e)];exact⟨g,G⟩
  .rw[UF e,UF (λz=>e (g.trans z))];exact⟨g,J⟩
def KV.put{kvs:List (κ×V)}{vs:List (κ×ac)}(r:KV kvs vs)(k:κ){y:V}{u:ac}(z:dm y u):KV (OT kvs k y) (stored vs k u):=by
 unfold OT stored;rw[r.any k]
 by_cases e:(vs.any λd=>decide (d.1=k))=E2
 .rw[SF e,SF e];exact r.repl k z
 .rw[UF e,UF e];exact IF r ⟨rfl,z⟩
theorem KV.length{kvs:List (κ×V)}{vs:List (κ×ac)}(r:KV kvs vs):kvs.length=vs.length:=Ap r
end
def W6{k:Key}(r:dm (kV k) u):(Av P w).is k u=E2:=by
 cases k with
 |inl i=>obtain⟨t,e⟩:=(show ∃t,u=sQ i t from r);subst e;exact Wy P w i t
 |inr x=>obtain⟨t,e⟩:=(show ∃t,u=wq x t from r);subst e;exact Wz P w x t
theorem Qf{P:cr}{w:bP}:∀{ks:List Key}{us:List ac},cx (ks.map kV) us->ItemsAre (Av P w) ks us
 |[],_,r=>by rw[iO] at r;cases r;exact .nil
 |k::ks,_,r=>by
  rw[bb] at r;cases r with
  |cons h t=>exact .cons (W6 h) (Qf t)
abbrev KT (H:Hp):List (List Key×V)->List (List Key×Addr×ac)->Prop:=mE λp q=>p.1=q.1/\H q.2.1=X0 (.tup (p.1.map kV))/\dm p.2 q.2.2
def KT.val{xs:List (List Key×Addr×ac)}(r:KT H kvs xs)(k:List Key):NY (OS kvs k) ((eA xs k).map (·.2)):=by
 induction r with
 |nil=>exact pE
 | @cons p q J d h t G=>
  obtain⟨g,_,I⟩:=h
  by_cases e:p.1=k
  .have O:q.1=k:=g.symm.trans e;have b:eA (q::d) k=X0 q.2:=by simp[eA,sg,O]
   rw[O5 e,b];exact I
  .have O:¬ q.1=k:=λz=>e (g.trans z);have b:eA (q::d) k=eA d k:=by simp[eA,sg,O]
   rw[O6 e,b];exact G
def KT.repl{xs:List (List Key×Addr×ac)}(r:KT H kvs xs)(k:List Key){y:V}{u:ac}(I:dm y u):
  KT H (kvs.map λd=>if d.1=k then (d.1,y) else d) (xs.map (putAt k u)):=by
 induction r with
 |nil=>exact .nil
 | @cons p q O L h t J=>
  rw[bb,bb];refine .cons ?_ J;obtain⟨g,G,S⟩:=h;unfold putAt
  by_cases e:p.1=k
  .rw[SF e,SF (g.symm.trans e)];exact⟨g,G,I⟩
  .rw[UF e,UF (λz=>e (g.trans z))];exact⟨g,G,S⟩
def KT.put{xs:List (List Key×Addr×ac)}(r:KT H kvs xs)(k:List Key){b:Addr}{y:V}{u:ac}(g:H b=X0 (.tup (k.map kV)))(z:dm y u):
  KT H (OT kvs k y) (xC xs k b u):=by
 have e:(kvs.any λd=>decide (d.1=k))=(eA xs k).isSome:=by
  rw[Sv,(r.val k).isSome_eq,xD]
 unfold OT xC;rw[e]
 by_cases q:(eA xs k).isSome=E2
 .rw[SF q,SF q];exact r.repl k z
 .rw[UF q,UF q];exact IF r ⟨rfl,g,z⟩
def KT.keeps{xs:List (List Key×Addr×ac)}(r:KT H kvs xs)(O:∀b ys,H b=X0 (.tup ys)->H' b=X0 (.tup ys)):KT H' kvs xs:=
 Paired.mapP r λ_ _ z=>⟨z.1,O _ _ z.2.1,z.2.2⟩
section
def iH{u:HO}(ok:Pp P w H h)(e:Rd H a u):BV P w H h a u:=e.ok ok
def Jh{kvs:List (Key×V)}(ok:Pp P w H h)(e:Rd H a (.dK kvs)):kvs.length<=sizeLine/\(a==fE)=E3/\∃vs,KV kvs vs/\h.DictOf (Av P w) a vs:=
 show BV P w H h a (.dK kvs) from iH ok e
def ul{kvs:List (Key×V)}(ok:Pp P w H h)(e:H a=X0 (.dK kvs)):kvs.length<=sizeLine/\(a==fE)=E3/\∃vs,KV kvs vs/\h.DictOf (Av P w) a vs:=Jh ok (.inl e)
def Sw{ks:List Key}(ok:Pp P w H h)(e:H a=X0 (.tup (ks.map kV))):(ri (Av P w)).is h ks a:=by
 obtain⟨_,d,r,o,z,g,n,S⟩:=(show BV P w H h a (.tup (ks.map kV)) from ok a _ e);exact⟨o,d.toArray,n,z,g,S,by simpa using Qf r⟩
def W7(ok:Pp P w H h)(e:Rd H a (.dT kvs)):kvs.length<=sizeLine/\(a==fE)=E3 ∧
  ∃xs,KT H kvs xs/\h.DictOfH (ri (Av P w)) a xs:=by
 obtain⟨z,y,xs,r,o,L,U,J,I,S,G,O⟩:=(show BV P w H h a (.dT kvs) from iH ok e);refine⟨z,y,xs,r,o,L,U,J,I,S,G,λx d=>?_,O⟩;have all:∀{l:List (List Key×V)}{m:List (List Key×Addr×ac)},KT H l m->∀x∈m,(ri (Av P w)).is h x.1 x.2.1:=by
  intro l m q
  induction q with
  |nil=>intro x d;exact nomatch d
  | @cons p q Y W T t g=>
   intro x d
   rcases bp.mp d with e | d
   .subst e;exact Sw ok (by rw[<-T.1];exact T.2.1)
   .exact g x d
 exact all r x d
def zr(ok:Pp P w H h)(e:H a=X0 (.dT kvs)):kvs.length<=sizeLine/\(a==fE)=E3 ∧
  ∃xs,KT H kvs xs/\h.DictOfH (ri (Av P w)) a xs:=W7 ok (.inl e)
end
def DGet(H:Hp)(a:Addr)(y:V)(r:Option V):Prop:=
 (∃kvs k,Rd H a (.dK kvs)/\y=kV k/\r=OS kvs k)∨∃kvs k b,Rd H a (.dT kvs)/\y=.ref b/\H b=X0 (.tup (k.map kV))/\r=OS kvs k
def SS(H:Hp)(a:Addr)(y v:V)(d:Hp):Prop:=
 (∃kvs k,H a=X0 (.dK kvs)/\y=kV k/\kvs.length<sizeLine/\d=fk H a (.dK (OT kvs k v))) ∨
 ∃kvs k b,H a=X0 (.dT kvs)/\y=.ref b/\H b=X0 (.tup (k.map kV))/\kvs.length<sizeLine/\d=fk H a (.dT (OT kvs k v))
theorem SS.k{H:Hp}{a:Addr}{kvs:List (Key×V)}{k:Key}{v:V}(e:H a=X0 (.dK kvs))(Y:kvs.length<sizeLine):SS H a (kV k) v (fk H a (.dK (OT kvs k v))):=.inl ⟨kvs,k,e,rfl,Y,rfl⟩
def SS.t{k:List Key}(e:H a=X0 (.dT kvs))(d:H b=X0 (.tup (k.map kV)))(Y:kvs.length<sizeLine):
  SS H a (.ref b) v (fk H a (.dT (OT kvs k v))):=.inr ⟨kvs,k,b,e,rfl,d,Y,rfl⟩
section
variable {y:V}{r:ac}{o:Option V}{A:aE}
def Inv.big(I:Inv X π σ H s):fE<s.heap.objs.size:=by
 have h:gL<s.heap.objs.size:=(I.mod.glob.keeps I.bk).lt;exact IG .(2) h
theorem dY{Q:ac->ah->Prop}(hu:A.units+1<bo)(I:Inv X π σ H s)(g:DGet H a y (X0 v))(W:dm y u)(h:∀G U,Inv X π σ H U->dm v G->Q G U):
  ag .(3) A (nX (.ref a) u) Q E s:=by
 rcases g with ⟨L,k,e,T,l⟩ | ⟨L,k,b,e,T,eb,l⟩
 .subst T;obtain⟨z,hd,vs,d,Z⟩:=Jh I.hok e;obtain⟨G,O,J⟩:=NY.some_of (v:=v) (o:=qc vs k) (by rw[l];exact d.val k);exact wpAny_getItem_of (W6 W) Z.mapOf O (h G _ (I.tok _) J)
 .subst T;cases (show u=bg b from W);obtain⟨z,hd,Y,d,Z⟩:=W7 I.hok e;obtain⟨G,O,J⟩:=NY.some_of (v:=v) (o:=(eA Y k).map (·.2)) (by rw[l];exact d.val k);obtain⟨p,hp,S⟩:=mv.mp O;refine IH (AM hu) (Sw I.hok eb) Z hp ?_;rw[S];exact h G _ (I.tok _) J
def d_in{Q:ac->ah->Prop}(S:A.units+1<bo)(I:Inv X π σ H s)(g:DGet H a y o)(O:dm y u)(h:∀L,Inv X π σ H L->Q (.bool o.isSome) L):
  ag .(3) A (d4 .In u (.ref a)) Q E s:=by
 rcases g with ⟨G,k,e,T,l⟩ | ⟨G,k,b,e,T,U,l⟩
 .subst T;obtain⟨z,J,Y,d,Z⟩:=Jh I.hok e;refine wpAny_in_of (W6 O) J Z.mapOf ?_;rw[<-(d.val k).isSome_eq,<-l];exact h _ (I.tok _)
 .subst T;cases (show u=bg b from O);obtain⟨z,J,W,d,Z⟩:=W7 I.hok e;refine wpAny_in_heap (AM S) (Sw I.hok U) J Z ?_;have q:=(d.val k).isSome_eq;rw[xD] at q;rw[<-q,<-l];exact h _ (I.tok _)
def qT{Q:ac->ah->Prop}(S:A.units+1<bo)(I:Inv X π σ H s)(g:DGet H a y o)(O:dm y u)(h:∀L,Inv X π σ H L->Q (.bool (!o.isSome)) L):
  ag .(3) A (d4 .NotIn u (.ref a)) Q E s:=by
 rcases g with ⟨G,k,e,T,l⟩ | ⟨G,k,b,e,T,U,l⟩
 .subst T;obtain⟨z,J,Y,d,Z⟩:=Jh I.hok e;refine wpAny_notIn_of (W6 O) J Z.mapOf ?_;rw[<-(d.val k).isSome_eq,<-l];exact h _ (I.tok _)
 .subst T;cases (show u=bg b from O);obtain⟨z,J,W,d,Z⟩:=W7 I.hok e;refine wpAny_notIn_heap (AM S) (Sw I.hok U) J Z ?_;have q:=(d.val k).isSome_eq;rw[xD] at q;rw[<-q,<-l];exact h _ (I.tok _)
theorem Ri{ob:HO}(I:Inv X π σ H s)(G:Mut (H a))(hs:fI a s.heap h')(d:∃q,h'.get? a=X0 q)(new:BV X.prog X.w (fk H a ob) h' a ob):
  Inv X π σ (fk H a ob) { s with heap:=h',toks:=t' }:=
 I.write (x:=a) (e:=a) G (.inl rfl) (λb q g z=>(hs.2 b g).trans z) d new
def wg{kvs:List (Key×V)}{vs:List (Key×ac)}(z:kvs.length<=sizeLine)(g:(a==fE)=E3)(d:KV kvs vs)(Z:h'.DictOf (Av P w) a vs):
  BV P w H' h' a (.dK kvs):=⟨z,g,vs,d,Z⟩
def dZ{Q:Unit->ah->Prop}(hu:A.units+1<bo)(I:Inv X π σ H s)(g:SS H a y v H')(ry:dm y u)(rv:dm v r)(h:∀W,Inv X π σ H' W->Q () W):
  ag .(3) A (setItem (.ref a) u r) Q E s:=by
 rcases g with ⟨G,k,e,S,l,U⟩ | ⟨G,k,b,e,S,eb,l,U⟩
 .subst S U;obtain⟨z,L,vs,d,Z⟩:=ul I.hok e;have O:vs.length<=sizeLine:=by rw[<-d.length];exact z
  have Y:(OT G k v).length<=sizeLine:=by have:=RK G k v;omega
  refine wpAny_setItem_pairs (hsz:=O) (W6 ry) Z λh' J hs=>h _ ?_;have he:∃q,h'.get? a=X0 q:=let ⟨q,_,_,T,_⟩:=J;⟨q,T⟩;exact Ri I (by rw[e];exact pE) hs he (wg Y L (d.put k rv) J)
 .subst S U;cases (show u=bg b from ry);obtain⟨z,L,xs,d,Z⟩:=zr I.hok e;have O:xs.length<=sizeLine:=by rw[<-Ap d];exact z
  have Y:(OT G k v).length<=sizeLine:=by have:=RK G k v;omega
  refine II (hsz:=O) (AM hu) (Sw I.hok eb) Z λh' J hs=>h _ ?_;obtain⟨q,es,ep,T,h2,h3,h4,_,h5⟩:=J;refine Ri I (by rw[e];exact pE) hs ⟨q,T⟩ ⟨Y,L,_,(d.put k eb rv).keeps λc ys ec=>?_,q,es,ep,T,h2,h3,h4,h5⟩;rw[Al (uc ec e (λz=>nomatch z))];exact ec
end
section
variable {kvs:List (Key×V)}{k:Key}{A:aE}
def zu{Q:ac->ah->Prop}(I:Inv X π σ H s)(e:Rd H a (.dK kvs))(h:∀t g,Inv X π σ H g->Q (.int kvs.length t) g):ag .(3) A (call (.builtin "len") [.ref a]) Q E s:=by
 obtain⟨z,G,J,d,Z⟩:=Jh I.hok e;refine call_len_dict G Z (by rw[<-d.length];rw[iA] at z;omega) ?_;rw[<-d.length];exact h _ _ (I.tok _)
end
def NoSl(i:Expr):Prop:=∀d g,xy i E3 d g=operate [d,g] (nX d g)
def Z8{A:aE}{g d:Expr}{T id:String}{Q:ac->ah->Prop}(Y:DI (.type T) "__getitem__"=pure (X0 (.builtin id)))(hs:NoSl d)(h:ag (ai prog w) A (eval g env) (λo I=>ag (ai prog w) A (eval d env) (λi s₂=>s₂.TypeIs o T/\ag (ai prog w) A (nX o i) Q E s₂) E I) E s):
  ag (ai prog w) A (eval (.Subscript g d pos) env) Q E s:=by
 refine DJ (i7 h (λo I L=>i7 L (λi s₂ z=>?_) λ_ _ x=>x) λ_ _ x=>x);obtain⟨O,z⟩:=z;unfold AJ;refine ae ?_;rw[IJ O.not_modules];refine ae (nv O Y ?_);have rz:ag (ai prog w) A (xy d E3 o i) (λr G=>ag (ai prog w) A (letTemporaryGo g o r >>= λ_=>pure r) Q E G) E s₂:=by
  rw[hs o i];exact wpAny_operating (i7 z (λr G J=>ae (IL (ar J))) λ_ _ x=>x)
 first
  |exact ar (ae rz)
  |exact ae (ar (ae rz))
  |exact ae rz
def W8{y:V}{o:Option V}(I:Inv X π σ H s)(g:DGet H a y o):s.TypeIs (.ref a) "dict":=by
 rcases g with ⟨d,k,e,_,_⟩ | ⟨d,k,b,e,_,_,_⟩
 .obtain⟨_,_,G,_,Z⟩:=Jh I.hok e;exact Z.typeIs
 .obtain⟨_,_,z,_,Z⟩:=W7 I.hok e;exact Z.typeIs
def zx(G ty z:TE):TS:=λD g H=>z g H λv L=>G g L λx J=>ty g J λy I=>∃a d,x=.ref a/\SS I a y v d/\D.nx g d
section
variable {o i value:Expr}{tpos:Pos}{td ty tv:TE}
def Rj(T:X.A.units+1<bo)(U:PE X o td)(W:PE X i ty)(O:PE X value tv)(hs:eR value (X0 (.Subscript o i pos')) pos.line X.env=pure E3):
  PS X (.Assign [.Subscript o i pos'] value pos) (zx td ty tv):=by
 intro z s d H D I h;refine AN (mo (O z s d H _ I h) λr G ⟨v,H1,I1,L,q1⟩=>mo (U z G d H1 _ I1 q1) λu S ⟨x,H2,I2,rx,q2⟩=>mo (W z S d H2 _ I2 q2) λiv s3 q0=>?_) hs;obtain⟨y,H3,I3,J,a,H4,Y,g,q3⟩:=q0;subst Y;obtain rfl:u=bg a:=rx;exact dZ T I3 g J L λs4 Z=>⟨d,H4,Z,q3⟩
end
def W9(h:Heap)(d:fE<h.objs.size):BV P w H (h.push { cls:=.type "dict",data:=.dict #[] }) h.objs.size (.dK []):=
 ⟨eW _,beq_eq_false_iff_ne.mpr (cf (bX d)),[],.nil,Heap.DictOf.new h⟩
def iJ(h:Heap)(d:fE<h.objs.size):BV P w H (h.push { cls:=.type "dict",data:=.dict #[] }) h.objs.size (.dT []):=
 ⟨eW _,beq_eq_false_iff_ne.mpr (cf (bX d)),[],.nil,_,#[],0,bS _ rfl,⟨rfl,rfl,rfl⟩,rfl,rfl,AO⟩
def wk:TE:=λ_ H Q=>∀p,H p=W1->Q (.ref p) (fk H p (.dK []))
def wu:TE:=λ_ H Q=>∀p,H p=W1->Q (.ref p) (fk H p (.dT []))
section
theorem iK:PE X (.Dict [] [] pos) wk:=λd s g H Q I h=>
 DU ⟨.ref s.heap.objs.size,_,I.laid (a:=s.heap.objs.size) (o:=.dK []) (t':=s.toks) (λ_ _ q=>ba _ q) (aw _) (W9 s.heap I.big),rfl,h _ (I.hok.fresh (aw _))⟩
theorem iM:PE X (.Dict [] [] pos) wu:=λd s g H Q I h=>
 DU ⟨.ref s.heap.objs.size,_,I.laid (a:=s.heap.objs.size) (o:=.dT []) (t':=s.toks) (λ_ _ q=>ba _ q) (aw _) (iJ s.heap I.big),rfl,h _ (I.hok.fresh (aw _))⟩
end
end L2
namespace Att
open PySem PySem.W PySem.Calls PyProof.Rows
def Rc{P:Params}:∀(ns:List Int) (vs:List ac),WellAll P h vs (ns.map WData.int)->xE vs ns:=by
 intro ns
 induction ns with
 |nil=>
  intro vs w;rw[iO] at w;cases w;exact .nil
 |cons n ns d=>
  intro vs w;rw[bb] at w;cases w with
  |cons a b=>
   cases a;exact .cons _ _ (d _ b)
def dg{l:OpenLaw}(hn:l.most=X0 n){P:Params}{h:Heap}{args:List WData}{g:List ac}(z:l.row.toRowW.claim.pre args=E2)(S:WellAll P h g args):
  ∃a vs L,g=[bg a]/\args=[WData.list (L.map WData.int)]/\h.get? a=X0 { cls:=.type "list",data:=.seq vs.toArray }/\xE vs L/\L.length<=n:=by
 have T:WShape.hasAll [] args [.list .int]=E2:=(pre_splitW z).1;have U:l.pre.holds [] { args:=args }=E2:=(pre_splitW z).2;obtain⟨d,r,rfl,h1,h2⟩:=hasAllW_cons T;obtain rfl:=hasAllW_nil h2;obtain⟨xs,rfl,h3⟩:=hasW_list h1;obtain⟨L,rfl⟩:=items_int h3;have G:L.length<=n:=by
  unfold OpenLaw.pre at U;have J:(WTm.not (.lt (.lit .(5)) (.len (.arg 0)))).holds [] { args:=[.list (L.map .int)] }=E2:=by
   have J:=(holds_andW U).1;rw[hn] at J;exact J
  have O:=condW_of J (w_not (w_lt w_lit (w_len_list (w_arg rfl))));rw[av] at O;refine Nat.le_of_not_lt λq=>?_;have Z:(n:Int)<((L.length:Nat):Int):=by omega
  first
   | (rw[OG Z] at O;exact MG O .(2))
   | (simp at O;omega)
 cases S with
 |cons Y W=>
  cases W;cases Y with
  |list ho I=>exact⟨_,_,L,rfl,rfl,ho,Rc L _ I,G⟩
theorem dh(l:OpenLaw)(args:List WData):l.row.toRowW.claim.post args (.bool E2) args=E2:=
 postW_of (r:=l.row.toRowW) (X:=(E2==E2))
  (show IM [] (.bool E2) .bool=E2 by first | rfl | decide | simp[IM,WShape.arms,WShape.armsAll])
  (show (WTm.eq .res (.lit (.bool E2))).value [] { args:=args,res:=X0 (.bool E2),after:=args }=X0 (.bool (E2==E2)) from w_eq_bool (w_res rfl) w_lit) rfl
def W_{l:OpenLaw}{q:cr}{XP:(Str->Option ac)->Heap->Prop}{YP:bP->Heap->Prop}{d:DefRec}(hn:l.most=X0 n)(S0:d.params.defaults=[])(call:∀(w:bP) (z g:ah) (mg Z:Str->Option ac) (S:Addr) (o:Obj) (pm W doc:ac) (a:Addr) (vs:List ac) (U:List Int),
   Ground q loose [] XP w z mg Z g.heap->YP w g.heap ->
   g.heap.get? S=X0 o->o.data=.func (docDef d.name d.params d.body d.scope pm W doc)->g.heap.CodeRec W d.name->mg d.name=X0 (.ref S) ->
   g.heap.get? a=X0 { cls:=.type "list",data:=.seq vs.toArray }->xE vs U->U.length<=n->g.gens=#[] ->
   gg (ai l.prog w) sh (.call (.ref S) ⟨[.ref a],[]⟩) (λr T=>r=.ok (.ret (.bool E2))/\OldK g.heap T.heap/\T.os=g.os/\ny T.gens) g):
  WalkO q loose XP YP l.row.toRowW d [] (λf vs=>DV f vs):=by
 intro w z g mg Z G Y S o pm W doc dV kV ho hd T0 hD O0 hg S1 N1 as J P1 U1 N0 X1;obtain rfl:dV=.none:=Dflts.none hD S0;obtain rfl:kV=.none:=Dflts.noKw hD;obtain⟨a,vs,U,rfl,rfl,L,I,O⟩:=dg hn J N0;refine enter_call (rq (call w z g mg Z S o pm W doc a vs U G Y ho (fd_plain hd) T0 O0 L I O hg) λr T hq=>?_);obtain⟨rfl,h2,h3,h4⟩:=hq;exact⟨.inl ⟨.bool E2,.bool E2,[],rfl,λ_=>rfl,.bool E2,dh l _,λ_=>⟨AQ,λ_ hm=>(nomatch hm)⟩⟩,h2,h3,h4⟩
end Att
namespace L2
open PySem PySem.Spec PyProof.Rows
theorem U_:∀{vs:List ac}{L:List Int},xE vs L->cx (L.map V.int) vs
 |_,_,.nil=>.nil
 |_,_,.cons n t h=>.cons ⟨t,rfl⟩ (U_ h)
def Only(H:Hp):Prop:=∀b,H b=W1∨∃o xs,H b=X0 (.frz o (.lst xs))
def iQ{K:aI}{mb:Str->Option ac}{k:Nat}{fa:Addr}{sp:Sp}{s₁:ah}{T:List Int}(KX:K.In s₁.heap)(Z:s₁.heap.Ns gL mg)(G:s₁.heap.Ns CD mb)(P1:∀x:Str,x≠"__name__"->mb x=dL x)(N0:s₁.heap.NoLimit)(hg:s₁.gens=#[])(ha:s₁.heap.get? a=X0 { cls:=.type "list",data:=.seq vs.toArray })(hi:xE vs T)(hl:T.length<=sizeLine)(hr:Room k sh)(F:∀base:Heap,K.In base->base.Ns gL mg->kr P w K mg base CX k fa fd [x] sp)(O:∀(s:ah) (u:ac),xl s fd ⟨[u],[]⟩ [(x,u)])(N1:∀H:Hp,Only H->MO K H a (T.map V.int)->sp [.ref a] H (λv _=>v=.bl E2) λ_ _ _=>False)(S1:∀H e I,CX [] H s₁ (λ_ _ _=>False) e I->False):
    gg (ai P w) sh (.call (.ref fa) ⟨[.ref a],[]⟩) (λr I=>r=.ok (.ret (.bool E2))/\OldK s₁.heap I.heap/\I.os=s₁.os/\ny I.gens) s₁:=by
  have rv:=U_ hi;have U:=hi.length;have L:∀H:Hp,Only H->MO K H a (T.map V.int)->Pp P w H s₁.heap->(∀b,H b≠W1->b=a)->(H a≠W1->K.lookup a=W1) ->
      gg (ai P w) sh (.call (.ref fa) ⟨[.ref a],[]⟩) (λr I=>r=.ok (.ret (.bool E2))/\OldK s₁.heap I.heap/\I.os=s₁.os/\ny I.gens) s₁:=by
    intro H hO hS Y hA hK;have g:∀{b:Addr}{o:Obj},s₁.heap.get? b=X0 o->H b=W1->(US s₁.heap H).get? b=X0 o:=λe n=>gG e n;have T0:∀{b:Addr}{o:Obj}{es:Array oe}{ep:Nat},s₁.heap.get? b=X0 o->o.data=.dict es ep->H b=W1:=λ{b o es ep} e d=>by
      cases q:H b with
      |none=>rfl
      |some u=>
        have e':b=a:=hA b (by rw[q];simp);subst e';rw[ha] at e;cases e;have d':Data.seq vs.toArray _=Data.dict es ep:=d;cases d'
    have J:∀{b:Addr}{m:Str->Option ac},s₁.heap.Ns b m->(US s₁.heap H).Ns b m:=λ{b m} ⟨o,es,ep,e,d,r⟩=>⟨o,es,ep,g e (T0 e d),d,r⟩;have O0:K.In (US s₁.heap H):=λb o e=>g (KX b o e) (by
      cases q:H b with
      |none=>rfl
      |some u=>
        have e':b=a:=hA b (by rw[q];simp);subst e';rw[hK (by rw[q];simp)] at e;cases e)
    have hM:Mod K mg (US s₁.heap H):=⟨O0,J Z,⟨mb,J G,P1⟩,let ⟨mc,h1,h2⟩:=N0;⟨mc,J h1,h2⟩⟩;have e0:Zp P w K mg (US s₁.heap H) sh [] s₁ H:=⟨rfl,hM,λb o e=>p_ e,D4 (dH _ _),trivial,λb G=>MG (show b∈([]:List Addr) from G) .(1),Y,.of_eq hg⟩;refine rq ((F _ O0 (J Z)).run sh [] s₁ H ⟨[.ref a],[]⟩ [.ref a] [.ref a] _ _ hr e0 (O s₁ (.ref a)) (.cons rfl .nil) (N1 H hO hS)) λr I h=>?_;cases r with
    |error e=>exact (S1 H e I h).elim
    |ok fl=>
      cases fl with
      |next=>exact ku h
      |brk=>exact ku h
      |cont=>exact ku h
      |ret u=>
        obtain⟨v,H',os,S0,un,W,r',q⟩:=h;have q':v=.bl E2:=q;subst q';obtain rfl:u=nw E2:=r';refine⟨rfl,OldK.of_keep λb o e=>?_,os,S0⟩;cases q:H b with
        |none=>exact un.keep b o e q (by intro z;exact MG (show b∈([]:List Addr) from z) .(1)) .(1)
        |some u=>
          rcases hO b with z | ⟨ob,xs,z⟩
          . rw[q] at z;cases z
          . have z2:=un.frzs b ob _ z
            obtain⟨e1,_⟩:=Y b _ z;obtain⟨e2,_⟩:=W b _ z2;rw[e] at e1;cases e1;exact e2
  cases hk:K.lookup a with
  |some o=>
    have e:=KX a o hk;rw[ha] at e;cases e;refine L (λ_=>W1) (λ_=>.inl rfl) (.inr ⟨_,vs.toArray,_,hk,rfl,rfl,rfl,by rw[ck,U];exact hl,by simpa using rv⟩) (λb u z=>by have S:(W1:Option HO)=X0 u:=z;cases S) (λb z=>MG rfl z) λz=>MG rfl z
  |none=>
    refine L (λb=>if b=a then X0 (.frz { cls:=.type "list",data:=.seq vs.toArray } (.lst (T.map V.int))) else W1) (λb=>?_) (.inl (.inr ⟨{ cls:=.type "list",data:=.seq vs.toArray },SF rfl⟩)) (λb u z=>?_) (λb z=>?_) λ_=>hk
    . by_cases G:b=a
      . exact .inr ⟨_,_,SF G⟩
      . exact .inl (UF G)
    . by_cases G:b=a
      . have S:=(SF G).symm.trans z
        cases S;subst G;exact⟨ha,by rw[av];exact hl,vs,_,rv,ha⟩
      . have S:=(UF G).symm.trans z
        cases S
    . by_cases G:b=a
      . exact G
      . exact MG (UF G) z
abbrev KOf {K:aI}{h:Heap}(_:K.In h):aI:=K
theorem qU{l:PySem.W.OpenLaw}{k:Nat}{q:cr}{XP:(Str->Option ac)->Heap->Prop}{YP:bP->Heap->Prop}{d:DefRec}{K:Params->aI}{CX:bP->CXT}{sp:bP->Sp}(hn:l.most=X0 n)(N0:n<=sizeLine)(S0:d.params.defaults=[])(hr:Room k sh)(hY:∀(w:bP) (h:Heap),YP w h->(K w.params).In h)(F:∀(w:bP) (mg:Str->Option ac) (S:Addr) (h:Heap),(K w.params).In h->h.Ns gL mg->mg d.name=X0 (.ref S) ->
   ∃fd:mN,(∀(s:ah) (u:ac),xl s fd ⟨[u],[]⟩ [(x,u)]) ∧
    ∀base:Heap,(K w.params).In base->base.Ns gL mg->kr l.prog w (K w.params) mg base (CX w) k S fd [x] (sp w))(Z:∀(w:bP) (H:Hp) (a:Addr) (O:List Int),O.length<=n->Only H->MO (K w.params) H a (O.map V.int)->sp w [.ref a] H (λv _=>v=.bl E2) λ_ _ _=>False)(T0:∀(w:bP) (H:Hp) (s:ah) (e:ac) (U:ah),CX w [] H s (λ_ _ _=>False) e U->False):
  PySem.W.WalkO q loose XP YP l.row.toRowW d [] (λf vs=>DV f vs):=by
 refine Att.W_ hn S0 λw N1 J mg mb S o pm cd S1 a vs O G Y ho hd P1 O0 L I z hg=>?_;have KX:=hY w _ Y;obtain⟨fd,hb,hF⟩:=F w mg S _ KX G.T.g O0;exact iQ KX G.T.g G.T.b G.T.builtins G.T.nolimit hg L I (cw z N0) hr hF hb (λH hO hS=>Z w H a O z hO hS) λH e U=>T0 w H J e U
def ML(s:Stmt)(j:Nat):Stmt:=match s with
 |.ClassDef _ _ _ d _ _ _ _ _ _ _=>d.getD j (.Pass ⟨0,0,0,0⟩)
 |_=>.Pass ⟨0,0,0,0⟩
def Eu(s:Stmt):Arguments:=match s with
 |.FunctionDef _ a _ _ _ _ _ _ _ _=>a
 |_=>{ posonlyargs:=[],args:=[],vararg:=W1,kwonlyargs:=[],kw_defaults:=[],kwarg:=W1,defaults:=[] }
def Bf(s:Stmt):List Stmt:=match s with
 |.FunctionDef _ _ b _ _ _ _ _ _ _=>b
 |_=>[]
def Ab(s:Stmt):kP:=match s with
 |.FunctionDef _ _ _ _ _ _ sc _ _ _=>sc
 |_=>{ kind:=.function,names:=[],isGenerator:=E3,isCoroutine:=E3 }
abbrev CX0:CXT:=λ_ _ _ _ _ _=>False
abbrev E0:XK:=λ_ _ _=>False
def VB:N6 CX0 X E0:=λ_ _ _ _ _ _ _ h=>h.elim
structure Fun (K:aI) (x qual:Str) (st:Stmt) (f:Addr) (fd:mN):Prop where
 ex:∃(oc:ac) (od:Option Addr) (kV doc pm:ac) (an:Option Addr) (cdv ct:ac) (osl:Array (Option ac)),
  fd=iL x qual (Eu st) (Bf st) (Ab st) .none kV doc pm an cdv ct/\K.lookup f=X0 ⟨oc,od,.func fd,osl⟩/\pV K cdv qual=E2
 kp:jI K (.ref f)=E2
section
variable {K:aI}{base:Heap}
def Fun.ok{f:Addr}{k:Nat}{sp:Sp}(F:Fun K x qual st f fd)(S:bc N ps (Ab st))(len:∀vs H Q E,sp vs H Q E->vs.length=ps.length)(L:∀(cdv:ac) (A:aE) (d:List Env) (s:ah) (H:Hp) (vs:List V) (Q:VK) (E:XK),Room k (A.deeper (gy qual (Ab st) s.heap.objs.size f cdv))->sp vs H Q E ->
   ∃t,SV (Po CX0 P w K mg base N qual (Ab st) f cdv A d s H E).nox (Bf st) t/\t { nx:=λ_ H'=>Q .non H',rt:=Q } (start N vs) H):kr P w K mg base CX0 (k+1) f fd ps sp:=by
 obtain⟨W,U,kV,J,T,Z,cdv,Y,z,rfl,G,g⟩:=F.ex;refine gw G g S len λA d s H vs Q E I O=>?_;obtain⟨t,h,q⟩:=L cdv A d s H vs Q E I O;exact⟨t,h.nox,q⟩
def Fun.binds{f:Addr}(F:Fun K x qual st f fd)(h:∀(kV doc pm:ac) (an:Option Addr) (cdv ct:ac) (us:List ac),us.length=ps.length->xo (iL x qual (Eu st) (Bf st) (Ab st) .none kV doc pm an cdv ct) ⟨us,[]⟩=pure (ps.zip us)):MV K fd ps []:=by
 obtain⟨W,J,kV,doc,pm,an,cdv,ct,z,rfl,G,d⟩:=F.ex;exact .all (h kV doc pm an cdv ct)
def Sy{f:Addr}{kV:ac}(l:K.lookup f=X0 ⟨oc,od,.func (iL x qual (Eu st) (Bf st) (Ab st) .none kV doc pm an cdv ct),osl⟩)(c:pV K cdv qual=E2)(k:jI K (.ref f)=E2):Fun K x qual st f (iL x qual (Eu st) (Bf st) (Ab st) .none kV doc pm an cdv ct):=⟨⟨oc,od,kV,doc,pm,an,cdv,ct,osl,rfl,l,c⟩,k⟩
end
def HB{A:aE}{k:Nat}(d:Room k A):A.units+1<bo:=si (Nat.add_le_add_left (by decide:1<=64) _) d.units
section
def pv(i:Nat){x:Str}{d:Pos}(I:X.N[i]?=X0 x:=by rfl)(z:UY X.env.scope x:=by first | exact dQ rfl | exact cq (dQ rfl) | exact cq (cq rfl))(G:.(8)=E3:=by decide)(g:(x==("__classdict__":Str))=E3:=by decide):PE X (.Name x d) (OL i):=Yn I z G g
end
def VY{A B:Prop}(h:B):if E3=E2 then A else B:=by
 rw[UF de];exact h
def Ya{A B:Prop}(h:A):if E2=E2 then A else B:=by
 rw[SF rfl];exact h
def ab(H d:Hp):Prop:=∀b o,H b=X0 o->d b=X0 o
def ab.refl(H:Hp):ab H H:=λ_ _ h=>h
def ab.trans(a:ab H H1)(b:ab H1 H2):ab H H2:=λc o h=>b c o (a c o h)
def ab.free(e:ab H H'){l:Addr}(h:H' l=IN):H l=IN:=by
 cases q:H l with
 |none=>rfl
 |some o=>
  rw[e l o q] at h;cases h
def ab.seq{K:aI}(e:ab H H')(h:MO K H a xs):MO K H' a xs:=by
 rcases h with (h | ⟨o,h⟩) | h
 .exact .inl (.inl (e _ _ h))
 .exact .inl (.inr ⟨o,e _ _ h⟩)
 .exact .inr h
def OP(cells:List (Str×Addr)):List (Str×ke)->List (Str×Addr)->List (Str×Addr)
 |[],cs=>cs
 |y::r,cs=>if y.2==.free then OP cells r ((y.1,(cells.lookup y.1).getD 0)::cs) else OP cells r cs
theorem S5{cells:List (Str×Addr)}{x:Str}{c:Addr}:∀{names:List (Str×ke)}{cs:List (Str×Addr)},(∀y∈names,y.2=.free ->∃c,cells.lookup y.1=X0 c) ->
  (OP cells names cs).lookup x=X0 c->cs.lookup x=X0 c∨cells.lookup x=X0 c
 |[],_,_,h=>.inl h
 |y::r,cs,G,h=>by
  unfold OP at h;split at h
  .rename_i g;have d:y.2=.free :=by simpa using g
   obtain⟨L,I⟩:=G y df d
   rcases S5 (λz O=>G z (cp _ O)) h with q | q
   .rw[ca] at q;split at q
    .rename_i e;have J:x=y.1:=by simpa using e
     rw[I] at q;subst J;right;rw[I];simpa using q
    .exact .inl q
   .exact .inr q
  .exact S5 (λz O=>G z (cp _ O)) h
theorem Qg{cells:List (Str×Addr)}{x:Str}:∀{names:List (Str×ke)}{cs:List (Str×Addr)},(∃c,cs.lookup x=X0 c)->∃c,(OP cells names cs).lookup x=X0 c
 |[],_,h=>h
 |y::r,cs,h=>by
  unfold OP;split
  .apply Qg;rw[ca];split
   .exact⟨_,rfl⟩
   .exact h
  .exact Qg h
theorem Lz{cells:List (Str×Addr)}{x:Str}:∀{names:List (Str×ke)}{cs:List (Str×Addr)},(x,tJ)∈names->∃c,(OP cells names cs).lookup x=X0 c
 |[],_,h=>by cases h
 |y::r,cs,h=>by
  unfold OP
  rcases bp.mp h with e | h
  .subst e;rw[SF (by rfl)];apply Qg;rw[ca];simp
  .split
   .exact Lz h
   .exact Lz h
theorem Z9{env:Env}:∀(names:List (Str×ke)) (cs:List (Str×Addr)),(∀y∈names,y.2=.free ->∃c,env.cells.lookup y.1=X0 c) ->
  (forIn names cs (λx r=>match x with
   | (name,d)=>if (d==tJ)=E2 then do let a <-cellOf env name;pure (u7 ((name,a)::r)) else pure (u7 r)):Sem (List (Str×Addr)))=pure (OP env.cells names cs)
 |[],_,_=>rfl
 | (n,k)::r,cs,J=>by
  have G:=λcs=>Z9 r cs (λz O=>J z (cp _ O));rw[List.forIn_cons]
  by_cases I:(k==tJ)=E2
  .obtain⟨c,L⟩:=J (n,k) df (by simpa using I);have g:env.cells.lookup n=X0 c:=L;have e:cellOf env n=pure c:=by unfold cellOf;rw[g]
   simp only[I,MH,e];show (forIn r ((n,c)::cs) _:Sem _)=_;rw[G]
   conv=>rhs;unfold OP
   simp only[I,MH,g,Option.getD_some]
  .simp only[I,NH];show (forIn r cs _:Sem _)=_;rw[G]
   conv=>rhs;unfold OP
   simp only[I,NH];rfl
def Nf(G:∀y∈scope.names,y.2=.free ->∃c,env.cells.lookup y.1=X0 c):closureFor scope env=pure (OP env.cells scope.names []):=by
 have h:=Z9 (env:=env) scope.names [] G;unfold closureFor;show ((forIn scope.names [] _:Sem _) >>= λr=>pure r)=_;exact (SG (λm=>m >>= λr=>pure r) h)
theorem GZ{env:Env}{x:Str}{k:ke}:∀{names:List (Str×ke)},(names.map λ(n,k)=>if (k==tJ&&env.scope.kind==.function&&env.kindOf n==X0 .cell) then (n,NameKind.cell) else (n,k)).lookup x=X0 k ->
  ∃k',(x,k')∈names/\(k'=k∨(k'=.free /\k=.cell))
 |[],h=>by simp at h
 | (n,d)::r,h=>by
  rw[bb] at h;have J:=@GZ env x k r
  by_cases I:(d==tJ&&env.scope.kind==.function&&env.kindOf n==X0 .cell)=E2
  .simp only[I,MH] at h;rw[ca] at h;split at h
   .rename_i e;have O:x=n:=by simpa using e
    subst O;have g:d=.free :=by
     rw[eP,eP] at I;simpa using I.1.1
    cases h;exact⟨d,df,.inr ⟨g,rfl⟩⟩
   .obtain⟨k',G,z⟩:=J h;exact⟨k',cp _ G,z⟩
  .simp only[I,NH] at h;rw[ca] at h;split at h
   .rename_i e;have O:x=n:=by simpa using e
    subst O;cases h;exact⟨d,df,.inl rfl⟩
   .obtain⟨k',G,z⟩:=J h;exact⟨k',cp _ G,z⟩
def Br(z N:List Str):List Str:=N.map λy=>if y∈z then nV else y
abbrev Dh (t:Str) (N:List Str):List Str:=Br [t] N
abbrev Bg (X:Cx) (scope:kP) (N2:List Str) (s2:ah) (H2:Hp) (fp:List Addr):Cx:=
 { X with N:=N2,s₀:=s2,H₀:=H2,env:=compEnvC scope (OP X.env.cells scope.names []) (s2.heap.objs.size+1) X.env,outer:=X.stack,ex:=fp,fn:=λ_=>E3,pn:=[],xe:=λ_ _=>False }
structure nj (X:Cx) (scope:kP) (ts:List Str):Prop where
 nocell:∀y∈scope.names,y.2≠.cell
 kind:scope.kind=.function
 names:∀y∈scope.names,y.2=.local ->scope.names.lookup y.1=X0 .local
 tl:∀t∈ts,scope.names.lookup t=X0 .local
 loc:∀y∈scope.names,y.2=.local ->y.1∈ts∨y.1∉X.N
 fre:∀y∈scope.names,y.2=.free ->X.env.kindOf y.1=X0 .cell ∨X.env.kindOf y.1=X0 .free
 emp:∀y∈scope.names,y.1≠nV
 nd:∀t∈ts,Uq (Br ts X.N++ts) t
section
variable {t:Str}{ts:List Str}
theorem nj.cells(c:nj X scope ts)(ok:X.Ok):∀y∈scope.names,y.2=.free ->∃c,X.env.cells.lookup y.1=X0 c:=λy g G=>ok.has y.1 (c.fre y g G)
def nj.sub(c:nj X scope ts)(ok:X.Ok){x:Str}{a:Addr}(h:(OP X.env.cells scope.names []).lookup x=X0 a):X.env.cells.lookup x=X0 a:=by
 rcases S5 (c.cells ok) h with q | q
 .simp at q
 .exact q
theorem nj.inv{h1:Heap}{tk:Nat}(c:nj X scope ts)(I:Inv X π σ H s)(hf:∀b∈fp,Ts X π H b)(ho:∀b∈fp,∃o,s.heap.get? b=X0 o)(N1:h1.Ns .(12) (λ_=>W1))(kp:∀b o,s.heap.get? b=X0 o->h1.get? b=X0 o)(Z:h1.get? s.heap.objs.size=X0 { cls:=.type "list",data:=.seq #[] }):
  Inv (Bg X scope (Br ts X.N++ts) s H fp) [] (σ++xp ts.length W1) (fk H s.heap.objs.size (.lst [])) { s with heap:=h1,toks:=tk }:=by
 have L:∀b o,s.heap.get? b=X0 o->b<s.heap.objs.size:=λb o e=>bn e;have S0:(Bg X scope (Br ts X.N++ts) s H fp).Ok:=by
  refine⟨I.ok.mod,c.kind,I.ok.glob,I.ok.blt,kz _,λx y a h1 h2=>I.ok.inj x y a (c.sub I.ok h1) (c.sub I.ok h2),λx hx=>?_,λx a h _=>MG (show E3=E2 from h) de,I.ok.hd,I.ok.frames,.inl rfl,λb W=>⟨?_,λx a h=>?_⟩,I.bs,cw I.ok.bsz I.sz,λb o e W=>?_,λb W hs=>?_,I.stack,I.stkFree⟩
  .have T0:(og scope X.env).names.lookup x=X0 .cell ∨(og scope X.env).names.lookup x=X0 .free :=hx;have go:∀k,(og scope X.env).names.lookup x=X0 k->(k=.cell ∨k=.free)->(x,tJ)∈scope.names:=λk hk U=>by
    obtain⟨J,m,e⟩:=GZ hk
    rcases e with e | ⟨e,_⟩
    .subst e
     rcases U with z | z
     .exact MG z (c.nocell _ m)
     .rw[<-z];exact m
    .rw[<-e];exact m
   rcases T0 with h | h
   .exact Lz (go _ h (.inl rfl))
   .exact Lz (go _ h (.inr rfl))
  .obtain⟨o,e⟩:=ho b W;exact bX (mS (L b o e))
  .exact (hf b W).2.2.2.2.1 x a (c.sub I.ok h)
  .rcases (hf b W).2.2.2.1 with z | z
   .exact I.ok.noex b o e z
   .exact MG (fF (bn e) (cw I.ok.bsz z)) (gT _)
  .rcases bp.mp (I.stkSub b hs) with z | z
   .exact (hf b W).2.1 z
   .exact (hf b W).2.2.1 z
 have fr:H s.heap.objs.size=W1:=I.hok.fresh (aw _);have new:BV X.prog X.w (fk H s.heap.objs.size (.lst [])) h1 s.heap.objs.size (.lst []):=⟨eW _,[],0,.nil,Z⟩;refine⟨S0,rfl,I.bare,Un.laid kp (aw _) fr,⟨_,N1,λi x v e1 e2 e3=>?_⟩,λx a h=>?_,?_,λx a h=>?_,λp hp=>MG (show p∈([]:zP) from hp) .(1),I.hok.laid kp (aw _) new,?_⟩
 .have O0:(Br ts X.N++ts)[i]?=X0 x:=e1;have Y:i<σ.length:=by
   by_cases z:i<σ.length
   .exact z
   .rw[kS .(0),AF] at e2;split at e2<;>cases e2
  have X1:σ[i]?=X0 (X0 v):=by rw[m4 Y] at e2;exact e2
  have hN:i<X.N.length:=by rw[<-I.len];exact Y
  have g:(Br ts X.N)[i]?=X0 x:=by rw[m4 (by unfold Br;rw[av];exact hN)] at O0;exact O0
  unfold Br at g;rw[br] at g;have U1:(og scope X.env).names.lookup x=X0 .local ∨(og scope X.env).names.lookup x=X0 .cell ∨(og scope X.env).names.lookup x=X0 .free :=e3;have P1:∃J,(x,J)∈scope.names/\(J=.local ∨J=.free)/\(J=.free ->(og scope X.env).names.lookup x=X0 .cell ∨(og scope X.env).names.lookup x=X0 .free):=by
   rcases U1 with z | z | z
   .obtain⟨J,m,e⟩:=GZ z
    rcases e with e | ⟨_,e⟩
    .exact⟨J,m,.inl e,λq=>by rw[q] at e;cases e⟩
    .cases e
   .obtain⟨J,m,e⟩:=GZ z
    rcases e with e | ⟨e,_⟩
    .exact MG e (c.nocell _ m)
    .exact⟨J,m,.inr e,λ_=>.inl z⟩
   .obtain⟨J,m,e⟩:=GZ z
    rcases e with e | ⟨e,q⟩
    .exact⟨J,m,.inr e,λ_=>.inr z⟩
    .cases q
  cases ey:X.N[i]? with
  |none=>rw[ey] at g;cases g
  |some y=>
   rw[ey] at g;have O:(if y∈ts then nV else y)=x:=cS g;obtain⟨J,m,G,S1⟩:=P1
   by_cases T:y∈ts
   .rw[SF T] at O;exact MG O.symm (c.emp _ m)
   .rw[UF T] at O;subst O
    rcases G with G | G
    .rcases c.loc _ m G with z | z
     .exact MG z T
     .exact MG (ic ey) z
    .have U:=c.fre _ m G;have S:X.env.kindOf y=X0 .cell ∨X.env.kindOf y=X0 .free :=U;obtain⟨mm,hn,hl⟩:=I.loc;have hv:UY X.env.scope y:=by
      rcases S with z | z
      .exact .inr (.inl z)
      .exact .inr (.inr z)
     obtain⟨u,r,l⟩:=hl i y v ey X1 hv;refine⟨u,r,.inr ⟨S1 G,?_⟩⟩
     rcases l with ⟨kl,_⟩ | ⟨_,a,ea,hc⟩
     .rcases S with z | z
      .rw[kl] at z;cases z
      .rw[kl] at z;cases z
     .rw[G] at m;obtain⟨a',N0⟩:=Lz (cells:=X.env.cells) (cs:=[]) m;refine⟨a',N0,?_⟩;have:=c.sub I.ok N0;rw[ea] at this;cases this;obtain⟨o,e,d⟩:=hc;exact⟨o,kp _ _ e,d⟩
 .obtain⟨v,o,e,d⟩:=I.cell x a (c.sub I.ok h);exact⟨v,o,kp _ _ e,d⟩
 .show fk H s.heap.objs.size (.lst []) .(12)=W1;rw[Al (IO _)];exact I.hok.fresh (kz _)
 .have ha:=c.sub I.ok h;obtain⟨v,o,e,d⟩:=I.cell x a ha;rw[Al (bX (L _ _ e))];exact I.freeC x a ha
 .show (σ++xp ts.length W1).length=(Br ts X.N++ts).length;unfold Br;rw[fh,fh,av,I.len,xv]
def Y6(n:Nat)(Z:TI)(g:TG)(tc:TT)(te:TE):TE:=λI H Q=>Z I H λJ G=>∀p,G p=W1->∃W:Nat->Nat->List V->Hp->Prop,(∃m,W 0 m [] (fk G p (.lst []))) ∧
 ∀i m d H,W i m d H->(J.stop i H/\Q (.ref p) H)∨(J.go i H/\∀x Y,J.yld i H x Y->∀L:List (Option V),L.length=n->g x (I++L) Y λz G=>(∃O,z=I++O/\O.length=n)/\tc z G λb T=>
  if b=E2 then te z T λy S=>S p=X0 (.lst d)/\d.length<sizeLine/\∃U,U<m/\W (i+1) U (d++[y]) (fk S p (.lst (d++[y]))) else ∃U,U<m/\W (i+1) U d T)
def PTs(X:Cx)(d:List Expr)(tc:TT):Prop:=
 ∀(z:zP) (s:ah) (g:St) (H:Hp) (Q:Bool->Hp->Prop),Inv X z g H s->tc g H Q ->
  ag .(3) X.A (forIn d E2 λc r=>if r=E2 then do let ok <-pc c X.env (eval c X.env);pure (u7 ok) else pure (u7 r)) (TP X z g Q) X.xe s
def qW:PTs X [] (λ_ H Q=>Q E2 H):=λ_ _ _ H _ I h=>wpAny_tests_nil ⟨H,I,h⟩
def qX(h:PT X e tc):PTs X [e] tc:=λd s g H Q I q=>wpAny_tests_one (h d s g H Q I q)
variable {elt iter:Expr}{ifs:List Expr}{px:Pos}{wi:TI}{g:TG}
def Y7{A:aE}{R:nL->ah->Prop}{d z:ac}(J:Nat->ah->Prop)(E:ac->ah->Prop)(hE:E=notedBy (ai prog w) A env λe T=>R (.error e) T)(go:∀n s,J n s->ag (ai prog w) A (eK d) (λr s1=>match r with
      |none=>R (.ok .next) s1
      |some v=>ag (ai prog w) A (Au tg d v) (λ_ S=>ag (ai prog w) A (nE tg env v) (λ_ W=>
          ag (ai prog w) A (forIn ifs E2 λc r=>if r=E2 then do let ok <-pc c env (eval c env);pure (u7 ok) else pure (u7 r)) (λok G=>
            if ok=E2 then ag (ai prog w) A (eval elt env) (λx L=>ag (ai prog w) A (call (.builtin "list.append") [z,x]) (λ_ I=>∃m,m<n/\J m I) E L) E G else ∃m,m<n/\J m G) E W) E S) E s1) E s)(n:Nat)(j0:J n s):gg (ai prog w) A (.compLoop .(9) 0 d z env) R s:=by
  subst hE;refine codeAny_loop rfl J (λn s Z=>?_) n j0;show ag _ A (Sem.onRaise (compTurn .(9) 0 d z env) (λx=>do noteFrame x env;theTreesLotGoes x)) _ _ s;refine wpAny_noted ?_;rw[compTurn_list];refine ae (AD (ae (mo (go n s Z) λr s1 q1=>?_)));cases r with
  |none=>exact ar q1
  |some v=>
    refine ae (mo q1 λ_ S q2=>ae (mo q2 λ_ W q3=>ae (mo q3 λok G O=>?_)));cases ok with
    |false=>exact ar ⟨rfl,O⟩
    |true=>exact ae (ae (mo O λx L Y=>ae (mo Y λ_ I U=>ar (ar ⟨rfl,U⟩))))
def S6{Q:VK}{tn:Nat->Heap->Prop}{J:It}{RR:ac->Addr->nL->ah->Prop}(c:nj X scope ts)(hc:X.calm=E2)(I:Inv X π σ H s)(T:To X.prog X.w X.K tg J fp it tn)(X2:tn 0 s.heap)(hf:∀b∈fp,Ts X π H b)(hG:∀s2 H2 fp,PG (Bg X scope (Br ts X.N++ts) s2 H2 fp) tg g)(hI:∀s2 H2 fp,PTs (Bg X scope (Br ts X.N++ts) s2 H2 fp) ifs tc)(hE:∀s2 H2 fp,PE (Bg X scope (Br ts X.N++ts) s2 H2 fp) elt te)(h:∀p,H p=W1->∃W:Nat->Nat->List V->Hp->Prop,(∃m,W 0 m [] (fk H p (.lst []))) ∧
      ∀i m ys H,W i m ys H->(J.stop i H/\Q (.ref p) H)∨(J.go i H/\∀x H',J.yld i H x H'->∀os:List (Option V),os.length=ts.length->g x (σ++os) H' λT0 H1=>(∃o2,T0=σ++o2/\o2.length=ts.length)/\tc T0 H1 λb H2=>
        if b=E2 then te T0 H2 λy H3=>H3 p=X0 (.lst ys)/\ys.length<sizeLine/\∃m',m'<m/\W (i+1) m' (ys++[y]) (fk H3 p (.lst (ys++[y]))) else ∃m',m'<m/\W (i+1) m' ys H2))(f8:∀p C s' H' m,Inv X π σ H' s'->H' C=W1->C≠X.env.locals->X.s₀.heap.objs.size<=C->(∀x a,X.env.cells.lookup x=X0 a->a≠C)->(∀q∈X.pn++π,q.1≠C)->s'.heap.Ns C m->Q (.ref p) H'->RR (.ref p) C (.ok .next) s'):
    ag .(3) X.A (xI []) (λN4 s₃=>ag .(3) X.A (newFunctionEnv scope X.env.globals (OP X.env.cells scope.names []) [] X.env.qual W1 .none (X0 X.env)) (λO0 Q2=>
      gg .(3) X.A (.compStart .(9) 0 (.ref it) N4 { O0 with scope:=og scope X.env }) (RR N4 O0.locals) Q2) E s₃) E s:=by
  refine kB (wpAny_newFunctionEnv c.nocell (by intro y hy;simp at hy) (λh₁ L G=>?_) c.kind);dsimp only at L G ⊢;generalize S1:s.heap.push { cls:=.type "list",dict:=W1,data:=.seq ([]:List ac).toArray }=G2 at L G ⊢;have hC:G2.objs.size=s.heap.objs.size+1:=by rw[<-S1,iE]
  rw[hC] at L G ⊢;have kp:∀b o,s.heap.get? b=X0 o->h₁.get? b=X0 o:=λb o e=>G.extBut b o (bX (mS (bn e))) (ba _ (S1▸ba _ e));have P3:h₁.get? s.heap.objs.size=X0 { cls:=.type "list",data:=.seq #[] }:=G.extBut _ _ (bX (tq _)) (ba _ (S1▸bS _ rfl));have P1:∀b∈fp,∃o,s.heap.get? b=X0 o:=λb O=>let ⟨o,e,_⟩:=T.obj 0 _ X2 b O;⟨o,e⟩;have I0:=c.inv (fp:=fp) (h1:=h₁) (tk:=s.toks+([]:List (Str×ac)).length) I hf P1 (by simpa using L) kp P3;have fr:H s.heap.objs.size=W1:=I.hok.fresh (aw _);obtain⟨W,⟨m0,w0⟩,X1⟩:=h _ fr;have U2:tn 0 h₁:=T.keep 0 _ _ X2 λb _ o e=>kp b o e;generalize S:Bg X scope (Br ts X.N++ts) s H fp=Y at I0;have N3:Y.calm=E2:=by rw[<-S];exact hc
  have U:∀{H':Hp},(∀b∈fp,H' b=W1)->∀b∈fp,Ts Y [] H' b:=λ{H'} hn b O=>by
    obtain⟨o,e⟩:=P1 b O;refine⟨hn b O,?_,?_,.inl ?_,λx a e'=>?_,λp hp=>?_⟩
    . rw[<-S];exact bX (mS (bn e))
    . intro z
      exact I0.ok.exfs b (by rw[<-S];exact O) z
    . rw[<-S];exact O
    . exact (I0.ok.exf b (by rw[<-S];exact O)).2 x a e'
    . rw[<-S] at hp
      exact MG (show p∈([]:zP) from hp) .(1)
  have X9:∀b∈fp,fk H s.heap.objs.size (.lst []) b=W1:=λb O=>by
    obtain⟨o,e⟩:=P1 b O;rw[Al (bX (bn e))];exact (hf b O).1
  have Z:Y.env=compEnvC scope (OP X.env.cells scope.names []) .(12) X.env:=by rw[<-S]
  have pY:Y.prog=X.prog:=by rw[<-S]
  have wY:Y.w=X.w:=by rw[<-S]
  have aY:Y.A=X.A:=by rw[<-S]
  have kY:Y.K=X.K:=by rw[<-S]
  have xY:Y.xe=λ_ _=>False:=by rw[<-S]
  have u8:PTs Y ifs tc:=by rw[<-S];exact hI s H fp
  have N9:PE Y elt te:=by rw[<-S];exact hE s H fp
  have P8:PG Y tg g:=by rw[<-S];exact hG s H fp
  have N0:∀s₃:ah,s₃={ s with heap:=h₁,toks:=s.toks+([]:List (Str×ac)).length } ->
      gg .(3) X.A (.compLoop .(9) 0 (.ref it) .(11) (compEnvC scope (OP X.env.cells scope.names []) .(12) X.env)) (RR .(11) .(12)) s₃:=by
    rintro s₃ rfl;rw[<-Z];refine Y7 (λn s'=>∃i ys os H',os.length=ts.length/\Inv Y [] (σ++os) H' s'/\tn i s'.heap/\(∀b∈fp,H' b=W1)/\W i n ys H') _ rfl ?_ m0 ⟨0,[],_,_,xv,I0,U2,X9,w0⟩;rintro n s3 ⟨i,ys,os,H3,P6,I3,T2,S3,w3⟩
    rcases X1 i n ys H3 w3 with ⟨S2,qn⟩ | ⟨go,step⟩
    . have d:=T.done Y pY wY kY N3 i [] s3 _ H3 (λ_ _=>False) I3 (U S3) T2 S2
      rw[aY] at d;refine i7 d (λr s4 q0=>?_) λ_ _ z=>z.elim;obtain⟨hr,I4⟩:=q0;subst hr;have cN:=I4.free;have cN':H3 .(12)=W1:=by rw[Z] at cN;exact cN
      have un:=I4.base;obtain⟨m,hm,_⟩:=I4.loc;have P7:s4.heap.Ns .(12) m:=by rw[Z] at hm;exact hm
      have P4:Un (frs X.stack) fp H H3 s.heap s4.heap:=by rw[<-S] at un;exact un
      have S4:s4.os=s.os:=by have:=I4.os;rw[<-S] at this;exact this
      have Y2:Pp X.prog X.w H3 s4.heap:=by have:=I4.hok;rw[<-S] at this;exact this
      have U1:=I4.bare;have IX:Inv X π σ H3 s4:=I.call' S4 P4 Y2 U1 λb O=>⟨(hf b O).2.2.2.1,(hf b O).2.1,(hf b O).2.2.2.2.1,(hf b O).2.2.2.2.2⟩;refine f8 _ _ _ _ m IX cN' (pd (mS I.lt)) (cw I.sz (kz _)) (λx a e z=>?_) (λq hq z=>?_) P7 qn
      . obtain⟨v,oc,e',_⟩:=I.cell x a e
        have q2:a<s.heap.objs.size:=bn e';have z':a=s.heap.objs.size+1:=z;exact MG (z'▸q2) (kD.mpr (kz _))
      . have q2:q.1<s.heap.objs.size:=bn (I.pin q hq).1
        have z':q.1=s.heap.objs.size+1:=z;exact MG (z'▸q2) (kD.mpr (kz _))
    . have d:=T.item Y pY wY kY N3 i [] s3 _ H3 (λ_ _=>False) I3 (U S3) T2 go
      rw[aY] at d;refine i7 d (λr s4 q9=>?_) λ_ _ z=>z.elim;obtain⟨u,hr,h4⟩:=q9;subst hr;refine i7 h4 (λ_ s4 p0=>?_) λ_ _ z=>z.elim;obtain⟨x,H5,I5,r5,y5,N1,P9⟩:=p0;have I5':=I5.pinned (U P9) (T.obj _ _ N1);have Y3:=P8 _ s4 _ H5 x u _ I5' r5 (step x H5 y5 os P6);rw[aY,pY,wY,xY] at Y3;refine i7 Y3 (λ_ s6 p9=>?_) λ_ _ z=>z.elim;obtain⟨σ6,H6,I6,⟨o2,e6,l6⟩,q⟩:=p9;subst e6;have Y1:=u8 _ s6 _ H6 _ I6 q;rw[aY,pY,wY,xY] at Y1;refine i7 Y1 (λb s7 g0=>?_) λ_ _ z=>z.elim;obtain⟨H7,I7,q7⟩:=g0;have S0:∀{H8:Hp}{s8:ah},Inv Y ([]++Sg fp s4.heap) (σ++o2) H8 s8->tn (i+1) s8.heap/\∀b∈fp,H8 b=W1:=λ{H8 s8} I8=>by
        refine⟨T.keep _ _ _ N1 λb O ob e=>(I8.pin (b,ob) (fR _ (fR _ (Kl O e)))).1,λb O=>?_⟩;obtain⟨ob,e,d⟩:=T.obj _ _ N1 b O;exact (I8.pin (b,ob) (fR _ (fR _ (Kl O e)))).2.1
      cases b with
      |false=>
        rw[UF de] at q7 ⊢;obtain⟨m',hm,w7⟩:=q7;obtain⟨t7,f7⟩:=S0 I7;exact⟨m',hm,i+1,ys,o2,H7,l6,I7.unpinned,t7,f7,w7⟩
      |true=>
        rw[SF rfl] at q7 ⊢;have ev:=N9 _ s7 _ H7 _ I7 q7;rw[aY,pY,wY,xY] at ev;refine i7 ev (λy s8 g9=>?_) λ_ _ z=>z.elim;obtain⟨yv,H8,I8,r8,r6,P5,m',hm,w8⟩:=g9;have ap:=M6 (X:=Y) _ s8 _ H8 .(11) [yv] .(11) [y] (λ_ H9=>H9=fk H8 s.heap.objs.size (.lst (ys++[yv]))) I8 rfl (.cons r8 .nil) ⟨_,ys,yv,rfl,rfl,r6,P5,rfl⟩;rw[aY,pY,wY,xY] at ap;refine i7 ap (λ_ s9 u0=>?_) λ_ _ z=>z.elim;obtain⟨_,H9,I9,_,e9⟩:=u0;subst e9;obtain⟨t9,f9⟩:=S0 I9;exact⟨m',hm,i+1,_,o2,_,l6,I9.unpinned,t9,f9,w8⟩
  exact codeAny_compStart_list (N0 _ rfl) (T.self X.A 0 _ _ _ U2 (N0 _ rfl))
theorem iR(c:nj X scope ts)(hc:X.calm=E2)(hi:PI X tg iter wi)(hG:∀S H2 fp,PG (Bg X scope (Br ts X.N++ts) S H2 fp) tg g)(hI:∀S H2 fp,PTs (Bg X scope (Br ts X.N++ts) S H2 fp) ifs tc)(hE:∀S H2 fp,PE (Bg X scope (Br ts X.N++ts) S H2 fp) elt te)(hs:∀x,kR iter X.env x=pure x:=by intro _;rfl):PE X .(9) (Y6 ts.length wi g tc te):=by
 intro G s z H Q I h;rw[eval_ListComp];refine IP (use:=W1) rfl hs (Nf (c.cells I.ok)) c.kind c.names (mo (hi G s z H _ I h) λv s1 h1=>mo h1 λZ S h2=>?_);obtain⟨it,fp,tn,J,H2,e,I2,T,d,f2,q⟩:=h2;subst e;refine S6 (Q:=Q) c hc I2 T d f2 hG hI hE q λp C O H' m I' n1 n2 n3 Y W hm U=>?_;exact⟨m,hm,λh' L=>⟨.ref p,H',I'.turned (t':=O.toks) (λb o hb e=>(L.2 b hb).trans e) n1 (cf (cf n2)) (.inr n3) Y W,rfl,U⟩⟩
theorem iT(c:nj X scope ts)(hc:X.calm=E2)(hN:X.N.Nodup)(U:X.N[i]?=X0 y)(hx:Loc X.env.scope y)(hi:PI X tg iter wi)(hG:∀S H2 fp,PG (Bg X scope (Br ts X.N++ts) S H2 fp) tg g)(hI:∀S H2 fp,PTs (Bg X scope (Br ts X.N++ts) S H2 fp) ifs tc)(hE:∀S H2 fp,PE (Bg X scope (Br ts X.N++ts) S H2 fp) elt te)(O:eR .(9) (X0 (.Name y py)) spos.line X.env=pure E2:=by rfl)(hf:X.fn y=E2∨X.env.scope.names.lookup y=X0 .local :=by first | exact .inl rfl | exact .inr rfl | assumption)(hs:∀x,kR iter X.env x=pure x:=by intro _;rfl):
  PS X (.Assign [.Name y py] .(9) spos) (TZ (Y6 ts.length wi g tc te) (Ff i)):=by
 intro Z s Y H D I h;rw[exec_Assign_Name_used _ _ _ _ O];refine ae (AD (ae ?_));show ag _ X.A (do let _ <-comprehension .(9) scope X.env _ (xI []) E3 (eval iter X.env) (X0 (nE (.Name y py) X.env))) _ _ s;refine ae (i7 (IP (use:=X0 (nE (.Name y py) X.env)) (Q:=λ_ L=>SP X Z D .next L) rfl hs (Nf (c.cells I.ok)) c.kind c.names
  (mo (hi Z s Y H _ I h) λv s1 h1=>mo h1 λN0 S h2=>?_)) (λ_ L hq=>ar (ar hq)) λ_ _ e=>e)
 obtain⟨it,fp,tn,J,H2,e,I2,T,d,f2,q⟩:=h2;subst e;refine S6 (Q:=λx H1=>Ff i x Y H1 D.nx) c hc I2 T d f2 hG hI hE q λp C L H' m I' n1 n2 n3 n4 n5 hm q'=>?_;show ag _ X.A (nE (.Name y py) X.env (.ref p)) _ _ _;refine CO (U3 (v:=.ref p) I' hN U hx rfl (λs3 I3 v0=>?_) hf);obtain⟨a,sb,ha⟩:=v0;have W:C≠a:=by
  rcases ha with z | z
  .rw[z];exact n2
  .exact cf (n4 _ _ z)
 exact⟨m,hm.sameBut sb W,λh' G=>⟨_,H',I3.turned (t':=s3.toks) (λb o hb e=>(G.2 b hb).trans e) n1 n2 (.inr n3) n4 n5,q'⟩⟩
abbrev L_ (X:Cx) (scope:kP) (t:Str):Prop:=nj X scope [t]
abbrev Km (X:Cx) (scope:kP) (t:Str) (s2:ah) (H2:Hp) (fp:List Addr):Cx:=Bg X scope (Dh t X.N++[t]) s2 H2 fp
def S7(J:Uq X.N x)(z:X.N[i]?=X0 x)(d:Loc X.env.scope x)(G:X.fn x=E2∨X.env.scope.names.lookup x=X0 .local):PG X (.Name x pos) (Ff i):=by
 intro S s O H v u Q I r h;exact CO (SX I J z d r (λT L _=>⟨_,H,L,h⟩) G)
def gOne(c:L_ X scope t)(S:ah)(d:Hp)(fp:List Addr):PG (Km X scope t S d fp) (.Name t px) (Ff X.N.length):=
 S7 (c.nd t (ii.mpr rfl)) (by show (Dh t X.N++[t])[X.N.length]?=X0 t;unfold Dh Br;rw[kS (by rw[av];exact aw _),av,xL];rfl) (.inl (AR (c.tl t (ii.mpr rfl)))) (.inr (AR (c.tl t (ii.mpr rfl))))
def um(X:Cx)(I:TI):TI:=λd H R=>∃z,I d H z/\∀J G,d.length=X.N.length->z J G->R J G
def Z_(Y:PI X tg iter wi):PI X tg iter (um X wi):=λG s z H R I ⟨R0,h0,W⟩=>
 mo (Y G s z H R0 I h0) λv s1 Z=>mo Z (by rintro O s2 ⟨S,fp,L,J,d,e,I',T,U,f,r⟩;exact ⟨S,fp,L,J,d,e,I',T,U,f,W J d I.len r⟩)
end
end L2
namespace PV
open PySem L2
set_option genInjectivity true in
inductive D where
 |non | bl (b:Bool) | int (i:Int) | str (x:Str) | tup (ds:List D) | lst (ds:List D)
 |dk (kvs:List (Key×D)) | dt (kvs:List (List Key×D)) | ob (c:Str) (fs:List (Str×D)) | adr (a:Addr) | exc (c:Str) (fs:List (Str×D)) | err (c:Str) (fs:List (Str×D)) | mem (F:List (List Key)->Int)
set_option genInjectivity true in
inductive Slot where
 |un | fz (d:D) | ow (d:D)
abbrev Rho:=List Slot
abbrev FE:=Rho->Option D
abbrev FA:=Rho->Option (List D)
abbrev FT:=Rho->Option Bool
abbrev FO:=Rho->Option (Option Int)
abbrev FI:=Rho->Option (List D)
def vF(i:Nat):FE:=λρ=>match ρ[i]? with | some (.fz d)=>X0 d | _=>W1
def vU(i:Nat):FE:=λρ=>match ρ[i]? with | some (.fz d)=>X0 d | some (.ow d)=>X0 d | _=>W1
def kF(d:D):FE:=λ_=>X0 d
def bF(g:D->D->Option D)(S d:FE):FE:=λρ=>(S ρ).bind λx=>(d ρ).bind λy=>g x y
def uF(g:D->Option D)(S:FE):FE:=λρ=>(S ρ).bind g
def tu(f:FE):FT:=λρ=>match f ρ with | some (.bl b)=>X0 b | _=>W1
def YN(g:Int->Int->Option D):D->D->Option D:=λx y=>match x,y with | .int i,.int j=>g i j | _,_=>W1
instance (i j:Int):Decidable (CMul i j):=by unfold CMul;infer_instance
instance (i j:Int):Decidable (CDiv i j):=by unfold CDiv;infer_instance
instance (i j:Int):Decidable (CPow i j):=by unfold CPow;infer_instance
def ZU:=YN λi j=>X0 (.int (i-j))
def O7(i j:Int):Prop:=CMul i j∨(DZ i<=4194304/\DZ j<=4194304)
instance (i j:Int):Decidable (O7 i j):=by unfold O7;infer_instance
def CShl(i j:Int):Prop:=0<=j/\j<=1000000/\DZ i<=4194304
instance (i j:Int):Decidable (CShl i j):=by unfold CShl;infer_instance
def NO:=YN λi j=>if O7 i j then X0 (.int (i*j)) else W1
def Ec:=YN λi j=>if CDiv i j then X0 (.int (i/j)) else W1
def oo:=YN λi j=>if 0<j then X0 (.int (i%j)) else W1
def shlD:=YN λi j=>if CShl i j then X0 (.int (i*2^j.toNat)) else W1
def ltD:=YN λi j=>X0 (.bl (decide (i<j)))
def leD:=YN λi j=>X0 (.bl (decide (i<=j)))
def gtD:=YN λi j=>X0 (.bl (decide (j<i)))
def geD:=YN λi j=>X0 (.bl (decide (j<=i)))
def sq:D->D->Option D:=λx y=>match x,y with
 |.int i,.int j=>X0 (.int (i+j))
 |.str i,.str j=>if i.length+j.length<=sizeLine then X0 (.str (i++j)) else W1
 |.lst i,.lst j=>if i.length+j.length<=sizeLine then X0 (.lst (i++j)) else W1
 |_,_=>W1
def andF(S d:FE):FE:=λρ=>match S ρ with | some (.bl E2)=>d ρ | some (.bl E3)=>X0 (.bl E3) | _=>W1
def orF(S d:FE):FE:=λρ=>match S ρ with | some (.bl E2)=>X0 (.bl E2) | some (.bl E3)=>d ρ | _=>W1
def Tl(S d:FT):FT:=λρ=>match S ρ with | some E2=>d ρ | some E3=>X0 E3 | none=>W1
def orT(S d:FT):FT:=λρ=>match S ρ with | some E2=>X0 E2 | some E3=>d ρ | none=>W1
def Pe(S:FT):FT:=λρ=>(S ρ).map (!·)
def ZT:D->Option Bool
 |.non=>X0 E3
 |.bl b=>X0 b
 |.int i=>X0 (i != 0)
 |.str y=>if y.length<=sizeLine then X0 ((y.length:Int) != 0) else W1
 |.lst ds=>X0 (!ds.isEmpty)
 |.tup ds=>X0 (!ds.isEmpty)
 |_=>W1
def TH(f:FE):FT:=λρ=>(f ρ).bind ZT
def af:FA:=λ_=>X0 []
def Aa(S:FE)(fs:FA):FA:=λρ=>(S ρ).bind λd=>(fs ρ).map (d::·)
def Pt(fs:FA):FE:=λρ=>(fs ρ).bind λds=>if ds.length<=sizeLine then X0 (.tup ds) else W1
def Mo(fs:FA):FE:=λρ=>(fs ρ).bind λds=>if ds.length<=sizeLine then X0 (.lst ds) else W1
def ixD:D->D->Option D:=λx y=>match x,y with
 |.lst ds,.int i=>atI ds i
 |.tup ds,.int i=>atI ds i
 |.str z,.int i=>if z.length<=sizeLine then (atI z.cps.toList i).map λc=>.str ⟨#[c]⟩ else W1
 |_,_=>W1
def noO:FO:=λ_=>X0 W1
def Re(f:FE):FO:=λρ=>match f ρ with | some (.int i)=>X0 (X0 i) | _=>W1
def NR{α:Type}(ds:List α)(d z:Option Int):List α:=(ds.drop (HT.sIx ds.length 0 d)).take (HT.sIx ds.length ds.length z-HT.sIx ds.length 0 d)
def cutS(z:Str)(d g:Option Int):Str:=⟨(NR z.cps.toList d g).toArray⟩
def slD(x:D)(d g:Option Int):Option D:=match x with
 |.lst ds=>X0 (.lst (NR ds d g))
 |.tup ds=>if HT.sIx ds.length 0 d=0/\HT.sIx ds.length ds.length g=ds.length then W1 else X0 (.tup (NR ds d g))
 |.str z=>if z.length<=sizeLine then X0 (.str (cutS z d g)) else W1
 |_=>W1
def slF(f:FE)(l h:FO):FE:=λρ=>(f ρ).bind λx=>(l ρ).bind λd=>(h ρ).bind λz=>slD x d z
def SU:D->Option V
 |.non=>X0 .non
 |.bl b=>X0 (.bl b)
 |.int i=>X0 (.int i)
 |.str x=>X0 (.str x)
 |_=>W1
def NW:List D->Option (List V)
 |[]=>X0 []
 |d::r=>(SU d).bind λv=>(NW r).map (v::·)
def inD(d:Bool):D->D->Option D:=λx y=>match x,y with
 |.str i,.str j=>X0 (.bl (if d then !(!(pj j i 0 j.length 1).isEmpty) else !(pj j i 0 j.length 1).isEmpty))
 |x,.lst ds=>(SU x).bind λv=>(NW ds).map λvs=>.bl (if d then !VO v vs else VO v vs)
 |x,.tup ds=>(SU x).bind λv=>(NW ds).map λvs=>.bl (if d then !VO v vs else VO v vs)
 |_,_=>W1
def MR(f:D->D->Option Bool):List D->List D->Option Bool
 |[],[]=>X0 E2
 |x::xs,y::d=>match f x y,MR f xs d with | some a,X0 b=>X0 (a&&b) | _,_=>W1
 |_,_=>W1
def flD(x y:D):Option Bool:=(SU x).bind λu=>(SU y).map λv=>RI u v
def eqS(f:D->D->Option Bool):D->D->Option Bool
 |.lst xs,.lst d=>if xs.length=d.length then MR f xs d else X0 E3
 |.tup xs,.tup d=>if xs.length=d.length then MR f xs d else W1
 |x,y=>flD x y
def MM:Nat->D->D->Option Bool
 |0=>flD
 |n+1=>eqS (MM n)
def Se(x y:D):Option Bool:=match x,y with
 |.int i,.int j=>X0 (decide (i=j))
 |.str i,.str j=>X0 (decide (i=j))
 |.bl i,.bl j=>X0 (decide (i=j))
 |.lst xs,.lst d=>if xs.length=d.length then MR (MM 180) xs d else X0 E3
 |.tup xs,.tup d=>if xs.length=d.length then MR (MM 180) xs d else W1
 |_,_=>W1
def Nd(d:Bool)(x y:D):Option D:=(Se x y).map λb=>.bl (if d then !b else b)
def Pi:D->Option D
 |.str y=>if y.length<=sizeLine then X0 (.int y.length) else W1
 |.lst ds=>X0 (.int ds.length)
 |.tup ds=>X0 (.int ds.length)
 |_=>W1
def maxD:=YN λi j=>X0 (.int (if j > i then j else i))
def minD:=YN λi j=>X0 (.int (if j<i then j else i))
def iU:D->Option D
 |.lst ds=>X0 (.lst ds)
 |.tup ds=>X0 (.lst ds)
 |_=>W1
def intD:D->Option D
 |.int i=>X0 (.int i)
 |.bl k=>X0 (.int (if k then 1 else 0))
 |_=>W1
def VS(f:FE):FI:=λρ=>match f ρ with | some (.lst ds)=>X0 ds | some (.tup ds)=>X0 ds | _=>W1
def tx(n:Nat):List D:=(aS n).map λ(i:Nat)=>.int i
def vb(f:FE):FI:=λρ=>match f ρ with | some (.int j)=>if -(2^62)<=j/\j<2^62 then X0 (tx j.toNat) else W1 | _=>W1
set_option genInjectivity true in
inductive Pw where
 |nx (ρ:Rho) | rt (d:D) (ρ:Rho) | bk (ρ:Rho) | ct (ρ:Rho)
abbrev FS:=Rho->Option Pw
def RY:FS:=λρ=>X0 (.nx ρ)
def bm(g L:FS):FS:=λρ=>match g ρ with | some (.nx d)=>L d | o=>o
def Pm(t:FT)(g L:FS):FS:=λρ=>match t ρ with | some E2=>g ρ | some E3=>L ρ | none=>W1
def im(i:Nat)(f:FE):FS:=λρ=>(f ρ).map λd=>.nx (ρ.set i (.fz d))
def gq(f:FE):FS:=λρ=>(f ρ).map λd=>.rt d ρ
def retN:FS:=λρ=>X0 (.rt .non ρ)
def HD(f:FE):FS:=λρ=>(f ρ).map λ_=>.nx ρ
def badF:FS:=λ_=>W1
def ot(b:D->FS):List D->FS
 |[],ρ=>X0 (.nx ρ)
 |d::r,ρ=>match b d ρ with
  |some (.nx g)=>ot b r g
  |some (.ct g)=>ot b r g
  |some (.bk g)=>X0 (.nx g)
  |some (.rt e g)=>X0 (.rt e g)
  |none=>W1
abbrev FG:=D->Rho->Option Rho
def Ax(i:Nat):FG:=λd ρ=>X0 (ρ.set i (.fz d))
def OY(tg:FG)(b:FS):D->FS:=λd ρ=>(tg d ρ).bind b
def Cs(src:FI)(tg:FG)(b:FS):FS:=λρ=>(src ρ).bind λds=>ot (OY tg b) ds ρ
def HJ(c:FT)(b:FS):Nat->FS
 |0,_=>W1
 |n+1,ρ=>match c ρ with
  |some E3=>X0 (.nx ρ)
  |some E2=>(match b ρ with
   |some (.nx d)=>HJ c b n d
   |some (.ct d)=>HJ c b n d
   |some (.bk d)=>X0 (.nx d)
   |some (.rt e d)=>X0 (.rt e d)
   |none=>W1)
  |none=>W1
def An(g:List D->Option D)(fs:FA):FE:=λρ=>(fs ρ).bind g
def Cu(n:Nat)(ds:List D):Rho:=ds.map .fz++xp (n-ds.length) .un
def li(n g:Nat)(b:FS)(ds:List D):Option D:=if ds.length=g then (match b (Cu n ds) with | some (.rt d _)=>X0 d | some (.nx _)=>X0 .non | _=>W1) else W1
def J7(ρ:Rho)(g:FT)(fe:FE):List D->Option (List D)
 |[]=>X0 []
 |d::r=>match g (ρ++[.fz d]) with
  |some E2=>(fe (ρ++[.fz d])).bind λy=>(J7 ρ g fe r).map (y::·)
  |some E3=>J7 ρ g fe r
  |none=>W1
def A_(src:FI)(g:FT)(fe:FE):FE:=λρ=>(src ρ).bind λds=>if ds.length<=sizeLine then (J7 ρ g fe ds).map .lst else W1
def nq:FT:=λ_=>X0 E2
def WZ(val:Nat->Int):Nat->Int
 |0=>val 0
 |k+1=>if val (k+1) > WZ val k then val (k+1) else WZ val k
def J8:List D->Option (List Int)
 |[]=>X0 []
 |.int i::r=>(J8 r).map (i::·)
 |_::_=>W1
def XD(x y:D):Option D:=match x with
 |.lst ds=>(J8 ds).map λL=>if L=[] then y else .int (WZ (λi=>L.getD i 0) (L.length-1))
 |_=>W1
def Ng:List D->Option (List Str)
 |[]=>X0 []
 |.str i::r=>(Ng r).map (i::·)
 |_::_=>W1
def ltS(a b:Str):Bool:=decide (a.cps.toList<b.cps.toList)
def VZ(x:Str):List Str->List Str
 |[]=>[x]
 |y::r=>if ltS x y then x::y::r else if x=y then y::r else y::VZ x r
def CQ(xs:List Str):List Str:=xs.foldr VZ []
def setW(i:Nat)(f:FE):FS:=λρ=>(f ρ).map λd=>.nx (ρ.set i (.ow d))
def Pd(ρ:Rho)(i:Nat):Option D:=match ρ[i]? with | some (.ow d)=>X0 d | _=>W1
def NX(x v:D):Option D:=match x with | .lst ds=>if ds.length<sizeLine then X0 (.lst (ds++[v])) else W1 | _=>W1
def Sa(g:D->D->Option D)(i:Nat)(f:FE):FS:=λρ=>(f ρ).bind λv=>(Pd ρ i).bind λx=>(g x v).map λy=>.nx (ρ.set i (.ow y))
def frz1(ρ:Rho)(i:Nat):Rho:=match ρ[i]? with | some (.ow d)=>ρ.set i (.fz d) | _=>ρ
def XI(d:List Nat)(g:FS):FS:=λρ=>g (d.foldl frz1 ρ)
end PV
namespace EX
open PySem PySem.Spec L2
open PyProof.Rows hiding St
def tbV:Option Addr->ac
 |none=>.none
 |some T=>.ref T
def ExcP(a C:Addr)(J g:Option Addr):Heap->Prop:=λh=>∃o vs,h.get? a=X0 o/\o.cls=.ref C/\o.dict=J/\o.data=.fields vs/\vs.size=6/\vs[1]?=X0 (tbV g)
abbrev excO (a C:Addr) (od tb:Option Addr):HO:=.ext (ExcP a C od tb)
end EX
namespace PV
open PySem PySem.Spec L2
open PyProof.Rows hiding St
structure Gx where
 K:aI
 cl:Str->Option Addr
 xcl:Str->Option Addr:=λ_=>W1
 lent:Option Addr:=W1
def Dw{K:aI}(e:ab H H')(h:MZ K H a xs):MZ K H' a xs:=by
 rcases h with (h | ⟨o,h⟩) | h
 .exact .inl (.inl (e _ _ h))
 .exact .inl (.inr ⟨o,e _ _ h⟩)
 .exact .inr h
def Aj(h:H p=W1)(o:HO):ab H (fk H p o):=λb u q=>by rw[Al (Dd q h)];exact q
def FsV(fs:List (Str×V))(L:List (Str×D)):Prop:=fs.map (λp=>(p.1,X0 p.2))=L.map λp=>(p.1,SU p.2)
def XdA(H:Hp)(J:Option Addr)(fs:List (Str×V)):Prop:=match J with | some dx=>H dx=X0 (.xd fs) | none=>fs=[]
def XdA.mono{fs:List (Str×V)}(h:XdA H od fs)(s:ab H H'):XdA H' od fs:=by
 cases od with
 |none=>exact h
 |some dx=>exact s _ _ h
inductive il (G:Gx) (H:Hp):V->D->Prop
 |non:il G H .non .non
 |bl (b:Bool):il G H (.bl b) (.bl b)
 |int (i:Int):il G H (.int i) (.int i)
 |str (x:Str):il G H (.str x) (.str x)
 |tup {a:Addr}{xs:List V}{ds:List D}:MZ G.K H a xs->xs.length=ds.length->(∀(i:Nat) x d,xs[i]?=X0 x->ds[i]?=X0 d->il G H x d)->il G H (.ref a) (.tup ds)
 |lst {a:Addr}{xs:List V}{ds:List D}:MO G.K H a xs->xs.length=ds.length->(∀(i:Nat) x d,xs[i]?=X0 x->ds[i]?=X0 d->il G H x d)->il G H (.ref a) (.lst ds)
 |dk {a:Addr}{o:Obj}{kvs:List (Key×V)}{kds:List (Key×D)}:H a=X0 (.frz o (.dK kvs))->kvs.map (·.1)=kds.map (·.1)->(∀(i:Nat) x d,(kvs.map (·.2))[i]?=X0 x->(kds.map (·.2))[i]?=X0 d->il G H x d)->il G H (.ref a) (.dk kds)
 |dt {a:Addr}{o:Obj}{kvs:List (List Key×V)}{kds:List (List Key×D)}:H a=X0 (.frz o (.dT kvs))->kvs.map (·.1)=kds.map (·.1)->(∀(i:Nat) x d,(kvs.map (·.2))[i]?=X0 x->(kds.map (·.2))[i]?=X0 d->il G H x d)->il G H (.ref a) (.dt kds)
 |adr (a:Addr):il G H (.ref a) (.adr a)
 |ob {a C dx:Addr}{c:Str}{fs:List (Str×V)}{gs:List (Str×D)}:G.cl c=X0 C->H a=X0 (.ins C dx fs)->fs.map (·.1)=gs.map (·.1)->(∀(i:Nat) x d,(fs.map (·.2))[i]?=X0 x->(gs.map (·.2))[i]?=X0 d->il G H x d)->il G H (.ref a) (.ob c gs)
 |err {a C:Addr}{od tb:Option Addr}{c:Str}{fs:List (Str×V)}{gs:List (Str×D)}:G.xcl c=X0 C->H a=X0 (EX.excO a C od tb)->XdA H od fs->FsV fs gs->il G H (.ref a) (.err c gs)
 |mem {a:Addr}{F:List (List Key)->Int}:H a=X0 (.mem F G.K)->il G H (.ref a) (.mem F)
def be(G:Gx)(H:Hp)(xs:List V)(ds:List D):Prop:=xs.length=ds.length/\∀(i:Nat) x d,xs[i]?=X0 x->ds[i]?=X0 d->il G H x d
theorem il.mono{G:Gx}{H z:Hp}{v:V}{d:D}(r:il G H v d)(s:ab H z):il G z v d:=by
 induction r with
 |non=>exact .non
 |bl b=>exact .bl b
 |int i=>exact .int i
 |str x=>exact .str x
 |tup h l _ g=>exact .tup (Dw s h) l g
 |lst h l _ g=>exact .lst (s.seq h) l g
 |dk h l _ g=>exact .dk (s _ _ h) l g
 |dt h l _ g=>exact .dt (s _ _ h) l g
 |adr a=>exact .adr a
 |ob c h l _ g=>exact .ob c (s _ _ h) l g
 |err c h q f=>exact .err c (s _ _ h) (q.mono s) f
 |mem h=>exact .mem (s _ _ h)
theorem be.mono{G:Gx}{H g:Hp}{xs:List V}{ds:List D}(r:be G H xs ds)(s:ab H g):be G g xs ds:=⟨r.1,λi x d a b=>(r.2 i x d a b).mono s⟩
def be.nil{G:Gx}:be G H [] []:=⟨rfl,λi x d h=>by simp at h⟩
def be.cons{G:Gx}{H:Hp}{x:V}{d:D}{xs:List V}{ds:List D}(r:il G H x d)(I:be G H xs ds):be G H (x::xs) (d::ds):=
 ⟨by simp[I.1],λi y e z g=>by
  cases i with
  |zero=>simp at z g;subst z;subst g;exact r
  |succ i=>simp at z g;exact I.2 i y e z g⟩
def be.uncons{G:Gx}{d:D}{ds:List D}(r:be G H xs (d::ds)):∃x ys,xs=x::ys/\il G H x d/\be G H ys ds:=by
 obtain⟨l,h⟩:=r;cases xs with
 |nil=>simp at l
 |cons x ys=>exact⟨x,ys,rfl,h 0 x d rfl rfl,by simpa using l,λi y e z g=>h (i+1) y e (by simpa using z) (by simpa using g)⟩
def be.nil_inv{G:Gx}(r:be G H xs []):xs=[]:=by
 have:=r.1;cases xs with
 |nil=>rfl
 |cons x d=>simp at this
def be.append{G:Gx}{ds es:List D}(a:be G H xs ds)(b:be G H ys es):be G H (xs++ys) (ds++es):=by
 refine⟨by rw[fh,fh,a.1,b.1],λi x d I g=>?_⟩
 by_cases z:i<xs.length
 .rw[m4 z] at I;rw[m4 (by rw[<-a.1];exact z)] at g;exact a.2 i x d I g
 .rw[kS (kD.mp z)] at I;rw[kS (by rw[<-a.1];exact kD.mp z),<-a.1] at g;exact b.2 _ x d I g
theorem be.drop{G:Gx}{ds:List D}(a:be G H xs ds)(n:Nat):be G H (xs.drop n) (ds.drop n):=
 ⟨by rw[mP,mP,a.1],λi x d z g=>by rw[AS] at z g;exact a.2 _ x d z g⟩
theorem be.take{G:Gx}{ds:List D}(a:be G H xs ds)(n:Nat):be G H (xs.take n) (ds.take n):=
 ⟨by rw[kf,kf,a.1],λi x d g I=>by
  rw[List.getElem?_take] at g I;split at g
  .rename_i z;rw[SF z] at I;exact a.2 _ x d g I
  .cases g⟩
def be.get{G:Gx}{ds:List D}(a:be G H xs ds){i:Nat}{d:D}(h:ds[i]?=X0 d):∃x,xs[i]?=X0 x/\il G H x d:=by
 have z:i<ds.length:=(dP.mp h).1;have U:i<xs.length:=by rw[a.1];exact z
 exact⟨xs[i],by simp[U],a.2 i _ d (by simp[U]) h⟩
theorem be.atI{G:Gx}{H:Hp}{xs:List V}{ds:List D}(a:be G H xs ds){i:Int}{d:D}(h:L2.atI ds i=X0 d):∃x,L2.atI xs i=X0 x/\il G H x d:=by
 unfold L2.atI at h ⊢;rw[<-a.1] at h;cases e:ixN xs.length i with
 |none=>rw[e] at h;cases h
 |some j=>
  rw[e] at h;obtain⟨x,z,g⟩:=a.get (show ds[j]?=X0 d from h);exact⟨x,z,g⟩
def cc(A:List Addr)(H:Hp):Hp:=λb=>if b∈A then W1 else H b
def Az(s:ab H H'):ab (cc A H) (cc A H'):=λb o h=>by
 unfold cc at h ⊢;split at h
 .cases h
 .rename_i d;rw[UF d];exact s b o h
def Am:ab (cc A H) H:=λb o h=>by
 unfold cc at h;split at h
 .cases h
 .exact h
def Ed(h:∀a∈A,a∈B):ab (cc B H) (cc A H):=λb o q=>by
 unfold cc at q ⊢;split at q
 .cases q
 .rename_i d;rw[UF (λz=>d (h b z))];exact q
def BK(h:p∉A):cc A H p=H p:=by unfold cc;rw[UF h]
theorem Bh{o:HO}(h:p∈A):cc A (fk H p o)=cc A H:=by
 funext b;unfold cc
 by_cases d:b∈A
 .rw[SF d,SF d]
 .rw[UF d,UF d,Al (λe:b=p=>d (by rw[e];exact h))]
def MS(G:Gx)(A:List Addr)(H:Hp)(a:Addr):D->Prop
 |.lst ds=>∃xs,H a=X0 (.lst xs)/\be G (cc A H) xs ds
 |.dk d=>∃kvs,H a=X0 (.dK kvs)/\kvs.map (·.1)=d.map (·.1)/\be G (cc A H) (kvs.map (·.2)) (d.map (·.2))
 |.dt d=>∃kvs,H a=X0 (.dT kvs)/\kvs.map (·.1)=d.map (·.1)/\be G (cc A H) (kvs.map (·.2)) (d.map (·.2))
 |.ob c L=>∃C dx fs,H a=X0 (.ins C dx fs)/\(G.cl c=X0 C/\fs.map (·.1)=L.map (·.1))/\be G (cc A H) (fs.map (·.2)) (L.map (·.2))
 |_=>False
theorem MS.mono{G:Gx}{A:List Addr}{H I:Hp}{a:Addr}{d:D}(t:MS G A H a d)(s:ab H I):MS G A I a d:=by
 cases d with
 |lst z=>obtain⟨g,h,r⟩:=t;exact⟨g,s _ _ h,r.mono (Az s)⟩
 |dk z=>obtain⟨g,h,k,r⟩:=t;exact⟨g,s _ _ h,k,r.mono (Az s)⟩
 |dt z=>obtain⟨g,h,k,r⟩:=t;exact⟨g,s _ _ h,k,r.mono (Az s)⟩
 |ob c L=>obtain⟨C,dx,g,h,k,r⟩:=t;exact⟨C,dx,g,s _ _ h,k,r.mono (Az s)⟩
 |_=>exact t.elim
structure Nt (x:Option HO):Prop where
 ne:x≠W1
 tup:∀xs,x≠X0 (.tup xs)
def Nt.mono{x y:Option HO}(h:Nt x)(k:∀u,x=X0 u->y=X0 u):Nt y:=by
 cases x with
 |none=>exact MG rfl h.ne
 |some u=>rw[k u rfl];exact h
theorem Nt.lst{xs:List V}:Nt (X0 (.lst xs)):=⟨λz=>(nomatch z),λ_ z=>(nomatch z)⟩
theorem Nt.dK{xs:List (Key×V)}:Nt (X0 (.dK xs)):=⟨λz=>(nomatch z),λ_ z=>(nomatch z)⟩
theorem Nt.dT{xs:List (List Key×V)}:Nt (X0 (.dT xs)):=⟨λz=>(nomatch z),λ_ z=>(nomatch z)⟩
theorem Nt.ins{dx:Addr}{xs:List (Str×V)}:Nt (X0 (.ins C dx xs)):=⟨λz=>(nomatch z),λ_ z=>(nomatch z)⟩
structure OW (G:Gx) (A:List Addr) (σ:St) (H:Hp) (ρ:Rho):Prop where
 len:σ.length=ρ.length
 live:∀a∈A,Nt (H a)
 fz:∀(i:Nat) (d:D),ρ[i]?=X0 (.fz d)->∃v,σ[i]?=X0 (X0 v)/\il G (cc A H) v d
 ow:∀(i:Nat) (d:D),ρ[i]?=X0 (.ow d)->∃a,σ[i]?=X0 (X0 (.ref a))/\a∈A/\MS G A H a d
 inj:∀(i j:Nat) (d e:D) (a:Addr),ρ[i]?=X0 (.ow d)->ρ[j]?=X0 (.ow e)->σ[i]?=X0 (X0 (.ref a))->σ[j]?=X0 (X0 (.ref a))->i=j
theorem OW.mono{G:Gx}{A:List Addr}{g:St}{H z:Hp}{ρ:Rho}(o:OW G A g H ρ)(s:ab H z):OW G A g z ρ:=
 ⟨o.len,λa I=>(o.live a I).mono λu e=>s _ _ e,
  λi d h=>let ⟨v,h1,h2⟩:=o.fz i d h;⟨v,h1,h2.mono (Az s)⟩,λi d h=>let ⟨a,h1,h2,h3⟩:=o.ow i d h;⟨a,h1,h2,h3.mono s⟩,o.inj⟩
def mr(G:Gx)(A:List Addr)(H:Hp)(v:V)(d:D):Prop:=il G (cc A H) v d∨∃a,v=.ref a/\MS G A H a d
theorem mr.mono{G:Gx}{A:List Addr}{H g:Hp}{v:V}{d:D}(r:mr G A H v d)(s:ab H g):mr G A g v d:=by
 rcases r with r | ⟨a,e,r⟩
 .exact .inl (r.mono (Az s))
 .exact .inr ⟨a,e,r.mono s⟩
theorem mr.lst{G:Gx}{A:List Addr}{H:Hp}{v:V}{ds:List D}(r:mr G A H v (.lst ds)):∃a xs,v=.ref a/\MO G.K H a xs/\be G (cc A H) xs ds:=by
 rcases r with r | ⟨a,e,xs,h,r⟩
 .cases r with
  |lst h l r=>exact⟨_,_,rfl,Am.seq h,l,r⟩
 .exact⟨a,xs,e,.of h,r⟩
theorem mr.tup{G:Gx}{A:List Addr}{H:Hp}{v:V}{ds:List D}(r:mr G A H v (.tup ds)):∃a xs,v=.ref a/\MZ G.K H a xs/\be G (cc A H) xs ds:=by
 rcases r with r | ⟨a,e,r⟩
 .cases r with
  |tup h l r=>exact⟨_,_,rfl,Dw Am h,l,r⟩
 .exact r.elim
theorem mr.int{G:Gx}{i:Int}(r:mr G A H v (.int i)):v=.int i:=by
 rcases r with r | ⟨a,e,r⟩
 .cases r;rfl
 .exact r.elim
theorem mr.str{G:Gx}{i:Str}(r:mr G A H v (.str i)):v=.str i:=by
 rcases r with r | ⟨a,e,r⟩
 .cases r;rfl
 .exact r.elim
theorem mr.bl{G:Gx}{i:Bool}(r:mr G A H v (.bl i)):v=.bl i:=by
 rcases r with r | ⟨a,e,r⟩
 .cases r;rfl
 .exact r.elim
theorem mr.non{G:Gx}(r:mr G A H v .non):v=.non:=by
 rcases r with r | ⟨a,e,r⟩
 .cases r;rfl
 .exact r.elim
theorem mr.dk{G:Gx}{A:List Addr}{H:Hp}{v:V}{d:List (Key×D)}(r:mr G A H v (.dk d)):∃a kvs,v=.ref a/\Rd H a (.dK kvs)/\kvs.map (·.1)=d.map (·.1)/\be G (cc A H) (kvs.map (·.2)) (d.map (·.2)):=by
 rcases r with r | ⟨a,e,kvs,h,k,r⟩
 .cases r with
  |dk h k r=>
   refine⟨_,_,rfl,.inr ⟨_,Am _ _ h⟩,k,?_,r⟩;have:=SG cy k;rw[av,av] at this ⊢;exact this
 .exact⟨a,kvs,e,.of h,k,r⟩
def VD(live:∀a∈A,Nt (H a))(d:H p=W1)(o:HO):cc A (fk H p o) p=X0 o:=by
 rw[BK (λz=>(live p z).ne d),Ah]
def Cz{G:Gx}{ds:List D}(live:∀a∈A,Nt (H a))(d:H p=W1)(r:be G (cc A H) xs ds):il G (cc A (fk H p (.lst xs))) (.ref p) (.lst ds):=
 let q:=r.mono (Az (Aj d (.lst xs)));.lst (.of (VD live d _)) q.1 q.2
def GQ{G:Gx}{ds:List D}(live:∀a∈A,Nt (H a))(d:H p=W1)(r:be G (cc A H) xs ds):il G (cc A (fk H p (.tup xs))) (.ref p) (.tup ds):=
 let q:=r.mono (Az (Aj d (.tup xs)));.tup (.of (VD live d _)) q.1 q.2
def tF(G:Gx)(A:List Addr)(f:FE):TE:=λz H Q=>∃ρ d,OW G A z H ρ/\f ρ=X0 d/\∀v g,ab H g->il G (cc A g) v d->Q v g
def tT(G:Gx)(A:List Addr)(f:FE):TE:=λz H Q=>∃ρ d,OW G A z H ρ/\f ρ=X0 d/\∀v g,ab H g->mr G A g v d->Q v g
def PF(X:Cx)(G:Gx)(e:Expr)(f:FE):Prop:=∀⦃A⦄,PE X e (tF G A f)
def PU(X:Cx)(G:Gx)(e:Expr)(f:FE):Prop:=∀⦃A⦄,PE X e (tT G A f)
def CZ{t t':TE}(h:PE X e t)(w:∀σ H Q,t' σ H Q->t σ H Q):PE X e t':=λd s σ H Q I q=>h d s σ H Q I (w σ H Q q)
def PF.pu{G:Gx}{f:FE}(h:PF X G e f):PU X G e f:=λA=>CZ (@h A) (by rintro I H Q ⟨g,d,o,e,k⟩;exact ⟨g,d,o,e,λv z s r=>k v z s (.inl r)⟩)
def tFA(G:Gx)(A:List Addr)(f:FA):TA:=λg H Q=>∃ρ ds,OW G A g H ρ/\f ρ=X0 ds/\∀vs d,ab H d->be G (cc A d) vs ds->Q vs d
def SR(X:Cx)(G:Gx)(es:List Expr)(f:FA):Prop:=∀⦃A⦄,PA X es (tFA G A f)
def uo{e:List Expr}{t t':TA}(h:PA X e t)(w:∀σ H Q,t' σ H Q->t σ H Q):PA X e t':=λd g s σ H Q I q=>h d g s σ H Q I (w σ H Q q)
def tFT(G:Gx)(A:List Addr)(f:FT):TT:=λg H Q=>∃ρ b,OW G A g H ρ/\f ρ=X0 b/\∀d,ab H d->Q b d
def RS(X:Cx)(G:Gx)(e:Expr)(f:FT):Prop:=∀⦃A⦄,PT X e (tFT G A f)
def VQ(X:Cx)(G:Gx)(e:Expr)(f:FT):Prop:=∀⦃A⦄,PW X e (tFT G A f)
def iV{t t':TT}(h:PT X e t)(w:∀σ H Q,t' σ H Q->t σ H Q):PT X e t':=λd s σ H Q I q=>h d s σ H Q I (w σ H Q q)
def iW{t t':TT}(h:PW X e t)(w:∀σ H Q,t' σ H Q->t σ H Q):PW X e t':=λg d s σ H Q I q=>h g d s σ H Q I (w σ H Q q)
section
variable {G:Gx}{a b c:Expr}{fa fb:FE}
def ww(i:Nat){x:Str}(h:PE X (.Name x pos) (OL i)):PF X G (.Name x pos) (vF i):=λA=>CZ h<|by
 rintro I H Q ⟨L,d,o,e,k⟩
 unfold vF at e;split at e
 .rename_i O J;cases e;obtain⟨v,z,g⟩:=o.fz i _ J;exact⟨v,z,k v H (ab.refl H) g⟩
 .cases e
def wy(i:Nat){x:Str}(h:PE X (.Name x pos) (OL i)):PU X G (.Name x pos) (vU i):=λA=>CZ h<|by
 rintro L H Q ⟨O,d,o,e,k⟩
 unfold vU at e;split at e
 .rename_i I J;cases e;obtain⟨v,z,g⟩:=o.fz i _ J;exact⟨v,z,k v H (ab.refl H) (.inl g)⟩
 .rename_i I J;cases e;obtain⟨p,z,_,g⟩:=o.ow i _ J;exact⟨.ref p,z,k _ H (ab.refl H) (.inr ⟨p,rfl,g⟩)⟩
 .cases e
def Ko{d:D}(h:PE X a (tC v))(r:il G (λ_=>W1) v d):PF X G a (kF d):=λA=>CZ h<|by
 rintro g H Q ⟨I,J,o,e,k⟩
 cases e;exact k v H (ab.refl H) (r.mono λb o z=>nomatch z)
def S8{i j}:PF X G (.Constant (.int i) j pos) (kF (.int i)):=Ko wD (.int i)
def HF{b j}:PF X G (.Constant (.bool b) j pos) (kF (.bl b)):=Ko zR (.bl b)
def Vx{x j}:PF X G (.Constant (.str x) j pos) (kF (.str x)):=Ko wF (.str x)
def Eg(G:Gx)(r:R2)(g:D->D->Option D):Prop:=∀(A:List Addr) (H:Hp) (x y:V) (dx I d:D) (Q:VK),(∀a∈A,Nt (H a))->mr G A H x dx->mr G A H y I->g dx I=X0 d->(∀v z,ab H z->il G (cc A z) v d->Q v z)->r x y H Q
def O8{g:D->D->Option D}{ρ:Rho}{d:D}(h:bF g fa fb ρ=X0 d):∃x y,fa ρ=X0 x/\fb ρ=X0 y/\g x y=X0 d:=by
 unfold bF at h;cases I:fa ρ with
 |none=>rw[I] at h;cases h
 |some x=>
  rw[I] at h;cases z:fb ρ with
  |none=>simp[z] at h
  |some y=>simp[z] at h;exact⟨x,y,rfl,rfl,h⟩
def N7{r:R2}{g:D->D->Option D}(s:Eg G r g){A:List Addr}{I:St}{H:Hp}{Q:VK}(h:tF G A (bF g fa fb) I H Q):tOp r (tT G A fa) (tT G A fb) I H Q:=by
 obtain⟨J,d,o,e,k⟩:=h;obtain⟨x,y,Z,Y,U⟩:=O8 e;exact⟨J,x,o,Z,λv H1 z T=>⟨J,y,o.mono z,Y,λu H2 S O=>s A H2 v u x y d Q ((o.mono z).mono S).live (T.mono S) O U λw H3 W L=>k w H3 (z.trans (S.trans W)) L⟩⟩
def N8{op:Operator}{r:R2}{g:D->D->Option D}(d:Na X (kx op) r)(s:Eg G r g)(ha:PU X G a fa)(hb:PU X G b fb):PF X G (.BinOp a op b pos) (bF g fa fb):=
 λA=>CZ (ue d (@ha A) (@hb A)) λ_ _ _ h=>N7 s h
def Y8{op:CmpOp}{r:R2}{g:D->D->Option D}(d:Na X (d4 op) r)(s:Eg G r g)(ha:PU X G a fa)(hb:PU X G b fb)(z:iq op b=E3):PF X G (.Compare a [op] [b] pos) (bF g fa fb):=
 λA=>CZ (Z0 d (@ha A) (@hb A) z) λ_ _ _ h=>N7 s h
def iY{f:FE}{ρ:Rho}{b:Bool}(h:tu f ρ=X0 b):f ρ=X0 (.bl b):=by
 unfold tu at h;split at h
 .rename_i e;cases h;exact e
 .cases h
def Fg{op:CmpOp}{r:R2}{g:D->D->Option D}(J:Na X (d4 op) r)(s:Eg G r g)(ha:PU X G a fa)(hb:PU X G b fb)(O:iq op b=E3):RS X G (.Compare a [op] [b] pos) (tu (bF g fa fb)):=
 λA=>iV (Z1 J (@ha A) (@hb A) O) λT H Q ⟨z,d,o,e,k⟩=>N7 s ⟨z,.bl d,o,iY e,λv S I L=>by cases L;exact⟨d,rfl,k S I⟩⟩
def O9{g:Int->Int->Option D}{x y d:D}(h:YN g x y=X0 d):∃i j,x=.int i/\y=.int j/\g i j=X0 d:=by
 unfold YN at h;split at h
 .exact⟨_,_,rfl,rfl,h⟩
 .cases h
def S9{g:Int->Int->V}{g':Int->Int->D}(e:∀i j H,il G H (g i j) (g' i j)):Eg G (XW g) (YN λi j=>X0 (g' i j)):=by
 intro A H x y dx J d Q I rx z h k;obtain⟨i,j,rfl,rfl,h⟩:=O9 h;cases h;exact⟨i,j,rx.int,z.int,k _ H (ab.refl H) (e i j _)⟩
def Vy{C:Int->Int->Prop}{g:Int->Int->V}{g':Int->Int->D}[∀i j,Decidable (C i j)](e:∀i j H,il G H (g i j) (g' i j)):Eg G (rI C g) (YN λi j=>if C i j then X0 (g' i j) else W1):=by
 intro A H x y dx O d Q L rx z h k;obtain⟨i,j,rfl,rfl,J⟩:=O9 h
 by_cases I:C i j
 .rw[SF I] at J;cases J;exact⟨i,j,rx.int,z.int,I,k _ H (ab.refl H) (e i j _)⟩
 .rw[UF I] at J;cases J
def qY:Eg G (XW λi j=>.int (i-j)) ZU:=S9 λi j H=>.int _
theorem O7.ok{i j:Int}(h:O7 i j):IntMulOk i j:=by
 rcases h with h | h
 .exact h.ok
 .exact IntMulOk.of_le h.1 h.2 .(2)
def qZ:Na X (kx .Mult) (rI O7 λi j=>.int (i*j)):=opI λ_ _ _ _ _ _ _ I q=>mul_int q I.ok
def qb:Na X (kx .LShift) (rI CShl λi j=>.int (i*2^j.toNat)):=opI λi j _ _ _ _ _ I q=>lshift_int I.1 (by have g:=I.2.1;have d:=I.2.2;omega) q
def qe:Eg G (rI O7 λi j=>.int (i*j)) NO:=Vy λi j H=>.int _
def iZ:Eg G (rI CDiv λi j=>.int (i/j)) Ec:=Vy λi j H=>.int _
theorem qg:Eg G (rI (λ_ j=>0<j) λi j=>.int (i%j)) oo:=Vy (C:=λ_ j=>0<j) λi j H=>.int _
def qi:Eg G (rI CShl λi j=>.int (i*2^j.toNat)) shlD:=Vy λi j H=>.int _
def ie:Eg G (XW λi j=>.bl (decide (i<j))) ltD:=S9 λi j H=>.bl _
def wz:Eg G (XW λi j=>.bl (decide (i<=j))) leD:=S9 λi j H=>.bl _
def xF:Eg G (XW λi j=>.bl (decide (j<i))) gtD:=S9 λi j H=>.bl _
def xG:Eg G (XW λi j=>.bl (decide (j<=i))) geD:=S9 λi j H=>.bl _
def uq(K:aI):R2:=λx y H Q=>∃l b xs d,x=.ref l/\y=.ref b/\MO K H l xs/\MO K H b d/\xs.length+d.length<=sizeLine/\∀p,H p=W1->Q (.ref p) (fk H p (.lst (xs++d)))
theorem aA:Na X (kx .Add) (uq X.K):=by
 intro π s σ H x y v u Q I rx ry h;obtain⟨l,b,xs,zs,rfl,rfl,hl,hb,hz,q⟩:=h;cases rx;cases ry;obtain⟨g,r,pl,z⟩:=I.list hl;obtain⟨d,Y,T,z2⟩:=I.list hb;have e1:=r.length;have e2:=Y.length;obtain⟨⟨cls,dd,N0,sl⟩,Z,hc,n,hd⟩:=pl.isList;obtain⟨⟨O0,U,W,S⟩,J,O,n2,L⟩:=T.isList;simp only at hc hd O L;subst hc hd O L;refine AG ⟨_,Z,rfl⟩ ⟨_,J,rfl⟩ noFill_list_add seq_list_add PySem.F.slot_list_add PySem.F.entry_list_add (PySem.F.args_list_add_2 _ _) (list_addW l b g.toArray d.toArray n n2 dd U sl S (by rw[ck,ck];omega)) ⟨Z,J,?_⟩;have ea:g.toArray++d.toArray=(g++d).toArray:=by simp
 rw[ea];exact⟨.ref _,_,I.lnew (t':=s.toks) (r.append Y) (by rw[fh];omega),rfl,q _ I.fresh⟩
def rAdd(K:aI):R2:=λx y H Q=>(XW λi j=>.int (i+j)) x y H Q∨((λx y H Q=>∃i j,x=.str i/\y=.str j/\i.length+j.length<=sizeLine/\Q (.str (i++j)) H) x y H Q∨uq K x y H Q)
def qj:Na X (kx .Add) (rAdd X.K):=wN.or (Yt.or aA)
def ql:Eg G (rAdd G.K) sq:=by
 intro A H x y dx Y d Q T rx z h k;unfold sq at h;split at h
 .cases h;exact .inl ⟨_,_,rx.int,z.int,k _ H (ab.refl H) (.int _)⟩
 .split at h
  .rename_i O;cases h;exact .inr (.inl ⟨_,_,rx.str,z.str,O,k _ H (ab.refl H) (.str _)⟩)
  .cases h
 .split at h
  .rename_i O;cases h;obtain⟨l,S,rfl,W,g⟩:=rx.lst;obtain⟨m,J,rfl,U,L⟩:=z.lst;exact .inr (.inr ⟨l,m,S,J,rfl,rfl,W,U,by rw[g.1,L.1];exact O,λp I=>k _ _ (Aj I _) (Cz T I (g.append L))⟩)
  .cases h
 .cases h
def ig{op:BoolOp}(h:PF X G a fa):PF X G (.BoolOp op [a] pos) fa:=λA=>wI (@h A)
def xH{hQ:List Expr}(ha:PF X G a fa)(hb:PF X G (.BoolOp .And (b::hQ) pos) fb):PF X G (.BoolOp .And (a::b::hQ) pos) (andF fa fb):=λA=>CZ (wJ (@ha A) (@hb A))<|by
 rintro U H Q ⟨g,d,o,e,k⟩
 unfold andF at e;split at e
 .rename_i J;refine⟨g,_,o,J,λv L z I=>?_⟩;cases I;refine⟨E2,rfl,?_⟩;rw[SF rfl];exact⟨g,d,o.mono z,e,λv T S O=>k v T (z.trans S) O⟩
 .rename_i J;refine⟨g,_,o,J,λv L z I=>?_⟩;cases I;refine⟨E3,rfl,?_⟩;rw[UF de];cases e;exact k _ L z (.bl E3)
 .cases e
def zy{hQ:List Expr}(ha:PF X G a fa)(hb:PF X G (.BoolOp .Or (b::hQ) pos) fb):PF X G (.BoolOp .Or (a::b::hQ) pos) (orF fa fb):=λA=>CZ (zU (@ha A) (@hb A))<|by
 rintro U H Q ⟨g,d,o,e,k⟩
 unfold orF at e;split at e
 .rename_i J;refine⟨g,_,o,J,λv L z I=>?_⟩;cases I;refine⟨E2,rfl,?_⟩;rw[SF rfl];cases e;exact k _ L z (.bl E2)
 .rename_i J;refine⟨g,_,o,J,λv L z I=>?_⟩;cases I;refine⟨E3,rfl,?_⟩;rw[UF de];exact⟨g,d,o.mono z,e,λv T S O=>k v T (z.trans S) O⟩
 .cases e
variable {ga gb:FT}
theorem VQ.pt(h:VQ X G a ga):RS X G a ga:=λA=>(@h A).pt
def Iz(h:RS X G a ga):VQ X G (.BoolOp .And [a] pos) ga:=λA=>qD (@h A)
def J9(h:RS X G a ga):VQ X G (.BoolOp .Or [a] pos) ga:=λA=>gH (@h A)
def M7{hQ:List Expr}(ha:RS X G a ga)(hb:VQ X G (.BoolOp .And (b::hQ) pos) gb):VQ X G (.BoolOp .And (a::b::hQ) pos) (Tl ga gb):=λA=>iW (wG (@ha A) (@hb A))<|by
 rintro O H Q ⟨g,d,o,e,k⟩
 unfold Tl at e;split at e
 .rename_i I;exact⟨g,_,o,I,λJ z=>Ya ⟨g,d,o.mono z,e,λL S=>k L (z.trans S)⟩⟩
 .rename_i I;cases e;exact⟨g,_,o,I,λJ z=>VY (k J z)⟩
 .cases e
def Qh{hQ:List Expr}(ha:RS X G a ga)(hb:VQ X G (.BoolOp .Or (b::hQ) pos) gb):VQ X G (.BoolOp .Or (a::b::hQ) pos) (orT ga gb):=λA=>iW (ud (@ha A) (@hb A))<|by
 rintro O H Q ⟨g,d,o,e,k⟩
 unfold orT at e;split at e
 .rename_i I;cases e;exact⟨g,_,o,I,λJ z=>Ya (k J z)⟩
 .rename_i I;exact⟨g,_,o,I,λJ z=>VY ⟨g,d,o.mono z,e,λL S=>k L (z.trans S)⟩⟩
 .cases e
def Ji(ha:RS X G a ga):RS X G (.UnaryOp .Not a pos) (Pe ga):=λA=>iV (wH (@ha A))<|by
 rintro L H Q ⟨z,d,o,e,k⟩
 unfold Pe at e;cases g:ga z with
 |none=>rw[g] at e;cases e
 |some b=>rw[g] at e;cases e;exact⟨z,b,o,g,λJ I=>k J I⟩
def RL{z g:Type}{xs:List z}{d:List g}(h:xs.length=d.length):xs.isEmpty=d.isEmpty:=by
 cases xs<;>cases d<;>simp at h ⊢
def Ew(ha:PU X G a fa)(W:G.K=X.K)(U:∀whole,pc a X.env whole=(do let v <-whole;pw a.pos;lS [v] (truthy v)):=by intro _;rfl):RS X G a (λρ=>(fa ρ).bind ZT):=λA=>iV (gR (@ha A) U)<|by
 rintro σ H Q ⟨ρ,b,o,e,k⟩
 cases L:fa ρ with
 |none=>simp[L] at e
 |some d=>
  have O:ZT d=X0 b:=by simpa [L] using e
  refine⟨ρ,d,o,L,λv Z S g=>⟨b,?_,k Z S⟩⟩;rw[<-W];cases d with
  |non=>rw[g.non];exact (cS O).symm
  |bl b'=>rw[g.bl];exact (cS O).symm
  |int i=>rw[g.int];exact (cS O).symm
  |str y=>
   rw[g.str];simp only[ZT] at O;split at O
   .rename_i T;exact⟨T,(cS O).symm⟩
   .cases O
  |lst Y=>
   obtain⟨p,z,rfl,J,I⟩:=g.lst;refine .inl ⟨z,J,?_⟩;rw[RL I.1];exact (cS O).symm
  |tup Y=>
   obtain⟨p,z,rfl,J,I⟩:=g.tup;refine .inr (.inl ⟨z,J,?_⟩);rw[RL I.1];exact (cS O).symm
  |_=>cases O
variable {es:List Expr}{fs:FA}
def Ad:SR X G [] af:=λA=>uo De<|by rintro g H Q ⟨d,z,o,e,k⟩;cases e;exact k [] H (ab.refl H) be.nil
def Ae(ha:PF X G a fa)(hr:SR X G es fs)(hs:ay (a::es) X.env=(E3,eval a X.env)::ay es X.env:=by rfl):SR X G (a::es) (Aa fa fs):=λA=>uo (Bt (@ha A) (@hr A) hs)<|by
 rintro W H Q ⟨g,Z,o,e,k⟩
 unfold Aa at e;cases z:fa g with
 |none=>simp[z] at e
 |some d=>
  cases I:fs g with
  |none=>simp[z,I] at e
  |some J=>
   simp[z,I] at e;subst e;exact⟨g,d,o,z,λv H1 L T=>⟨g,J,o.mono L,I,λY U S O=>k _ U (L.trans S) (.cons (T.mono (Az S)) O)⟩⟩
def I_{x1}(h:SR X G es fs):PF X G (.Tuple es x1 pos) (Pt fs):=λA=>CZ (Yz (@h A))<|by
 rintro U H Q ⟨I,d,o,e,k⟩
 unfold Pt at e;cases g:fs I with
 |none=>simp[g] at e
 |some z=>
  rw[g] at e;have O:(if z.length<=sizeLine then X0 (D.tup z) else W1)=X0 d:=e;split at O
  .rename_i T;cases O;exact⟨I,z,o,g,λW Y J L=>⟨by rw[L.1];exact T,λp S=>k _ _ (J.trans (Aj S _)) (GQ (o.mono J).live S L)⟩⟩
  .cases O
def GF(h:SR X G es fs):PF X G (.List es pos) (Mo fs):=λA=>CZ (gf (@h A))<|by
 rintro U H Q ⟨I,d,o,e,k⟩
 unfold Mo at e;cases g:fs I with
 |none=>simp[g] at e
 |some z=>
  rw[g] at e;have O:(if z.length<=sizeLine then X0 (D.lst z) else W1)=X0 d:=e;split at O
  .rename_i T;cases O;exact⟨I,z,o,g,λW Y J L=>⟨by rw[L.1];exact T,λp S=>k _ _ (J.trans (Aj S _)) (Cz (o.mono J).live S L)⟩⟩
  .cases O
def ik:Eg G (rIx G.K) ixD:=by
 intro A H x y dx W d Q U rx I h k;unfold ixD at h;split at h
 .obtain⟨p,g,rfl,S,J⟩:=rx.lst;obtain⟨v,O,L⟩:=J.atI h;exact .inl ⟨p,g,_,v,rfl,I.int,S,O,k v H (ab.refl H) L⟩
 .obtain⟨p,g,rfl,S,J⟩:=rx.tup;obtain⟨v,O,L⟩:=J.atI h;exact .inr (.inl ⟨p,g,_,v,rfl,I.int,S,O,k v H (ab.refl H) L⟩)
 .split at h
  .rename_i z i T;cases e:atI z.cps.toList i with
   |none=>rw[e] at h;cases h
   |some c=>
    rw[e] at h;cases h;exact .inr (.inr ⟨z,i,c,rx.str,I.int,T,e,k _ H (ab.refl H) (.str _)⟩)
  .cases h
 .cases h
theorem zz(W:G.K=X.K)(ha:PU X G a fa)(hb:PU X G b fb)(hs:O2 b):PF X G (.Subscript a b pos) (bF ixD fa fb):=
 λA=>CZ (uh (r:=rIx X.K) h_ (@ha A) (@hb A) hs) λ_ _ _ h=>N7 (by rw[<-W];exact ik) h
def tFO(G:Gx)(A:List Addr)(f:FO):TO:=λg H Q=>∃ρ o,OW G A g H ρ/\f ρ=X0 o/\∀d,ab H d->Q o d
def PFO(X:Cx)(G:Gx)(e:Option Expr)(f:FO):Prop:=∀⦃A⦄,PO X e (tFO G A f)
def ur{e:Option Expr}{t t':TO}(h:PO X e t)(w:∀σ H Q,t' σ H Q->t σ H Q):PO X e t':=λd s σ H Q I q=>h d s σ H Q I (w σ H Q q)
def ir:PFO X G W1 noO:=λA=>ur qN<|by rintro g H Q ⟨d,o,ok,e,k⟩;cases e;exact k H (ab.refl H)
def MF(h:PU X G a fa):PFO X G (X0 a) (Re fa):=λA=>ur (qO (@h A))<|by
 rintro L H Q ⟨g,o,ok,e,k⟩
 unfold Re at e;split at e
 .rename_i i I;cases e;exact⟨g,_,ok,I,λv J z d=>⟨i,d.int,k J z⟩⟩
 .cases e
def be.cut{ds:List D}(r:be G H xs ds)(d z:Option Int):be G H (WI xs d z) (NR ds d z):=by
 unfold WI NR;rw[r.1];exact (r.drop _).take _
end
end PV
def L2.Room.unitsW{k:Nat}{A:PySem.Around}(r:L2.Room k A):A.units+190<PySem.cLine:=by have:=r.un;omega
namespace PV
open PySem PySem.Spec L2
open PyProof.Rows hiding St
section
variable {G:Gx}{a b c:Expr}{fa fb:FE}
section
open Builtin.Str
def XF(n:Nat)(v:Option Int)(d:Nat)(z:d<=n):(match v with | none=>(d:Int) | some i=>max 0 (min (if i<0 then i+(n:Int) else i) (n:Int)))=(HT.sIx n d v:Int):=by
 cases v with
 |none=>rfl
 |some i=>
  simp only[HT.sIx];split<;>omega
def qm(n d:Nat)(v:Option Int)(z:d<=n):HT.sIx n d v<=n:=by
 cases v with
 |none=>exact z
 |some i=>simp only[HT.sIx];split<;>omega
theorem Y9(d z:Option Int)(n:Nat):strSliceIndices d z 1 n=(aS (HT.sIx n n z-HT.sIx n 0 d)).map (λk=>HT.sIx n 0 d+k):=by
 have L:=XF n d 0 (eW _);have J:=XF n z n (aw _);have g:((1:Int) > 0):=by decide
 have e:strSliceIndices d z 1 n=E1 (HT.sIx n 0 d:Int) (HT.sIx n n z:Int) 1:=by
  unfold strSliceIndices;simp only[g,MH];exact congrFun (congr (SG E1 L) J) 1
 rw[e];unfold E1;simp only[g,MH];generalize HT.sIx n 0 d=a;generalize HT.sIx n n z=b;have I:(if (a:Int)<(b:Int) then ((b:Int)-a+1-1)/1 else 0).toNat=b-a:=by
  split
  .rw[HU];omega
  .omega
 rw[I];apply ij;intro k _;omega
theorem di(x:Str)(d hi:Option Int):AT x d hi=cutS x d hi:=by
 have T:=qm x.length x.length hi (aw _);have J:x.cps.toList.length=x.length:=by simp[oa]
 unfold AT cutS NR;rw[Y9,J];generalize HT.sIx x.length 0 d=a at *;generalize HT.sIx x.length x.length hi=b at *;rw[av,oj];split
 .rename_i h;simp only[eP,XG] at h;have L:b-a=x.length:=h.2
  by_cases U:x.length=0
  .have:x.cps.toList=[]:=ol.mp .(0);cases x with
   |mk c=>
    simp at this;subst this;simp
  .have O:a=0:=by omega
   subst O;have:b=x.length:=by omega
   subst this;rw[IQ,Nat.sub_zero,E4 .(0)]
 .congr 1;apply SG;apply AU;intro i;rw[HZ];have g:∀m,m<=b-a->(List.filterMap ((λk=>x.cps[k]?) ∘ λk=>a+k) (aS m))=((x.cps.toList.drop a).take m):=by
   intro m
   induction m with
   |zero=>intro _;simp
   |succ m I=>
    intro S;rw[xS,List.filterMap_append,I .(0)];have z:a+m<x.cps.size:=by have:x.length=x.cps.size:=rfl;omega
    rw[List.take_succ_eq_append_getElem (by simp;omega)];simp[z]
  rw[g _ (aw _)]
end
def rSlS:V->Option Int->Option Int->Hp->VK->Prop:=λx d g H Q=>∃z,x=.str z/\z.length<=sizeLine/\Q (.str (AT z d g)) H
theorem xJ:SlR X rSlS:=by
 intro Z s W H x v vl vu T U sl Q I rx hs pl pu h;obtain⟨z,rfl,hz,q⟩:=h;obtain⟨t,rfl⟩:=rx;obtain⟨o,J,g,d⟩:=hs;have rz:∀O k,EP X Z W Q (.str (AT z T U) O) { s with toks:=k }:=λO k=>⟨.str _,H,I.tok _,⟨O,rfl⟩,q⟩;have Y:=cw (Txt.slice_le z T U) hz;refine⟨"str",_,PySem.F.slot_str_getitem.lookup,DM _ _ _,?_⟩;cases pl with
 |none=>
  cases pu with
  |none=>exact AV (l:=W1) (u:=W1) (st:=W1) ⟨o,J,g,d⟩ rfl (AW ⟨Y,rz⟩)
  |int j L=>exact AV (l:=W1) (u:=X0 (j,L)) (st:=W1) ⟨o,J,g,d⟩ rfl (AW ⟨Y,rz⟩)
 |int i S=>
  cases pu with
  |none=>exact AV (l:=X0 (i,S)) (u:=W1) (st:=W1) ⟨o,J,g,d⟩ rfl (AW ⟨Y,rz⟩)
  |int j L=>exact AV (l:=X0 (i,S)) (u:=X0 (j,L)) (st:=W1) ⟨o,J,g,d⟩ rfl (AW ⟨Y,rz⟩)
def rSl(K:aI):V->Option Int->Option Int->Hp->VK->Prop:=λx d z H Q=>rSlL K x d z H Q∨(rSlT K x d z H Q∨rSlS x d z H Q)
def xK:SlR X (rSl X.K):=qR.or (wV.or xJ)
def S_{lo hi:Option Expr}{gl gh:FO}(hG:G.K=X.K)(ha:PU X G a fa)(hl:PFO X G lo gl)(hh:PFO X G hi gh):PF X G (.Subscript a (.Slice lo hi W1 p2) pos) (slF fa gl gh):=λA=>CZ (g_ (xK (X:=X)) (@ha A) (@hl A) (@hh A))<|by
 rintro σ H Q ⟨g,d,o,e,k⟩
 unfold slF at e;cases z:fa g with
 |none=>simp[z] at e
 |some x=>
  cases J:gl g with
  |none=>simp[z,J] at e
  |some l=>
   cases e3:gh g with
   |none=>simp[z,J,e3] at e
   |some h=>
    have O:slD x l h=X0 d:=by simpa [z,J,e3] using e
    refine⟨g,x,o,z,λv H1 I r1=>⟨g,l,o.mono I,J,λH2 S=>⟨g,h,(o.mono I).mono S,e3,λH3 W=>?_⟩⟩⟩;have Y:=(r1.mono S).mono W;have o3:=((o.mono I).mono S).mono W;have U:=I.trans (S.trans W);unfold slD at O;split at O
    .cases O;obtain⟨p,L,rfl,Z,r⟩:=Y.lst;exact .inl ⟨p,L,rfl,by rw[<-hG];exact Z,λq T=>k _ _ (U.trans (Aj T _)) (Cz o3.live T (r.cut _ _))⟩
    .split at O
     .cases O
     .rename_i hw;cases O;obtain⟨p,L,rfl,Z,r⟩:=Y.tup;exact .inr (.inl ⟨p,L,rfl,by rw[<-hG];exact Z,by rw[r.1];exact hw,λq T=>k _ _ (U.trans (Aj T _)) (GQ o3.live T (r.cut _ _))⟩)
    .split at O
     .rename_i hz;cases O;refine .inr (.inr ⟨_,Y.str,hz,?_⟩);rw[di];exact k _ _ U (.str _)
     .cases O
    .cases O
def Vz{u:V}{d:D}(r:mr G A H v d)(h:SU d=X0 u):v=u/\Lf v=E2:=by
 cases d with
 |non=>cases h;rw[r.non];exact⟨rfl,rfl⟩
 |bl b=>cases h;rw[r.bl];exact⟨rfl,rfl⟩
 |int b=>cases h;rw[r.int];exact⟨rfl,rfl⟩
 |str b=>cases h;rw[r.str];exact⟨rfl,rfl⟩
 |_=>cases h
theorem XH{H:Hp}:∀{ds:List D}{xs us:List V},be G H xs ds->NW ds=X0 us->xs=us/\xs.all Lf=E2
 |[],xs,us,r,h=>by cases h;rw[r.nil_inv];exact⟨rfl,rfl⟩
 |d::ds,xs,us,r,h=>by
  obtain⟨x,T,rfl,S,O⟩:=r.uncons;unfold NW at h;cases g:SU d with
  |none=>simp[g] at h
  |some v=>
   cases I:NW ds with
   |none=>simp[g,I] at h
   |some U=>
    simp[g,I] at h;subst h;have q:il G (cc [] H) x d:=S.mono λb o z=>z;obtain⟨Z,Y⟩:=Vz (A:=[]) (.inl q) g;obtain⟨L,J⟩:=XH O I;subst Z;subst L;exact⟨rfl,by rw[sd,Y,J];rfl⟩
def rInA(K:aI)(d:Bool):R2:=λx y H Q=>rIn K d x y H Q∨∃i j,x=.str i/\y=.str j/\Q (.bl (if d then !(!(pj j i 0 j.length 1).isEmpty) else !(pj j i 0 j.length 1).isEmpty)) H
def iu:Na X (d4 .In) (rInA X.K E3):=dX.or dN
def du:Na X (d4 .NotIn) (rInA X.K E2):=Vw.or Vq
def xM(g:Bool):Eg G (rInA G.K g) (inD g):=by
 intro A H x y dx dy d Q lv rx O h k;have seq:∀{J:List D}{p:Addr}{z:List V},y=.ref p->(MO G.K H p z∨MZ G.K H p z)->be G (cc A H) z J->((SU dx).bind λv=>(NW J).map λL=>D.bl (if g then !VO v L else VO v L))=X0 d->rIn G.K g x y H Q:=λ{J p z} ey hq r h=>by
  cases I:SU dx with
  |none=>simp[I] at h
  |some v=>
   cases T:NW J with
   |none=>simp[I,T] at h
   |some L=>
    rw[I,T] at h;cases h;obtain⟨Z,Y⟩:=Vz rx I;obtain⟨W,U⟩:=XH r T;subst Z;subst W;exact⟨p,z,ey,hq,Y,U,k _ H (ab.refl H) (.bl _)⟩
 unfold inD at h;split at h
 .cases h;exact .inr ⟨_,_,rx.str,O.str,k _ H (ab.refl H) (.bl _)⟩
 .obtain⟨p,z,e,S,r⟩:=O.lst;exact .inl (seq e (.inl S) r h)
 .obtain⟨p,z,e,S,r⟩:=O.tup;exact .inl (seq e (.inr S) r h)
 .cases h
def eAt(f:D->D->Option Bool)(xs d:List D)(j:Nat):Bool:=match xs[j]?,d[j]? with | some x,X0 y=>(f x y).getD E3 | _,_=>E3
theorem Qi{f:D->D->Option Bool}:∀{xs ys:List D}{b:Bool},MR f xs ys=X0 b->xs.length=ys.length/\(∀(j:Nat) x y,xs[j]?=X0 x->ys[j]?=X0 y->f x y=X0 (eAt f xs ys j))/\b=(aS xs.length).all (eAt f xs ys)
 |[],[],b,h=>by cases h;exact⟨rfl,λj x y h=>by simp at h,rfl⟩
 |[],_::_,b,h=>by cases h
 |_::_,[],b,h=>by cases h
 |x::xs,y::ys,b,h=>by
  unfold MR at h;split at h
  .rename_i a c d O;cases h;obtain⟨L,J,I⟩:=Qi O;refine⟨by simp[L],λj u v S g=>?_,?_⟩
   .cases j with
    |zero=>simp at S g;subst S;subst g;rw[d];simp[eAt,d]
    |succ j=>
     have:=J j u v (by simpa using S) (by simpa using g);rw[this];simp[eAt]
   .rw[d3,IR,sd,List.all_map];have z:eAt f (x::xs) (y::ys) 0=a:=by simp[eAt,d]
    rw[z,I];rfl
  .cases h
def iw{u:V}(h:Lf u=E2):RI u u=E2:=by
 cases u<;>simp[RI]<;>cases h
theorem Rk{d:D}{u:V}(r:il G H v d)(h:SU d=X0 u):v=u/\Lf v=E2:=Vz (A:=[]) (.inl (r.mono λb o z=>by rw[BK IS];exact z)) h
section
def XJ(I:Inv X π σ H s)(W:G.K=X.K):∀(n:Nat) {x y:D}{v:V}{b:Bool},MM n x y=X0 b->il G H v x->il G H v y->b=E2:=by
 have g:∀{x y:D}{v:V}{b:Bool},flD x y=X0 b->il G H v x->il G H v y->b=E2:=λ{x y v b} h rx z=>by
  unfold flD at h;cases e1:SU x with
  |none=>simp[e1] at h
  |some u=>
   cases e2:SU y with
   |none=>simp[e1,e2] at h
   |some w=>
    simp[e1,e2] at h;obtain⟨z1,z2⟩:=Rk rx e1;obtain⟨z3,_⟩:=Rk z e2;rw[<-h,<-z1,<-z3];exact iw z2
 intro n
 induction n with
 |zero=>intro x y v b h rx z;exact g h rx z
 |succ n ih=>
  have items:∀{U:List V}{T es:List D}{b:Bool},MR (MM n) T es=X0 b->be G H U T->be G H U es->b=E2:=λ{U T es b} h d O=>by
   obtain⟨S,L,h3⟩:=Qi h;rw[h3,eD];intro j hj;have J:j<T.length:=cE.mp hj;have hx:U[j]?=X0 (U[j]'(by rw[d.1];exact J)):=by simp[d.1,J]
   have hd:T[j]?=X0 T[j]:=by simp[J]
   have he:es[j]?=X0 (es[j]'(by omega)):=bv .(0);exact ih (L j _ _ hd he) (d.2 j _ _ hx hd) (O.2 j _ _ hx he)
  intro x y v b h rx z;unfold MM eqS at h;split at h
  .split at h
   .cases rx with
    |lst S Z d=>
     cases z with
     |lst L Y O=>
      have e:=I.list_inj (by rw[<-W];exact S) (by rw[<-W];exact L);subst e;exact items h ⟨Z,d⟩ ⟨Y,O⟩
   .rename_i N0;cases rx with
    |lst S Z d=>
     cases z with
     |lst L Y O=>
      have e:=I.list_inj (by rw[<-W];exact S) (by rw[<-W];exact L);subst e;exact MG (Z.symm.trans Y) N0
  .split at h
   .cases rx with
    |tup S Z d=>
     cases z with
     |tup L Y O=>
      have e:=I.tuple_inj (by rw[<-W];exact S) (by rw[<-W];exact L);subst e;exact items h ⟨Z,d⟩ ⟨Y,O⟩
   .cases h
  .exact g h rx z
def J_{A:aE}{ds es:List D}{b:Bool}{d:List ac}(ih:∀{x y:D}{v w:V}{u1 u2:ac}{b:Bool},MM n x y=X0 b->il G H v x->il G H w y->dm v u1->dm w u2->kU A s u1 u2 b)(h:MR (MM n) ds es=X0 b)(I:be G H xs ds)(L:be G H ys es)(z:cx xs its)(g:cx ys d):
  its.toArray.size=d.toArray.size/\b=(aS its.toArray.size).all (eAt (MM n) ds es)/\∀j (h1:j<its.toArray.size) (Z:j<d.toArray.size),kU A s its.toArray[j] d.toArray[j] (eAt (MM n) ds es j):=by
 obtain⟨h1,Z,h3⟩:=Qi h;have l1:=z.length;have l2:=g.length;have q1:=I.1;have q2:=L.1;have z1:its.toArray.size=ds.length:=by rw[ck];omega
 refine⟨by rw[ck,ck];omega,by rw[z1];exact h3,λj S O=>?_⟩;rw[ck] at S O;have jx:j<xs.length:=by omega
 have jy:j<ys.length:=by omega
 have U:xs[j]?=X0 xs[j]:=by simp[jx]
 have T:ys[j]?=X0 ys[j]:=by simp[jy]
 have Y:ds[j]?=X0 (ds[j]'(by omega)):=bv .(0);have W:es[j]?=X0 (es[j]'(by omega)):=bv .(0);obtain⟨u,eu,ru⟩:=z.get U;obtain⟨w,ew,J⟩:=g.get T;have a1:its.toArray[j]=u:=by simpa [bv S] using eu
 have a2:d.toArray[j]=w:=by simpa [bv O] using ew
 rw[a1,a2];exact ih (Z j _ _ Y W) (I.2 j _ _ U Y) (L.2 j _ _ T W) ru J
def V0{ds es:List D}{d:List ac}(h:ds.length≠es.length)(I:be G H xs ds)(L:be G H ys es)(z:cx xs its)(g:cx ys d):(its.toArray.size != d.toArray.size)=E2:=by
 have Z:=z.length;have Y:=g.length;have q1:=I.1;have q2:=L.1;rw[ck,ck];exact bne_iff_ne.mpr .(0)
def N_(I:Inv X π σ H s)(W:G.K=X.K):∀(n:Nat) (A:aE),A.units+n<bo->∀{x y:D}{v w:V}{u1 u2:ac}{b:Bool},MM n x y=X0 b->il G H v x->il G H w y->dm v u1->dm w u2->kU A s u1 u2 b:=by
 have g:∀{A:aE}{x y:D}{v w:V}{u1 u2:ac}{b:Bool},flD x y=X0 b->il G H v x->il G H w y->dm v u1->dm w u2->kU A s u1 u2 b:=λ{A x y v w u1 u2 b} h rx z q1 q2=>by
  unfold flD at h;cases e1:SU x with
  |none=>simp[e1] at h
  |some u=>
   cases e2:SU y with
   |none=>simp[e1,e2] at h
   |some w=>
    simp[e1,e2] at h;obtain⟨Z,U⟩:=Rk rx e1;obtain⟨T,z4⟩:=Rk z e2;rw[<-h,<-Z,<-T];exact iB q1 q2 U z4
 intro n
 induction n with
 |zero=>intro A hu x y v w u1 u2 b h rx z q1 q2;exact g h rx z q1 q2
 |succ n ih=>
  intro A hu x y v w u1 u2 b h rx z q1 q2;have h':=h;have S0:A.in1.units+n<bo:=by show A.units+1+n<bo;omega
  have J:A.units<bo:=by omega
  unfold MM eqS at h;split at h
  .cases rx with
   | @lst a _ _ h1 S O=>
    cases z with
    | @lst c _ _ h2 Y L=>
     obtain rfl:u1=.ref a:=q1;obtain rfl:u2=.ref c:=q2;obtain⟨O0,v1,p1,_⟩:=I.list (by rw[<-W];exact h1);obtain⟨N0,v2,p2,_⟩:=I.list (by rw[<-W];exact h2)
     by_cases d:a=c
     .subst d;have:=XJ I W (n+1) h' (.lst h1 S O) (.lst h2 Y L);subst this;exact DO _
     .split at h
      .obtain⟨Z,U,T⟩:=J_ (λq=>ih A.in1 S0 q) h ⟨S,O⟩ ⟨Y,L⟩ v1 v2;rw[U];exact E5 d (IT p1.isList p2.isList Z J T)
      .rename_i T0;cases h;exact E5 d (IU p1.isList p2.isList (V0 T0 ⟨S,O⟩ ⟨Y,L⟩ v1 v2) J)
  .cases rx with
   | @tup a _ _ h1 S O=>
    cases z with
    | @tup c _ _ h2 Y L=>
     obtain rfl:u1=.ref a:=q1;obtain rfl:u2=.ref c:=q2;obtain⟨O0,v1,p1,_⟩:=I.tuple (by rw[<-W];exact h1);obtain⟨N0,v2,p2,_⟩:=I.tuple (by rw[<-W];exact h2)
     by_cases d:a=c
     .subst d;have:=XJ I W (n+1) h' (.tup h1 S O) (.tup h2 Y L);subst this;exact DO _
     .split at h
      .obtain⟨Z,U,T⟩:=J_ (λq=>ih A.in1 S0 q) h ⟨S,O⟩ ⟨Y,L⟩ v1 v2;have q:=IY (show s.heap.IsTuple a O0.toArray from p1) (show s.heap.IsTuple c N0.toArray from p2) J T;rw[Z,E6,PH,AX,<-Z,<-U] at q;exact E5 d q
      .cases h
  .exact g h rx z q1 q2
end
def rEqP(G:Gx)(d:Bool):R2:=λx y H Q=>∃(A:List Addr) (ds es:List D) (b:Bool),Se (.lst ds) (.lst es)=X0 b/\((mr G A H x (.lst ds)/\mr G A H y (.lst es))∨(ds.length=es.length/\mr G A H x (.tup ds)/\mr G A H y (.tup es)))/\Q (.bl (if d then !b else b)) H
def xN(W:G.K=X.K)(hu:X.A.units+190<bo):Na X (d4 .Eq) (rEqP G E3):=by
 intro π s σ H x y v u Q I rx ry h;obtain⟨A,ds,es,b,e,hr,k⟩:=h;have rz:EP X π σ Q (.bool b) s:=⟨.bl b,H,I,rfl,k⟩;simp only[Se] at e
 rcases hr with ⟨U,T⟩ | ⟨hl,U,T⟩
 .obtain⟨a,xs,rfl,h1,q1⟩:=U.lst;obtain⟨c,ys,rfl,h2,q2⟩:=T.lst;cases rx;cases ry;obtain⟨g,J,O,_⟩:=I.list (by rw[<-W];exact h1);obtain⟨d,z,L,_⟩:=I.list (by rw[<-W];exact h2);split at e
  .obtain⟨Z,Y,S⟩:=J_ (λq=>N_ I W 180 X.A.in1 (by show X.A.units+1+180<bo;omega) q) e (q1.mono Am) (q2.mono Am) J z;exact IT O.isList L.isList Z .(0) S _ _ _ _ (by rw[<-Y];exact rz)
  .rename_i N0;cases e;exact IU O.isList L.isList (V0 N0 q1 q2 J z) .(0) _ _ _ _ rz
 .obtain⟨a,xs,rfl,h1,q1⟩:=U.tup;obtain⟨c,ys,rfl,h2,q2⟩:=T.tup;cases rx;cases ry;obtain⟨g,J,O,_⟩:=I.tuple (by rw[<-W];exact h1);obtain⟨d,z,L,_⟩:=I.tuple (by rw[<-W];exact h2);rw[SF hl] at e;obtain⟨Z,Y,S⟩:=J_ (λq=>N_ I W 180 X.A.in1 (by show X.A.units+1+180<bo;omega) q) e (q1.mono Am) (q2.mono Am) J z;have q:=IY (show s.heap.IsTuple a g.toArray from O) (show s.heap.IsTuple c d.toArray from L) .(0) S;rw[Z,E6,PH,AX,<-Z,<-Y] at q;exact q _ _ _ _ rz
def xO(W:G.K=X.K)(hu:X.A.units+190<bo):Na X (d4 .NotEq) (rEqP G E2):=by
 intro π s σ H x y v u Q I rx ry h;obtain⟨A,ds,es,b,e,hr,k⟩:=h;have rz:EP X π σ Q (.bool (!b)) s:=⟨.bl (!b),H,I,rfl,k⟩;simp only[Se] at e
 rcases hr with ⟨U,T⟩ | ⟨hl,U,T⟩
 .obtain⟨a,xs,rfl,h1,q1⟩:=U.lst;obtain⟨c,ys,rfl,h2,q2⟩:=T.lst;cases rx;cases ry;obtain⟨g,J,O,_⟩:=I.list (by rw[<-W];exact h1);obtain⟨d,z,L,_⟩:=I.list (by rw[<-W];exact h2);split at e
  .obtain⟨Z,Y,S⟩:=J_ (λq=>N_ I W 180 X.A.in1 (by show X.A.units+1+180<bo;omega) q) e (q1.mono Am) (q2.mono Am) J z;exact SeqAt.RcNeAt.lists O.isList L.isList Z .(0) S _ _ _ _ (by rw[<-Y];exact rz)
  .rename_i N0;cases e;exact SeqAt.RcNeAt.lists_lengths O.isList L.isList (V0 N0 q1 q2 J z) .(0) _ _ _ _ rz
 .obtain⟨a,xs,rfl,h1,q1⟩:=U.tup;obtain⟨c,ys,rfl,h2,q2⟩:=T.tup;cases rx;cases ry;obtain⟨g,J,O,_⟩:=I.tuple (by rw[<-W];exact h1);obtain⟨d,z,L,_⟩:=I.tuple (by rw[<-W];exact h2);rw[SF hl] at e;obtain⟨Z,Y,S⟩:=J_ (λq=>N_ I W 180 X.A.in1 (by show X.A.units+1+180<bo;omega) q) e (q1.mono Am) (q2.mono Am) J z;have q:=SeqAt.RcNeAt.tuples (show s.heap.IsTuple a g.toArray from O) (show s.heap.IsTuple c d.toArray from L) .(0) S;rw[Z,E6,PH,AX,<-Z,<-Y] at q;exact q _ _ _ _ rz
def rEqA(G:Gx)(d:Bool):R2:=λx y H Q=>(λx y H Q=>scal x y=E2/\Q (.bl (if d then !decide (x=y) else decide (x=y))) H) x y H Q∨rEqP G d x y H Q
def Y_(W:G.K=X.K)(S:X.A.units+190<bo):Na X (d4 .Eq) (rEqA G E3):=za.or (xN W S)
def iz(W:G.K=X.K)(S:X.A.units+190<bo):Na X (d4 .NotEq) (rEqA G E2):=zb.or (xO W S)
def V1{d g:Type}[DecidableEq d][DecidableEq g]{f:d->g}(h:∀a b,f a=f b->a=b)(a b:d):decide (f a=f b)=decide (a=b):=by
 by_cases e:a=b
 .subst e;simp
 .rw[NG e,NG λz=>e (h a b z)]
theorem V2(I:Bool):Eg G (rEqA G I) (Nd I):=by
 intro A H x y dx J d Q L rx g h k;unfold Nd at h;cases e:Se dx J with
 |none=>simp[e] at h
 |some b=>
  simp only[e,gi] at h;cases h;unfold Se at e;split at e
  .cases e;rw[rx.int,g.int];refine .inl ⟨rfl,?_⟩;rw[V1 (f:=V.int) (λa b z=>by cases z;rfl)];exact k _ H (ab.refl H) (.bl _)
  .cases e;rw[rx.str,g.str];refine .inl ⟨rfl,?_⟩;rw[V1 (f:=V.str) (λa b z=>by cases z;rfl)];exact k _ H (ab.refl H) (.bl _)
  .cases e;rw[rx.bl,g.bl];refine .inl ⟨rfl,?_⟩;rw[V1 (f:=V.bl) (λa b z=>by cases z;rfl)];exact k _ H (ab.refl H) (.bl _)
  .exact .inr ⟨A,_,_,b,e,.inl ⟨rx,g⟩,k _ H (ab.refl H) (.bl _)⟩
  .split at e
   .rename_i Y;exact .inr ⟨A,_,_,b,(by simp only[Se];rw[SF Y];exact e),.inr ⟨Y,rx,g⟩,k _ H (ab.refl H) (.bl _)⟩
   .cases e
  .cases e
def Sk(G:Gx)(r:List V->Hp->VK->Prop)(g:D->Option D):Prop:=∀(A:List Addr) (H:Hp) (x:V) (dx d:D) (Q:VK),(∀a∈A,Nt (H a))->mr G A H x dx->g dx=X0 d->(∀v z,ab H z->il G (cc A z) v d->Q v z)->r [x] H Q
def aB(G:Gx)(r:List V->Hp->VK->Prop)(g:D->D->Option D):Prop:=∀(A:List Addr) (H:Hp) (x y:V) (dx I d:D) (Q:VK),(∀a∈A,Nt (H a))->mr G A H x dx->mr G A H y I->g dx I=X0 d->(∀v z,ab H z->il G (cc A z) v d->Q v z)->r [x,y] H Q
def Kp{g:D->Option D}{ρ:Rho}{d:D}(h:uF g fa ρ=X0 d):∃x,fa ρ=X0 x/\g x=X0 d:=by
 unfold uF at h;cases e:fa ρ with
 |none=>simp[e] at h
 |some x=>exact⟨x,rfl,by simpa [e] using h⟩
def i_{g:D->Option D}(s:Sk G r g){A:List Addr}{z:St}{H:Hp}{Q:VK}(h:tF G A (uF g fa) z H Q):tCB r (W4 (tT G A fa) tNil) z H Q:=by
 obtain⟨J,d,o,e,k⟩:=h;obtain⟨x,U,T⟩:=Kp e;exact⟨J,x,o,U,λv Y I O=>s A Y v x d Q (o.mono I).live O T λw W S L=>k w W (I.trans S) L⟩
def qp{g:D->D->Option D}(s:aB G r g){A:List Addr}{I:St}{H:Hp}{Q:VK}(h:tF G A (bF g fa fb) I H Q):tCB r (W4 (tT G A fa) (W4 (tT G A fb) tNil)) I H Q:=by
 obtain⟨J,d,o,e,k⟩:=h;obtain⟨x,y,Z,Y,U⟩:=O8 e;exact⟨J,x,o,Z,λv H1 z T=>⟨J,y,o.mono z,Y,λu H2 S O=>s A H2 v u x y d Q ((o.mono z).mono S).live (T.mono S) O U λw H3 W L=>k w H3 (z.trans (S.trans W)) L⟩⟩
def BX{p:Pos}{id:String}{g:D->Option D}(O:Di X (.builtin id) r)(s:Sk G r g)(U:Gl X x)(L:X.mg x=W1)(I:dL x=X0 (.builtin id))(ha:PU X G a fa)(J:x≠"__name__":=by decide)(d:.(8)=E3:=by decide)(z:ay [a] X.env=[(E3,eval a X.env)]:=by rfl):PF X G (.Call (.Name x p) [a] [] pos) (uF g fa):=
 λA=>CZ (Oz O U L I (Bt (@ha A) De z) J d z rfl) λ_ _ _ h=>i_ s h
def XM{p:Pos}{id:String}{g:D->D->Option D}(S:Di X (.builtin id) r)(s:aB G r g)(U:Gl X x)(O:X.mg x=W1)(J:dL x=X0 (.builtin id))(ha:PU X G a fa)(hb:PU X G b fb)(L:x≠"__name__":=by decide)(z:.(8)=E3:=by decide)(I:ay [a,b] X.env=(E3,eval a X.env)::ay [b] X.env:=by rfl)(d:ay [b] X.env=[(E3,eval b X.env)]:=by rfl):PF X G (.Call (.Name x p) [a,b] [] pos) (bF g fa fb):=
 λA=>CZ (Oz S U O J (Bt (@ha A) (Bt (@hb A) De d) I) L z I (by rw[d];rfl)) λ_ _ _ h=>qp s h
def M8{p:Pos}{T:String}{g:D->Option D}(O:Di X (.type T) r)(s:Sk G r g)(U:Gl X x)(L:X.mg x=W1)(I:dL x=X0 (.type T))(ha:PU X G a fa)(J:x≠"__name__":=by decide)(d:.(8)=E3:=by decide)(z:ay [a] X.env=[(E3,eval a X.env)]:=by rfl):PF X G (.Call (.Name x p) [a] [] pos) (uF g fa):=
 λA=>CZ (HH O U L I (Bt (@ha A) De z) J d z rfl) λ_ _ _ h=>i_ s h
def Rm:Sk G (λxs H Q=>∃x n,xs=[x]/\LenV G.K x H n/\Q (.int n) H) Pi:=by
 intro A H x dx d Q I rx h k;unfold Pi at h;split at h
 .split at h
  .rename_i O;cases h;rw[rx.str];exact⟨_,_,rfl,⟨O,rfl⟩,k _ H (ab.refl H) (.int _)⟩
  .cases h
 .cases h;obtain⟨p,xs,rfl,g,r⟩:=rx.lst;exact⟨_,_,rfl,.inl ⟨xs,g,rfl⟩,by rw[r.1];exact k _ H (ab.refl H) (.int _)⟩
 .cases h;obtain⟨p,xs,rfl,g,r⟩:=rx.tup;exact⟨_,_,rfl,.inr ⟨xs,g,rfl⟩,by rw[r.1];exact k _ H (ab.refl H) (.int _)⟩
 .cases h
def Cv(W:G.K=X.K):Di X (.builtin "len") (λxs H Q=>∃x n,xs=[x]/\LenV G.K x H n/\Q (.int n) H):=by rw[W];exact gU
def jA:aB G (λxs H Q=>∃i j,xs=[.int i,.int j]/\Q (.int (if j > i then j else i)) H) maxD:=by
 intro A H x y dx g d Q I rx z h k;obtain⟨i,j,rfl,rfl,h⟩:=O9 h;cases h;exact⟨i,j,by rw[rx.int,z.int],k _ H (ab.refl H) (.int _)⟩
def jB:aB G (λxs H Q=>∃i j,xs=[.int i,.int j]/\Q (.int (if j<i then j else i)) H) minD:=by
 intro A H x y dx g d Q I rx z h k;obtain⟨i,j,rfl,rfl,h⟩:=O9 h;cases h;exact⟨i,j,by rw[rx.int,z.int],k _ H (ab.refl H) (.int _)⟩
def jC:Sk G (λxs H Q=>∃p ys,xs=[.ref p]/\(MO G.K H p ys∨MZ G.K H p ys)/\∀l,H l=W1->Q (.ref l) (fk H l (.lst ys))) iU:=by
 intro A H x dx d Q I rx h k;unfold iU at h;split at h
 .cases h;obtain⟨p,xs,rfl,g,r⟩:=rx.lst;exact⟨p,xs,rfl,.inl g,λl Y=>k _ _ (Aj Y _) (Cz I Y r)⟩
 .cases h;obtain⟨p,xs,rfl,g,r⟩:=rx.tup;exact⟨p,xs,rfl,.inr g,λl Y=>k _ _ (Aj Y _) (Cz I Y r)⟩
 .cases h
def aC:Sk G (λxs H Q=>(∃i,xs=[.int i]/\Q (.int i) H)∨∃k,xs=[.bl k]/\Q (.int (if k then 1 else 0)) H) intD:=by
 intro A H x dx d Q I rx h k;unfold intD at h;split at h
 .cases h;exact .inl ⟨_,by rw[rx.int],k _ H (ab.refl H) (.int _)⟩
 .cases h;exact .inr ⟨_,by rw[rx.bl],k _ H (ab.refl H) (.int _)⟩
 .cases h
end
def ut(G:Gx)(z H g:Hp)(x:V)(d:D):Prop:=ab H g/\∀B:List Addr,(∀a∈B,Nt (H a))->ab z (cc B H)->il G (cc B g) x d
def OD{G:Gx}{x:V}{d:D}(h:H'=H/\il G F2 x d):ut G F2 H H' x d:=by
 obtain⟨rfl,r⟩:=h;exact⟨ab.refl _,λB _ g=>r.mono g⟩
structure Src (G:Gx) (J:It) (ds:List D) (F1 F2:Hp):Prop where
 go:∀i H,ab F1 H->i<ds.length->J.go i H
 yld:∀i H x H' d,ab F1 H->ds[i]?=X0 d->J.yld i H x H'->ut G F2 H H' x d
 stop:∀i H,ab F1 H->ds.length<=i->J.stop i H
def tI(G:Gx)(A:List Addr)(top:Bool)(f:FI):TI:=λg H R=>∃ρ ds,OW G A g H ρ/\f ρ=X0 ds/\∀J z,ab H z->Src G J ds (if top then z else cc A z) (cc A z)->R J z
def OQ(X:Cx)(G:Gx)(top:Bool)(tg e:Expr)(f:FI):Prop:=∀⦃A⦄,PI X tg e (tI G A top f)
def O_{t t':TI}(h:PI X tg e t)(w:∀σ H Q,t' σ H Q->t σ H Q):PI X tg e t':=λd s σ H Q I q=>h d s σ H Q I (w σ H Q q)
def piOr{t t':TI}(h:PI X tg e t)(h':PI X tg e t'):PI X tg e (λσ H R=>t σ H R∨t' σ H R):=λd s σ H Q I q=>by
 rcases q with q | q
 .exact h d s σ H Q I q
 .exact h' d s σ H Q I q
section
variable {G:Gx}{a:Expr}{fa:FE}
def aF{ds:List D}(h:MZ G.K F1 p xs)(r:be G F2 xs ds):Src G (Itt G.K p) ds F1 F2 where
 go:=λi H s z=>⟨xs,xs[i]'(by rw[r.1];exact z),Dw s h,by simp[r.1,z]⟩
 yld:=λi H x I d s g y=>OD ⟨y.1,r.2 i x d (y.2 xs (Dw s h)) g⟩
 stop:=λi H s z=>⟨xs,Dw s h,by rw[r.1];exact z⟩
def qt(W:G.K=X.K)(h:PF X G a fa):OQ X G E3 tg a (VS fa):=λA=>O_ (piOr (Zw (@h A)) (gO (@h A)))<|by
 rintro U H R ⟨S,Y,o,e,k⟩
 unfold VS at e;split at e
 .rename_i L J;cases e;refine .inl ⟨S,_,o,J,λv O z g=>?_⟩;cases g with
  |lst h l r=>exact⟨_,rfl,⟨_,by rw[<-W];exact Am.seq h⟩,by rw[<-W];exact k _ O z { go:=λi H s I=>⟨_,_,s.seq h,by simp[l,I];rfl⟩,yld:=λi H x Z d s T y=>OD ⟨y.1,r i x d (y.2 _ (s.seq h)) T⟩,stop:=λi H s I=>⟨_,s.seq h,by rw[l];exact I⟩ }⟩
 .rename_i L J;cases e;refine .inr ⟨S,_,o,J,λv O z g=>?_⟩;cases g with
  |tup h l r=>exact⟨_,rfl,⟨_,by rw[<-W];exact Dw Am h⟩,by rw[<-W];exact k _ O z (aF h ⟨l,r⟩)⟩
 .cases e
def qu(W:G.K=X.K)(h:PU X G a fa):OQ X G E2 tg a (VS fa):=λA=>O_ (piOr (Zw (@h A)) (gO (@h A)))<|by
 rintro Y H R ⟨T,Z,o,e,k⟩
 unfold VS at e;split at e
 .rename_i O L;cases e;refine .inl ⟨T,_,o,L,λv S I J=>?_⟩;obtain⟨p,g,rfl,h,r⟩:=J.lst;exact⟨_,rfl,⟨_,by rw[<-W];exact h⟩,by rw[<-W];exact k _ S I { go:=λi H s z=>⟨g,g[i]'(by rw[r.1];exact z),s.seq h,by simp[r.1,z]⟩,yld:=λi H x H' d s U y=>OD ⟨y.1,r.2 i x d (y.2 _ (s.seq h)) U⟩,stop:=λi H s z=>⟨_,s.seq h,by rw[r.1];exact z⟩ }⟩
 .rename_i O L;cases e;refine .inr ⟨T,_,o,L,λv S I J=>?_⟩;obtain⟨p,g,rfl,h,r⟩:=J.tup;exact⟨_,rfl,⟨_,by rw[<-W];exact h⟩,by rw[<-W];exact k _ S I (aF h r)⟩
 .cases e
def jD{d:D}(h:(tx n)[i]?=X0 d):d=.int i:=by
 unfold tx at h;rw[br] at h;cases e:(aS n)[i]? with
 |none=>rw[e] at h;cases h
 |some j=>
  rw[e] at h;have:=(dP.mp e);obtain⟨z,g⟩:=this;rw[List.getElem_range] at g;subst g;exact (cS h).symm
def qw:Src G (Itr 0 n) (tx n) F1 F2 where
 go:=λi H s z=>by unfold tx at z;show i<n;simpa using z
 yld:=λi H x J d s I y=>by
  obtain⟨g,Z⟩:=y;rw[jD I,Z,Int.zero_add];exact OD ⟨g,.int _⟩
 stop:=λi H s z=>by unfold tx at z;show n<=i;simpa using z
def Dp{top:Bool}{p:Pos}(J:Gl X "range")(I:X.mg "range"=W1)(h:PU X G a fa)(hs:ay [a] X.env=[(E3,eval a X.env)]:=by rfl):OQ X G top tg (.Call (.Name "range" p) [a] [] pos) (vb fa):=λA=>O_ (dJ J I (Bt (@h A) De hs) hs)<|by
 rintro S H R ⟨g,T,o,e,k⟩
 unfold vb at e;split at e
 .rename_i j L;split at e
  .rename_i U;cases e;exact⟨g,_,o,L,λv O z d=>⟨j,by rw[d.int],U.1,U.2,k _ O z qw⟩⟩
  .cases e
 .cases e
end
structure NM (G:Gx) (A0:List Addr) (He:Hp) (A:List Addr) (σ:St) (H:Hp) (ρ:Rho):Prop where
 same:ab He H
 sub:∀a∈A0,a∈A
 fr:∀a∈A,a∈A0∨He a=W1
 l0:∀a∈A0,He a≠W1
 ok:OW G A σ H ρ
 ow0:∀(i:Nat) (d:D) (a:Addr),ρ[i]?=X0 (.ow d)->σ[i]?=X0 (X0 (.ref a))->a∉A0
 lt:∀(x:Addr) (d:D),G.lent=X0 x->ρ[0]?=X0 (.ow d)->σ[0]?=X0 (X0 (.ref x))
def UZ(G:Gx)(A0:List Addr)(d:Hp)(g:St)(H:Hp)(ρ:Rho):Prop:=∃A,NM G A0 d A g H ρ
def TF(G:Gx)(A0:List Addr)(z:Hp)(D:QY):Pw->Prop
 |.nx ρ=>∀g H,UZ G A0 z g H ρ->D.nx g H
 |.rt d ρ=>∀v g H A,NM G A0 z A g H ρ->il G (cc A H) v d->D.rt v H
 |.bk ρ=>∀g H,UZ G A0 z g H ρ->D.bk g H
 |.ct ρ=>∀g H,UZ G A0 z g H ρ->D.ct g H
def tS(G:Gx)(A0:List Addr)(d:Hp)(g:FS):TS:=λD z H=>∃ρ o,UZ G A0 d z H ρ/\g ρ=X0 o/\TF G A0 d D o
def Sl(X:Cx)(G:Gx)(st:Stmt)(g:FS):Prop:=∀⦃A0⦄ He,PS X st (tS G A0 He g)
def Pv(X:Cx)(G:Gx)(st:List Stmt)(g:FS):Prop:=∀⦃A0⦄ He,SV X st (tS G A0 He g)
theorem OW.set{G:Gx}{A:List Addr}{L:St}{H:Hp}{ρ:Rho}{v:V}{d:D}(o:OW G A L H ρ)(r:il G (cc A H) v d)(i:Nat):OW G A (L.set i (X0 v)) H (ρ.set i (.fz d)):=by
 have I:∀(j:Nat) (z:Slot),(ρ.set i (.fz d))[j]?=X0 z->(j=i/\z=.fz d/\i<ρ.length)∨(j≠i/\ρ[j]?=X0 z):=λj z h=>by
  by_cases U:j=i
  .subst U
   by_cases Y:j<ρ.length
   .rw[mI Y] at h;exact .inl ⟨rfl,(cS h).symm,Y⟩
   .rw[qf (by simpa using kD.mp Y)] at h;cases h
  .rw[i6 (cf U)] at h;exact .inr ⟨U,h⟩
 have g:∀(j:Nat),j≠i->(L.set i (X0 v))[j]?=L[j]?:=λj U=>i6 (cf U);refine⟨by rw[sj,sj];exact o.len,o.live,λj e h=>?_,λj e h=>?_,λj k e f p h1 Z T S=>?_⟩
 .rcases I j _ h with ⟨U,O,Y⟩ | ⟨U,O⟩
  .cases O;subst U;exact⟨v,by rw[mI (by rw[o.len];exact Y)],r⟩
  .obtain⟨u,q1,q2⟩:=o.fz j e O;exact⟨u,by rw[g j U];exact q1,q2⟩
 .rcases I j _ h with ⟨U,O,Y⟩ | ⟨U,O⟩
  .cases O
  .obtain⟨u,q1,q2⟩:=o.ow j e O;exact⟨u,by rw[g j U];exact q1,q2⟩
 .rcases I j _ h1 with ⟨_,O,_⟩ | ⟨U,O⟩
  .cases O
  .rcases I k _ Z with ⟨_,J,_⟩ | ⟨W,J⟩
   .cases J
   .rw[g j U] at T;rw[g k W] at S;exact o.inj j k e f p O J T S
theorem NM.mono{G:Gx}{A0:List Addr}{d:Hp}{A:List Addr}{g:St}{H z:Hp}{ρ:Rho}(o:NM G A0 d A g H ρ)(s:ab H z):NM G A0 d A g z ρ:=⟨o.same.trans s,o.sub,o.fr,o.l0,o.ok.mono s,o.ow0,o.lt⟩
theorem NM.set{G:Gx}{A0:List Addr}{S:Hp}{A:List Addr}{I:St}{H:Hp}{ρ:Rho}{v:V}{d:D}(o:NM G A0 S A I H ρ)(r:il G (cc A H) v d)(i:Nat):NM G A0 S A (I.set i (X0 v)) H (ρ.set i (.fz d)):=⟨o.same,o.sub,o.fr,o.l0,o.ok.set r i,λj e a g O=>by
  have U:j≠i:=by
   intro z;subst z
   by_cases Y:j<ρ.length
   .rw[mI Y] at g;cases g
   .rw[qf (by simpa using kD.mp Y)] at g;cases g
  rw[i6 (cf U)] at g O;exact o.ow0 j e a g O,λx e T J=>by
  by_cases L:i=0
  .subst L;cases ρ with
   |nil=>cases J
   |cons a r=>cases J
  .rw[i6 L] at J ⊢;exact o.lt x e T J⟩
def NM.base{G:Gx}{ρ:Rho}(o:NM G A0 Hf A σ H ρ)(s:ab He Hf)(d:∀a∈A0,He a≠W1):NM G A0 He A σ H ρ:=
 ⟨s.trans o.same,o.sub,λa g=>(o.fr a g).imp id λz=>s.free z,d,o.ok,o.ow0,o.lt⟩
def NM.here{G:Gx}{ρ:Rho}(o:NM G A0 He A σ H ρ):ab He (cc (A.filter λa=>decide (a∉A0)) H)/\NM G A0 (cc (A.filter λa=>decide (a∉A0)) H) A σ H ρ:=by
 have g:∀b,b∈(A.filter λa=>decide (a∉A0))↔b∈A/\b∉A0:=λb=>by simp[fw]
 have I:ab He (cc (A.filter λa=>decide (a∉A0)) H):=λb u h=>by
  rw[BK]
  .exact o.same b u h
  .intro z;obtain⟨Z,Y⟩:=(g b).mp z
   rcases o.fr b Z with q | q
   .exact Y q
   .rw[q] at h;cases h
 refine⟨I,Am,o.sub,λa d=>?_,λa d h=>?_,o.ok,o.ow0,o.lt⟩
 .by_cases O:a∈A0
  .exact .inl O
  .right;unfold cc;rw[SF ((g a).mpr ⟨d,O⟩)]
 .rw[BK (λz=>((g a).mp z).2 d)] at h;exact (o.ok.live a (o.sub a d)).ne h
def NM.plain{G:Gx}{ρ:Rho}(sub:∀a∈A0,a∈B)(o:NM G A0 (cc (B.filter λa=>decide (a∉A0)) H1) A σ H ρ):ab (cc B H1) (cc A H):=λb u h=>by
 unfold cc at h;split at h
 .cases h
 .rename_i d;have e:cc (B.filter λa=>decide (a∉A0)) H1 b=X0 u:=by
   rw[BK (λz=>d (fw.mp z).1)];exact h
  rw[BK]
  .exact o.same b u e
  .intro z
   rcases o.fr b z with q | q
   .exact d (sub b q)
   .rw[q] at e;cases e
section
variable {G:Gx}{a b c:Expr}{fa:FE}{ga:FT}{hQ:List Stmt}{g gs gb:FS}
def Bx:Pv X G [] RY:=by
 rintro O L z s d H D I ⟨J,o,ok,e,k⟩
 cases e;exact Kh z s d H D I (k d H ok)
theorem Ac(h1:Sl X G st g)(h2:Pv X G hQ gs):Pv X G (st::hQ) (bm g gs):=by
 rintro T S Y s W H D I ⟨O,o,ok,e,k⟩
 refine Ow (@h1 T S) (@h2 T S) Y s W H D I ?_;unfold bm at e;split at e
 .rename_i z Z;exact⟨O,_,ok,Z,λU H' J=>⟨z,o,J,e,k⟩⟩
 .rename_i L;refine⟨O,o,ok,e,?_⟩;cases o with
  |nx z=>exact MG e (L z)
  |rt d z=>exact k
  |bk z=>exact k
  |ct z=>exact k
def Af(h1:Sl X G st g):Pv X G [st] g:=λO d=>Vp (@h1 O d)
def CP{S:List Stmt}(ht:RS X G c ga)(h1:Pv X G s1 g)(h2:Pv X G S gs):Sl X G (.If c s1 S pos) (Pm ga g gs):=by
 rintro O J T s L H D I ⟨d,o,⟨A,w⟩,e,k⟩
 refine gJ (@ht A) (@h1 O J) (@h2 O J) T s L H D I ?_;unfold Pm at e;split at e
 .rename_i z;exact⟨d,_,w.ok,z,λU s1=>Ya ⟨d,o,⟨A,w.mono s1⟩,e,k⟩⟩
 .rename_i z;exact⟨d,_,w.ok,z,λU s1=>VY ⟨d,o,⟨A,w.mono s1⟩,e,k⟩⟩
 .cases e
def jE{ρ:Rho}{o:Pw}{D:QY}(w:NM G A0 He A σ H ρ)(e:im i fa ρ=X0 o)(k:TF G A0 He D o):TZ (tF G A fa) (Ff i) D σ H:=by
 unfold im at e;cases z:fa ρ with
 |none=>simp[z] at e
 |some d=>
  simp only[z,gi] at e;cases e;exact⟨ρ,d,w.ok,z,λv L I J=>k _ _ ⟨A,(w.mono I).set J i⟩⟩
def qx{p:Pos}(h:∀te,PE X a te->PS X (.Assign [.Name x p] a pos) (TZ te (Ff i)))(ha:PF X G a fa):Sl X G (.Assign [.Name x p] a pos) (im i fa):=λO L z s d H D I ⟨J,o,⟨A,w⟩,e,k⟩=>
 h _ (@ha A) z s d H D I (jE w e k)
def Ai(ha:PF X G a fa):Sl X G (.Return (X0 a) pos) (gq fa):=by
 rintro Y W O s J H D I ⟨L,o,⟨A,w⟩,e,k⟩
 refine wK (@ha A) O s J H D I ?_;unfold gq at e;cases z:fa L with
 |none=>simp[z] at e
 |some d=>
  simp only[z,gi] at e;cases e;exact⟨L,d,w.ok,z,λv U S T=>k v J U A (w.mono S) T⟩
def jF:Sl X G (.Return W1 pos) retN:=by
 rintro O L z s d H D I ⟨J,o,⟨A,w⟩,e,k⟩
 cases e;exact qF z s d H D I (k _ d H A w .non)
def Fi(ha:PF X G a fa)(hs:eR a W1 pos.line X.env=pure E3:=by rfl):Sl X G (.Expr a pos) (HD fa):=by
 rintro Y U O s L H D I ⟨J,o,⟨A,w⟩,e,k⟩
 refine Rh (@ha A) hs O s L H D I ?_;unfold HD at e;cases z:fa J with
 |none=>simp[z] at e
 |some d=>
  simp only[z,gi] at e;cases e;exact⟨J,d,w.ok,z,λv W S T=>k _ _ ⟨A,w.mono S⟩⟩
def KC:Sl X G st badF:=by rintro O L J s d H D I ⟨z,o,ok,e,k⟩;cases e
def tGD(G:Gx)(A0:List Addr)(J:Hp)(g:FG):TG:=λv O H Q=>∃A ρ d I,NM G A0 J A O H ρ/\il G (cc A H) v d/\g d ρ=X0 I/\∀z L,UZ G A0 J z L I->Q z L
def PGD(X:Cx)(G:Gx)(tg:Expr)(g:FG):Prop:=∀⦃A0⦄ He,PG X tg (tGD G A0 He g)
def BJ(h:PG X tg (Ff i)):PGD X G tg (Ax i):=by
 rintro U T L s z H v u Q I r ⟨A,S,d,J,w,O,e,k⟩
 cases e;exact h L s z H v u Q I r (k _ _ ⟨A,w.set O i⟩)
theorem TF.base{A0:List Addr}{L O:Hp}{D:QY}{o:Pw}(k:TF G A0 L D o)(s:ab L O)(I:∀a∈A0,L a≠W1):TF G A0 O D o:=by
 cases o with
 |nx J=>rintro z H ⟨A,w⟩;exact k z H ⟨A,w.base s I⟩
 |rt d J=>exact λv z H A w r=>k v z H A (w.base s I) r
 |bk J=>rintro z H ⟨A,w⟩;exact k z H ⟨A,w.base s I⟩
 |ct J=>rintro z H ⟨A,w⟩;exact k z H ⟨A,w.base s I⟩
theorem Ba{it:Expr}{src:FI}{fg:FG}(hp:tf .(3) X.A X.env X.xe)(hc:X.calm=E2)(hi:OQ X G E3 tg it src)(hg:PGD X G tg fg)(hb:Pv X G body gb)(hs:∀x,kR it X.env x=pure x:=by intro _;rfl):Sl X G (.For tg it body [] pos) (Cs src fg gb):=by
 rintro S He π s σ H D I ⟨W,o,⟨A,w⟩,e,k⟩
 cases e1:src W with
 |none=>simp[Cs,e1] at e
 |some z=>
  have e':ot (λd W=>(fg d W).bind gb) z W=X0 o:=by
   have e2:ot (OY fg gb) z W=X0 o:=by simpa [Cs,e1] using e
   exact e2
  have U1:SV X body (λD σ H=>∃S He,tS G S He gb D σ H):=(by rintro π s σ H D I ⟨S,He,q⟩;exact @hb S He π s σ H D I q);have S1:PG X tg (λv σ H Q=>∃S He,tGD G S He fg v σ H Q):=(by rintro π s σ H v u Q I r ⟨S,He,q⟩;exact @hg S He π s σ H v u Q I r q);refine Yr hp hc (@hi A) S1 U1 hs π s σ H D I ⟨W,z,w.ok,e1,λJ H1 s1 sr=>?_⟩;obtain⟨T0,w2⟩:=(w.mono s1).here;have k2:=k.base T0 w.l0;generalize X1:cc (A.filter λa=>decide (a∉S)) H1=Hf at T0 w2 k2;refine⟨λi m L Z=>m=z.length-i/\i<=z.length/\∃U,UZ G S Hf L Z U/\ot (λd W=>(fg d W).bind gb) (z.drop i) U=X0 o,⟨z.length,by simp,eW _,W,⟨A,w2⟩,by simpa using e'⟩,?_⟩;rintro i m N1 H3 ⟨rfl,Q2,S0,⟨B,w3⟩,O⟩;have pl:ab (cc A H1) (cc B H3):=by rw[<-X1] at w3;exact NM.plain w.sub w3
  by_cases N0:i<z.length
  .right;have hd:z[i]?=X0 z[i]:=by simp[N0]
   have ed:z.drop i=z[i]::z.drop (i+1):=ua N0;rw[ed] at O;unfold ot at O;refine⟨sr.go i H3 (pl.trans Am) N0,λL Z=>∃U,UZ G S Hf L Z U/\ot (λd W=>(fg d W).bind gb) (z.drop (i+1)) U=X0 o,λL Z q=>⟨z.length-(i+1),by omega,rfl,N0,q⟩,λx Z y=>?_⟩;obtain⟨sy,rx⟩:=sr.yld i H3 x Z _ (pl.trans Am) hd y;refine⟨S,Hf,B,S0,z[i],?_⟩;cases e4:fg z[i] S0 with
   |none=>simp[e4] at O
   |some O0=>
    refine⟨O0,w3.mono sy,rx B w3.ok.live pl,rfl,λY1 H5 P1=>⟨S,Hf,O0,?_⟩⟩;cases e5:gb O0 with
    |none=>simp[e4,e5] at O
    |some o5=>
     refine⟨o5,P1,rfl,?_⟩;cases o5 with
     |nx T=>
      simp only[e4,e5,eB] at O;exact λL Z Y=>⟨T,Y,O⟩
     |ct T=>
      simp only[e4,e5,eB] at O;exact λL Z Y=>⟨T,Y,O⟩
     |bk T=>
      simp only[e4,e5,eB] at O;cases O;exact λL Z Y=>k2 L Z Y
     |rt d5 T=>
      simp only[e4,e5,eB] at O;cases O;exact k2
  .left;have ei:i=z.length:=by omega
   subst ei;rw[AY] at O;cases O;exact⟨sr.stop _ H3 (pl.trans Am) (aw _),k2 N1 H3 ⟨B,w3⟩⟩
theorem dw(n:Nat)(hp:tf .(3) X.A X.env X.xe)(ht:RS X G c ga)(hb:Pv X G body gb):Sl X G (.While c body [] pos) (HJ ga gb n):=by
 rintro A0 He π s U H D I ⟨ρ,o,ok,e,k⟩
 have N0:PT X c (λU H Q=>∃A,tFT G A ga U H Q):=(by rintro π s U H Q I ⟨A,q⟩;exact @ht A π s U H Q I q);refine gM hp N0 (@hb A0 He) π s U H D I ⟨λm d S=>∃J,UZ G A0 He d S J/\HJ ga gb m J=X0 o,⟨n,ρ,ok,e⟩,?_⟩;rintro m Z H1 ⟨O,⟨A,w1⟩,z⟩;cases m with
 |zero=>cases z
 |succ m=>
  unfold HJ at z;cases Y:ga O with
  |none=>simp[Y] at z
  |some t=>
   refine⟨A,O,t,w1.ok,Y,λH2 s2=>?_⟩;cases t with
   |false=>
    refine VY ?_;simp only[Y] at z;cases z;exact k Z H2 ⟨A,w1.mono s2⟩
   |true=>
    refine Ya ⟨λd S=>∃J,UZ G A0 He d S J/\HJ ga gb m J=X0 o,λd S q=>⟨m,tq m,q⟩,O,?_⟩;simp only[Y] at z;cases W:gb O with
    |none=>simp[W] at z
    |some o3=>
     refine⟨o3,⟨A,w1.mono s2⟩,rfl,?_⟩;cases o3 with
     |nx T=>simp only[W] at z;exact λd S L=>⟨T,L,z⟩
     |ct T=>simp only[W] at z;exact λd S L=>⟨T,L,z⟩
     |bk T=>simp only[W] at z;cases z;exact λd S L=>k d S L
     |rt d5 T=>simp only[W] at z;cases z;exact k
end
def MU(G:Gx)(g:List D->Option D):Sp:=λvs H Q _=>∃A ds d,(∀a∈A,Nt (H a))/\be G (cc A H) vs ds/\g ds=X0 d/\∀v z,ab H z->il G (cc A z) v d->Q v z
section
variable {G:Gx}{a:Expr}{es:List Expr}{fs:FA}{p:Pos}
def z_{k:Nat}{f:Addr}{g:List D->Option D}(F:kr X.prog X.w X.K X.mg X.base CX0 k f fd ps (MU G g))(Y:Room k X.A)(hg:Gl X x)(Z:X.mg x=X0 (.ref f))(hk:jI X.K (.ref f)=E2)(hb:MV X.K fd ps [])(ha:SR X G (a::es) fs)(I:.(8)=E3:=by decide)(he:ay (a::es) X.env=(E3,eval a X.env)::ay es X.env:=by rfl)(z:(dn pos (ay es X.env)).any (·.1)=E3:=by rfl):
  PF X G (.Call (.Name x p) (a::es) [] pos) (An g fs):=λA=>CZ (Z2 F Y hg Z hk hb .nil VB (@ha A) I he z)<|by
 rintro σ H Q ⟨O,d,o,e,k⟩
 unfold An at e;cases J:fs O with
 |none=>simp[J] at e
 |some L=>
  have e':g L=X0 d:=by simpa [J] using e
  refine⟨O,L,o,J,λvs H1 S W=>⟨A,L,d,(o.mono S).live,by rw[f6];exact W,e',λv H2 T U=>k v H2 (S.trans T) U⟩⟩
end
def PB{G:Gx}{vs:List V}{ds:List D}(live:∀a∈A,Nt (H a))(r:be G (cc A H) vs ds)(U:vs.length<=N.length):UZ G A H (start N vs) H (Cu N.length ds):=by
 have g:∀(i:Nat) (z:Slot),(Cu N.length ds)[i]?=X0 z->(∃d,z=.fz d/\ds[i]?=X0 d)∨z=.un:=λi z h=>by
  unfold Cu at h
  by_cases L:i<ds.length
  .rw[m4 (by simpa using L),br] at h;cases e:ds[i]? with
   |none=>rw[e] at h;cases h
   |some d=>rw[e] at h;exact .inl ⟨d,(cS h).symm,rfl⟩
  .rw[kS (by simpa using kD.mp L),AF] at h;split at h
   .exact .inr (cS h).symm
   .cases h
 refine⟨A,ab.refl H,λ_ h=>h,λa h=>.inl h,λa S=>(live a S).ne,⟨?_,live,λi d h=>?_,λi d h=>?_,λi j d e a h _ _ _=>?_⟩,λi d a h _=>?_,λx d _ h=>?_⟩
 .unfold L2.start Cu;rw[fh,fh,av,av,xv,xv,r.1]
 .rcases g i _ h with ⟨J,e,I⟩ | e
  .cases e;obtain⟨v,O,T⟩:=r.get I;refine⟨v,?_,T⟩;unfold L2.start;rw[m4 (by rw[av];exact (dP.mp O).1),br,O];rfl
  .cases e
 .rcases g i _ h with ⟨J,e,I⟩ | e
  .cases e
  .cases e
 .rcases g i _ h with ⟨J,e,I⟩ | e
  .cases e
  .cases e
 .rcases g i _ h with ⟨J,e,I⟩ | e
  .cases e
  .cases e
 .rcases g 0 _ h with ⟨J,e,I⟩ | e
  .cases e
  .cases e
theorem WH{G:Gx}{base:Heap}{f:Addr}{k:Nat}{b:FS}(F:Fun G.K x qual st f fd)(S:bc N ps (Ab st))(hl:ps.length<=N.length)(hb:∀(cdv:ac) (A:aE) (g:List Env) (s:ah) (H:Hp) (E:XK),Room k (A.deeper (gy qual (Ab st) s.heap.objs.size f cdv))->Pv (Po CX0 P w G.K mg base N qual (Ab st) f cdv A g s H E).nox G (Bf st) b):
  kr P w G.K mg base CX0 (k+1) f fd ps (MU G (li N.length ps.length b)):=by
 refine F.ok S (λY H Q E h=>?_) (λcdv A g s H Y Q E hr h=>?_)
 .obtain⟨A,I,d,T,r,e,_⟩:=h;unfold li at e;split at e
  .rename_i O;rw[r.1];exact O
  .cases e
 .obtain⟨A0,I,d,T,r,e,k⟩:=h;unfold li at e;split at e
  .rename_i O;have hzz:=hb cdv A g s H E hr;refine⟨_,@hzz A0 H,Cu N.length I,?_⟩;cases z:b (Cu N.length I) with
   |none=>simp[z] at e
   |some o=>
    refine⟨o,PB T r (by rw[r.1,O];exact hl),rfl,?_⟩;cases o with
    |nx L=>
     simp only[z] at e;cases e;rintro U J ⟨A,w⟩;exact k _ J w.same .non
    |rt d' W=>
     simp only[z] at e;cases e;exact λv U J A w Z=>k v J w.same (Z.mono (Ed w.sub))
    |bk L=>simp[z] at e
    |ct L=>simp[z] at e
  .cases e
section
variable {G:Gx}{a b c:Expr}{px:Pos}{t:Str}{elt iter:Expr}{ifs:List Expr}{ga:FT}{fe:FE}{src:FI}
def WU(X:Cx)(G:Gx)(d:List Expr)(f:FT):Prop:=∀⦃A⦄,PTs X d (tFT G A f)
def C_:WU X G [] nq:=by
 rintro A d s g H Q I ⟨z,b,o,e,k⟩
 cases e;exact qW d s g H Q I (k H (ab.refl H))
def Ga(h:RS X G a ga):WU X G [a] ga:=λA=>qX (@h A)
def OW.fill{Hc:Hp}{ρ:Rho}(o:OW G A σ H ρ)(s:ab H Hc)(T:H p=W1)(U:Nt (Hc p)):OW G (p::A) σ Hc ρ:=by
 have I:ab (cc A H) (cc (p::A) Hc):=λb u h=>by
  unfold cc at h;split at h
  .cases h
  .rename_i W;rw[BK]
   .exact s b u h
   .intro z
    rcases bp.mp z with z | z
    .rw[z,T] at h;cases h
    .exact W z
 refine⟨o.len,λa Y=>?_,λi d h=>?_,λi d h=>?_,o.inj⟩
 .rcases bp.mp Y with z | z
  .rw[z];exact U
  .exact (o.mono s).live a z
 .obtain⟨v,L,J⟩:=o.fz i d h;exact⟨v,L,J.mono I⟩
 .obtain⟨a,L,J,S⟩:=o.ow i d h;refine⟨a,L,cp _ J,?_⟩;cases d with
  |lst O=>obtain⟨g,q1,q2⟩:=S;exact⟨g,s _ _ q1,q2.mono I⟩
  |dk O=>obtain⟨g,q1,q2,q3⟩:=S;exact⟨g,s _ _ q1,q2,q3.mono I⟩
  |dt O=>obtain⟨g,q1,q2,q3⟩:=S;exact⟨g,s _ _ q1,q2,q3.mono I⟩
  |ob c Z=>obtain⟨C,dx,g,q1,q2,q3⟩:=S;exact⟨C,dx,g,s _ _ q1,q2,q3.mono I⟩
  |_=>exact S.elim
def OW.snoc{ρ:Rho}{d:D}(o:OW G A σ H ρ)(r:il G (cc A H) v d):OW G A (σ++[X0 v]) H (ρ++[.fz d]):=by
 have I:∀(j:Nat) (z:Slot),(ρ++[.fz d])[j]?=X0 z->(j=ρ.length/\z=.fz d)∨(j<ρ.length/\ρ[j]?=X0 z):=λj z h=>by
  by_cases U:j<ρ.length
  .rw[m4 U] at h;exact .inr ⟨U,h⟩
  .rw[kS (kD.mp U)] at h;cases q:j-ρ.length with
   |zero=>rw[q] at h;exact .inl ⟨by omega,(cS h).symm⟩
   |succ n=>rw[q] at h;cases h
 have g:∀(j:Nat),j<ρ.length->(σ++[X0 v])[j]?=σ[j]?:=λj U=>m4 (by rw[o.len];exact U);refine⟨by rw[fh,fh,o.len];rfl,o.live,λj e h=>?_,λj e h=>?_,λj k e f p Y W S L=>?_⟩
 .rcases I j _ h with ⟨U,O⟩ | ⟨U,O⟩
  .cases O;subst U;exact⟨v,by rw[kS (by rw[o.len];exact aw _),o.len,xL];rfl,r⟩
  .obtain⟨u,q1,q2⟩:=o.fz j e O;exact⟨u,by rw[g j U];exact q1,q2⟩
 .rcases I j _ h with ⟨U,O⟩ | ⟨U,O⟩
  .cases O
  .obtain⟨u,q1,q2⟩:=o.ow j e O;exact⟨u,by rw[g j U];exact q1,q2⟩
 .rcases I j _ Y with ⟨_,O⟩ | ⟨U,O⟩
  .cases O
  .rcases I k _ W with ⟨_,J⟩ | ⟨T,J⟩
   .cases J
   .rw[g j U] at S;rw[g k T] at L;exact o.inj j k e f p O J S L
theorem OW.snocs{A:List Addr}{H:Hp}:∀{vs:List V}{es:List D}{σ:St}{ρ:Rho},OW G A σ H ρ->be G (cc A H) vs es->OW G A (σ++vs.map X0) H (ρ++es.map .fz)
 |[],[],σ,ρ,o,_=>by simpa using o
 |[],_::_,_,_,_,r=>by have:=r.1;simp at this
 |_::_,[],_,_,_,r=>by have:=r.1;simp at this
 |v::vs,e::es,σ,ρ,o,r=>by
  obtain⟨x,g,h,d,L⟩:=r.uncons;cases h;simpa using (o.snoc d).snocs L
def Dq(z:D->Option (List D))(ρ:Rho)(g:FT)(fe:FE):List D->Option (List D)
 |[]=>X0 []
 |d::r=>(z d).bind λes=>match g (ρ++es.map .fz) with
  |some E2=>(fe (ρ++es.map .fz)).bind λy=>(Dq z ρ g fe r).map (y::·)
  |some E3=>Dq z ρ g fe r
  |none=>W1
def Hw(z:D->Option (List D))(src:FI)(g:FT)(fe:FE):FE:=λρ=>(src ρ).bind λds=>if ds.length<=sizeLine then (Dq z ρ g fe ds).map .lst else W1
def bd1(d:D):Option (List D):=X0 [d]
theorem XN(ρ:Rho)(g:FT)(fe:FE):∀ds,J7 ρ g fe ds=Dq bd1 ρ g fe ds
 |[]=>rfl
 |d::r=>by
  unfold J7 Dq;rw[XN ρ g fe r];rfl
def TJ(src:FI)(g:FT)(fe:FE):A_ src g fe=Hw bd1 src g fe:=by
 funext ρ;unfold A_ Hw;congr 1;funext ds;rw[XN]
def Bnd(G:Gx)(N n:Nat)(J:D->Option (List D))(g:TG):Prop:=∀(A:List Addr) (z I:St) (H:Hp) (x:V) (d:D) (es:List D) (Q:St->Hp->Prop),z.length=N->I.length=n->J d=X0 es->il G (cc A H) x d->(∀vs,vs.length=n->be G (cc A H) vs es->Q (z++vs.map X0) H)->g x (z++I) H Q
def bnd1{N:Nat}:Bnd G N 1 bd1 (Ff N):=λA g J H x d L Q Y I e r k=>by
 cases e;obtain⟨o,rfl⟩:=List.length_eq_one_iff.mp I;have z:(g++[o]).set N (X0 x)=g++[X0 x]:=by rw[<-Y,E7 _ _ (aw _),xL];rfl
 show Q ((g++[o]).set N (X0 x)) H;rw[z];exact k [x] rfl (.cons r .nil)
def tN(G:Gx)(A:List Addr)(f:FE):TE:=λz H Q=>∃ρ d,OW G A z H ρ/\f ρ=X0 d/\∀p g,ab H g->H p=W1->MS G (p::A) g p d->Q (.ref p) g
def XQ{N:Nat}{bd:D->Option (List D)}{g:TG}(hX:X.N.length=N)(hB:Bnd G N n bd g){A:List Addr}{W:St}{H:Hp}{Q:VK}(h:tN G A (Hw bd src ga fe) W H Q):Y6 n (um X (tI G A E2 src)) g (λW H Q=>∃A,tFT G A ga W H Q) (λW H Q=>∃A,tF G A fe W H Q) W H Q:=by
 obtain⟨ρ,d,o,e,k⟩:=h;unfold Hw at e;cases e1:src ρ with
 |none=>simp[e1] at e
 |some I=>
  rw[e1] at e;have e':(if I.length<=sizeLine then (Dq bd ρ ga fe I).map D.lst else W1)=X0 d:=e;split at e'
  .rename_i hz;cases e2:Dq bd ρ ga fe I with
   |none=>simp[e2] at e'
   |some O0=>
    simp only[e2,gi] at e';cases e';refine⟨λJ H1=>ab H H1/\Src G J I H1 (cc A H1),⟨ρ,I,o,e1,λJ H1 s1 sr=>⟨s1,sr⟩⟩,λJ H1 N1 q0 p hp=>?_⟩;obtain⟨s1,sr⟩:=q0;have o1:=o.mono s1;refine⟨λi m ys U=>m=I.length-i/\i<=I.length/\U p=X0 (.lst ys)/\ab H1 U/\ys.length<=i/\∃es hQ,be G (cc (p::A) U) ys es/\Dq bd ρ ga fe (I.drop i)=X0 hQ/\es++hQ=O0,
     ⟨I.length,by simp,eW _,Ah,Aj hp _,aw _,[],O0,be.nil,by simpa using e2,rfl⟩,?_⟩
    rintro i m ys U ⟨rfl,X1,O,T,hy,es,hQ,rr,L,eo⟩
    by_cases S:i<I.length
    .right;have hd:I[i]?=X0 I[i]:=by simp[S]
     have ed:I.drop i=I[i]::I.drop (i+1):=ua S;rw[ed] at L;unfold Dq at L;refine⟨sr.go i U T S,λx H' y os ho=>?_⟩;obtain⟨sy,rx⟩:=sr.yld i U x H' _ T hd y;have S0:OW G (p::A) W U ρ:=o1.fill T hp (by rw[O];exact Nt.lst);have sm:ab (cc A H1) (cc (p::A) U):=λb u h=>by
      unfold cc at h;split at h
      .cases h
      .rename_i hb;rw[BK]
       .exact T b u h
       .intro z
        rcases bp.mp z with z | z
        .rw[z,hp] at h;cases h
        .exact hb z
     cases N0:bd I[i] with
     |none=>simp[N0] at L
     |some bs=>
     simp only[N0,eB] at L;refine hB (p::A) W os H' x I[i] bs _ (N1.trans hX) ho N0 (rx _ S0.live sm) λvs S1 P1=>⟨⟨_,rfl,by rw[av];exact S1⟩,?_⟩;have T0:=(S0.mono sy).snocs P1;have O:=sy _ _ O;have rr:=rr.mono (Az sy);have T:=T.trans sy;cases eg:ga (ρ++bs.map .fz) with
     |none=>simp[eg] at L
     |some b=>
      refine⟨p::A,_,b,T0,eg,λH2 Y=>?_⟩;cases b with
      |false=>
       refine VY ⟨I.length-(i+1),by omega,rfl,S,Y _ _ O,T.trans Y,y0 hy,es,hQ,rr.mono (Az Y),by simpa [eg] using L,eo⟩
      |true=>
       simp only[eg] at L;cases ee:fe (ρ++bs.map .fz) with
       |none=>simp[ee] at L
       |some yd=>
        cases ec:Dq bd ρ ga fe (I.drop (i+1)) with
        |none=>simp[ee,ec] at L
        |some Z=>
         simp only[ee,ec,eB,gi] at L;cases L;refine Ya ⟨p::A,_,yd,T0.mono Y,ee,λyv H3 s3 r3=>?_⟩;have U1:=s3 _ _ (Y _ _ O);refine⟨U1,by omega,I.length-(i+1),by omega,rfl,S,Ah,λb u q=>?_,by rw[fh];simp;omega,es++[yd],Z,?_,ec,by rw[mT];exact eo⟩
         .have hb:b≠p:=Dd q hp;rw[Al hb];exact s3 _ _ (Y _ _ (T _ _ q))
         .rw[Bh df];exact (rr.mono (Az (Y.trans s3))).append (.cons r3 .nil)
    .left;have ei:i=I.length:=by omega
     subst ei;rw[AY] at L;simp only[Dq] at L;cases L;rw[f6] at eo;subst eo;exact⟨sr.stop _ U T (aw _),k p U (s1.trans T) (s1.free hp) ⟨ys,O,rr⟩⟩
  .cases e'
def uv{J:D->Option (List D)}{Q:VK}(h:tF G A (Hw J src ga fe) σ H Q):tN G A (Hw J src ga fe) σ H Q:=by
 obtain⟨I,d,o,e,k⟩:=h;have O:=e;unfold Hw at O;cases T:src I with
 |none=>simp[T] at O
 |some L=>
  rw[T] at O;have g:(if L.length<=sizeLine then (Dq J I ga fe L).map D.lst else W1)=X0 d:=O;split at g
  .cases S:Dq J I ga fe L with
   |none=>rw[S] at g;cases g
   |some W=>
    rw[S] at g;cases g;refine⟨I,_,o,e,λp H' U Y ⟨xs,h1,h2⟩=>k _ H' U ?_⟩;have q:=h2.mono (Ed (A:=A) λa Z=>cp _ Z);exact .lst (.of (by rw[BK (λz=>(o.live p z).ne Y)];exact h1)) q.1 q.2
  .cases g
section
variable {bd:D->Option (List D)}{g:TG}{ts:List Str}
theorem TQ(z:List Str)(Y:Br ts X.N++ts=z)(c:nj X scope ts)(L:X.calm=E2)(hi:OQ X G E2 tg iter src)(W:∀S H2 fp,PG (Bg X scope z S H2 fp) tg g)(U:Bnd G X.N.length ts.length bd g)(O:∀S H2 fp,WU (Bg X scope z S H2 fp) G ifs ga)(T:∀S H2 fp,PF (Bg X scope z S H2 fp) G elt fe)(hs:∀x,kR iter X.env x=pure x:=by intro _;rfl)(A:List Addr):PE X .(9) (tN G A (Hw bd src ga fe)):=by
 subst Y;refine CZ (iR (tc:=λd H Q=>∃A,tFT G A ga d H Q) (te:=λd H Q=>∃A,tF G A fe d H Q) c L (Z_ (@hi A)) W (λS H2 fp=>?_) (λS H2 fp=>?_) hs) λ_ _ _ h=>XQ rfl U h
 .rintro J s d H Q I ⟨A,q⟩;exact O S H2 fp J s d H Q I q
 .rintro J s d H Q I ⟨A,q⟩;exact T S H2 fp J s d H Q I q
theorem jG(J:List Str)(eN:Br ts X.N++ts=J)(c:nj X scope ts)(W:X.calm=E2)(Y:X.N.Nodup)(U:X.N[i]?=X0 y)(L:Loc X.env.scope y)(hi:OQ X G E2 tg iter src)(hG:∀S H2 fp,PG (Bg X scope J S H2 fp) tg g)(hB:Bnd G X.N.length ts.length bd g)(Z:∀S H2 fp,WU (Bg X scope J S H2 fp) G ifs ga)(hE:∀S H2 fp,PF (Bg X scope J S H2 fp) G elt fe)(O:eR .(9) (X0 (.Name y py)) spos.line X.env=pure E2)(T:X.fn y=E2∨X.env.scope.names.lookup y=X0 .local)(hs:∀x,kR iter X.env x=pure x)(A:List Addr){z:zP}{s:ah}{d:St}{H:Hp}{D:QY}(I:Inv X z d H s)(h:TZ (tN G A (Hw bd src ga fe)) (Ff i) D d H):
  ag .(3) X.A (exec (.Assign [.Name y py] .(9) spos) X.env) (SP X z D) X.xe s:=by
 subst eN;refine iT (tc:=λd H Q=>∃A,tFT G A ga d H Q) (te:=λd H Q=>∃A,tF G A fe d H Q) c W Y U L (Z_ (@hi A)) hG (λS H2 fp=>?_) (λS H2 fp=>?_) O T hs z s d H D I (XQ rfl hB h)
 .rintro z s d H Q I ⟨A,q⟩;exact Z S H2 fp z s d H Q I q
 .rintro z s d H Q I ⟨A,q⟩;exact hE S H2 fp z s d H Q I q
end
def jH(Y:Dh t X.N++[t]=N')(c:L_ X scope t)(S:ah)(d:Hp)(fp:List Addr):PG (Bg X scope N' S d fp) (.Name t px) (Ff X.N.length):=by
 subst Y;exact gOne c S d fp
def Cq(z:List Str)(Y:Dh t X.N++[t]=z)(c:L_ X scope t)(I:X.calm=E2)(d:OQ X G E2 (.Name t px) iter src)(O:∀S H2 fp,WU { Km X scope t S H2 fp with N:=z } G ifs ga)(T:∀S H2 fp,PF { Km X scope t S H2 fp with N:=z } G elt fe)(hs:∀x,kR iter X.env x=pure x:=by intro _;rfl):PF X G (.ListComp elt [⟨.Name t px,iter,ifs,0⟩] scope pos) (A_ src ga fe):=λA=>by
 rw[TJ];exact CZ (TQ z Y c I d (jH Y c) bnd1 O T hs A) λ_ _ _ h=>uv h
def XR(z:List Str)(Y:Dh t X.N++[t]=z)(c:L_ X scope t)(L:X.calm=E2)(T:X.N.Nodup)(U:X.N[i]?=X0 y)(d:Loc X.env.scope y)(g:OQ X G E2 (.Name t px) iter src)(W:∀S H2 fp,WU { Km X scope t S H2 fp with N:=z } G ifs ga)(Z:∀S H2 fp,PF { Km X scope t S H2 fp with N:=z } G elt fe)(O:eR (.ListComp elt [⟨.Name t px,iter,ifs,0⟩] scope pos) (X0 (.Name y py)) spos.line X.env=pure E2:=by rfl)(J:X.fn y=E2∨X.env.scope.names.lookup y=X0 .local :=by first | exact .inl rfl | exact .inr rfl | assumption)(hs:∀x,kR iter X.env x=pure x:=by intro _;rfl):
  Sl X G (.Assign [.Name y py] (.ListComp elt [⟨.Name t px,iter,ifs,0⟩] scope pos) spos) (im i (A_ src ga fe)):=by
 rintro A0 He π s σ H D I ⟨ρ,o,⟨A,w⟩,e,k⟩
 rw[TJ] at e;exact jG z Y c L T U d g (jH Y c) bnd1 W Z O J hs A I (uv (jE w e k))
end
section
variable {A:aE}{R:nL->ah->Prop}{I:Addr}{wr:List Addr}{P:Nat->ac->Prop}{Sx:Nat->Heap->Prop}
def V3:(toString "max"++toString ".loop":String)="max.loop":=by decide
def qy(W:ki prog w A.in1 I fp wr n P Sx)(bt:Nat->Nat->Bool)(O0:CmpOf prog w A.in1 .Gt P bt)(S:Addr)(nS:S∉fp):
  ∀(k j:Nat) (s:ah) (G:ac) (c:Nat),k=n-(j+1)->j+1<=n->Sx (j+1) s.heap->P (fq bt j) G->s.heap.get? S=X0 { cls:=.type "list",dict:=W1,data:=.seq #[G,G] c,slots:=#[] } ->
  (∀v h' tk,P (fq bt (n-1)) v->(∀b o,b∉wr->b≠S->s.heap.get? b=X0 o->h'.get? b=X0 o)->R (.ok (.ret v)) { s with heap:=h',toks:=tk })->gg (ai prog w) A (.builtin "max.loop" ⟨[.ref I,.none,.ref S],kw⟩) R s:=by
 have nW:S∉wr:=λh=>nS (W.sub _ h);intro k
 induction k with
 |zero=>
  intro j s G c hk hj T hb hS hR;have en:j+1=n:=by omega
  refine hJ E8 (by
   rw[kX sk _];show ag _ A.in1 (qh (.ref S) >>= _) _ _ s;refine ae (kN hS rfl ?_);show ag _ A.in1 (tryCatch (eK (.ref I)) _ >>= _) _ _ s;refine ae (n9 (W.done s _ _ (by rw[<-en];exact T) λh1 tk Z=>?_));have g:=Z S _ nW hS;show ag _ A.in1 (ub S (λ_=>#[]) >>= _) _ _ _;refine ae (om g rfl (ae (oy (ar ?_))));exact hR G _ tk (by rw[<-en];exact hb) λb o L d e=>(gE _ _ (cf d)).trans (Z b o L e))
 |succ k ih=>
  intro j s G c hk hj T hb hS hR;have U:j+1<n:=by omega
  refine hJ E8 (by
   rw[kX sk _];show ag _ A.in1 (qh (.ref S) >>= _) _ _ s;refine ae (kN hS rfl ?_);show ag _ A.in1 (tryCatch (eK (.ref I)) _ >>= _) _ _ s;refine ae (n9 (W.item (j+1) s _ _ U T λv h1 tk hP N0 Z=>?_));have g:=Z S _ nW hS;show ag _ A.in1 (tryCatch (lS [v,v] (richCompare .Gt v G >>= _)) _ >>= _) _ _ _;refine ae (n9 (wpAny_holding (ae (O0 (j+1) (fq bt j) v G _ _ _ hP hb ?_))));refine ae (wpAny_holding (kq (ae (oy (ar ?_)))));cases q:bt (j+1) (fq bt j) with
   |true=>
    simp only[MH];refine ae (om g rfl (ae (oy ?_)));rw[V3];refine ar ⟨ko sk _,ih (j+1) _ v _ .(0) U (W.frame _ _ _ N0 λb S0 o e=>(gE _ _ (λz:S=b=>nS (by rw[z];exact S0))).trans e) (by simp only[fq,q,MH];exact hP) (kG _ g rfl)
     λv2 h2 J Y O=>hR v2 h2 J Y λb o L d e=>O b o L d ((gE _ _ (cf d)).trans (Z b o L e))⟩
   |false=>
    simp only[dE,NH];refine ae (oy ?_);rw[V3];exact ar ⟨ko sk _,ih (j+1) _ G c .(0) U N0 (by simp only[fq,q,dE,NH];exact hb) g λv2 h2 J Y O=>hR v2 h2 J Y λb o L d e=>O b o L d (Z b o L e)⟩)
def jJ(W:ki prog w A.in1 I fp wr n P Sx)(bt:Nat->Nat->Bool)(G:CmpOf prog w A.in1 .Gt P bt)(S:Addr)(U:S∉fp){s:ah}{c:Nat}{nm:Str}{dv:ac}(g:Sx 0 s.heap)(hS:s.heap.get? S=X0 { cls:=.type "list",dict:=W1,data:=.seq #[] c,slots:=#[] })(hR:0<n->∀v h' tk,P (fq bt (n-1)) v->(∀b o,b∉wr->b≠S->s.heap.get? b=X0 o->h'.get? b=X0 o)->R (.ok (.ret v)) { s with heap:=h',toks:=tk })(h0:n=0->∀h' tk,(∀b o,b∉wr->s.heap.get? b=X0 o->h'.get? b=X0 o)->R (.ok (.ret dv)) { s with heap:=h',toks:=tk }):
  gg (ai prog w) A (.builtin "max.loop" ⟨[.ref I,.none,.ref S],[(nm,dv)]⟩) R s:=by
 have nW:S∉wr:=λh=>U (W.sub _ h);refine hJ E8 (by
  rw[kX sk _];show ag _ A.in1 (qh (.ref S) >>= _) _ _ s;refine ae (kN hS rfl ?_);show ag _ A.in1 (tryCatch (eK (.ref I)) _ >>= _) _ _ s
  by_cases Z:0<n
  .refine ae (n9 (W.item 0 s _ _ Z g λv h1 tk hP T L=>?_));have J:=L S _ nW hS;show ag _ A.in1 (ub S (λ_=>#[v,v]) >>= _) _ _ _;refine ae (om J rfl ?_);rw[V3];exact ar ⟨ko sk _,qy W bt G S U _ 0 _ v _ rfl Z (W.frame _ _ _ T λb N0 o e=>(gE _ _ (λz:S=b=>U (by rw[z];exact N0))).trans e) hP (kG _ J rfl)
    λv2 h2 O O0 Y=>hR Z v2 h2 O O0 λb o nb d e=>Y b o nb d ((gE _ _ (cf d)).trans (L b o nb e))⟩
  .have en:n=0:=by omega
   refine ae (n9 (W.done s _ _ (by rw[en];exact g) λh1 tk L=>?_));exact ae (rc (ar (h0 en h1 tk L))))
end
section
variable {A:aE}{l:Addr}{xs:Array (Int×Tok)}
def d7(a v:ac):qk "max" ⟨[a],[(dA "default",v)]⟩:=by unfold qk;kernel_rfl
theorem d8{Q:ac->ah->Prop}{G:ac}(S:A.handled=W1)(Z:s.heap.IsList l (d6 xs))(h1:0<xs.size->∀v h' tk,(d6 xs)[fq (λi j=>decide (gu xs i > gu xs j)) (xs.size-1)]?=X0 v->.(7)->Q v { s with heap:=h',toks:=tk })(h0:xs.size=0->∀h' tk,.(7)->Q G { s with heap:=h',toks:=tk }):
  ag (ai prog w) A (call (.builtin "max") [.ref l] [(dA "default",G)]) Q E s:=by
 refine IZ PySem.F.kind_max PySem.F.plain_max PySem.F.entry_max (d7 _ _) ?_;show ag _ A.in1 (AZ "max" ["key","default"] 0 ⟨[],[(dA "default",G)]⟩ >>= _) _ _ s;refine ae (ya (show AZ "max" ["key","default"] 0 ⟨[],[(dA "default",G)]⟩=pure [W1,X0 G] from rfl) (ae (ar ?_)));refine ae (iter_intList Z λs2 e U L d=>?_);subst e;refine ae (kB ?_);have Y:(s.heap.push { cls:=.type "list_iterator",data:=.fields #[.ref l,.int 0 0] }).objs.size∉[s.heap.objs.size,l]:=λg=>gT _ (L _ g);have W:ki prog w A.in1.in1 s.heap.objs.size [s.heap.objs.size,l] [s.heap.objs.size] (d6 xs).size (λi v=>(d6 xs)[i]?=X0 v) (λi h=>h.IsListIter s.heap.objs.size l i/\h.IsList l (d6 xs)):=so (A:=A.in1.in1) S _ l d (d6 xs);have T:ki prog w A.in1 s.heap.objs.size [s.heap.objs.size,l] [s.heap.objs.size] (d6 xs).size (λi v=>(d6 xs)[i]?=X0 v) (λi h=>h.IsListIter s.heap.objs.size l i/\h.IsList l (d6 xs)):=so (A:=A.in1) S _ l d (d6 xs);have sz:(d6 xs).size=xs.size:=by simp[d6]
 have O:∀b o,s.heap.get? b=X0 o->((s.heap.push { cls:=.type "list_iterator",data:=.fields #[.ref l,.int 0 0] }).push { cls:=.type "list",data:=.seq ([]:List ac).toArray }).get? b=X0 o:=λb o e=>ba _ (ba _ e);rw[V3];refine ar ⟨ko sk _,jJ T (λi j=>decide (gu xs i > gu xs j)) (CmpOf.ints_gt (gu xs) (λ_ _=>B0)) _ Y (T.frame 0 _ _ U λb hb o e=>ba _ e) (bS _ rfl) (λJ v h' tk hP I=>?_) (λJ h' tk I=>?_)⟩
 .refine h1 (by rw[<-sz];exact J) v h' tk (by rw[sz] at hP;exact hP) λb o e=>I b o ?_ ?_ (O b o e)
  .intro g;exact MG (bn e) (by rw[ii.mp g];exact gT _)
  .intro z;have q:b<s.heap.objs.size:=bn e;rw[iE] at z;exact MG (z▸q) (kD.mpr (kz _))
 .refine h0 (by rw[<-sz];exact J) h' tk λb o e=>I b o ?_ (O b o e);intro g;exact MG (bn e) (by rw[ii.mp g];exact gT _)
end
theorem XS(val:Nat->Int):∀k,val (fq (λi j=>decide (val i > val j)) k)=WZ val k
 |0=>rfl
 |k+1=>by
  have d:=XS val k;unfold fq WZ
  by_cases h:val (k+1) > WZ val k
  .rw[SF (by rw[d];exact OG h),SF h]
  .rw[UF (by rw[d];simpa using h),UF h];exact d
theorem OJ(d:Nat->Nat->Bool):∀k,fq d k<=k
 |0=>aw _
 |k+1=>by
  unfold fq;split
  .exact aw _
  .exact y0 (OJ d k)
theorem SH{G:Gx}{H:Hp}:∀{ds:List D}{xs:List V}{L:List Int},be G H xs ds->J8 ds=X0 L->xs=L.map V.int
 |[],xs,L,r,h=>by cases h;rw[r.nil_inv];rfl
 |d::ds,xs,L,r,h=>by
  obtain⟨x,I,rfl,z,g⟩:=r.uncons;cases d with
  |int i=>
   simp only[J8] at h;cases e:J8 ds with
   |none=>simp[e] at h
   |some J=>
    simp only[e,gi] at h;cases h;cases z;rw[SH g e];rfl
  |_=>simp[J8] at h
def XX{L:List Int}:∀{us:List ac},cx (L.map V.int) us->∃xs:Array (Int×Tok),us.toArray=d6 xs/\xs.size=L.length/\∀i,i<L.length->gu xs i=L.getD i 0:=by
 induction L with
 |nil=>intro us r;cases r;exact⟨#[],by simp[d6],rfl,λi h=>by simp at h⟩
 |cons n L z=>
  intro us r;rw[bb] at r;cases r with
  |cons G g=>
   obtain⟨tk,rfl⟩:=G;obtain⟨xs,S,O,J⟩:=z g;refine⟨⟨(n,tk)::xs.toList⟩,?_,by simp[O],λi I=>?_⟩
   .have d:=SG CM S;simp only[d6,Array.toList_map] at d;simp only[d6];apply E9.mp;simp[d]
   .cases i with
    |zero=>simp[gu]
    |succ i=>
     have:=J i (by simpa using I);simp only[gu] at this ⊢;simpa using this
theorem VF{f g:Nat->Int}:∀{k:Nat},(∀i,i<=k->f i=g i)->WZ f k=WZ g k
 |0,h=>h 0 (aw _)
 |k+1,h=>by
  unfold WZ;rw[h (k+1) (aw _),VF λi z=>h i (y0 z)]
def AAG(K:aI):V->V->Hp->VK->Prop:=λx y H Q=>∃p L,x=.ref p/\MO K H p (L.map V.int)/\Q (if L=[] then y else .int (WZ (λi=>L.getD i 0) (L.length-1))) H
section
variable {G:Gx}{a b:Expr}{fa fb:FE}{p kpos:Pos}
def qz(hc:X.calm=E2){U:zP}{s:ah}{T:St}{H:Hp}{x y:V}{v u:ac}{Q:VK}(I:Inv X U T H s)(rx:dm x v)(Y:dm y u)(h:AAG X.K x y H Q):
  ag .(3) X.A (call (.builtin "max") [v] [(dA "default",u)]) (EP X U T Q) X.xe s:=by
 obtain⟨q,L,rfl,hs,k⟩:=h;cases rx;obtain⟨N0,Z,pl,hz⟩:=I.list hs;obtain⟨g,e1,d,e3⟩:=XX Z;have hl:s.heap.IsList q (d6 g):=by rw[<-e1];exact pl.isList
 refine d8 (I.ok.hd hc) hl (λS w h' tk hP O=>?_) (λS h' tk O=>?_)
 .have J:L≠[]:=λz=>by rw[z] at d;exact MG S (by rw[d];exact gT _)
  rw[UF J] at k;obtain⟨t,rfl⟩:=B0 hP;refine⟨.int _,H,I.kept O,⟨t,?_⟩,k⟩;have O0:=OJ (λi j=>decide (gu g i > gu g j)) (g.size-1);have q:=XS (gu g) (g.size-1);rw[q,d];congr 1;have W:0<L.length:=Jn.mpr J;exact VF λi hi=>e3 i .(0)
 .have J:L=[]:=by
   rw[S] at d;exact ol.mp d.symm
  rw[SF J] at k;exact⟨y,H,I.kept O,Y,k⟩
def q8(hc:X.calm=E2)(hG:G.K=X.K)(hg:Gl X x)(hm:X.mg x=W1)(hv:dL x=X0 (.builtin "max"))(ha:PU X G a fa)(hb:PF X G b fb)(hn:x≠"__name__":=by decide)(N0:.(8)=E3:=by decide)(he:ay [a] X.env=[(E3,eval a X.env)]:=by rfl)(hk:i9 [⟨X0 (dA "default"),b,kpos⟩] X.env=[(X0 (dA "default"),eval b X.env)]:=by rfl):
  PF X G (.Call (.Name x p) [a] [⟨X0 (dA "default"),b,kpos⟩] pos) (bF XD fa fb):=λA π s σ H Q I h=>by
 obtain⟨ρ,d,o,e,k⟩:=h;obtain⟨dx,dy,e1,e2,g⟩:=O8 e;refine tz (N5 I hg hm hv ?_ hn N0);have hA:=Bt (X:=X) (@ha A) De he pos π s σ H (λS J=>∃v,S=[v]/\ab H J/\mr G A J v dx) I ⟨ρ,dx,o,e1,λv J T Z=>⟨v,rfl,T,Z⟩⟩;refine callWith_kw (mo hA λus T q0=>?_) (by rw[he];rfl) (by rw[he];rfl) (by rw[hk];rfl) (by rw[hk];rfl);obtain⟨S,J,I1,rv,v,ev,O,Z⟩:=q0;subst ev;have hK:=Z4 (X:=X) (nm:=X0 (dA "default")) (kpos:=kpos) (@hb A) gr pos π T σ J (λS z=>∃v,S=[v]/\ab J z/\il G (cc A z) v dy) I1 ⟨ρ,dy,o.mono O,e2,λv z s2 Y=>⟨v,rfl,s2,Y⟩⟩;refine mo hK λks s2 p0=>?_;obtain⟨ws,z,I2,U,y,ey,L,Y⟩:=p0;subst ey;obtain⟨u,rfl,ru⟩:=OI rv;obtain⟨u2,rfl,W⟩:=OI U;rw[hk];have s0:=O.trans L;unfold XD at g;cases dx with
 |lst ds=>
  simp only at g;cases ei:J8 ds with
  |none=>simp[ei] at g
  |some ns=>
   simp only[ei,gi] at g;obtain⟨q,xs,rfl,h1,rr⟩:=(Z.mono L).lst;have ex:=SH rr ei;subst ex;refine qz hc I2 ru W ⟨q,ns,rfl,by rw[<-hG];exact h1,?_⟩
   by_cases nn:ns=[]
   .rw[SF nn] at g ⊢;cases g;exact k _ z s0 Y
   .rw[UF nn] at g ⊢;cases g;exact k _ z s0 (.int _)
 |_=>cases g
theorem Xa{H:Hp}:∀{ds:List D}{xs:List V}{L:List Str},be G H xs ds->Ng ds=X0 L->xs=L.map V.str
 |[],xs,L,r,h=>by cases h;rw[r.nil_inv];rfl
 |d::ds,xs,L,r,h=>by
  obtain⟨x,I,rfl,z,g⟩:=r.uncons;cases d with
  |str i=>
   simp only[Ng] at h;cases e:Ng ds with
   |none=>simp[e] at h
   |some J=>
    simp only[e,gi] at h;cases h;cases z;rw[Xa g e];rfl
  |_=>simp[Ng] at h
end
def Hx:dL "len"=X0 (.builtin "len"):=by decide +kernel
def jK:dL "max"=X0 (.builtin "max"):=by decide +kernel
def jL:dL "min"=X0 (.builtin "min"):=by decide +kernel
def Io:dL "sorted"=X0 (.builtin "sorted"):=by decide +kernel
def jM:dL "int"=X0 (.type "int"):=by decide +kernel
def Rn:dL "list"=X0 (.type "list"):=by decide +kernel
def xP:dL "set"=X0 (.type "set"):=by decide +kernel
def PJ(N:List Str)(sc d:kP)(z:List Str):Bool:=
 d.names.all (λy=>y.2 != .cell)&&d.kind==.function&&d.names.all (λy=>y.2 != .local ||d.names.lookup y.1==X0 .local)&&z.all (λt=>d.names.lookup t==X0 .local)
  && d.names.all (λy=>y.2 != .local ||z.contains y.1||!N.contains y.1)&&d.names.all (λy=>y.2 != .free ||sc.names.lookup y.1==X0 .cell ||sc.names.lookup y.1==X0 .free)&&d.names.all (λy=>y.1 != nV)&&decide z.Nodup&&z.all (λt=>t != nV)
def q9{d:List Str}(G:d.Nodup){t:Str}(O:t∈d)(I:t≠nV):Uq (Br d N++d) t:=by
 have g:∀i:Nat,(Br d N)[i]?≠X0 t:=λi e=>by
  unfold Br at e;rw[br] at e;cases q:N[i]? with
  |none=>rw[q] at e;cases e
  |some y=>
   rw[q] at e;have e:(if y∈d then nV else y)=t:=cS e;split at e
   .exact I e.symm
   .rename_i z;exact z (e▸O)
 have big:∀i:Nat,(Br d N++d)[i]?=X0 t->(Br d N).length<=i/\d[i-(Br d N).length]?=X0 t:=λi e=>by
  rcases yi i (Br d N).length with z | z
  .rw[m4 z] at e;exact MG e (g i)
  .rw[kS z] at e;exact⟨z,e⟩
 intro i j a b;obtain⟨L,J⟩:=big i a;obtain⟨b1,b2⟩:=big j b;have:=Lx G J b2;omega
def TV{ts:List Str}(d:X.N=N)(hs:X.env.scope=sc)(h:PJ N sc scope ts=E2):nj X scope ts:=by
 unfold PJ at h;simp only[eP,eD,OH,XG,bne_iff_ne,Bool.or_eq_true,ne_eq] at h;obtain⟨⟨⟨⟨⟨⟨⟨⟨Z,Y⟩,W⟩,U⟩,T⟩,S⟩,L⟩,J⟩,G⟩:=h;refine⟨Z,Y,λy g e=>?_,U,λy g e=>?_,λy g e=>?_,L,λt O=>q9 J O (G t O)⟩
 .rcases W y g with z | z
  .exact MG e z
  .exact z
 .rcases T y g with (z | z) | z
  .exact MG e z
  .exact .inl (by simpa using z)
  .right;rw[d];simpa using z
 .have I:∀x,X.env.kindOf x=sc.names.lookup x:=λx=>by rw[<-hs];rfl
  rw[I]
  rcases S y g with (z | z) | z
  .exact MG e z
  .exact .inl z
  .exact .inr z
abbrev V4 (N:List Str) (sc scope:kP) (t:Str):Bool:=PJ N sc scope [t]
def VG{t:Str}(I:X.N=N)(hs:X.env.scope=sc)(h:V4 N sc scope t=E2):L_ X scope t:=TV I hs h
def aG{K:aI}{base:Heap}{G:Gx}{k:Nat}{f:Addr}:kr P w K mg base CX0 k f fd ps (MU G λ_=>W1):=by
 have z:∀d H Q E,¬ MU G (λ_=>W1) d H Q E:=(by rintro d H Q E ⟨_,_,_,_,_,e,_⟩;exact nomatch e);exact⟨λd H Q E h=>MG h (z d H Q E),λA g s H I J d Q E _ _ _ _ h=>MG h (z d H Q E)⟩
def d9{G:Gx}{sl:Array (Option ac)}{g:Array ac}{xs:List Str}(h:G.K.lookup a=X0 ⟨.type "tuple",od,.seq g n,sl⟩)(hz:g.size<=sizeLine)(r:cx (xs.map V.str) g.toList):il G (λ_=>W1) (.ref a) (.tup (xs.map .str)):=by
 refine .tup (xs:=xs.map V.str) (.inr ⟨_,g,n,h,rfl,rfl,hz,r⟩) .(1) λi x d I J=>?_;rw[br] at I J;cases e:xs[i]? with
 |none=>rw[e] at I;cases I
 |some z=>rw[e] at I J;cases I;cases J;exact .str z
end PV
namespace PySem
end PySem
namespace PV
open PySem PySem.Spec L2
open PyProof.Rows hiding St
section
variable {G:Gx}{a b c:Expr}{fa:FE}{es:List Expr}{fs:FA}
def PN(X:Cx)(G:Gx)(e:Expr)(f:FE):Prop:=∀⦃A⦄,PE X e (tN G A f)
def KD(s:ab H H')(d:H p=W1):ab (cc A H) (cc (p::A) H'):=λb u h=>by
 unfold cc at h;split at h
 .cases h
 .rename_i g;rw[BK]
  .exact s b u h
  .intro z
   rcases bp.mp z with z | z
   .rw[z,d] at h;cases h
   .exact g z
def Oa(h:SR X G es fs):PN X G (.List es pos) (Mo fs):=λA=>CZ (gf (@h A))<|by
 rintro W H Q ⟨J,d,o,e,k⟩
 unfold Mo at e;cases z:fs J with
 |none=>simp[z] at e
 |some I=>
  rw[z] at e;have O:(if I.length<=sizeLine then X0 (D.lst I) else W1)=X0 d:=e;split at O
  .rename_i U;cases O;exact⟨J,I,o,z,λT Y L S=>⟨by rw[S.1];exact U,λp g=>k p _ (L.trans (Aj g _)) (L.free g) ⟨T,Ah,S.mono (KD (Aj g _) g)⟩⟩⟩
  .cases O
def MS.fill{d:D}(t:MS G A H q d)(s:ab H H')(J:H p=W1):MS G (p::A) H' q d:=by
 have z:=KD (A:=A) s J;cases d with
 |lst I=>obtain⟨g,q1,q2⟩:=t;exact⟨g,s _ _ q1,q2.mono z⟩
 |dk I=>obtain⟨g,q1,q2,q3⟩:=t;exact⟨g,s _ _ q1,q2,q3.mono z⟩
 |dt I=>obtain⟨g,q1,q2,q3⟩:=t;exact⟨g,s _ _ q1,q2,q3.mono z⟩
 |ob c L=>obtain⟨C,dx,g,q1,q2,q3⟩:=t;exact⟨C,dx,g,s _ _ q1,q2,q3.mono z⟩
 |_=>exact t.elim
def MS.live{d:D}(t:MS G A H q d):Nt (H q):=by
 cases d with
 |lst z=>obtain⟨g,q1,q2⟩:=t;rw[q1];exact Nt.lst
 |dk z=>obtain⟨g,q1,q2,q3⟩:=t;rw[q1];exact Nt.dK
 |dt z=>obtain⟨g,q1,q2,q3⟩:=t;rw[q1];exact Nt.dT
 |ob c L=>obtain⟨C,dx,g,q1,q2,q3⟩:=t;rw[q1];exact Nt.ins
 |_=>exact t.elim
def Bu{d:Type}{l:List d}{x z:d}(h:(l.set i x)[j]?=X0 z):(j=i/\z=x/\i<l.length)∨(j≠i/\l[j]?=X0 z):=by
 by_cases U:j=i
 .subst U
  by_cases Y:j<l.length
  .rw[mI Y] at h;exact .inl ⟨rfl,(cS h).symm,Y⟩
  .rw[qf (by simpa using kD.mp Y)] at h;cases h
 .rw[i6 (cf U)] at h;exact .inr ⟨U,h⟩
def NM.setW{ρ:Rho}{d:D}(w:NM G A0 He A σ H ρ)(s:ab H H')(hp:H p=W1)(t:MS G (p::A) H' p d)(i:Nat)(O0:i≠0):NM G A0 He (p::A) (σ.set i (X0 (.ref p))) H' (ρ.set i (.ow d)):=by
 have Z:=w.ok.fill (Hc:=H') s hp t.live;have W:He p=W1:=w.same.free hp;have N0:p∉A:=λz=>(w.ok.live p z).ne hp;refine⟨w.same.trans s,λa ha=>cp _ (w.sub a ha),λa ha=>?_,w.l0,⟨by rw[sj,sj];exact Z.len,Z.live,λj e h=>?_,λj e h=>?_,λj k e f q h1 L T S=>?_⟩,λj e q h1 L=>?_,λx e hx h0=>by rw[i6 O0] at h0 ⊢;exact w.lt x e hx h0⟩
 .rcases bp.mp ha with z | z
  .rw[z];exact .inr W
  .exact w.fr a z
 .rcases Bu h with ⟨_,O,_⟩ | ⟨U,O⟩
  .cases O
  .obtain⟨v,q1,q2⟩:=Z.fz j e O;exact⟨v,by rw[i6 (cf U)];exact q1,q2⟩
 .rcases Bu h with ⟨U,O,Y⟩ | ⟨U,O⟩
  .cases O;subst U;exact⟨p,by rw[mI (by rw[w.ok.len];exact Y)],df,t⟩
  .obtain⟨v,q1,q2,q3⟩:=Z.ow j e O;exact⟨v,by rw[i6 (cf U)];exact q1,q2,q3⟩
 .have no:∀(m:Nat) (g:D),ρ[m]?=X0 (.ow g)->σ[m]?=X0 (X0 (.ref q))->q≠p:=λm g a1 a2 z=>by
   obtain⟨v,b1,b2,_⟩:=w.ok.ow m g a1;rw[a2] at b1;cases b1;exact N0 (z▸b2)
  rcases Bu h1 with ⟨U,_,Y⟩ | ⟨U,O⟩
  .rcases Bu L with ⟨I,_,_⟩ | ⟨I,J⟩
   .rw[U,I]
   .exfalso;subst U;rw[mI (by rw[w.ok.len];exact Y)] at T;cases T;rw[i6 (cf I)] at S;exact no k f J S rfl
  .rcases Bu L with ⟨I,_,Y⟩ | ⟨I,J⟩
   .exfalso;subst I;rw[mI (by rw[w.ok.len];exact Y)] at S;cases S;rw[i6 (cf U)] at T;exact no j e O T rfl
   .rw[i6 (cf U)] at T;rw[i6 (cf I)] at S;exact w.ok.inj j k e f q O J T S
 .rcases Bu h1 with ⟨U,_,Y⟩ | ⟨U,O⟩
  .subst U;rw[mI (by rw[w.ok.len];exact Y)] at L;cases L;exact λz=>w.l0 p z W
  .rw[i6 (cf U)] at L;exact w.ow0 j e q O L
def q_{ρ:Rho}{o:Pw}{D:QY}(g:i≠0)(w:NM G A0 He A σ H ρ)(e:setW i fa ρ=X0 o)(k:TF G A0 He D o):TZ (tN G A fa) (Ff i) D σ H:=by
 unfold setW at e;cases z:fa ρ with
 |none=>simp[z] at e
 |some d=>
  simp only[z,gi] at e;cases e;exact⟨ρ,d,w.ok,z,λp L I J t=>k _ _ ⟨p::A,w.setW I J t i g⟩⟩
def jN{p:Pos}(h:∀te,PE X a te->PS X (.Assign [.Name x p] a pos) (TZ te (Ff i)))(ha:PN X G a fa)(g:i≠0:=by decide):Sl X G (.Assign [.Name x p] a pos) (setW i fa):=λO L z s d H D I ⟨J,o,⟨A,w⟩,e,k⟩=>
 h _ (@ha A) z s d H D I (q_ g w e k)
def NM.wr{ρ:Rho}{J d:D}{o:HO}(w:NM G A0 He A σ H ρ)(T:ρ[i]?=X0 (.ow J))(hs:σ[i]?=X0 (X0 (.ref p)))(t:MS G A (fk H p o) p d):NM G A0 He A σ (fk H p o) (ρ.set i (.ow d)):=by
 obtain⟨q,h1,hA,_⟩:=w.ok.ow i J T;rw[hs] at h1;cases h1;have N0:He p=W1:=by
  rcases w.fr p hA with z | z
  .exact MG z (w.ow0 i J p T hs)
  .exact z
 have W:cc A (fk H p o)=cc A H:=Bh hA;refine⟨λb u h=>by rw[Al (Dd h N0)];exact w.same b u h,w.sub,w.fr,w.l0,⟨by rw[sj];exact w.ok.len,λb hb=>?_,λj e h=>?_,λj e h=>?_,λj k e f q g1 g2 g3 g4=>?_⟩,λj e q g1 g2=>?_,λx e hx h0=>?_⟩
 .by_cases z:b=p
  .rw[z];exact t.live
  .rw[Al z];exact w.ok.live b hb
 .rcases Bu h with ⟨_,O,_⟩ | ⟨U,O⟩
  .cases O
  .rw[W];exact w.ok.fz j e O
 .rcases Bu h with ⟨U,O,hl⟩ | ⟨U,O⟩
  .cases O;subst U;exact⟨p,hs,hA,t⟩
  .obtain⟨q,q1,q2,q3⟩:=w.ok.ow j e O;have Z:q≠p:=λz=>U (w.ok.inj j i e J p O T (z▸q1) hs);refine⟨q,q1,q2,?_⟩;cases e with
   |lst ds=>obtain⟨I,S,L⟩:=q3;exact⟨I,by rw[Al Z];exact S,by rw[W];exact L⟩
   |dk ds=>obtain⟨I,S,L,Y⟩:=q3;exact⟨I,by rw[Al Z];exact S,L,by rw[W];exact Y⟩
   |dt ds=>obtain⟨I,S,L,Y⟩:=q3;exact⟨I,by rw[Al Z];exact S,L,by rw[W];exact Y⟩
   |ob c gs=>obtain⟨C,dx,I,S,L,Y⟩:=q3;exact⟨C,dx,I,by rw[Al Z];exact S,L,by rw[W];exact Y⟩
   |_=>exact q3.elim
 .have up:∀(m:Nat) (g:D),(ρ.set i (.ow d))[m]?=X0 (.ow g)->∃g',ρ[m]?=X0 (.ow g'):=λm g z=>by
   rcases Bu z with ⟨hm,_,_⟩ | ⟨_,O⟩
   .exact⟨J,by rw[hm];exact T⟩
   .exact⟨g,O⟩
  obtain⟨e',z1⟩:=up j e g1;obtain⟨f',z2⟩:=up k f g2;exact w.ok.inj j k e' f' q z1 z2 g3 g4
 .rcases Bu g1 with ⟨U,_,_⟩ | ⟨U,O⟩
  .subst U;exact w.ow0 j J q T g2
  .exact w.ow0 j e q O g2
 .rcases Bu h0 with ⟨U,_,_⟩ | ⟨_,O⟩
  .exact w.lt x J hx (by rw[U];exact T)
  .exact w.lt x e hx O
def Ip{ρ:Rho}{d:D}(h:Pd ρ i=X0 d):ρ[i]?=X0 (.ow d):=by
 unfold Pd at h;split at h
 .rename_i e;cases h;exact e
 .cases h
def d_{g:D->D->Option D}{ρ:Rho}{o:Pw}(h:Sa g i fa ρ=X0 o):∃v x y,fa ρ=X0 v/\ρ[i]?=X0 (.ow x)/\g x v=X0 y/\o=.nx (ρ.set i (.ow y)):=by
 unfold Sa at h;cases z:fa ρ with
 |none=>simp[z] at h
 |some v=>
  cases d:Pd ρ i with
  |none=>simp[z,d] at h
  |some x=>
   cases I:g x v with
   |none=>simp[z,d,I] at h
   |some y=>
    simp[z,d,I] at h;exact⟨v,x,y,rfl,Ip d,I,h.symm⟩
def Jj(hv:PE X .(13) (OL i))(ha:PF X G a fa)(z:ff .(13) "append" X.env (eval .(13) X.env)=eval .(13) X.env:=by rfl)(J:((dn pos (ay [a] X.env)).all (λx=>!x.1)&&(jS pos (i9 [] X.env)).all (λx=>x.1.isSome)&&decide ([a].length+([]:List ib).length+(if ([]:List ib).isEmpty then 0 else 1)<30))=E2:=by rfl)(g:(apos.endLine==pos.line)=E2:=by rfl)(hs:ay [a] X.env=[(E3,eval a X.env)]:=by rfl)(S:eR (.Call (.Attribute .(13) "append" apos) [a] [] pos) W1 p2.line X.env=pure E3:=by rfl):
  Sl X G (.Expr (.Call (.Attribute .(13) "append" apos) [a] [] pos) p2) (Sa NX i fa):=by
 rintro A0 He π s Y H D I ⟨Z,o,⟨A,w⟩,e,k⟩
 obtain⟨v,x0,y,e1,T,d,rfl⟩:=d_ e;refine Rh (Z6 yk Ee EA M6 hv (Bt (@ha A) De hs) z J g hs rfl) S π s Y H D I ?_;unfold NX at d;split at d
 .rename_i ds;split at d
  .rename_i hz;cases d;obtain⟨p,W,hA,L,U,r⟩:=w.ok.ow i _ T;refine⟨_,W,.inl ⟨rfl,L,.of U⟩,Z,v,w.ok,e1,λu H1 O r1=>⟨p,L,u,rfl,rfl,O _ _ U,by rw[r.1];exact hz,?_⟩⟩;have w1:=w.mono O;refine k _ _ ⟨A,w1.wr T W ⟨L++[u],Ah,?_⟩⟩;rw[Bh hA];exact (r.mono (Az O)).append (.cons r1 .nil)
  .cases d
 .cases d
theorem Inv.frzK{kvs:List (Key×V)}(I:Inv X π σ H s)(e:H p=X0 (.dK kvs)):∃o,Inv X π σ (fk H p (.frz o (.dK kvs))) s:=by
 obtain⟨z,L,J,d,Z⟩:=ul I.hok e;obtain⟨o,S,T,g,O⟩:=id Z;exact⟨o,Ri (h':=s.heap) (t':=s.toks) I (by rw[e];exact pE) ⟨rfl,λ_ _=>rfl⟩ ⟨o,g⟩ ⟨g,z,L,J,d,Z⟩⟩
theorem Inv.frzT(I:Inv X π σ H s)(e:H p=X0 (.dT kvs)):∃o,Inv X π σ (fk H p (.frz o (.dT kvs))) s:=by
 obtain⟨z,O,L,d,o,Y,Z,g,W,U,T,S⟩:=I.hok p _ e;refine⟨o,Ri (h':=s.heap) (t':=s.toks) I (by rw[e];exact pE) ⟨rfl,λ_ _=>rfl⟩ ⟨o,g⟩ ⟨g,z,O,L,KT.keeps d λc ys J=>?_,o,Y,Z,g,W,U,T,S⟩⟩;rw[Al (uc J e (λz=>nomatch z))];exact J
def NM.frzC{ρ:Rho}{d:D}(w:NM G A0 He A σ H ρ)(hi:ρ[i]?=X0 (.ow d))(h1:σ[i]?=X0 (X0 (.ref p)))(hA:p∈A)(L:∀b,b≠p->H' b=H b)(rp:ab (cc A H) (cc (A.filter λb=>decide (b≠p)) H')->cc (A.filter λb=>decide (b≠p)) H' p=H' p->il G (cc (A.filter λb=>decide (b≠p)) H') (.ref p) d):UZ G A0 He σ H' (ρ.set i (.fz d)):=by
 have hn:=w.ow0 i d p hi h1;have g:∀b,b∈A.filter (λb=>decide (b≠p))↔b∈A/\b≠p:=λb=>by simp[fw]
 have W:ab (cc A H) (cc (A.filter λb=>decide (b≠p)) H'):=λb o h=>by
  unfold cc at h ⊢;split at h
  .cases h
  .rename_i I;have S:b≠p:=λz=>I (z▸hA);rw[UF (λz=>I ((g b).mp z).1),L b S];exact h
 have rp:=rp W (BK λz=>((g p).mp z).2 rfl);have N0:He p=W1:=(w.fr p hA).resolve_left hn;refine⟨A.filter λb=>decide (b≠p),λb o h=>?_,λb I=>(g b).mpr ⟨w.sub b I,λz=>hn (z▸I)⟩,λb I=>w.fr b ((g b).mp I).1,w.l0,⟨by rw[sj];exact w.ok.len,λb I=>?_,λj e h=>?_,λj e h=>?_,λj k e f q g1 g2 g3 g4=>?_⟩,λj e q g1 g2=>?_,λx e hx h0=>?_⟩
 .have S:b≠p:=λz=>by rw[z,N0] at h;cases h
  rw[L b S];exact w.same b o h
 .obtain⟨Z,z2⟩:=(g b).mp I;rw[L b z2];exact w.ok.live b Z
 .rcases Bu h with ⟨hj,O,_⟩ | ⟨hj,O⟩
  .cases O;subst hj;exact⟨_,h1,rp⟩
  .obtain⟨v,q1,q2⟩:=w.ok.fz j e O;exact⟨v,q1,q2.mono W⟩
 .rcases Bu h with ⟨_,O,_⟩ | ⟨hj,O⟩
  .cases O
  .obtain⟨q,q1,q2,q3⟩:=w.ok.ow j e O;have Y:q≠p:=λz=>hj (w.ok.inj j i e d p O hi (z▸q1) h1);refine⟨q,q1,(g q).mpr ⟨q2,Y⟩,?_⟩;cases e with
   |lst ds=>obtain⟨J,U,T⟩:=q3;exact⟨J,by rw[L q Y];exact U,T.mono W⟩
   |dk ds=>obtain⟨J,U,T,a3⟩:=q3;exact⟨J,by rw[L q Y];exact U,T,a3.mono W⟩
   |dt ds=>obtain⟨J,U,T,a3⟩:=q3;exact⟨J,by rw[L q Y];exact U,T,a3.mono W⟩
   |ob c gs=>obtain⟨C,dx,J,U,T,a3⟩:=q3;exact⟨C,dx,J,by rw[L q Y];exact U,T,a3.mono W⟩
   |_=>exact q3.elim
 .rcases Bu g1 with ⟨_,O,_⟩ | ⟨_,Z⟩
  .cases O
  .rcases Bu g2 with ⟨_,O,_⟩ | ⟨_,z2⟩
   .cases O
   .exact w.ok.inj j k e f q Z z2 g3 g4
 .rcases Bu g1 with ⟨_,O,_⟩ | ⟨_,Z⟩
  .cases O
  .exact w.ow0 j e q Z g2
 .rcases Bu h0 with ⟨_,O,_⟩ | ⟨_,Z⟩
  .cases O
  .exact w.lt x e hx Z
def UZ.frz{ρ:Rho}(I:Inv X π σ H s)(w:UZ G A0 He σ H ρ)(i:Nat):∃H',Inv X π σ H' s/\UZ G A0 He σ H' (frz1 ρ i):=by
 unfold frz1;split
 .rename_i d O;obtain⟨A,w⟩:=w;obtain⟨p,S,W,t⟩:=w.ok.ow i d O;cases d with
  |lst ds=>
   obtain⟨T,L,J⟩:=t;exact⟨H,I,w.frzC O S W (λ_ _=>rfl) λg z=>.lst (.of (by rw[z];exact L)) (J.mono g).1 (J.mono g).2⟩
  |dk ds=>
   obtain⟨T,L,J,Y⟩:=t;obtain⟨o,Z⟩:=Inv.frzK I L;exact⟨_,Z,w.frzC O S W (λb U=>Al U) λg z=>.dk (by rw[z];exact Ah) J (Y.mono g).2⟩
  |dt ds=>
   obtain⟨T,L,J,Y⟩:=t;obtain⟨o,Z⟩:=Inv.frzT I L;exact⟨_,Z,w.frzC O S W (λb U=>Al U) λg z=>.dt (by rw[z];exact Ah) J (Y.mono g).2⟩
  |ob c gs=>
   obtain⟨C,dx,T,L,J,Y⟩:=t;exact⟨H,I,w.frzC O S W (λ_ _=>rfl) λg z=>.ob J.1 (by rw[z];exact L) J.2 (Y.mono g).2⟩
  |_=>exact t.elim
 .exact⟨H,I,w⟩
theorem aH{d:zP}{s:ah}{A0:List Addr}{z:Hp}{g:St}:∀(J:List Nat) {H:Hp}{ρ:Rho},Inv X d g H s->UZ G A0 z g H ρ->∃H',Inv X d g H' s/\UZ G A0 z g H' (J.foldl frz1 ρ)
 |[],H,_,I,w=>⟨H,I,w⟩
 |i::r,_,_,I,w=>let ⟨_,I1,w1⟩:=w.frz I i;aH r I1 w1
theorem Hy{g:FS}(d:List Nat)(h:Sl X G st g):Sl X G st (XI d g):=λS O L s z H D I ⟨J,o,ok,e,k⟩=>
 let ⟨H',I',ok'⟩:=aH d I ok
 @h S O L s z H' D I' ⟨d.foldl frz1 J,o,ok',e,k⟩
end
def wh{d:Type}[DecidableEq d](k:d):List (d×D)->Option D
 |[]=>W1
 |p::r=>if p.1=k then X0 p.2 else wh k r
def VW{d:Type}[DecidableEq d](k:d)(v:D):List (d×D)->List (d×D)
 |[]=>[]
 |p::r=>(p.1,if p.1=k then v else p.2)::VW k v r
def Qb{g:Type}[DecidableEq g](k:g)(v:D)(d:List (g×D)):List (g×D):=if (wh k d).isSome then VW k v d else d++[(k,v)]
def Pl:D->Option Key
 |.int i=>X0 (.inl i)
 |.str x=>X0 (.inr x)
 |_=>W1
def MJ:List D->Option (List Key)
 |[]=>X0 []
 |d::r=>(Pl d).bind λk=>(MJ r).map (k::·)
section
variable {κ:Type} [DecidableEq κ] {G:Gx}
theorem M9{k:κ}:∀{g:List (κ×D)}{kvs:List (κ×V)},kvs.map (·.1)=g.map (·.1)->be G H (kvs.map (·.2)) (g.map (·.2))->(∀d,wh k g=X0 d->∃v,OS kvs k=X0 v/\il G H v d)/\(OS kvs k).isSome=(wh k g).isSome
 |[],kvs,e,r=>by
  cases kvs with
  |nil=>exact⟨λd h=>by simp[wh] at h,rfl⟩
  |cons p q=>simp at e
 |p::g,kvs,e,r=>by
  cases kvs with
  |nil=>simp at e
  |cons q kvs=>
   rw[bb,bb] at e;injection e with L e2
   rw[bb,bb] at r;obtain⟨x,Y,W,S,O⟩:=r.uncons;injection W with U e5
   subst U e5;have T:=M9 (k:=k) e2 O
   by_cases h:p.1=k
   .have J:q.1=k:=L.trans h;rw[O5 J];refine⟨λd I=>?_,?_⟩
    .simp only[wh,SF h] at I;cases I;exact⟨_,rfl,S⟩
    .simp[wh,SF h]
   .have J:¬ q.1=k:=λz=>h (L.symm.trans z);rw[O6 J];simp only[wh,UF h];exact T
theorem aJ{k:κ}{v:V}{d:D}(S:il G H v d):∀{g:List (κ×D)}{kvs:List (κ×V)},kvs.map (·.1)=g.map (·.1)->be G H (kvs.map (·.2)) (g.map (·.2)) ->
  (kvs.map λI=>if I.1=k then (I.1,v) else I).map (·.1)=(VW k d g).map (·.1)/\be G H ((kvs.map λI=>if I.1=k then (I.1,v) else I).map (·.2)) ((VW k d g).map (·.2))
 |[],kvs,e,r=>by
  cases kvs with
  |nil=>exact⟨rfl,be.nil⟩
  |cons p q=>simp at e
 |p::g,kvs,e,r=>by
  cases kvs with
  |nil=>simp at e
  |cons q kvs=>
   rw[bb,bb] at e;injection e with O e2
   rw[bb,bb] at r;obtain⟨x,Z,Y,U,T⟩:=r.uncons;injection Y with W e5
   subst W e5;have L:=aJ S (k:=k) e2 T
   by_cases h:p.1=k
   .have J:q.1=k:=O.trans h;refine⟨?_,?_⟩
    .simp only[bb,SF J,VW];rw[L.1,O]
    .simp only[bb,SF J,VW,SF h];exact .cons S L.2
   .have J:¬ q.1=k:=λz=>h (O.symm.trans z);refine⟨?_,?_⟩
    .simp only[bb,UF J,VW];rw[L.1,O]
    .simp only[bb,UF J,VW,UF h];exact .cons U L.2
def Ro{k:κ}{d:D}(z:il G H v d){g:List (κ×D)}{kvs:List (κ×V)}(e:kvs.map (·.1)=g.map (·.1))(r:be G H (kvs.map (·.2)) (g.map (·.2))):
  (OT kvs k v).map (·.1)=(Qb k d g).map (·.1)/\be G H ((OT kvs k v).map (·.2)) ((Qb k d g).map (·.2)):=by
 unfold OT Qb;rw[Sv,(M9 (k:=k) e r).2];split
 .exact aJ z e r
 .rw[dS,dS,dS,dS,e];exact⟨rfl,r.append (.cons z .nil)⟩
end
def Xb{G:Gx}{d:D}{k:Key}(r:mr G A H v d)(h:Pl d=X0 k):v=kV k:=by
 cases d with
 |int i=>cases h;exact r.int
 |str x=>cases h;exact r.str
 |_=>cases h
def KH{G:Gx}{d:D}{k:Key}(r:il G H v d)(h:Pl d=X0 k):v=kV k:=by
 cases d with
 |int i=>cases h;cases r;rfl
 |str x=>cases h;cases r;rfl
 |_=>cases h
theorem Qj{G:Gx}{H:Hp}:∀{ds:List D}{vs:List V}{ks:List Key},be G H vs ds->MJ ds=X0 ks->vs=ks.map kV
 |[],vs,ks,r,h=>by cases h;exact r.nil_inv
 |d::ds,vs,ks,r,h=>by
  obtain⟨x,O,rfl,I,L⟩:=r.uncons;cases g:Pl d with
  |none=>simp[MJ,g] at h
  |some k=>
   cases z:MJ ds with
   |none=>simp[MJ,g,z] at h
   |some J=>
    simp[MJ,g,z] at h;subst h;rw[KH I g,Qj L z];rfl
section
variable {G:Gx}{a b c:Expr}{fa fb:FE}
def Lg:PN X G (.Dict [] [] pos) (kF (.dk [])):=λA=>CZ iK<|by
 rintro z H Q ⟨I,d,o,e,k⟩
 cases e;exact λp g=>k p _ (Aj g _) g ⟨[],Ah,rfl,be.nil⟩
def AAH:PN X G (.Dict [] [] pos) (kF (.dt [])):=λA=>CZ iM<|by
 rintro z H Q ⟨I,d,o,e,k⟩
 cases e;exact λp g=>k p _ (Aj g _) g ⟨[],Ah,rfl,be.nil⟩
theorem PN.pf(h:PN X G a fa):PF X G a fa:=λA π s σ H Q I ⟨ρ,d,o,e,k⟩=>
 mo (@h A π s σ H (λv H'=>∃p,v=.ref p/\ab H H'/\H p=W1/\MS G (p::A) H' p d) I ⟨ρ,d,o,e,λp H' U Z t=>⟨p,rfl,U,Z,t⟩⟩)<|by
  rintro u s1 ⟨v,g,I1,W,p,ev,U,Z,t⟩
  subst ev;have J:p∉A:=λz=>(o.live p z).ne Z;have up:∀ob,ab (cc (p::A) g) (cc A (fk g p ob)):=λob=>by
   rw[<-Bh (A:=p::A) (H:=g) (o:=ob) (df ..)];exact Ed λb L=>cp _ L
  have T:∀ob,ab H (fk g p ob):=λob b u L=>by
   rw[Al (λz:b=p=>by rw[z,Z] at L;cases L)];exact U b u L
  cases d with
  |lst ds=>
   obtain⟨xs,S,O⟩:=t;have q:=O.mono (Ed (A:=A) (B:=p::A) (H:=g) λb L=>cp _ L);exact⟨_,g,I1,W,k _ g U (.lst (.of (by rw[BK J];exact S)) q.1 q.2)⟩
  |dk ds=>
   obtain⟨xs,S,O,Y⟩:=t;obtain⟨ob,I2⟩:=Inv.frzK I1 S;exact⟨_,_,I2,W,k _ _ (T _) (.dk (by rw[BK J];exact Ah) O (Y.mono (up _)).2)⟩
  |dt ds=>
   obtain⟨xs,S,O,Y⟩:=t;obtain⟨ob,I2⟩:=Inv.frzT I1 S;exact⟨_,_,I2,W,k _ _ (T _) (.dt (by rw[BK J];exact Ah) O (Y.mono (up _)).2)⟩
  |ob c gs=>
   obtain⟨C,dx,xs,S,O,Y⟩:=t;have q:=Y.mono (Ed (A:=A) (B:=p::A) (H:=g) λb L=>cp _ L);exact⟨_,g,I1,W,k _ g U (.ob O.1 (by rw[BK J];exact S) O.2 q.2)⟩
  |_=>exact t.elim
def uw:PF X G (.Dict [] [] pos) (kF (.dk [])):=PN.pf Lg
def rDIn(d:Bool):R2:=λx y H Q=>∃a kvs k,y=.ref a/\Rd H a (.dK kvs)/\x=kV k/\Q (.bl (if d then !(OS kvs k).isSome else (OS kvs k).isSome)) H
def ZC(S:X.A.units+1<bo):Na X (d4 .In) (rDIn E3):=by
 intro L s g H x y v u Q I rx z h;obtain⟨a,d,k,rfl,e,rfl,q⟩:=h;cases z;exact d_in S I (.inl ⟨d,k,e,rfl,rfl⟩) rx λO J=>⟨.bl _,H,J,rfl,q⟩
def eE(S:X.A.units+1<bo):Na X (d4 .NotIn) (rDIn E2):=by
 intro L s g H x y v u Q I rx z h;obtain⟨a,d,k,rfl,e,rfl,q⟩:=h;cases z;exact qT S I (.inl ⟨d,k,e,rfl,rfl⟩) rx λO J=>⟨.bl _,H,J,rfl,q⟩
def inE(d:Bool)(x y:D):Option D:=match y with
 |.dk g=>(Pl x).map λk=>.bl (if d then !(wh k g).isSome else (wh k g).isSome)
 |_=>inD d x y
def rA(g:Bool):Eg G (λx y H Q=>rInA G.K g x y H Q∨rDIn g x y H Q) (inE g):=by
 intro A H x y dx U d Q J rx I h k;unfold inE at h;split at h
 .rename_i L;cases e:Pl dx with
  |none=>simp[e] at h
  |some q=>
   obtain⟨p,z,rfl,T,O,r⟩:=I.dk;have S:=(M9 (k:=q) O r).2;rw[e] at h;cases h;refine .inr ⟨p,z,q,rfl,T,Xb rx e,?_⟩;rw[S];exact k _ H (ab.refl H) (.bl _)
 .exact .inl (xM g A H x y dx U d Q J rx I h k)
def rDIx:R2:=λx y H Q=>∃a kvs k v,x=.ref a/\Rd H a (.dK kvs)/\y=kV k/\OS kvs k=X0 v/\Q v H
theorem AAL(Z:X.A.units+1<bo):IxR X rDIx:=by
 intro d J W s U H x y v u Q I rx Y h hs;obtain⟨a,S,k,z,rfl,e,rfl,l,q⟩:=h;cases rx;have g:DGet H a (kV k) (X0 z):=.inl ⟨S,k,e,rfl,l.symm⟩;have T:=W8 I g;unfold AJ;refine ae ?_;rw[IJ T.not_modules];refine ae (nv T EB.lookup ?_);have rz:ag .(3) X.A (xy J E3 (.ref a) u) (λr L=>ag .(3) X.A (letTemporaryGo d (.ref a) r >>= λ_=>pure r) (EP X W U Q) X.xe L) X.xe s:=by
  rw[hs];exact wpAny_operating (dY Z I g Y λw' s3 I3 O=>ae (IL (ar ⟨z,H,I3,O,q⟩)))
 first
  |exact ar (ae rz)
  |exact ae (ar (ae rz))
  |exact ae rz
def dq(x y:D):Option D:=match x with
 |.dk d=>(Pl y).bind λk=>wh k d
 |_=>ixD x y
def rB:Eg G (λx y H Q=>rIx G.K x y H Q∨rDIx x y H Q) dq:=by
 intro A H x y dx I d Q L rx z h k;unfold dq at h;split at h
 .rename_i O;cases e:Pl I with
  |none=>simp[e] at h
  |some q=>
   obtain⟨p,g,rfl,U,T,r⟩:=rx.dk;simp[e] at h;obtain⟨v,S,J⟩:=(M9 (k:=q) T r).1 d h;exact .inr ⟨p,g,q,v,rfl,U,Xb z e,S,k v H (ab.refl H) J⟩
 .exact .inl (ik A H x y dx I d Q L rx z h k)
theorem xQ(S:X.A.units+1<bo)(W:G.K=X.K)(ha:PU X G a fa)(hb:PU X G b fb)(hs:O2 b):PF X G (.Subscript a b pos) (bF dq fa fb):=
 λA=>CZ (uh (r:=λx y H Q=>rIx X.K x y H Q∨rDIx x y H Q) (h_.or (AAL S)) (@ha A) (@hb A) hs) λ_ _ _ h=>N7 (by rw[<-W];exact rB) h
def DG(x y v:D):Option D:=match x with
 |.dk d=>(Pl y).bind λk=>if d.length<sizeLine then X0 (.dk (Qb k v d)) else W1
 |_=>W1
def putF(i:Nat)(g d:FE):FS:=λρ=>(d ρ).bind λv=>(g ρ).bind λy=>(Pd ρ i).bind λx=>(DG x y v).map λz=>.nx (ρ.set i (.ow z))
def eF{ρ:Rho}{o:Pw}(h:putF i fa fb ρ=X0 o):∃v y x z,fb ρ=X0 v/\fa ρ=X0 y/\ρ[i]?=X0 (.ow x)/\DG x y v=X0 z/\o=.nx (ρ.set i (.ow z)):=by
 unfold putF at h;cases d:fb ρ with
 |none=>simp[d] at h
 |some v=>
  cases I:fa ρ with
  |none=>simp[d,I] at h
  |some y=>
   cases g:Pd ρ i with
   |none=>simp[d,I,g] at h
   |some x=>
    cases U:DG x y v with
    |none=>simp[d,I,g,U] at h
    |some z=>
     simp[d,I,g,U] at h;exact⟨v,y,x,z,rfl,rfl,Ip g,U,h.symm⟩
def Kq(hu:X.A.units+1<bo)(hv:PE X .(13) (OL i))(ha:PF X G a fa)(hb:PF X G b fb)(hs:eR b (X0 (.Subscript .(13) a spos)) pos.line X.env=pure E3:=by rfl):Sl X G (.Assign [.Subscript .(13) a spos] b pos) (putF i fa fb):=by
 rintro A0 He π s Z H D I ⟨L,o,⟨A,w⟩,e,k⟩
 obtain⟨v,y,x0,z,e1,e2,W,d,rfl⟩:=eF e;refine Rj hu hv (@ha A) (@hb A) hs π s Z H D I ?_;unfold DG at d;split at d
 .rename_i N0;cases U:Pl y with
  |none=>simp[U] at d
  |some q=>
   simp only[U,eB] at d;split at d
   .rename_i hz;cases d;obtain⟨p,Y,hA,J,h2,T,r⟩:=w.ok.ow i _ W;refine⟨L,v,w.ok,e1,λu H1 g r1=>⟨_,Y,L,y,(w.mono g).ok,e2,λyv H2 S r2=>?_⟩⟩;have ek:=KH r2 U;subst ek;have hl:J.length<sizeLine:=by
     have:=SG cy T;rw[av,av] at this;omega
    refine⟨p,_,rfl,SS.k (S _ _ (g _ _ h2)) hl,?_⟩;have w2:=(w.mono g).mono S;have O:=Ro (k:=q) (r1.mono (Az S)) T (r.mono (Az (g.trans S)));refine k _ _ ⟨A,w2.wr W Y ⟨_,Ah,O.1,?_⟩⟩;rw[Bh hA];exact O.2
   .cases d
 .cases d
end
theorem Ie{G z:Type}{R:G->z->Prop}:∀{xs:List G}{ys:List z}{i:Nat}{x:G}{y:z},mE R xs ys->xs[i]?=X0 x->ys[i]?=X0 y->R x y
 |_,_,i,x,y,.nil,h,_=>by simp at h
 |_,_,0,x,y,.cons r _,g,d=>by
  simp at g d;rw[<-g,<-d];exact r
 |_,_,i+1,x,y,.cons _ t,g,d=>Ie t (by simpa using g) (by simpa using d)
def Itd(a:Addr)(o:Obj)(kvs:List (Key×V)):It:=
 ⟨λi H=>H a=X0 (.frz o (.dK kvs))/\i<kvs.length,λi H x d=>d=H/\∃p,kvs[i]?=X0 p/\x=kV p.1,λi H=>H a=X0 (.frz o (.dK kvs))/\kvs.length<=i⟩
def relK{k:Key}(h:(Av P w).is k u=E2):dm (kV k) u:=by
 rcases Bq h with ⟨i,t,rfl,rfl⟩ | ⟨x,t,rfl,rfl⟩
 .exact⟨t,rfl⟩
 .exact⟨t,rfl⟩
def Qk{kvs:List (Key×V)}{es:Array oe}(I:Inv X π σ H s)(e:H a=X0 (.frz o (.dK kvs)))(J:o.data=.dict es ep):
  (a==fE)=E3/\∃vs,KV kvs vs/\s.heap.DictAt (Av X.prog X.w) a vs ep:=by
 obtain⟨G,z,O,vs,g,Y,U,W,d,T,L,S⟩:=(show BV X.prog X.w H s.heap a (.frz o (.dK kvs)) from I.hok a _ e);rw[G] at d;cases d;rw[J] at L;cases L;exact⟨O,vs,g,o,es,G,T,J,S⟩
theorem eG{K:aI}(a it:Addr){o:Obj}{es:Array oe}{ep:Nat}(hd:o.data=.dict es ep)(kvs:List (Key×V)):To P w K tg (Itd a o kvs) [it] it (λi h=>h.IsKeyIter it a i kvs.length ep) where
 mem:=by simp
 obj:=λi h U b L=>by
  have e:b=it:=by simpa using L
  subst e;obtain⟨o,e,c,d⟩:=U;exact⟨o,e,λv z=>by rw[d] at z;cases z⟩
 keep:=λi h W U k=>let ⟨o,e,c,d⟩:=U;⟨o,k it .(1) o e,c,d⟩
 item:=by
  intro X hP hw hK hc i π s σ H E I T U hg;subst hP hw hK;obtain⟨he,S⟩:=hg;obtain⟨hm,g,G,dd⟩:=Qk I he hd;have Y:kvs.length=g.length:=G.length;obtain⟨f0,f1,f2,f3,f4,f5⟩:=T it .(1);have hv:g[i]?=X0 (g[i]'(by omega)):=by simp[show i<g.length by omega]
  have hk:kvs[i]?=X0 (kvs[i]'S):=by simp[S]
  have N0:(kvs[i]'S).1=(g[i]'(by omega)).1:=(Ie G hk hv).1;refine wpAny_pyNext_dict_item (knd:=Av X.prog X.w) (kvs:=g) (k:=(g[i]'(by omega)).1) (v:=(g[i]'(by omega)).2) (by rw[<-Y];exact U) dd hv λZ W O J sb=>?_;rw[<-Y] at J;have I1:Inv X π σ H { s with heap:=W }:=I.turned (t':=s.toks) (λb o L e=>(sb.2 b L).trans e) f0 f1 f3 f4 f5;obtain⟨o1,e1,c1,d1⟩:=id J;exact⟨Z,rfl,U4 (s:={ s with heap:=W }) e1 c1 d1 .(2) ⟨kV (kvs[i]'S).1,H,I1,by rw[N0];exact relK O,⟨rfl,_,hk,rfl⟩,J,λb L=>(T b L).1⟩⟩
 done:=by
  intro X hP hw hK hc i π s σ H E I T U hg;subst hP hw hK;obtain⟨he,S⟩:=hg;obtain⟨hm,g,G,dd⟩:=Qk I he hd;have Y:kvs.length=g.length:=G.length;obtain⟨f0,f1,f2,f3,f4,f5⟩:=T it .(1);exact wpAny_pyNext_dict_end (I.ok.hd hc) (by rw[<-Y];exact U) dd (by rw[qf];omega) λW eb=>⟨rfl,I.turned (t':=s.toks) (λb o L e=>eb b o L e) f0 f1 f3 f4 f5⟩
 self:=λ_ _ _ _ _ U h=>JA U h
section
variable {G:Gx}{a b:Expr}{fa:FE}{tl:TE}
def AAP(d:TE):TI:=λg H R=>d g H λx z=>∃a o kvs,x=.ref a/\z a=X0 (.frz o (.dK kvs))/\R (Itd a o kvs) z
theorem rC{l:Expr}(hl:PE X l tl):PI X tg l (AAP tl):=by
 intro Y s W H R I h;refine mo (hl Y s W H _ I h) λv z q0=>?_;obtain⟨x,S,g,r1,q1⟩:=q0;obtain⟨a,o,d,e,T,q⟩:=q1;subst e;cases r1;obtain⟨_,_,_,_,_,o',es,ep,J,h1,U,_⟩:=(show BV X.prog X.w S z.heap a (.frz o (.dK d)) from g.hok a _ T);obtain⟨ho,_⟩:=(show BV X.prog X.w S z.heap a (.frz o (.dK d)) from g.hok a _ T);rw[ho] at J;cases J;obtain⟨hm,Z,L,dd⟩:=Qk g T U;have O:d.length=Z.length:=L.length;refine wpAny_pyIter_dict hm dd ?_;refine⟨z.heap.objs.size,[z.heap.objs.size],_,_,S,rfl,g.kept (t':=z.toks) λb o e=>ba _ e,eG a _ U d,⟨_,bS _ rfl,rfl,by rw[O];rfl⟩,λb hb=>?_,q⟩;have e:b=z.heap.objs.size:=by simpa using hb
 subst e;exact g.fpOk (aw _) (g.hok.fresh (aw _))
def Sn:Key->D
 |.inl i=>.int i
 |.inr x=>.str x
def Rp(k:Key):il G H (kV k) (Sn k):=by
 cases k with
 |inl i=>exact .int i
 |inr x=>exact .str x
def seqE(f:FE):FI:=λρ=>match f ρ with | some (.lst ds)=>X0 ds | some (.tup ds)=>X0 ds | some (.dk d)=>X0 (d.map λp=>Sn p.1) | _=>W1
def jO{kvs:List (Key×V)}{g:List (Key×D)}(h:F1 p=X0 (.frz o (.dK kvs)))(e:kvs.map (·.1)=g.map (·.1)):Src G (Itd p o kvs) (g.map λp=>Sn p.1) F1 F2:=by
 have Y:kvs.length=g.length:=by have:=SG cy e;rwa [av,av] at this
 refine⟨λi H s L=>⟨s _ _ h,by rw[Y];rwa [av] at L⟩,λi H x U d s I y=>?_,λi H s L=>⟨s _ _ h,by rw[Y];rwa [av] at L⟩⟩;obtain⟨T,q,Z,S⟩:=y;refine OD ⟨T,?_⟩;have J:(kvs.map (·.1))[i]?=X0 q.1:=by rw[br,Z];rfl
 rw[e,br] at J;rw[br] at I;cases O:g[i]? with
 |none=>rw[O] at I;cases I
 |some z=>
  rw[O] at J I;cases I;injection J with J
  rw[S,<-J];exact Rp _
def jP(W:G.K=X.K)(h:PF X G a fa):OQ X G E3 tg a (seqE fa):=λA=>O_ (piOr (qt W h (A:=A)) (rC (@h A)))<|by
 rintro S H R ⟨g,T,o,e,k⟩
 unfold seqE at e;split at e
 .rename_i J d;cases e;exact .inl ⟨g,_,o,by unfold VS;rw[d],k⟩
 .rename_i J d;cases e;exact .inl ⟨g,_,o,by unfold VS;rw[d],k⟩
 .rename_i L d;cases e;refine .inr ⟨g,_,o,d,λv O z I=>?_⟩;cases I with
  |dk h l r=>exact⟨_,_,_,rfl,Am _ _ h,k _ O z (jO h l)⟩
 .cases e
end
section
variable {A:aE}
theorem AAQ{l:Addr}{its:Array ac}(ne:l≠it):∀(m i:Nat) (s:ah) (Q:List ac->ah->Prop),s.heap.IsListIter it l i->s.heap.IsList l its->i+m=its.size ->
  (∀h',h'.IsListIter it l its.size->fI it s.heap h'->Q (its.toList.drop i) { s with heap:=h' })->ag (ai prog w) A (draw (.ref it) m) Q E s:=by
 intro m
 induction m with
 |zero=>
  intro i s Q J Y S k;refine ar ?_;have O:i=its.size:=by omega
  have e:its.toList.drop i=[]:=by rw[List.drop_eq_nil_iff];simp[O]
  rw[<-e];exact k s.heap (O▸J) (JE ..)
 |succ m L=>
  intro i s Q J Y S k;have lt:i<its.size:=by omega
  refine ae (m:=eK (.ref it)) (HA J Y (x:=its[i]) (by simp[lt]) λU I d=>?_);have z:U.IsList l its:=let ⟨o,e,r⟩:=Y;⟨o,(d.2 l ne).trans e,r⟩;refine ae (wpAny_holding (L (i+1) _ _ I z .(0) λT G g=>ar ?_));have e:its.toList.drop i=its[i]::its.toList.drop (i+1):=by simp[ua,lt]
  rw[<-e];exact k T G (d.trans g)
theorem rD{l:Addr}{its:Array ac}{Q:List ac->ah->Prop}(L:A.handled=W1)(Y:s.heap.IsList l its)(k:∀h',yn s.heap.objs.size s.heap h'->Q its.toList { s with heap:=h' }):ag (ai prog w) A (unpackItems (.ref l) its.size W1) Q E s:=by
 have ne:l≠s.heap.objs.size:=by obtain⟨o,J,_⟩:=Y;exact bX (bn J)
 have ty:s.TypeIs (.ref l) "list":=let ⟨o,e,c,_⟩:=Y;⟨o,e,c⟩;unfold unpackItems notIterableAtAll;refine ae (ae (nv ty PySem.F.slot_list_iter.lookup (ar ?_)));simp only[dE,NH];refine ae (wpAny_holding (xb Y ?_));have g:(s.heap.push { cls:=.type "list_iterator",data:=.fields #[.ref l,.int 0 0] }).IsList l its:=let ⟨o,e,r⟩:=Y;⟨o,ba _ e,r⟩;refine ae (wpAny_holding (AAQ ne its.size 0 _ _ ⟨_,bS _ rfl,rfl,rfl⟩ g .(0) λS I d=>?_));rw[IQ,UF .(1)];have z:S.IsList l its:=let ⟨o,e,r⟩:=g;⟨o,(d.2 l ne).trans e,r⟩;refine ae (wpAny_holding (HC L I z .(1) λO T=>?_));simp only[Option.isSome_none,dE,NH];exact ar (k O λb o G e=>T b o G ((d.2 b G).trans (ba _ e)))
end
section
variable {G:Gx}{a b:Expr}{fa:FE}{es:List Expr}
def gLst(K:aI)(n:Nat)(t:TGs):TG:=λv g H Q=>∃a xs,v=.ref a/\MO K H a xs/\xs.length=n/\t xs g H Q
theorem xR{k:Nat}{t:TGs}(hc:X.calm=E2)(h:PGs X es t)(Y:(jv es X.env).length=n:=by rfl)(z:(jv es X.env).findIdx? (·.1)=W1:=by rfl):PG X (.Tuple es k pos) (gLst X.K n t):=by
 intro L s J H v u Q I r g;obtain⟨a,S,rfl,W,Z,g⟩:=g;cases r;obtain⟨d,O,U,hz⟩:=I.list W;rw[assign_Tuple];refine ae (AD ?_);unfold unpack;have e:(jv es X.env).length=d.toArray.size:=by simp[Y,<-Z,O.length]
 rw[e,z];refine ae (wpAny_holding (rD (I.ok.hd hc) U.isList λh' T=>?_));have I1:Inv X L J H { s with heap:=h' }:=I.kept (t':=s.toks) λb o e=>T b o (bX (bn e)) e;exact h L _ J H S _ Q I1 (by simpa using O) g
def PG.or{t t':TG}(h:PG X tg t)(h':PG X tg t'):PG X tg (λv σ H Q=>t v σ H Q∨t' v σ H Q):=λd s σ H v u Q I r q=>by
 rcases q with q | q
 .exact h d s σ H v u Q I r q
 .exact h' d s σ H v u Q I r q
abbrev FGs:=List D->Rho->Option Rho
def NV:FGs:=λds ρ=>match ds with | []=>X0 ρ | _=>W1
def Bw(i:Nat)(g:FGs):FGs:=λds ρ=>match ds with | d::r=>g r (ρ.set i (.fz d)) | []=>W1
def NU(n:Nat)(g:FGs):FG:=λd ρ=>match d with
 |.tup ds=>if ds.length=n then g ds ρ else W1
 |.lst ds=>if ds.length=n then g ds ρ else W1
 |_=>W1
def tGDs(G:Gx)(A0:List Addr)(I:Hp)(g:FGs):TGs:=λvs L H Q=>∃A ρ ds z,NM G A0 I A L H ρ/\be G (cc A H) vs ds/\g ds ρ=X0 z/\∀d J,UZ G A0 I d J z->Q d J
def PGDs(X:Cx)(G:Gx)(es:List Expr)(g:FGs):Prop:=∀⦃A0⦄ He,PGs X es (tGDs G A0 He g)
def MK:PGDs X G [] NV:=by
 rintro W U z s g H J L Q I r ⟨A,S,T,d,w,O,e,k⟩
 unfold NV at e;split at e
 .cases e;exact Zv z s g H J L Q I r ⟨O.nil_inv,k _ _ ⟨A,w⟩⟩
 .cases e
def Dj{g:FGs}(h1:PG X e (Ff i))(h2:PGDs X G es g)(hs:(jv (e::es) X.env).map (·.2)=nE e X.env::(jv es X.env).map (·.2):=by rfl):PGDs X G (e::es) (Bw i g):=by
 rintro A0 Z O s L H vs T Q I r ⟨A,ρ,ds,z,w,U,e,k⟩
 unfold Bw at e;split at e
 .rename_i d J;obtain⟨x,S,rfl,Y,W⟩:=U.uncons;exact Sd h1 (@h2 A0 Z) hs O s L H _ T Q I r ⟨x,S,rfl,A,_,J,z,w.set Y i,W,e,k⟩
 .cases e
def PL{k:Nat}{g:FGs}(hG:G.K=X.K)(hc:X.calm=E2)(h:PGDs X G es g)(W:(jv es X.env).length=n:=by rfl)(J:(jv es X.env).findIdx? (·.1)=W1:=by rfl):PGD X G (.Tuple es k pos) (NU n g):=by
 rintro A0 He π s σ H v u Q I r ⟨A,T,d,z,w,U,e,k⟩
 refine PG.or (gK hc (@h A0 He) W J) (xR hc (@h A0 He) W J) π s σ H v u Q I r ?_;unfold NU at e;split at e
 .rename_i S;split at e
  .rename_i Y;cases U with
   |tup O Z L=>exact .inl ⟨_,_,rfl,by rw[<-hG];exact Dw Am O,by rw[Z];exact Y,A,T,S,z,w,⟨Z,L⟩,e,k⟩
  .cases e
 .rename_i S;split at e
  .rename_i Y;cases U with
   |lst O Z L=>exact .inr ⟨_,_,rfl,by rw[<-hG];exact Am.seq O,by rw[Z];exact Y,A,T,S,z,w,⟨Z,L⟩,e,k⟩
  .cases e
 .cases e
def asgF(f:FE)(g:FG):FS:=λρ=>(f ρ).bind λd=>(g d ρ).map .nx
def rF{g:FG}(hg:PGD X G tg g)(ha:PF X G a fa)(hs:swapsWithSole [tg] a pos.line X.env=pure E3:=by rfl)(Z:swappedStores [tg] a X.env=pure W1:=by rfl)(h1:(jv [tg] X.env).map (·.2)=[nE tg X.env]:=by rfl):Sl X G (.Assign [tg] a pos) (asgF fa g):=by
 rintro A0 He U s T H D I ⟨z,o,⟨A,w⟩,e,k⟩
 unfold asgF at e;cases J:fa z with
 |none=>simp[J] at e
 |some d=>
  cases S:g d z with
  |none=>simp[J,S] at e
  |some O=>
   simp[J,S] at e;subst e;exact wL (@ha A) (@hg A0 He) hs Z h1 U s T H D I ⟨z,d,w.ok,J,λv H1 W Y=>⟨A,z,d,O,w.mono W,Y,S,λL H' ok=>k L H' ok⟩⟩
def Dr:Di X (.builtin "len") (λxs H Q=>∃a kvs,xs=[V.ref a]/\Rd H a (.dK kvs)/\Q (.int kvs.length) H):=by
 intro L s d H xs O Q I z h;obtain⟨a,kvs,rfl,e,q⟩:=h;obtain⟨u,rfl,g⟩:=z.one;cases g;exact zu I e λt S J=>⟨.int kvs.length,H,J,⟨t,rfl⟩,q⟩
def NI:D->Option D
 |.dk g=>X0 (.int g.length)
 |d=>Pi d
def Gb:Sk G (λxs H Q=>(∃x n,xs=[x]/\LenV G.K x H n/\Q (.int n) H)∨∃a kvs,xs=[V.ref a]/\Rd H a (.dK kvs)/\Q (.int kvs.length) H) NI:=by
 intro A H x dx d Q I rx h k;unfold NI at h;split at h
 .cases h;obtain⟨p,kvs,rfl,z,g,r⟩:=rx.dk;have Y:=SG cy g;rw[av,av] at Y;refine .inr ⟨p,kvs,rfl,z,?_⟩;rw[Y];exact k _ H (ab.refl H) (.int _)
 .exact .inl (Rm A H x dx d Q I rx h k)
end
def Iti(a:Addr)(o:Obj)(kvs:List (Key×V)):It:=
 ⟨λi H=>H a=X0 (.frz o (.dK kvs))/\i<kvs.length,λi H x d=>∃T p,H T=W1/\kvs[i]?=X0 p/\x=.ref T/\d=fk H T (.tup [kV p.1,p.2]),λi H=>H a=X0 (.frz o (.dK kvs))/\kvs.length<=i⟩
theorem ZD{K:aI}(a it:Addr){o:Obj}{es:Array oe}{ep:Nat}(hd:o.data=.dict es ep)(kvs:List (Key×V)):
  To P w K (.Tuple elts x1 tp) (Iti a o kvs) [it] it (λi h=>∃ok J,IsItemIter h it a i kvs.length ep ok J) where
 mem:=by simp
 obj:=λi h U b G=>by
  have e:b=it:=by simpa using G
  subst e;obtain⟨ok,J,e⟩:=U;exact⟨_,e,λv z=>by
   have z':CS _=CU v:=z;cases z'⟩
 keep:=λi h h' U k=>let ⟨ok,J,e⟩:=U;⟨ok,J,k it .(1) _ e⟩
 item:=by
  intro X hP hw hK hc i π s σ H E I hf U hg;subst hP hw hK;obtain⟨he,L⟩:=hg;obtain⟨ok,J,U⟩:=U;obtain⟨hm,d,g,dd⟩:=Qk I he hd;have Y:kvs.length=d.length:=g.length;obtain⟨T,f1,f2,f3,f4,f5⟩:=hf it .(1);have hv:d[i]?=X0 (d[i]'(by omega)):=by simp[show i<d.length by omega]
  have hk:kvs[i]?=X0 (kvs[i]'L):=by simp[L]
  obtain⟨S0,O0⟩:=Ie g hk hv;have O:it<s.heap.objs.size:=bn U;refine wpAny_pyNext_items_item (knd:=Av X.prog X.w) (kvs:=d) (k:=(d[i]'(by omega)).1) (v:=(d[i]'(by omega)).2) (by rw[<-Y];exact U) dd hv λkey h1 S N0 ht hz kk=>?_;refine⟨_,rfl,wpAny_letOwnedTupleGo_items (s:={ s with heap:=h1 }) N0 λh2 Z sb=>?_⟩;have hT:H s.heap.objs.size=W1:=I.hok.fresh (aw _);have rk:dm (kV (kvs[i]'L).1) key:=by rw[S0];exact relK S
  have I1:Inv X π σ (fk H s.heap.objs.size (.tup [kV (kvs[i]'L).1,(kvs[i]'L).2])) { s with heap:=s.heap.push { cls:=.type "tuple",data:=.seq #[key,(d[i]'(by omega)).2] } }:=
   I.laid (a:=s.heap.objs.size) (t':=s.toks) (λb u e=>ba _ e) (aw _) ⟨by show 2<=sizeLine;decide,[key,(d[i]'(by omega)).2],.cons rk (.cons O0 .nil),_,bS _ rfl,rfl,_,rfl⟩
  have kp:∀b u,b≠it->(s.heap.push { cls:=.type "tuple",data:=.seq #[key,(d[i]'(by omega)).2] }).get? b=X0 u->h2.get? b=X0 u:=λb u G e=>by
   refine (sb.2 b G).trans ?_
   rcases EC e with ⟨rfl,rfl⟩ | e'
   .exact ht
   .exact kk b u G e'
  have I2:=L2.Inv.turned (t':=s.toks) (it:=it) (h':=h2) I1 kp (by rw[Al (bX O)];exact T) f1 f3 f4 f5;refine⟨.ref s.heap.objs.size,_,I2,rfl,⟨_,_,hT,hk,rfl,rfl⟩,⟨key,(d[i]'(by omega)).2,by rw[Y];exact Z⟩,λb G=>?_⟩;have e:b=it:=by simpa using G
  subst e;rw[Al (bX O)];exact T
 done:=by
  intro X hP hw hK hc i π s σ H E I hf U hg;subst hP hw hK;obtain⟨he,L⟩:=hg;obtain⟨ok,J,U⟩:=U;obtain⟨hm,d,g,dd⟩:=Qk I he hd;have Y:kvs.length=d.length:=g.length;obtain⟨T,f1,f2,f3,f4,f5⟩:=hf it .(1);exact wpAny_pyNext_items_end (I.ok.hd hc) (by rw[<-Y];exact U) dd (by rw[qf];omega) λh' eb=>⟨rfl,I.turned (t':=s.toks) (λb o G e=>eb b o G e) T f1 f3 f4 f5⟩
 self:=by rintro _ _ _ _ _ ⟨ok,J,U⟩ h;exact PySem.W.kcp_self U h
section
variable {G:Gx}{a b:Expr}{fa:FE}{tl:TE}
def xT(d:TE):TI:=λg H R=>d g H λx z=>∃a o kvs,x=.ref a/\z a=X0 (.frz o (.dK kvs))/\R (Iti a o kvs) z
theorem jQ{l:Expr}(hl:PE X l tl)(L:ff l "items" X.env (eval l X.env)=eval l X.env:=by rfl)(J:(apos.endLine==cpos.line)=E2:=by rfl):
  PI X (.Tuple elts x1 tp) (.Call (.Attribute l "items" apos) [] [] cpos) (xT tl):=by
 intro π s σ H R I h;refine JI (T:="dict") (id:="dict.items") L rfl J JJ JO F.type_dict_items (mo (hl π s σ H _ I h) λv z q0=>?_);obtain⟨x,U,S,r1,q1⟩:=q0;obtain⟨a,o,d,e,Z,q⟩:=q1;subst e;cases r1;obtain⟨_,_,_,_,_,o',es,ep,O,h1,h2,_⟩:=(show BV X.prog X.w U z.heap a (.frz o (.dK d)) from S.hok a _ Z);obtain⟨ho,_⟩:=(show BV X.prog X.w U z.heap a (.frz o (.dK d)) from S.hok a _ Z);rw[ho] at O;cases O;obtain⟨hm,W,Y,dd⟩:=Qk S Z h2;have N0:d.length=W.length:=Y.length;have g:=dd.dictOf;refine⟨g.typeIs,g.mapOf.noDict,?_⟩;show ag _ _ (rL cpos (.builtin "dict.items") [.ref a] [] []) _ _ z;refine method_meetsIn JO F.entry_dict_items rfl (JU ⟨rfl,g.typeIs,F.args_dict_items_1 _,_,meets_dict_items (Av X.prog X.w) a hm,⟨W,g⟩,?_⟩);have I2:Inv X π σ U { z with heap:=z.heap.push { cls:=.type "dict_items",data:=.fields #[.ref a] } }:=S.kept (t':=z.toks) λb o e=>ba _ e;refine wpAny_pyIter_items (knd:=Av X.prog X.w) (kvs:=W) (s:={ z with heap:=z.heap.push { cls:=.type "dict_items",data:=.fields #[.ref a] } }) ⟨_,bS _ rfl,rfl,rfl⟩ (dd.push _) ?_;refine⟨(z.heap.push { cls:=.type "dict_items",data:=.fields #[.ref a] }).objs.size,[(z.heap.push { cls:=.type "dict_items",data:=.fields #[.ref a] }).objs.size],_,_,U,rfl,I2.kept (t':=z.toks) λb o e=>ba _ e,ZD a _ h2 d,⟨.none,.none,?_⟩,λb hb=>?_,q⟩
 .rw[N0];exact bS _ rfl
 .have e:b=(z.heap.push { cls:=.type "dict_items",data:=.fields #[.ref a] }).objs.size:=by simpa using hb
  subst e;exact I2.fpOk (aw _) (I2.hok.fresh (aw _))
def Ql(f:FE):FI:=λρ=>match f ρ with | some (.dk d)=>X0 (d.map λp=>.tup [Sn p.1,p.2]) | _=>W1
def jR{g d:Type}{f:g->d}{l:List g}{y:d}(h:(l.map f)[i]?=X0 y):∃x,l[i]?=X0 x/\f x=y:=by
 rw[br] at h;exact mv.mp h
def eO{kvs:List (Key×V)}{g:List (Key×D)}(h:F1 p=X0 (.frz o (.dK kvs)))(e:kvs.map (·.1)=g.map (·.1))(r:be G F2 (kvs.map (·.2)) (g.map (·.2))):
  Src G (Iti p o kvs) (g.map λp=>.tup [Sn p.1,p.2]) F1 F2:=by
 have Y:kvs.length=g.length:=by have:=SG cy e;rwa [av,av] at this
 refine⟨λi H s J=>⟨s _ _ h,by rw[Y];rwa [av] at J⟩,λi H x H' d s hd y=>?_,λi H s J=>⟨s _ _ h,by rw[Y];rwa [av] at J⟩⟩;obtain⟨T,q,L,Z,rfl,rfl⟩:=y;obtain⟨z,O,rfl⟩:=jR hd;have I:(kvs.map (·.1))[i]?=X0 q.1:=by rw[br,Z];rfl
 rw[e,br,O] at I;injection I with I
 have U:il G F2 q.2 z.2:=r.2 i q.2 z.2 (by rw[br,Z];rfl) (by rw[br,O];rfl);refine⟨Aj L _,λB W S=>?_⟩;have rr:be G (cc B H) [kV q.1,q.2] [Sn z.1,z.2]:=.cons (by rw[<-I];exact Rp _) (.cons (U.mono S) .nil);exact GQ W L rr
def VH{top:Bool}(h:PF X G a fa)(z:ff a "items" X.env (eval a X.env)=eval a X.env:=by rfl)(g:(apos.endLine==cpos.line)=E2:=by rfl):
  OQ X G E3 (.Tuple elts x1 tp) (.Call (.Attribute a "items" apos) [] [] cpos) (Ql fa):=λA=>O_ (jQ (@h A) z g)<|by
 rintro T H R ⟨d,U,o,e,k⟩
 unfold Ql at e;split at e
 .rename_i L O;cases e;refine⟨d,_,o,O,λv S I J=>?_⟩;cases J with
  |dk h l r=>exact⟨_,_,_,rfl,Am _ _ h,k _ S I (eO h l ⟨by have:=SG cy l;rwa [av,av] at this ⊢,r⟩)⟩
 .cases e
end
section
variable {G:Gx}{b:Expr}{fb:FE}{es:List Expr}{fs:FA}
theorem V5{P:cr}{w:bP}:∀{kvs:List (Key×V)}{us:List ac},us.length=kvs.length->(∀(j:Nat) u,us[j]?=X0 u->∃p,kvs[j]?=X0 p/\(Av P w).is p.1 u=E2)->cx (kvs.map λp=>kV p.1) us
 |[],us,Y,_=>by
  have:us=[]:=yA Y;subst this;exact .nil
 |p::kvs,[],Y,_=>by simp at Y
 |p::kvs,u::us,Y,h=>by
  obtain⟨q,g,z⟩:=h 0 u rfl;simp at g;subst g;exact .cons (relK z) (V5 (P:=P) (w:=w) (by simpa using Y) λj v d=>by simpa using h (j+1) v (by simpa using d))
theorem PP(hc:X.calm=E2):Di X (.type "list") (λxs H Q=>∃p kvs,xs=[.ref p]/\Rd H p (.dK kvs)/\∀l,H l=W1->Q (.ref l) (fk H l (.lst (kvs.map λq=>kV q.1)))):=by
 intro π s σ H xs us Q I r h;obtain⟨p,kvs,rfl,e,q⟩:=h;obtain⟨u,rfl,W⟩:=r.one;cases W;obtain⟨z,hd,J,d,Z⟩:=Jh I.hok e;obtain⟨S,Z⟩:=Z.dictAt;have Y:kvs.length=J.length:=d.length;refine ED (JY (knd:=Av X.prog X.w) (kvs:=J) (ep:=S) hd) (I.ok.hd hc) Z .(0) λh' tk g c' kp hn L=>?_;have T:cx (kvs.map λq=>kV q.1) g.toList:=by
  refine V5 (P:=X.prog) (w:=X.w) (by simp[L.1,Y]) λj u hu=>?_;obtain⟨k,x,O,h2⟩:=L.2 j u (by simpa using hu);have U:j<kvs.length:=by rw[Y];exact (dP.mp O).1
  refine⟨kvs[j],by simp[U],?_⟩;rw[(Ie d (by simp[U]) O).1];exact h2
 exact⟨.ref s.heap.objs.size,_,I.laid (t':=tk) kp (aw _) (show BV X.prog X.w _ h' _ (.lst (kvs.map λq=>kV q.1)) from⟨by rw[av];exact z,g.toList,c',T,by simpa using hn⟩),rfl,q _ (I.hok.fresh (aw _))⟩
def listE:D->Option D
 |.dk g=>X0 (.lst (g.map λp=>Sn p.1))
 |d=>iU d
theorem jT{H:Hp}:∀{kvs:List (Key×V)}{d:List (Key×D)},kvs.map (·.1)=d.map (·.1)->be G H (kvs.map λq=>kV q.1) (d.map λp=>Sn p.1)
 |[],[],_=>be.nil
 |[],_::_,h=>by simp at h
 |_::_,[],h=>by simp at h
 |p::kvs,q::d,h=>by
  rw[bb,bb] at h;injection h with g h2
  exact .cons (by show il G H (kV p.1) (Sn q.1);rw[g];exact Rp _) (jT h2)
def eQ:Sk G (λxs H Q=>(∃p ys,xs=[.ref p]/\(MO G.K H p ys∨MZ G.K H p ys)/\∀l,H l=W1->Q (.ref l) (fk H l (.lst ys)))∨∃p kvs,xs=[.ref p]/\Rd H p (.dK kvs)/\∀l,H l=W1->Q (.ref l) (fk H l (.lst (kvs.map λq=>kV q.1)))) listE:=by
 intro A H x dx d Q I rx h k;unfold listE at h;split at h
 .cases h;obtain⟨p,kvs,rfl,z,g,r⟩:=rx.dk;exact .inr ⟨p,kvs,rfl,z,λl Y=>k _ _ (Aj Y _) (Cz I Y (jT g))⟩
 .exact .inl (jC A H x dx d Q I rx h k)
def PQ(x:D)(ds:List D)(v:D):Option D:=match x with
 |.dt d=>(MJ ds).bind λk=>if d.length<sizeLine/\ds.length<=sizeLine then X0 (.dt (Qb k v d)) else W1
 |_=>W1
def Xc(i:Nat)(g:FA)(d:FE):FS:=λρ=>(d ρ).bind λv=>(g ρ).bind λy=>(Pd ρ i).bind λx=>(PQ x y v).map λz=>.nx (ρ.set i (.ow z))
def ZF{ρ:Rho}{o:Pw}(h:Xc i fs fb ρ=X0 o):∃v y x z,fb ρ=X0 v/\fs ρ=X0 y/\ρ[i]?=X0 (.ow x)/\PQ x y v=X0 z/\o=.nx (ρ.set i (.ow z)):=by
 unfold Xc at h;cases d:fb ρ with
 |none=>simp[d] at h
 |some v=>
  cases I:fs ρ with
  |none=>simp[d,I] at h
  |some y=>
   cases g:Pd ρ i with
   |none=>simp[d,I,g] at h
   |some x=>
    cases U:PQ x y v with
    |none=>simp[d,I,g,U] at h
    |some z=>
     simp[d,I,g,U] at h;exact⟨v,y,x,z,rfl,rfl,Ip g,U,h.symm⟩
def jU(hu:X.A.units+1<bo)(hv:PE X .(13) (OL i))(ha:SR X G es fs)(hb:PF X G b fb)(hs:eR b (X0 (.Subscript .(13) (.Tuple es x1 tp) spos)) pos.line X.env=pure E3:=by rfl):Sl X G (.Assign [.Subscript .(13) (.Tuple es x1 tp) spos] b pos) (Xc i fs fb):=by
 rintro A0 He π s σ H D I ⟨L,o,⟨A,w⟩,e,k⟩
 obtain⟨v,y,x0,z,e1,e2,hi,d,rfl⟩:=ZF e;refine Rj hu hv (Yz (@ha A)) (@hb A) hs π s σ H D I ?_;unfold PQ at d;split at d
 .rename_i N0;cases U:MJ y with
  |none=>simp[U] at d
  |some q=>
   simp only[U,eB] at d;split at d
   .rename_i hz;cases d;obtain⟨p,h1,hA,J,h2,Z,r⟩:=w.ok.ow i _ hi;refine⟨L,v,w.ok,e1,λu H1 g r1=>⟨_,h1,L,y,(w.mono g).ok,e2,λvs H2 S O=>⟨by rw[O.1];exact hz.2,λT hT=>?_⟩⟩⟩;have ek:=Qj O U;subst ek;have hl:J.length<sizeLine:=by
     have:=SG cy Z;rw[av,av] at this;omega
    have W:ab H2 (fk H2 T (.tup (q.map kV))):=Aj hT _;refine⟨p,_,rfl,SS.t (W _ _ (S _ _ (g _ _ h2))) Ah hl,?_⟩;have w2:=((w.mono g).mono S).mono W;have Y:=Ro (k:=q) (r1.mono (Az (S.trans W))) Z (r.mono (Az (g.trans (S.trans W))));refine k _ _ ⟨A,w2.wr hi h1 ⟨_,Ah,Y.1,?_⟩⟩;rw[Bh hA];exact Y.2
   .cases d
 .cases d
end
section
variable {G:Gx}{a c:Expr}{fa:FE}{fs:FA}{src:FI}
def OQ.top(h:OQ X G E3 tg a src):OQ X G E2 tg a src:=λA=>O_ (@h A) λW H R ⟨I,S,o,e,k⟩=>
 ⟨I,S,o,e,λJ T L g=>k J T L ⟨λi H s z=>g.go i H (Am.trans s) z,λi H x U d s O y=>g.yld i H x U d (Am.trans s) O y,λi H s z=>g.stop i H (Am.trans s) z⟩⟩
theorem mr.ob{A:List Addr}{H:Hp}{v:V}{c:Str}{L:List (Str×D)}(r:mr G A H v (.ob c L)):∃a C dx fs,v=.ref a/\G.cl c=X0 C/\H a=X0 (.ins C dx fs)/\fs.map (·.1)=L.map (·.1)/\be G (cc A H) (fs.map (·.2)) (L.map (·.2)):=by
 rcases r with r | ⟨a,e,C,dx,fs,h,k,r⟩
 .cases r with
  |ob I h l r=>
   have Y:=SG cy l;rw[av,av] at Y;exact⟨_,_,_,_,rfl,I,Am _ _ h,l,by rw[av,av];exact Y,r⟩
 .exact⟨a,C,dx,fs,e,k.1,h,k.2,r⟩
def jn(f:Str):D->Option D
 |.ob _ L=>L.lookup f
 |_=>W1
theorem Qm{H:Hp}{f:Str}{d:D}:∀{L:List (Str×D)}{fs:List (Str×V)},fs.map (·.1)=L.map (·.1)->be G H (fs.map (·.2)) (L.map (·.2))->L.lookup f=X0 d->∃v,fs.lookup f=X0 v/\il G H v d
 |[],fs,e,r,h=>by simp at h
 |p::L,[],e,r,h=>by simp at e
 |p::L,q::fs,e,r,h=>by
  rw[bb,bb] at e r;injection e with I e2
  obtain⟨x,T,S,g,J⟩:=r.uncons;injection S with U e5
  subst U e5;obtain⟨Y,W⟩:=p;obtain⟨q1,q2⟩:=q;simp only at I g;subst I
  by_cases z:f=q1
  .subst z;simp only[ca,PH,EE] at h ⊢;subst h;exact⟨q2,rfl,g⟩
  .have O:(f==q1)=E3:=beq_eq_false_iff_ne.mpr z;simp only[ca,O] at h ⊢;exact Qm e2 J h
def Cd(g:∀c C,G.cl c=X0 C->On X.K C/\Bd X.K C f)(he:PU X G a fa)(S:ff a f X.env (eval a X.env)=eval a X.env:=by rfl):PF X G (.Attribute a f pos) (uF (jn f) fa):=
 λA=>CZ (Yw (@he A) S)<|by
  rintro Z H Q ⟨J,d,o,e,k⟩
  obtain⟨x0,W,z⟩:=Kp e;unfold jn at z;split at z
  .rename_i cn gs;refine⟨J,_,o,W,λv Y L O=>?_⟩;obtain⟨p,C,dx,fs,rfl,I,h,l,r⟩:=O.ob;obtain⟨v,U,T⟩:=Qm (f:=f) (d:=d) l r z;exact⟨_,_,_,_,v,rfl,h,(g _ _ I).1,(g _ _ I).2,U,k v Y L T⟩
  .cases z
end
def Its(x:Str):It:=⟨λi _=>i<x.cps.size,λi H y d=>d=H/\∃c,x.cps[i]?=X0 c/\y=.str ⟨#[c]⟩,λi _=>x.cps.size<=i⟩
theorem Xd{K:aI}(it:Addr)(x:Str)(t:Tok)(ty:String)(W:∀A:aE,A.handled=W1->ki P w A it [it] [it] x.cps.size (SignAt x) (λi h=>h.IsStrIter it ty x t i))(hn:["enumerate","zip","dict_itemiterator","dict_reverseitemiterator","odict_iterator","itertools.zip_longest","itertools.pairwise"].contains ty=E3)(rz:∀(A:aE),A.handled=W1->∀(i:Nat) (s:ah) (Q:Option ac->ah->Prop) (E:ac->ah->Prop),s.heap.IsStrIter it ty x t i->x.cps[i]?=W1->(∀h',yn it s.heap h'->Q W1 { s with heap:=h' })->ag (ai P w) A (eK (.ref it)) Q E s)(self:∀(A:aE) (i:Nat) (s:ah) (Q:ac->ah->Prop) (E:ac->ah->Prop),s.heap.IsStrIter it ty x t i->Q (.ref it) s->ag (ai P w) A (nI (.ref it)) Q E s):
  To P w K tg (Its x) [it] it (λi h=>h.IsStrIter it ty x t i) where
 mem:=by simp
 obj:=λi h U b g=>by
  have e:b=it:=by simpa using g
  subst e;obtain⟨o,e,c,d⟩:=U;exact⟨o,e,λv z=>by rw[d] at z;cases z⟩
 keep:=λi h h' U k=>let ⟨o,e,c,d⟩:=U;⟨o,k it .(1) o e,c,d⟩
 item:=by
  intro X hP L Y S i π s σ H E I J U O;subst hP L Y;obtain⟨f0,f1,f2,f3,T,Z⟩:=J it .(1);refine (W X.A (I.ok.hd S)).item i s _ _ O U λv h' tk hv G kk=>?_;obtain⟨c,u,e1,rfl⟩:=hv;have I1:Inv X π σ H { s with heap:=h',toks:=tk }:=I.turned (λb o g e=>kk b o (by simpa using g) e) f0 f1 f3 T Z;obtain⟨o1,e2,c1,d1⟩:=id G;exact⟨_,rfl,U4 (s:={ s with heap:=h',toks:=tk }) e2 c1 d1 hn ⟨.str ⟨#[c]⟩,H,I1,⟨u,rfl⟩,⟨rfl,c,e1,rfl⟩,G,λb g=>(J b g).1⟩⟩
 done:=by
  intro X hP L Y S i π s σ H E I J U O;subst hP L Y;obtain⟨f0,f1,f2,f3,T,Z⟩:=J it .(1);exact rz X.A (I.ok.hd S) i s _ _ U (by rw[Array.getElem?_eq_none_iff];exact O) λh' eb=>⟨rfl,I.turned (t':=s.toks) (λb o g e=>eb b o g e) f0 f1 f3 T Z⟩
 self:=λA i s Q E U h=>self A i s Q E U h
section
variable {G:Gx}{a b c:Expr}{fa:FE}{tl:TE}
def iStr(d:TE):TI:=λg H R=>d g H λx z=>∃y,x=.str y/\R (Its y) z
theorem xU{l:Expr}(hl:PE X l tl):PI X tg l (iStr tl):=by
 intro O s Y H R I h;refine mo (hl O s Y H _ I h) λv z q0=>?_;obtain⟨x,L,d,Z,q1⟩:=q0;obtain⟨y,e,q⟩:=q1;subst e;obtain⟨t,e⟩:=(show ∃t,v=wq y t from Z);subst e;have T:∀b∈[z.heap.objs.size],Ts X O L b:=λb hb=>by
  have e:b=z.heap.objs.size:=by simpa using hb
  subst e;exact d.fpOk (aw _) (d.hok.fresh (aw _))
 cases S:y.cps.all (·<128)
 .exact wpAny_pyIter_wide S ⟨z.heap.objs.size,[z.heap.objs.size],_,_,L,rfl,d.kept (t':=z.toks) λb o e=>ba _ e,
   Xd _ y t "str_iterator" (λA W=>Walks.strWide W _ y t) .(2) (λ_ J _ _ _ _ U g k=>wpAny_pyNext_wide_end J U g k) (λ_ _ _ _ _ U h=>wpAny_pyIter_striter_wide U h),⟨_,bS _ rfl,rfl,rfl⟩,T,q⟩
 .exact wpAny_pyIter_ascii S ⟨z.heap.objs.size,[z.heap.objs.size],_,_,L,rfl,d.kept (t':=z.toks) λb o e=>ba _ e,
   Xd _ y t "str_ascii_iterator" (λA W=>Walks.strAscii W _ y t) .(2) (λ_ J _ _ _ _ U g k=>wpAny_pyNext_ascii_end J U g k) (λ_ _ _ _ _ U h=>wpAny_pyIter_striter_ascii U h),⟨_,bS _ rfl,rfl,rfl⟩,T,q⟩
def Xe(x:Str):List D:=x.cps.toList.map λc=>.str ⟨#[c]⟩
def rG:Src G (Its x) (Xe x) F1 F2:=by
 have Y:(Xe x).length=x.cps.size:=by unfold Xe;simp
 refine⟨λi H s g=>by rw[Y] at g;exact g,λi H y J d s I q=>?_,λi H s g=>by rw[Y] at g;exact g⟩;obtain⟨q1,c,q2,q3⟩:=q;refine OD ⟨q1,?_⟩;obtain⟨z,O,rfl⟩:=jR I;have e:x.cps[i]?=X0 z:=by simpa using O
 rw[e] at q2;cases q2;rw[q3];exact .str _
def hW(f:FE):FI:=λρ=>match f ρ with | some (.str x)=>X0 (Xe x) | _=>seqE f ρ
def Aw(W:G.K=X.K)(h:PF X G a fa):OQ X G E3 tg a (hW fa):=λA=>O_ (piOr (jP W h (A:=A)) (xU (@h A)))<|by
 rintro L H R ⟨g,O,o,e,k⟩
 unfold hW at e;split at e
 .rename_i x I;cases e;refine .inr ⟨g,_,o,I,λv J z d=>?_⟩;cases d;exact⟨_,rfl,k _ J z rG⟩
 .exact .inl ⟨g,_,o,e,k⟩
def OU:List D->Option (List Bool)
 |[]=>X0 []
 |.bl i::r=>(OU r).map (i::·)
 |_::_=>W1
theorem V6{H:Hp}:∀{ds:List D}{xs:List V}{bs:List Bool},be G H xs ds->OU ds=X0 bs->xs=bs.map V.bl
 |[],xs,bs,r,h=>by cases h;exact r.nil_inv
 |d::ds,xs,bs,r,h=>by
  obtain⟨x,I,rfl,g,L⟩:=r.uncons;cases d with
  |bl i=>
   cases e:OU ds with
   |none=>simp[OU,e] at h
   |some z=>
    simp[OU,e] at h;subst h;cases g;rw[V6 L e];rfl
  |_=>simp[OU] at h
theorem Qn(hc:X.calm=E2):Di X (.builtin "all") (λxs H Q=>∃(p:Addr) (bs:List Bool),xs=[.ref p]/\MO X.K H p (bs.map V.bl)/\Q (.bl (bs.all id)) H):=by
 intro π s σ H xs us Q I r h;obtain⟨p,bs,rfl,hs,k⟩:=h;obtain⟨u,rfl,L⟩:=r.one;cases L;obtain⟨d,T,Z,hz⟩:=I.list hs;have Y:=Z.isList;have O:p≠s.heap.objs.size:=by obtain⟨o,ho,_⟩:=Y;exact bX (bn ho)
 have g:bs.length=d.length:=by have:=T.length;rwa [av] at this
 refine call_all_walk (xb Y ?_);refine⟨_,_,_,_,_,_,λi=>bs.getD i E2,rfl,so (A:=X.A.in1) (I.ok.hd hc) s.heap.objs.size p O d.toArray,⟨⟨_,bS _ rfl,rfl,rfl⟩,Y.push _⟩,?_,λh' tk kk=>?_⟩
 .intro i v s' Q' E' hv hq;have z:d[i]?=X0 v:=by simpa using hv
  have hlt':i<bs.length:=by rw[g];exact (dP.mp z).1
  obtain⟨u',W,L⟩:=T.get (i:=i) (x:=.bl (bs[i]'hlt')) (by rw[br];simp[hlt']);rw[z] at W;cases W;cases (show v=nw (bs[i]'hlt') from L);have e:bs.getD i E2=bs[i]'hlt':=by simp[uk,hlt']
  have J:Q' (bs.getD i E2) s':=hq;rw[e] at J;exact kq J
 .refine⟨.bl (bs.all id),H,I.kept (λb o e=>kk b o ?_ (ba _ e)),?_,k⟩
  .intro S;have:b=s.heap.objs.size:=by simpa using S
   exact MG (bn e) (by rw[this];exact gT _)
  .show nw _=nw _;congr 1;rw[ck,<-g];rw[g9,eD,eD];constructor
   .intro q b S;obtain⟨i,z,rfl⟩:=uS S;have:=q i (cE.mpr z);simpa [uk,z] using this
   .intro q i z;have U:=cE.mp z;have:=q (bs[i]'U) (fA U);simpa [uk,U] using this
def YV:D->Option D
 |.lst ds=>(OU ds).map λbs=>.bl (bs.all id)
 |_=>W1
def V7:Sk G (λxs H Q=>∃(p:Addr) (bs:List Bool),xs=[.ref p]/\MO G.K H p (bs.map V.bl)/\Q (.bl (bs.all id)) H) YV:=by
 intro A H x dx d Q J rx h k;unfold YV at h;split at h
 .rename_i I;cases e:OU I with
  |none=>simp[e] at h
  |some bs=>
   rw[e] at h;cases h;obtain⟨p,xs,rfl,g,r⟩:=rx.lst;have z:=V6 r e;subst z;exact⟨p,bs,rfl,g,k _ H (ab.refl H) (.bl _)⟩
 .cases h
def ZG:dL "all"=X0 (.builtin "all"):=by decide +kernel
end
section
variable {G:Gx}{b c:Expr}
def NJ(x d:D):Bool:=match MM 62 d x with | some b=>b | none=>E3
def Rl(x d:D):Bool:=(MM 62 d x).isSome
def rInP(G:Gx)(d:Bool):R2:=λx y H Q=>∃(A:List Addr) (as ds:List D),mr G A H x (.tup as)/\mr G A H y (.lst ds)/\ds.all (Rl (.tup as))=E2/\Q (.bl (if d then !ds.any (NJ (.tup as)) else ds.any (NJ (.tup as)))) H
open Classical in
def aK(hG:G.K=X.K)(hu:X.A.units+64<bo){π:zP}{s:ah}{σ:St}{H:Hp}{A:List Addr}{x:V}{u:ac}{as ds:List D}{xs:List V}{g:List ac}(I:Inv X π σ H s)(rx:mr G A H x (.tup as))(ru:dm x u)(r:be G (cc A H) xs ds)(v:cx xs g)(hk:ds.all (Rl (.tup as))=E2):
  ∃e:ac->Bool,(∀y,y∈g.toArray->kU X.A.in1 s y u (e y))/\g.toArray.any e=ds.any (NJ (.tup as)):=by
 have Z:il G H x (.tup as):=by
  rcases rx with q | ⟨p,_,q⟩
  .exact q.mono Am
  .exact q.elim
 have one:∀(i:Nat) y,g[i]?=X0 y->∃d,ds[i]?=X0 d/\kU X.A.in1 s y u (NJ (.tup as) d):=λi y L=>by
  have J:i<g.length:=(dP.mp L).1;have z:i<xs.length:=by rw[v.length];exact J
  have S:i<ds.length:=by rw[<-r.1];exact z
  obtain⟨y',W,U⟩:=v.get (i:=i) (x:=xs[i]) (by simp[z]);rw[L] at W;cases W;refine⟨ds[i],by simp[S],?_⟩;have kn:Rl (.tup as) ds[i]=E2:=eD.mp hk _ (fA S);unfold Rl at kn;obtain⟨b,hb⟩:=AE.mp kn;have eb:NJ (.tup as) ds[i]=b:=by unfold NJ;rw[hb]
  rw[eb];exact N_ I hG 62 X.A.in1 (by show X.A.units+1+62<bo;omega) hb ((r.2 i _ _ (by simp[z]) (by simp[S])).mono Am) Z U ru
 refine⟨λy=>decide (∃(i:Nat) (d:D),g[i]?=X0 y/\ds[i]?=X0 d/\NJ (.tup as) d=E2),λy L=>?_,?_⟩
 .by_cases h:∃(i:Nat) (d:D),g[i]?=X0 y/\ds[i]?=X0 d/\NJ (.tup as) d=E2
  .obtain⟨i,d,W,U,h3⟩:=id h;obtain⟨d',Y,T⟩:=one i y W;rw[U] at Y;cases Y;rw[h3] at T;show kU X.A.in1 s y u (decide (∃(i:Nat) (d:D),g[i]?=X0 y/\ds[i]?=X0 d/\NJ (.tup as) d=E2));rw[OG h];exact T
  .obtain⟨i,J,rfl⟩:=uS (show y∈g by simpa using L);have O:g[i]?=X0 g[i]:=bv J;obtain⟨d,Y,T⟩:=one i _ O;have h6:NJ (.tup as) d=E3:=by
    cases q:NJ (.tup as) d with
    |false=>rfl
    |true=>exact MG ⟨i,d,O,Y,q⟩ h
   rw[h6] at T;show kU X.A.in1 s g[i] u (decide (∃(j:Nat) (d:D),g[j]?=X0 g[i]/\ds[j]?=X0 d/\NJ (.tup as) d=E2));rw[NG h];exact T
 .rw[g9,oB];rw[show g.toArray.any (λy=>decide (∃(i:Nat) (d:D),g[i]?=X0 y/\ds[i]?=X0 d/\NJ (.tup as) d=E2))=g.any (λy=>decide (∃(i:Nat) (d:D),g[i]?=X0 y/\ds[i]?=X0 d/\NJ (.tup as) d=E2)) by simp,oB];constructor
  .rintro⟨y,L,h⟩;obtain⟨i,d,W,U,h3⟩:=WG h;exact⟨d,ic U,h3⟩
  .rintro⟨d,S,h⟩;obtain⟨i,J,rfl⟩:=uS S;have z:i<g.length:=by rw[<-v.length,r.1];exact J
   exact⟨g[i],fA z,OG ⟨i,_,bv z,bv J,h⟩⟩
def jV(W:G.K=X.K)(S:X.A.units+64<bo):Na X (d4 .In) (rInP G E3):=by
 intro π s σ H x y v u Q I rx z h;obtain⟨A,as,ds,d,L,T,k⟩:=h;obtain⟨c,ys,rfl,Y,q2⟩:=L.lst;cases z;obtain⟨O,g,J,_⟩:=I.list (by rw[<-W];exact Y);obtain⟨e,U,Z⟩:=aK W S I d rx q2 g T;exact IA e J.isList U ⟨.bl _,H,I,rfl,by rw[Z];exact k⟩
def eU(W:G.K=X.K)(S:X.A.units+64<bo):Na X (d4 .NotIn) (rInP G E2):=by
 intro π s σ H x y v u Q I rx z h;obtain⟨A,as,ds,d,L,T,k⟩:=h;obtain⟨c,ys,rfl,Y,q2⟩:=L.lst;cases z;obtain⟨O,g,J,_⟩:=I.list (by rw[<-W];exact Y);obtain⟨e,U,Z⟩:=aK W S I d rx q2 g T;exact IB e J.isList U ⟨.bl _,H,I,rfl,by rw[Z];exact k⟩
def Oy(d:Bool)(x y:D):Option D:=match x,y with
 |.tup as,.lst ds=>if ds.all (Rl (.tup as))=E2 then X0 (.bl (if d then !ds.any (NJ (.tup as)) else ds.any (NJ (.tup as)))) else W1
 |x,y=>inE d x y
def V8(g:Bool):Eg G (λx y H Q=>(rInA G.K g x y H Q∨rDIn g x y H Q)∨rInP G g x y H Q) (Oy g):=by
 intro A H x y dx L d Q I rx z h k;unfold Oy at h;split at h
 .split at h
  .rename_i J;cases h;exact .inr ⟨A,_,_,rx,z,J,k _ H (ab.refl H) (.bl _)⟩
  .cases h
 .exact .inl (rA g A H x y _ _ d Q I rx z h k)
end
end PV
namespace PySem
open PySem.Spec
def jW{A:aE}{Q:ac->ah->Prop}(h:∀h' e,.(7)->EF { s with heap:=h' } (.ref e) "StopIteration"->Q (.ref e) { s with heap:=h' }):ag (ai prog w) A (v3 (.type "StopIteration") []) Q E s:=by
 unfold v3 B3
 wp_walk
 exact h _ _ (λb o e=>ba _ (ba _ e)) ⟨_,bS _ rfl,rfl⟩
def jX(it d:Addr)(i ep:Nat)(es:Array oe)(L:Obj)(z:L.data=.dict es ep)(I:i<es.size):
  Meets (fN.«dict_keyiterator.__next__» ⟨[.ref it],[]⟩) (λ_ R s=>s.heap.get? it=X0 { cls:=.type "dict_keyiterator",data:=.fields #[.ref d,.int i 0,.int es.size 0,.int ep 0] }/\s.heap.get? d=X0 L/\R (.ok (.ret (es[i]'I).key)) { s with heap:=s.heap.update it (sv (·.setIfInBounds 1 (eS ((i:Int)+1)))),toks:=s.toks }):=
 .of_wp λJ w A R s h=>by
  obtain⟨T,g,W,tk,os⟩:=s;obtain⟨G,O,h⟩:=h
  wp_walk using EG O z,EH O z,B4 G rfl,sw G rfl
  have U:(if (i:Int)<0 then W1 else es[(i:Int).toNat]?)=X0 (es[i]'I):=by rw[UF .(0),eC,B5 I]
  rw[U];dsimp only
  wp_walk using sw G rfl
  .rw[UF (show ¬ EI ((EJ "dict_keyiterator").elim "dict_keyiterator" λx=>x.tpName)=E2 by decide +kernel)];show 1<4;decide
  .rw[UF (show ¬ EI ((EJ "dict_keyiterator").elim "dict_keyiterator" λx=>x.tpName)=E2 by decide +kernel)];rw[UF]
   case hnc=>decide +kernel
   rw[lc];have S:EF { heap:=T.update it (sv λx=>x.setIfInBounds 1 (eS ((i:Int)+1))),gens:=g,drawn:=W,toks:=tk,os:=os } (.ref it) "dict_keyiterator":=
    ⟨_,kG _ G (B6 (sA rfl _)),B7 ..⟩
   wp_walk using wpAny_isOneOf_keyiter S
   exact⟨_,rfl,h⟩
def ZJ{A:aE}{d:Addr}{es:Array oe}{J:Obj}{Q:Option ac->ah->Prop}(z:J.data=.dict es ep)(g:i<es.size)(h1:s.heap.get? it=X0 { cls:=.type "dict_keyiterator",data:=.fields #[.ref d,.int i 0,.int es.size 0,.int ep 0] })(G:s.heap.get? d=X0 J)(h:Q (X0 (es[i]'g).key) { s with heap:=s.heap.update it (sv (·.setIfInBounds 1 (eS ((i:Int)+1)))) }):ag (ai prog w) A (eK (.ref it)) Q E s:=by
 have S:s.TypeIs (.ref it) "dict_keyiterator":=⟨_,h1,rfl⟩;unfold eK;refine ae (ve (o0 (name:=dA "__next__") S yB ?_));refine AL yB S K0 (K2 _) (jX it d i ep es J z g) ⟨h1,G,?_⟩;exact ar h
def Ut{A:aE}{d:Addr}{es:Array oe}{J:Obj}{Q:Option ac->ah->Prop}(T:A.handled=W1)(g:J.data=.dict es ep)(O:es.size<=i)(h1:s.heap.get? it=X0 { cls:=.type "dict_keyiterator",data:=.fields #[.ref d,.int i 0,.int es.size 0,.int ep 0] })(I:s.heap.get? d=X0 J)(h:∀h',yn it s.heap h'->Q W1 { s with heap:=h' }):ag (ai prog w) A (eK (.ref it)) Q E s:=by
 have S:s.TypeIs (.ref it) "dict_keyiterator":=⟨_,h1,rfl⟩;unfold eK;refine ae (ve (o0 (name:=dA "__next__") S yB
  (hZ yB S K0 ?_ (K2 _))))
 have G:A.in1.handled=W1:=T
 wp_walk using EG I g,EH I g,B4 h1 rfl,sw h1 rfl
 have W:(if (i:Int)<0 then W1 else es[(i:Int).toNat]?)=W1:=by rw[UF .(0),eC,EK O]
 rw[W];dsimp only
 wp_walk using sw h1 rfl
 .rw[UF (show ¬ EI ((EJ "dict_keyiterator").elim "dict_keyiterator" λx=>x.tpName)=E2 by decide +kernel)];show 0<4;decide
 .refine ae ?_;refine jW λh' e L ty=>wpAny_raiseNew_none G ?_;refine ae (rd ty EL (ar (h h' λb o U z=>L b o ?_)));exact ((vi ..).2 b U).trans z
theorem ZK{A:aE}{d:Addr}{es:Array oe}{J:Obj}{Q:ac->ah->Prop}(I:(d==fE)=E3)(G:J.ExactDict)(z:J.data=.dict es ep)(g:s.heap.get? d=X0 J)(h:Q .(11) { s with heap:=s.heap.push { cls:=.type "dict_keyiterator",data:=.fields #[.ref d,.int 0 0,.int es.size 0,.int ep 0] } }):ag (ai prog w) A (nI (.ref d)) Q E s:=by
 have S:s.TypeIs (.ref d) "dict":=⟨_,g,G.1⟩;refine EM S Kb (hZ Kb S F.entry_dict_iter ?_ (F.args_dict_iter_1 _));unfold fN.«dict.__iter__»
 wp_walk using EG g z,EH g z,wpAny_notOrdered_dict S
 exact⟨_,rfl,"dict_keyiterator",_,⟨_,bS _ rfl,rfl⟩,yB.lookup,h⟩
section
variable {A:aE}{I d:Addr}{es:Array oe}{od:Obj}
def AAR(h:Heap)(I d:Addr)(i n ep:Nat)(J:Obj):Prop:=h.get? I=X0 { cls:=.type "dict_keyiterator",data:=.fields #[.ref d,.int i 0,.int n 0,.int ep 0] }/\h.get? d=X0 J
def Walks.raw(T:A.handled=W1)(O:d≠I)(G:od.data=.dict es ep):ki prog w A I [I,d] [I] es.size (λi v=>∃L:i<es.size,v=(es[i]'L).key) (λi h=>AAR h I d i es.size ep od) where
 sub:=λb g=>by simp at g;simp[g]
 frame:=λ_ _ _ U S=>⟨S I .(1) _ U.1,S d .(1) _ U.2⟩
 item:=λi s Q E L U J=>by
  refine ZJ G L U.1 U.2 ?_;have Z:(s.heap.update I (sv (·.setIfInBounds 1 (eS ((i:Int)+1))))).get? I=X0 { cls:=.type "dict_keyiterator",data:=.fields #[.ref d,.int ((i+1:Nat):Int) 0,.int es.size 0,.int ep 0] }:=kG _ U.1 rfl;exact J _ _ s.toks ⟨L,rfl⟩ ⟨Z,(gE _ _ (cf O)).trans U.2⟩ λb o g e=>(gE _ _ (λz=>g (by simp[<-z]))).trans e
 done:=λs Q E U J=>Ut T G (aw _) U.1 U.2 λY W=>J Y s.toks λb o g e=>W b o (λz=>g (by simp[z])) e
 self:=λ_ _ _ _ U J=>JA ⟨_,U.1,rfl,rfl⟩ J
def rH(S:(d==fE)=E3)(G:od.ExactDict)(z:od.data=.dict es ep):Ki prog w "dict" d d es.size (λi v=>∃L:i<es.size,v=(es[i]'L).key) (λh=>h.get? d=X0 od) where
 type:=λ_ g=>⟨_,g,G.1⟩
 there:=λ_ g=>⟨bn g,bn g⟩
 keep:=λ_ _ g J=>J d (.inl rfl) _ g
 notList:=by decide
 notTuple:=by decide
 hint:=λ_ _ _ _ g T=>PySem.W.kdl_hint_dict ⟨_,g,G.1⟩ T
 iter:=λA s O g=>⟨_,_,λE Q T=>ZK S G z g T,Walks.raw O (bX (bn g)) z,bS _ rfl,ba _ g⟩
end
end PySem
namespace PV
open PySem PySem.Spec L2
open PyProof.Rows hiding St
section
variable {G:Gx}
theorem Pa(hc:X.calm=E2):Di X (.type "list") (λxs H Q=>∃p kvs,xs=[.ref p]/\Rd H p (.dT kvs)/\∀l (cs:List Addr),H l=W1->cs.length=kvs.length->(∀(i:Nat) (c:Addr) (q:List Key×V),cs[i]?=X0 c->kvs[i]?=X0 q->H c=X0 (.tup (q.1.map kV)))->Q (.ref l) (fk H l (.lst (cs.map V.ref)))):=by
 intro π s σ H xs us Q I r h;obtain⟨p,kvs,rfl,e,q⟩:=h;obtain⟨u,rfl,ru⟩:=r.one;cases ru;obtain⟨z,hd,d,T,o,Y,ep,ho,hx,Z,W,nd⟩:=(show BV X.prog X.w H s.heap p (.dT kvs) from iH I.hok e);have hl:kvs.length=d.length:=T.length;have hn:Y.size=d.length:=by rw[<-i8,W,av]
 refine ED (PySem.rH hd hx Z) (I.ok.hd hc) ho .(0) λh' tk L c' kp U hi=>?_;have va:cx ((d.map (·.2.1)).map V.ref) L.toList:=by
  have N0:L.toList.length=d.length:=by rw[i8,hi.1,hn]
  have g:∀(j:Nat) u,L.toList[j]?=X0 u->∃y,d[j]?=X0 y/\u=.ref y.2.1:=λj u hu=>by
   obtain⟨J,S⟩:=hi.2 j u (by simpa using hu);have hj:j<d.length:=by omega
   refine⟨d[j],by simp[hj],?_⟩;have e1:Y[j]=wv (ri (Av X.prog X.w)) d[j]:=by
    have:Y.toList[j]?=X0 (wv (ri (Av X.prog X.w)) d[j]):=by rw[W];simp[hj]
    have h3:Y.toList[j]?=X0 Y[j]:=by simp[J]
    rw[h3] at this;exact cS this
   rw[S,e1];rfl
  have O:∀{d:List (List Key×Addr×ac)}{us:List ac},us.length=d.length->(∀(j:Nat) u,us[j]?=X0 u->∃y,d[j]?=X0 y/\u=.ref y.2.1)->cx ((d.map (·.2.1)).map V.ref) us:=by
   intro d
   induction d with
   |nil=>intro us J _;rw[yA J];exact .nil
   |cons y r ih=>
    intro us J S;cases us with
    |nil=>simp at J
    |cons u us=>
     obtain⟨y',a1,a2⟩:=S 0 u rfl;simp at a1;subst a1;exact .cons a2 (ih (by simpa using J) λj v hv=>by simpa using S (j+1) v (by simpa using hv))
  exact O N0 g
 refine⟨.ref s.heap.objs.size,_,I.laid (t':=tk) kp (aw _) (show BV X.prog X.w _ h' _ (.lst ((d.map (·.2.1)).map V.ref)) from⟨by rw[av,av];omega,L.toList,c',va,by simpa using U⟩),rfl,q _ _ (I.hok.fresh (aw _)) (by rw[av];exact hl.symm) λi c qq J S=>?_⟩;rw[br] at J;cases e3:d[i]? with
 |none=>rw[e3] at J;cases J
 |some y=>
  rw[e3] at J;cases J;exact (Ie T S e3).2.1
def TX:D->Option D
 |.dt g=>X0 (.lst (g.map λp=>.tup (p.1.map Sn)))
 |d=>listE d
theorem Xf{H:Hp}:∀(k:List Key),be G H (k.map kV) (k.map Sn)
 |[]=>.nil
 |k::r=>.cons (Rp k) (Xf r)
theorem mr.dt{A:List Addr}{H:Hp}{v:V}{d:List (List Key×D)}(r:mr G A H v (.dt d)):∃a kvs,v=.ref a/\Rd H a (.dT kvs)/\kvs.map (·.1)=d.map (·.1)/\be G (cc A H) (kvs.map (·.2)) (d.map (·.2)):=by
 rcases r with r | ⟨a,e,kvs,h,k,r⟩
 .cases r with
  |dt h k r=>
   refine⟨_,_,rfl,.inr ⟨_,Am _ _ h⟩,k,?_,r⟩;have:=SG cy k;rw[av,av] at this ⊢;exact this
 .exact⟨a,kvs,e,.of h,k,r⟩
def VJ:Sk G (λxs H Q=>((∃p ys,xs=[.ref p]/\(MO G.K H p ys∨MZ G.K H p ys)/\∀l,H l=W1->Q (.ref l) (fk H l (.lst ys)))∨∃p kvs,xs=[.ref p]/\Rd H p (.dK kvs)/\∀l,H l=W1->Q (.ref l) (fk H l (.lst (kvs.map λq=>kV q.1)))) ∨
  ∃p kvs,xs=[.ref p]/\Rd H p (.dT kvs)/\∀l (cs:List Addr),H l=W1->cs.length=kvs.length->(∀(i:Nat) (c:Addr) (q:List Key×V),cs[i]?=X0 c->kvs[i]?=X0 q->H c=X0 (.tup (q.1.map kV)))->Q (.ref l) (fk H l (.lst (cs.map V.ref)))) TX:=by
 intro A H x dx d Q S rx h k;unfold TX at h;split at h
 .rename_i g;cases h;obtain⟨p,kvs,rfl,h1,Z,r⟩:=rx.dt;have hl:kvs.length=g.length:=by have:=SG cy Z;rwa [av,av] at this
  refine .inr ⟨p,kvs,rfl,h1,λl cs L N0 hc=>k _ _ (Aj L _) (Cz S L ⟨by rw[av,av];omega,λi v dd J I=>?_⟩)⟩;rw[br] at J I;cases U:cs[i]? with
  |none=>rw[U] at J;cases J
  |some c=>
   cases O:g[i]? with
   |none=>rw[O] at I;cases I
   |some W=>
    rw[U] at J;rw[O] at I;cases J;cases I;have hi:i<kvs.length:=by rw[hl];exact (dP.mp O).1
    have g3:kvs[i]?=X0 kvs[i]:=by simp[hi]
    have ek:(kvs[i]).1=W.1:=by
     have a1:(kvs.map (·.1))[i]?=X0 (kvs[i]).1:=by rw[br,g3];rfl
     rw[Z,br,O] at a1;exact (cS a1).symm
    have T:=hc i c _ U g3;rw[ek] at T;have nA:c∉A:=λz=>(S c z).tup _ T;have Y:=Xf (G:=G) (H:=cc A H) W.1;exact .tup (.of (by rw[BK nA];exact T)) Y.1 Y.2
 .exact .inl (eQ A H x dx d Q S rx h k)
end
def xV{d:Type}(l:List d)(k:Nat):NR l W1 (X0 (k:Int))=l.take k:=by
 unfold NR HT.sIx;simp;rw[UF .(0)]
 first | omega | (rw[List.take_eq_take_iff];omega)
def jY{d:Type}{xs:List d}{i:Int}(J:0<=i)(h1:i<xs.length):atI xs i=xs[i.toNat]?:=by
 unfold atI ixN;rw[SF J,SF h1];rfl
def Hz(i j:Int)(h:0<j):oo (.int i) (.int j)=X0 (.int (i%j)):=by
 show (if 0<j then X0 (D.int (i%j)) else W1)=_;rw[SF h]
def Ha(i j:Int)(h:0<j)(d:j<1073741824):Ec (.int i) (.int j)=X0 (.int (i/j)):=by
 show (if CDiv i j then X0 (D.int (i/j)) else W1)=_;rw[SF ⟨h,d⟩]
def Pb(i j:Int)(h : -(2^64)<j/\j<2^64):NO (.int i) (.int j)=X0 (.int (i*j)):=by
 show (if O7 i j then X0 (D.int (i*j)) else W1)=_;rw[SF (.inl (.inr h))]
def rJ(i j:Int)(h : -(2^64)<i/\i<2^64):NO (.int i) (.int j)=X0 (.int (i*j)):=by
 show (if O7 i j then X0 (D.int (i*j)) else W1)=_;rw[SF (.inl (.inl h))]
def TY(i j:Int):sq (.int i) (.int j)=X0 (.int (i+j)):=fy _
def V9(i j:Int):ZU (.int i) (.int j)=X0 (.int (i-j)):=fy _
def VL(i j:Int):ltD (.int i) (.int j)=X0 (.bl (decide (i<j))):=fy _
def aL(i j:Int):gtD (.int i) (.int j)=X0 (.bl (decide (j<i))):=fy _
def aM(i j:Int):leD (.int i) (.int j)=X0 (.bl (decide (i<=j))):=fy _
def jZ(i j:Int):geD (.int i) (.int j)=X0 (.bl (decide (j<=i))):=fy _
def Xg(i j:Int):Nd E3 (.int i) (.int j)=X0 (.bl (decide (i=j))):=fy _
def Ig(h:n<=10000000):n<=sizeLine:=cw h .(2)
def xW{i j:List D}(h:i.length+j.length<=10000000):sq (.lst i) (.lst j)=X0 (.lst (i++j)):=by
 show (if _ then _ else _)=_;rw[SF (Ig h)]
def jb{i j:Str}(h:i.length+j.length<=10000000):sq (.str i) (.str j)=X0 (.str (i++j)):=by
 show (if _ then _ else _)=_;rw[SF (Ig h)]
theorem MN{b:D->FS}{P:Nat->Rho->Prop}:∀{ds:List D}{ρ:Rho}(k:Nat),P k ρ->(∀(i:Nat) d ρ,ds[i]?=X0 d->P (k+i) ρ->∃g,b d ρ=X0 (.nx g)/\P (k+i+1) g)->∃g,ot b ds ρ=X0 (.nx g)/\P (k+ds.length) g
 |[],ρ,k,J,_=>⟨ρ,rfl,by simpa using J⟩
 |d::r,ρ,k,J,hs=>by
  obtain⟨O,U,G⟩:=hs 0 d ρ rfl (by simpa using J);obtain⟨z,T,L⟩:=MN (ds:=r) (ρ:=O) (k+1) (by simpa using G) λi W g S I=>by
   have:=hs (i+1) W g (by simpa using S) (by rw[show k+(i+1)=k+1+i by omega];exact I);rw[show k+(i+1)+1=k+1+i+1 by omega] at this;exact this
  refine⟨z,?_,by rw[d3,show k+(r.length+1)=k+1+r.length by omega];exact L⟩;unfold ot;rw[U];exact T
def Rq{src:FI}{g:FT}{fe:FE}{ρ:Rho}{ds out:List D}(h:src ρ=X0 ds)(hz:ds.length<=10000000)(I:J7 ρ g fe ds=X0 out):A_ src g fe ρ=X0 (.lst out):=by
 unfold A_;rw[h];show (if ds.length<=sizeLine then (J7 ρ g fe ds).map D.lst else W1)=_;rw[SF (Ig hz),I];rfl
def jc(o:Option Pw)(L:FS):Option Pw:=match o with | some (.nx d)=>L d | o=>o
def MP(g gs:FS)(ρ:Rho):bm g gs ρ=jc (g ρ) gs:=fy _
def Si(L:FS)(ρ:Rho):jc (X0 (.nx ρ)) L=L ρ:=fy _
def e_rt(L:FS)(d:D)(ρ:Rho):jc (X0 (.rt d ρ)) L=X0 (.rt d ρ):=fy _
def ux(ρ:Rho):RY ρ=X0 (.nx ρ):=fy _
def iteO(o:Option Bool)(g L:FS)(ρ:Rho):Option Pw:=match o with | some E2=>g ρ | some E3=>L ρ | none=>W1
def e_if(t:FT)(g L:FS)(ρ:Rho):Pm t g L ρ=iteO (t ρ) g L ρ:=fy _
def uy(g L:FS)(ρ:Rho):iteO (X0 E2) g L ρ=g ρ:=fy _
def uz(g L:FS)(ρ:Rho):iteO (X0 E3) g L ρ=L ρ:=fy _
def setO(i:Nat)(ρ:Rho)(o:Option D):Option Pw:=o.map λd=>.nx (ρ.set i (.fz d))
def aN(i:Nat)(f:FE)(ρ:Rho):im i f ρ=setO i ρ (f ρ):=fy _
def V_(i:Nat)(ρ:Rho)(d:D):setO i ρ (X0 d)=X0 (.nx (ρ.set i (.fz d))):=fy _
def retO(ρ:Rho)(o:Option D):Option Pw:=o.map λd=>.rt d ρ
def u0(f:FE)(ρ:Rho):gq f ρ=retO ρ (f ρ):=fy _
def jd(d:D)(ρ:Rho):retO ρ (X0 d)=X0 (.rt d ρ):=fy _
def je(ρ:Rho):retN ρ=X0 (.rt .non ρ):=fy _
def u9(ρ:Rho)(o:Option D):Option Pw:=o.map λ_=>.nx ρ
def jf(f:FE)(ρ:Rho):HD f ρ=u9 ρ (f ρ):=fy _
def aO(ρ:Rho)(d:D):u9 ρ (X0 d)=X0 (.nx ρ):=fy _
def b2(g:D->D->Option D)(x y:Option D):Option D:=x.bind λx=>y.bind λy=>g x y
def e_b(g:D->D->Option D)(S d:FE)(ρ:Rho):bF g S d ρ=b2 g (S ρ) (d ρ):=fy _
def e_bs(g:D->D->Option D)(x y:D):b2 g (X0 x) (X0 y)=g x y:=fy _
def b1(g:D->Option D)(x:Option D):Option D:=x.bind g
def e_u(g:D->Option D)(S:FE)(ρ:Rho):uF g S ρ=b1 g (S ρ):=fy _
def e_us(g:D->Option D)(x:D):b1 g (X0 x)=g x:=fy _
def cl1(g:List D->Option D)(x:Option (List D)):Option D:=x.bind g
def jg(g:List D->Option D)(fs:FA)(ρ:Rho):An g fs ρ=cl1 g (fs ρ):=fy _
def aP(g:List D->Option D)(ds:List D):cl1 g (X0 ds)=g ds:=fy _
def u_(x:Option D)(y:Option (List D)):Option (List D):=x.bind λd=>y.map (d::·)
def jh(S:FE)(fs:FA)(ρ:Rho):Aa S fs ρ=u_ (S ρ) (fs ρ):=fy _
def aQ(d:D)(ds:List D):u_ (X0 d) (X0 ds)=X0 (d::ds):=fy _
def vA(ρ:Rho):af ρ=X0 []:=fy _
def tupO(o:Option (List D)):Option D:=o.bind λds=>if ds.length<=sizeLine then X0 (.tup ds) else W1
def lstO(o:Option (List D)):Option D:=o.bind λds=>if ds.length<=sizeLine then X0 (.lst ds) else W1
def vB(fs:FA)(ρ:Rho):Pt fs ρ=tupO (fs ρ):=fy _
def vC(fs:FA)(ρ:Rho):Mo fs ρ=lstO (fs ρ):=fy _
def ji(a:D):tupO (X0 [a])=X0 (.tup [a]):=fy _
def jk(a b:D):tupO (X0 [a,b])=X0 (.tup [a,b]):=fy _
def jl:lstO (X0 [])=X0 (.lst []):=fy _
def jo(a:D):lstO (X0 [a])=X0 (.lst [a]):=fy _
def jq(a b:D):lstO (X0 [a,b])=X0 (.lst [a,b]):=fy _
def jr(a b c:D):lstO (X0 [a,b,c])=X0 (.lst [a,b,c]):=fy _
def jt(a b c d e:D):lstO (X0 [a,b,c,d,e])=X0 (.lst [a,b,c,d,e]):=fy _
def blO(o:Option D):Option Bool:=match o with | some (.bl b)=>X0 b | _=>W1
def e_bl(f:FE)(ρ:Rho):tu f ρ=blO (f ρ):=fy _
def vD(b:Bool):blO (X0 (.bl b))=X0 b:=fy _
def andO(o:Option Bool)(d:FT)(ρ:Rho):Option Bool:=match o with | some E2=>d ρ | some E3=>X0 E3 | none=>W1
def orO(o:Option Bool)(d:FT)(ρ:Rho):Option Bool:=match o with | some E2=>X0 E2 | some E3=>d ρ | none=>W1
def ju(a b:FT)(ρ:Rho):Tl a b ρ=andO (a ρ) b ρ:=fy _
def aR(b:FT)(ρ:Rho):andO (X0 E2) b ρ=b ρ:=fy _
def aU(b:FT)(ρ:Rho):andO (X0 E3) b ρ=X0 E3:=fy _
def vG(a b:FT)(ρ:Rho):orT a b ρ=orO (a ρ) b ρ:=fy _
def jw(b:FT)(ρ:Rho):orO (X0 E2) b ρ=X0 E2:=fy _
def ZL(b:FT)(ρ:Rho):orO (X0 E3) b ρ=b ρ:=fy _
def jz(a:FT)(ρ:Rho):Pe a ρ=(a ρ).map (!·):=fy _
def andP(o:Option D)(d:FE)(ρ:Rho):Option D:=match o with | some (.bl E2)=>d ρ | some (.bl E3)=>X0 (.bl E3) | _=>W1
def orP(o:Option D)(d:FE)(ρ:Rho):Option D:=match o with | some (.bl E2)=>X0 (.bl E2) | some (.bl E3)=>d ρ | _=>W1
def j5(a b:FE)(ρ:Rho):andF a b ρ=andP (a ρ) b ρ:=fy _
def aV(b:FE)(ρ:Rho):andP (X0 (.bl E2)) b ρ=b ρ:=fy _
def vH(a b:FE)(ρ:Rho):orF a b ρ=orP (a ρ) b ρ:=fy _
def j6(b:FE)(ρ:Rho):orP (X0 (.bl E2)) b ρ=X0 (.bl E2):=fy _
def j7(b:FE)(ρ:Rho):orP (X0 (.bl E3)) b ρ=b ρ:=fy _
def sl3(f:Option D)(l h:Option (Option Int)):Option D:=f.bind λx=>l.bind λd=>h.bind λz=>slD x d z
def e_sl(f:FE)(l h:FO)(ρ:Rho):slF f l h ρ=sl3 (f ρ) (l ρ) (h ρ):=fy _
def vI(x:D)(l h:Option Int):sl3 (X0 x) (X0 l) (X0 h)=slD x l h:=fy _
def vJ(ρ:Rho):noO ρ=X0 W1:=fy _
def somO(o:Option D):Option (Option Int):=match o with | some (.int i)=>X0 (X0 i) | _=>W1
def aW(f:FE)(ρ:Rho):Re f ρ=somO (f ρ):=fy _
def Xh(i:Int):somO (X0 (.int i))=X0 (X0 i):=fy _
def UU(o:Option Slot):Option D:=match o with | some (.fz d)=>X0 d | _=>W1
def getU(o:Option Slot):Option D:=match o with | some (.fz d)=>X0 d | some (.ow d)=>X0 d | _=>W1
def e_v(i:Nat)(ρ:Rho):vF i ρ=UU (ρ[i]?):=fy _
def SZ(d:D):UU (X0 (.fz d))=X0 d:=fy _
def e_vU(i:Nat)(ρ:Rho):vU i ρ=getU (ρ[i]?):=fy _
def vK(d:D):getU (X0 (.ow d))=X0 d:=fy _
def e_k(d:D)(ρ:Rho):kF d ρ=X0 d:=fy _
def rngO(o:Option D):Option (List D):=match o with | some (.int j)=>if -(2^62)<=j/\j<2^62 then X0 (tx j.toNat) else W1 | _=>W1
def ZM(f:FE)(ρ:Rho):vb f ρ=rngO (f ρ):=fy _
def Jz(j:Int)(h : -(2^62)<=j/\j<2^62):rngO (X0 (.int j))=X0 (tx j.toNat):=by
 show (if _ then _ else _)=_;rw[SF h]
def forO(o:Option (List D))(tg:FG)(b:FS)(ρ:Rho):Option Pw:=o.bind λds=>ot (OY tg b) ds ρ
def aX(src:FI)(tg:FG)(b:FS)(ρ:Rho):Cs src tg b ρ=forO (src ρ) tg b ρ:=fy _
def WD(ds:List D)(tg:FG)(b:FS)(ρ:Rho):forO (X0 ds) tg b ρ=ot (OY tg b) ds ρ:=fy _
def ccO(o:Option Bool)(e:Option D)(r:Option (List D)):Option (List D):=match o with | some E2=>e.bind λy=>r.map (y::·) | some E3=>r | none=>W1
def Kr(ρ:Rho)(g:FT)(fe:FE)(d:D)(r:List D):J7 ρ g fe (d::r)=ccO (g (ρ++[.fz d])) (fe (ρ++[.fz d])) (J7 ρ g fe r):=fy _
def AAS(y:D)(r:List D):ccO (X0 E2) (X0 y) (X0 r)=X0 (y::r):=fy _
def AAT(y:Option D)(r:Option (List D)):ccO (X0 E3) y r=r:=fy _
def j8(ρ:Rho):nq ρ=X0 E2:=fy _
def runO(o:Option Pw):Option D:=match o with | some (.rt d _)=>X0 d | some (.nx _)=>X0 .non | _=>W1
def j9{g:Nat}{b:FS}{ds:List D}(h:ds.length=g):li n g b ds=runO (b (Cu n ds)):=by
 unfold li;rw[SF h];rfl
def j_(d:D)(ρ:Rho):runO (X0 (.rt d ρ))=X0 d:=fy _
def kE(ρ:Rho):runO (X0 (.nx ρ))=X0 .non:=fy _
def Xi{d g:Type}(f:d->g)(x:d):Option.map f (X0 x)=X0 (f x):=fy _
def kI{d g:Type}(f:d->Option g)(x:d):Option.bind (X0 x) f=f x:=fy _
def Tc(n:Nat)(ds:List D):Cu n ds=ds.map .fz++xp (n-ds.length) .un:=fy _
def truB(b:Bool):ZT (.bl b)=X0 b:=fy _
def Qo{d:Type}(l:List d)(k:Nat):atI l (k:Int)=l[k]?:=by
 unfold atI ixN;rw[SF .(0)]
 by_cases h:k<l.length
 .rw[SF .(0)];simp
 .rw[UF .(0),qf .(0)];rfl
def e_tr(f:FE)(ρ:Rho):TH f ρ=(f ρ).bind ZT:=fy _
def Ob(x y:Str):(x++y).length=x.length+y.length:=by
 show (x.cps++y.cps).size=_;simp[oa]
def AAV(z:Str)(h:z.length<=10000000):Pi (.str z)=X0 (.int z.length):=by
 show (if z.length<=sizeLine then X0 (D.int z.length) else W1)=_;rw[SF (Ig h)]
def VM(l:List D):Pi (.lst l)=X0 (.int l.length):=fy _
def aZ(x:Str)(d:List Str):inD E3 (.str x) (.lst (d.map .str))=X0 (.bl (d.any (λy=>y==x))):=by
 have h:∀d:List Str,NW (d.map .str)=X0 (d.map V.str):=λd=>by
  induction d with
  |nil=>rfl
  |cons y r z=>simp[NW,SU,z]
 show ((SU (.str x)).bind λv=>(NW (d.map .str)).map λg=>D.bl (VO v g))=_;rw[h];show X0 (D.bl (VO (.str x) (d.map V.str)))=_;simp[VO,B8,io,RI]
def Gd(n:Nat):(tx n).length=n:=by simp[tx]
def eX(ys:List Str):Ng (ys.map .str)=X0 ys:=by
 induction ys with
 |nil=>rfl
 |cons y r d=>simp[Ng,d]
def vL(i:Nat)(ρ:Rho)(o:Option D):Option Pw:=o.map λd=>.nx (ρ.set i (.ow d))
def kJ(i:Nat)(f:FE)(ρ:Rho):setW i f ρ=vL i ρ (f ρ):=fy _
def aa(i:Nat)(ρ:Rho)(d:D):vL i ρ (X0 d)=X0 (.nx (ρ.set i (.ow d))):=fy _
def mutO(g:D->D->Option D)(i:Nat)(ρ:Rho)(x v:Option D):Option Pw:=v.bind λv=>x.bind λx=>(g x v).map λy=>.nx (ρ.set i (.ow y))
def getW(o:Option Slot):Option D:=match o with | some (.ow d)=>X0 d | _=>W1
def kO(g:D->D->Option D)(i:Nat)(f:FE)(ρ:Rho):Sa g i f ρ=mutO g i ρ (getW ρ[i]?) (f ρ):=fy _
def ZP(g:D->D->Option D)(i:Nat)(ρ:Rho)(x v:D):mutO g i ρ (X0 x) (X0 v)=(g x v).map λy=>.nx (ρ.set i (.ow y)):=fy _
def Ks(d:D):getW (X0 (.ow d))=X0 d:=fy _
def forB(o:Option Pw)(b:D->FS)(r:List D):Option Pw:=match o with
  |some (.nx d)=>ot b r d
  |some (.ct d)=>ot b r d
  |some (.bk d)=>X0 (.nx d)
  |some (.rt e d)=>X0 (.rt e d)
  |none=>W1
def GR(b:D->FS)(d:D)(r:List D)(ρ:Rho):ot b (d::r) ρ=forB (b d ρ) b r:=fy _
def By(b:D->FS)(r:List D)(ρ:Rho):forB (X0 (.nx ρ)) b r=ot b r ρ:=fy _
def bndO(o:Option Rho)(b:FS):Option Pw:=o.bind b
def Sf(tg:FG)(b:FS)(d:D)(ρ:Rho):OY tg b d ρ=bndO (tg d ρ) b:=fy _
def Lh(ρ:Rho)(b:FS):bndO (X0 ρ) b=b ρ:=fy _
def Ku(i:Nat)(d:D)(ρ:Rho):Ax i d ρ=X0 (ρ.set i (.fz d)):=fy _
abbrev FZ:=Rho->Option (D×Rho)
abbrev FZA:=Rho->Option (List D×Rho)
abbrev Ef:=List (Str×Bool×D)
abbrev Ps:=Rho->Ef->Option (Rho×Ef)
abbrev FTE:=Rho->Ef->Option Bool
def OO(ρ:Rho):Bool:=ρ.all λz=>match z with | .ow _=>E3 | _=>E2
def OZ(g:FS):Ps:=λρ z=>match g ρ with | some (.nx d)=>if OO d=E2 then X0 (d,z) else W1 | _=>W1
def JB(f:Str)(fe:FE):Ps:=λρ z=>(fe ρ).bind λd=>if (z.lookup f).isNone=E2/\z.length<1000 then X0 (ρ,z++[(f,E3,d)]) else W1
def RM(f:Str)(fe:FE):Ps:=λρ z=>(fe ρ).bind λd=>if (z.lookup f).isNone=E2/\z.length<1000 then X0 (ρ,z++[(f,E2,d)]) else W1
def ON(f:Str)(d:D):Ef->Ef
 |[]=>[]
 | (g,b,x)::r=>if g=f then (g,b,d)::r else (g,b,x)::ON f d r
def RN(f:Str)(G g:FE):Ps:=λρ z=>(g ρ).bind λv=>(G ρ).bind λk=>match z.lookup f with | some (E2,d)=>(DG d k v).map λd'=>(ρ,ON f d' z) | _=>W1
def Td(t:FT):FTE:=λρ _=>t ρ
def YI(f:Str)(g:FE):FTE:=λρ z=>(g ρ).bind λk=>match z.lookup f with | some (E2,.dk d)=>(Pl k).map λq=>(wh q d).isSome | _=>W1
def orTE(a b:FTE):FTE:=λρ z=>match a ρ z with | some E2=>X0 E2 | some E3=>b ρ z | none=>W1
def ifE(t:FTE):Ps:=λρ z=>match t ρ z with | some E3=>X0 (ρ,z) | _=>W1
def nilE:Ps:=λρ z=>X0 (ρ,z)
def Ge(g L:Ps):Ps:=λρ z=>(g ρ z).bind λr=>L r.1 r.2
def Jk(tg:FG)(b:Ps):List D->Ps
 |[],ρ,z=>X0 (ρ,z)
 |d::r,ρ,z=>(tg d ρ).bind λO=>if OO O=E2 then (b O z).bind λq=>Jk tg b r q.1 q.2 else W1
def YO(src:FI)(tg:FG)(b:Ps):Ps:=λρ z=>(src ρ).bind λds=>Jk tg b ds ρ z
def Te(n:Nat)(x:Addr)(ds:List D):Rho:=Cu n (.adr x::ds)
def XU(n g:Nat)(b:Ps)(x:Addr)(ds:List D):Option Ef:=if ds.length+1=g then (b (Te n x ds) []).map (·.2) else W1
def finE(c:Str)(z:Ef):D:=.ob c (z.map λp=>(p.1,p.2.2))
open Classical in
noncomputable def mkI(c:Str)(g:Addr->List D->Option Ef)(fs:FA):FE:=λρ=>(fs ρ).bind λds=>(g 0 ds).bind λz=>if ∀x,g x ds=X0 z then X0 (finE c z) else W1
end PV
variable {g:List PV.D->Option PV.D}{d:PV.D}{G:PV.Gx}{ds:List PV.D}{ρ:PV.Rho}{kds:List (L2.Key×PV.D)}{src:PV.FI}{fg:PV.FG}{ga ft:PV.FT}{fe:PV.FE}{ε:PV.Ef}
namespace PV
open PySem PySem.Spec L2
open PyProof.Rows hiding St
def Xj:dL "tuple"=X0 (.type "tuple"):=by decide +kernel
section
variable {x:Addr}
def MS.sub(t:MS G B H a d)(h:∀a∈A,a∈B):MS G A H a d:=by
 cases d with
 |lst I=>obtain⟨z,q1,q2⟩:=t;exact⟨z,q1,q2.mono (Ed h)⟩
 |dk I=>obtain⟨z,q1,q2,q3⟩:=t;exact⟨z,q1,q2,q3.mono (Ed h)⟩
 |dt I=>obtain⟨z,q1,q2,q3⟩:=t;exact⟨z,q1,q2,q3.mono (Ed h)⟩
 |ob c L=>obtain⟨C,dx,z,q1,q2,q3⟩:=t;exact⟨C,dx,z,q1,q2,q3.mono (Ed h)⟩
 |_=>exact t.elim
def Nh(x:Addr)(H z:Hp):Prop:=∀b o,b≠x->H b=X0 o->z b=X0 o
def Ir(J:x∈A)(s:Nh x H H'):ab (cc A H) (cc A H'):=λb o h=>by
 unfold cc at h ⊢;split at h
 .cases h
 .rename_i I;rw[UF I];exact s b o (λz=>I (z▸J)) h
def MS.other(t:MS G A H q d)(Z:q≠x)(L:x∈A)(s:Nh x H H'):MS G A H' q d:=by
 have I:=Ir L s;cases d with
 |lst J=>obtain⟨z,q1,q2⟩:=t;exact⟨z,s _ _ Z q1,q2.mono I⟩
 |dk J=>obtain⟨z,q1,q2,q3⟩:=t;exact⟨z,s _ _ Z q1,q2,q3.mono I⟩
 |dt J=>obtain⟨z,q1,q2,q3⟩:=t;exact⟨z,s _ _ Z q1,q2,q3.mono I⟩
 |ob c O=>obtain⟨C,dx,z,q1,q2,q3⟩:=t;exact⟨C,dx,z,s _ _ Z q1,q2,q3.mono I⟩
 |_=>exact t.elim
end
def tX(G:Gx)(A0:List Addr)(O:Hp)(h:FZ):TE:=λL H Q=>∃ρ d z A,NM G A0 O A L H ρ/\h ρ=X0 (d,z)/\∀v I J,NM G A0 O J L I z->ab (cc A H) (cc J I)->il G (cc J I) v d->Q v I
def PX(X:Cx)(G:Gx)(e:Expr)(h:FZ):Prop:=∀⦃A0⦄ He,PE X e (tX G A0 He h)
def DK(h:OO ρ=E2)(i:Nat)(d:D):ρ[i]?≠X0 (.ow d):=λe=>by
 unfold OO at h;rw[eD] at h;have:=h _ (ic e);cases this
inductive ti (G:Gx) (A0 A:List Addr) (H:Hp) (x:Addr):List (Str×V)->Ef->List Addr->Prop
 |nil:ti G A0 A H x [] [] []
 |pl {f:Str}{v:V}{d:D}{fs:List (Str×V)}{ε:Ef}{as:List Addr}:il G (cc A H) v d->ti G A0 A H x fs ε as->ti G A0 A H x ((f,v)::fs) ((f,E3,d)::ε) as
 |ow {f:Str}{a:Addr}{d:D}{fs:List (Str×V)}{ε:Ef}{as:List Addr}:a∈A->a∉A0->a≠x->a∉as->MS G A H a d->ti G A0 A H x fs ε as->ti G A0 A H x ((f,.ref a)::fs) ((f,E2,d)::ε) (a::as)
section
variable {A':List Addr}{x:Addr}{fs:List (Str×V)}{as:List Addr}
def ti.mp(h:ti G A0 A H x fs ε as)(r:∀v d,il G (cc A H) v d->il G (cc A' H') v d)(t:∀a∈as,∀d,MS G A H a d->MS G A' H' a d)(s:∀a∈as,a∈A->a∈A'):ti G A0 A' H' x fs ε as:=by
 induction h with
 |nil=>exact .nil
 |pl J _ z=>exact .pl (r _ _ J) (z t s)
 |ow U T S L O _ z=>exact .ow (s _ df U) T S L (t _ df _ O) (z (λa I=>t a (cp _ I)) (λa I=>s a (cp _ I)))
def ti.names(h:ti G A0 A H x fs ε as):fs.map (·.1)=ε.map (·.1):=by
 induction h with
 |nil=>rfl
 |pl _ _ z=>simp[z]
 |ow _ _ _ _ _ _ z=>simp[z]
def ti.len(h:ti G A0 A H x fs ε as):fs.length=ε.length:=by
 have:=SG cy h.names;simpa using this
def ti.ne(h:ti G A0 A H x fs ε as):∀a∈as,a∈A/\a∉A0/\a≠x:=by
 induction h with
 |nil=>intro a J;cases J
 |pl _ _ I=>exact I
 |ow O L S _ _ _ I=>
  intro a J
  rcases bp.mp J with z | z
  .subst z;exact⟨O,L,S⟩
  .exact I a z
theorem Qp{f:Str}{v:V}:∀{fs:List (Str×V)},fs.lookup f=W1->L2.putF f v fs=fs++[(f,v)]
 |[],_=>rfl
 | (g,y)::r,h=>by
  by_cases I:f=g
  .subst I;simp[ca] at h
  .have J:(f==g)=E3:=beq_eq_false_iff_ne.mpr I;simp only[ca,J] at h;show (if g=f then (g,v)::r else (g,y)::L2.putF f v r)=_;rw[UF (λz=>I z.symm),Qp h];rfl
def ti.none(h:ti G A0 A H x fs ε as)(e:ε.lookup f=W1):fs.lookup f=W1:=by
 induction h with
 |nil=>rfl
 | @pl g v d fs ε as _ _ I=>
  by_cases z:f=g
  .subst z;simp[ca] at e
  .have J:(f==g)=E3:=beq_eq_false_iff_ne.mpr z;simp only[ca,J] at e ⊢;exact I e
 | @ow g a d fs ε as _ _ _ _ _ _ I=>
  by_cases z:f=g
  .subst z;simp[ca] at e
  .have J:(f==g)=E3:=beq_eq_false_iff_ne.mpr z;simp only[ca,J] at e ⊢;exact I e
def ti.snocP(h:ti G A0 A H x fs ε as)(r:il G (cc A H) v d):ti G A0 A H x (fs++[(f,v)]) (ε++[(f,E3,d)]) as:=by
 induction h with
 |nil=>exact .pl r .nil
 |pl I _ z=>exact .pl I z
 |ow T L S J O _ z=>exact .ow T L S J O z
def ti.snocO(h:ti G A0 A H x fs ε as)(h1:a∈A)(U:a∉A0)(T:a≠x)(J:a∉as)(t:MS G A H a d):ti G A0 A H x (fs++[(f,.ref a)]) (ε++[(f,E2,d)]) (as++[a]):=by
 induction h with
 |nil=>exact .ow h1 U T (λz=>nomatch z) t .nil
 |pl L _ I=>exact .pl L (I J)
 | @ow g b e fs ε as q1 q2 q3 O Y _ I=>
  have S:a≠b:=λz=>J (by simp[z]);refine .ow q1 q2 q3 (λz=>?_) Y (I λz=>J (cp _ z))
  rcases eJ.mp z with z | z
  .exact O z
  .simp at z;exact S z.symm
def ti.get(h:ti G A0 A H x fs ε as)(e:ε.lookup f=X0 (E2,d)):∃a,fs.lookup f=X0 (.ref a)/\a∈as/\a∈A/\a∉A0/\a≠x/\MS G A H a d:=by
 induction h with
 |nil=>cases e
 | @pl g v U fs ε as _ _ I=>
  by_cases z:f=g
  .subst z;simp[ca] at e
  .have J:(f==g)=E3:=beq_eq_false_iff_ne.mpr z;simp only[ca,J] at e ⊢;exact I e
 | @ow g a U fs ε as T L S _ O _ I=>
  by_cases z:f=g
  .subst z;simp only[ca,PH,EE,re,true_and] at e ⊢;subst e;exact⟨a,rfl,df,T,L,S,O⟩
  .have J:(f==g)=E3:=beq_eq_false_iff_ne.mpr z;simp only[ca,J] at e ⊢;obtain⟨W,q1,q2,q3⟩:=I e;exact⟨W,q1,cp _ q2,q3⟩
def ti.wr{d':D}(h:ti G A0 A H x fs ε as)(e:ε.lookup f=X0 (E2,d))(J:fs.lookup f=X0 (.ref a))(sx:Nh a H H')(W:a∈A)(t:MS G A H' a d'):ti G A0 A H' x fs (ON f d' ε) as:=by
 have U:=Ir W sx
 induction h with
 |nil=>cases e
 | @pl g v d2 fs ε as rv S O=>
  by_cases I:f=g
  .subst I;simp[ca] at e
  .have T:(f==g)=E3:=beq_eq_false_iff_ne.mpr I;simp only[ca,T] at e J;unfold ON;rw[UF (λz=>I z.symm)];exact .pl (rv.mono U) (O e J)
 | @ow g b d2 fs ε as h1 Z Y L h5 S O=>
  by_cases I:f=g
  .subst I;simp only[ca,PH,EE,V.ref.injEq] at J;subst J;unfold ON;rw[SF rfl];refine .ow h1 Z Y L t (S.mp (λv d r=>r.mono U) (λc hc d t'=>t'.other (λz=>L (by rw[<-z];exact hc)) W sx) λ_ _ z=>z)
  .have T:(f==g)=E3:=beq_eq_false_iff_ne.mpr I;simp only[ca,T] at e J;obtain⟨a',q1,q2,_⟩:=S.get e;rw[J] at q1;cases q1;unfold ON;rw[UF (λz=>I z.symm)];exact .ow h1 Z Y L (h5.other (λz=>L (z▸q2)) W sx) (O e J)
end
structure VI (G:Gx) (c:Str) (A0:List Addr) (He:Hp) (x:Addr) (A:List Addr) (σ:St) (H:Hp) (ρ:Rho) (ε:Ef):Prop where
 w:NM G A0 He A σ H ρ
 no:OO ρ=E2
 xA:x∈A
 x0:x∉A0
 s0:ρ[0]?=X0 (.fz (.adr x))
 ob:∃C dx fs as,H x=X0 (.ins C dx fs)/\G.cl c=X0 C/\ti G A0 A H x fs ε as
def Zs(G:Gx)(c:Str)(A0:List Addr)(J:Hp)(x:Addr)(z:St)(H:Hp)(ρ:Rho)(I:Ef):Prop:=∃A,VI G c A0 J x A z H ρ I
section
variable {x:Addr}
theorem VI.at0(o:VI G c A0 He x A σ H ρ ε):σ[0]?=X0 (X0 (.ref x)):=by
 obtain⟨v,I,z⟩:=o.w.ok.fz 0 _ o.s0;cases z;exact I
theorem VI.mono(o:VI G c A0 He x A σ H ρ ε)(s:ab H H'):VI G c A0 He x A σ H' ρ ε:=by
 obtain⟨C,dx,fs,as,J,I,S⟩:=o.ob;exact⟨o.w.mono s,o.no,o.xA,o.x0,o.s0,C,dx,fs,as,s _ _ J,I,S.mp (λv d r=>r.mono (Az s)) (λa L d t=>t.mono s) λ_ _ z=>z⟩
def kW(s:ab H H')(fr:∀a∈B,a∈A∨H a=W1):ab (cc A H) (cc B H'):=λb u h=>by
 unfold cc at h;split at h
 .cases h
 .rename_i I;rw[BK]
  .exact s b u h
  .intro z
   rcases fr b z with q | q
   .exact I q
   .rw[q] at h;cases h
def MS.plain(t:MS G A H a d)(s:ab H H')(p:ab (cc A H) (cc B H')):MS G B H' a d:=by
 cases d with
 |lst I=>obtain⟨z,q1,q2⟩:=t;exact⟨z,s _ _ q1,q2.mono p⟩
 |dk I=>obtain⟨z,q1,q2,q3⟩:=t;exact⟨z,s _ _ q1,q2,q3.mono p⟩
 |dt I=>obtain⟨z,q1,q2,q3⟩:=t;exact⟨z,s _ _ q1,q2,q3.mono p⟩
 |ob c L=>obtain⟨C,dx,z,q1,q2,q3⟩:=t;exact⟨C,dx,z,s _ _ q1,q2,q3.mono p⟩
 |_=>exact t.elim
theorem VI.frame(o:VI G c A0 He x A σ H ρ ε):UZ G A H σ H ρ:=⟨A,ab.refl H,λ_ h=>h,λa h=>.inl h,λa z=>(o.w.ok.live a z).ne,o.w.ok,λi d a h _=>MG h (DK o.no i d),λy d _ h=>MG h (DK o.no 0 d)⟩
def VI.unframe{J:St}{z:Rho}(o:VI G c A0 He x A σ H ρ ε)(w:UZ G A H J H' z)(L:OO z=E2)(U:z[0]?=X0 (.fz (.adr x))):Zs G c A0 He x J H' z ε:=by
 obtain⟨B,w⟩:=w;have O:ab (cc A H) (cc B H'):=kW w.same w.fr;obtain⟨C,dx,fs,as,W,T,S⟩:=o.ob;refine⟨B,⟨o.w.same.trans w.same,λa I=>w.sub a (o.w.sub a I),λa I=>?_,o.w.l0,w.ok,λi d a h _=>MG h (DK L i d),λy d _ h=>MG h (DK L 0 d)⟩,L,w.sub x o.xA,o.x0,U,C,dx,fs,as,w.same _ _ W,T,S.mp (λv d r=>r.mono O) (λa I d t=>t.plain w.same O) λa _ I=>w.sub a I⟩
 rcases w.fr a I with q | q
 .exact o.w.fr a q
 .exact .inr (o.w.same.free q)
theorem VI.wr{ε':Ef}(o:VI G c A0 He x A σ H ρ ε)(I:p∈A)(S:p∉A0)(sx:Nh p H H')(L:Nt (H' p))(ob:∃C dx fs as,H' x=X0 (.ins C dx fs)/\G.cl c=X0 C/\ti G A0 A H' x fs ε' as):VI G c A0 He x A σ H' ρ ε':=by
 have W:He p=W1:=(o.w.fr p I).resolve_left S;have J:=Ir I sx;refine⟨⟨λb u h=>sx b u (Dd h W) (o.w.same b u h),o.w.sub,o.w.fr,o.w.l0,⟨o.w.ok.len,λb O=>?_,λj e h=>?_,λj e h=>MG h (DK o.no j e),λi j d e a h _ _ _=>MG h (DK o.no i d)⟩,λi d a h _=>MG h (DK o.no i d),λy d _ h=>MG h (DK o.no 0 d)⟩,o.no,o.xA,o.x0,o.s0,ob⟩
 .by_cases z:b=p
  .rw[z];exact L
  .exact (o.w.ok.live b O).mono λu e=>sx b u z e
 .obtain⟨v,q1,q2⟩:=o.w.ok.fz j e h;exact⟨v,q1,q2.mono J⟩
end
def tE(G:Gx)(c:Str)(A0:List Addr)(J:Hp)(x:Addr)(g:Ps):TS:=λD O H=>∃ρ I r,Zs G c A0 J x O H ρ I/\g ρ I=X0 r/\∀z L,Zs G c A0 J x z L r.1 r.2->D.nx z L
def PSE(X:Cx)(G:Gx)(c:Str)(st:Stmt)(g:Ps):Prop:=∀⦃A0⦄ He x,PS X st (tE G c A0 He x g)
def PSEs(X:Cx)(G:Gx)(c:Str)(st:List Stmt)(g:Ps):Prop:=∀⦃A0⦄ He x,SV X st (tE G c A0 He x g)
def tTE(G:Gx)(c:Str)(A0:List Addr)(L:Hp)(x:Addr)(t:FTE):TT:=λJ H Q=>∃A ρ z b,VI G c A0 L x A J H ρ z/\t ρ z=X0 b/\∀I,ab H I->Q b I
def PTE(X:Cx)(G:Gx)(c:Str)(e:Expr)(t:FTE):Prop:=∀⦃A0⦄ He x,PT X e (tTE G c A0 He x t)
def PWE(X:Cx)(G:Gx)(c:Str)(e:Expr)(t:FTE):Prop:=∀⦃A0⦄ He x,PW X e (tTE G c A0 He x t)
section
variable {a b k it:Expr}{fa fb:FE}{p px:Pos}{hQ:List Stmt}{g gs:Ps}{gp:FS}{ta tb:FTE}{tp:FT}
def Xk(h1:PSE X G c st g)(h2:PSEs X G c hQ gs):PSEs X G c (st::hQ) (Ge g gs):=by
 rintro S O x W s U H D I ⟨J,L,r,o,e,k⟩
 refine Ow (@h1 S O x) (@h2 S O x) W s U H D I ?_;unfold Ge at e;cases z:g J L with
 |none=>simp[z] at e
 |some q=>
  simp only[z,eB] at e;exact⟨J,L,q,o,z,λT Z Y=>⟨q.1,q.2,r,Y,e,k⟩⟩
def aj(h1:PSE X G c st g):PSEs X G c [st] g:=λO z x=>Vp (@h1 O z x)
def Tf(h:Sl X G st gp)(U:∀ρ z,gp ρ=X0 (.nx z)->z[0]?=ρ[0]?):PSE X G c st (OZ gp):=by
 rintro A0 Z x S s O H D I ⟨ρ,Y,r,⟨A,o⟩,e,k⟩
 unfold OZ at e;split at e
 .rename_i z L;split at e
  .rename_i T;cases e;refine @h A H S s O H D I ⟨ρ,_,o.frame,L,λJ W w=>k J W (o.unframe w T (by rw[U ρ z L];exact o.s0))⟩
  .cases e
 .cases e
theorem Xl(h:RS X G e tp):PTE X G c e (Td tp):=λT S x=>λL s z H Q I ⟨A,J,O,b,o,e,k⟩=>@h A L s z H Q I ⟨J,b,o.w.ok,e,k⟩
def rK(h:PTE X G c a ta):PWE X G c (.BoolOp .Or [a] pos) ta:=λO z x=>gH (@h O z x)
def xX{hQ:List Expr}(ha:PTE X G c a ta)(hb:PWE X G c (.BoolOp .Or (b::hQ) pos) tb):PWE X G c (.BoolOp .Or (a::b::hQ) pos) (orTE ta tb):=λT O x=>iW (ud (@ha T O x) (@hb T O x))<|by
 rintro Y H Q ⟨A,I,J,d,o,e,k⟩
 unfold orTE at e;split at e
 .rename_i L;cases e;exact⟨A,I,J,_,o,L,λS z=>Ya (k S z)⟩
 .rename_i L;exact⟨A,I,J,_,o,L,λS z=>VY ⟨A,I,J,d,o.mono z,e,λW U=>k W (z.trans U)⟩⟩
 .cases e
theorem PWE.pt(h:PWE X G c a ta):PTE X G c a ta:=λO z x=>(@h O z x).pt
theorem xZ{Y:Pos}(hu:X.A.units+1<bo)(z:∀c C,G.cl c=X0 C->On X.K C/\Bd X.K C f)(hv:PE X (.Name x px) (OL 0))(ha:PF X G a fa)(hb:ff (.Name x px) f X.env (eval (.Name x px) X.env)=eval (.Name x px) X.env:=by rfl)(hm:iq .In (.Attribute (.Name x px) f Y)=E3:=by rfl):PTE X G c (.Compare a [.In] [.Attribute (.Name x px) f Y] pos) (YI f fa):=by
 rintro A0 He y π s Z H Q I ⟨A,S,ε,d,o,e,k⟩
 refine Z1 (ZC hu) (@ha A) (Yw hv hb) hm π s Z H Q I ?_;unfold YI at e;cases O:fa S with
 |none=>simp[O] at e
 |some U=>
  simp only[O,eB] at e;split at e
  .rename_i N0 e2;cases L:Pl U with
   |none=>simp[L] at e
   |some q=>
    simp only[L,gi] at e;cases e;refine⟨S,U,o.w.ok,O,λv H1 T r1=>?_⟩;obtain⟨C,dx,fs,as,h1,W,h3⟩:=(o.mono T).ob;obtain⟨p,q1,q2,q3,q4,q5,J,t1,t2,t3⟩:=h3.get e2;refine⟨_,o.at0,y,C,dx,fs,_,rfl,h1,(z _ _ W).1,(z _ _ W).2,q1,p,J,q,rfl,.of t1,KH r1 L,?_⟩;rw[(M9 (k:=q) t2 t3).2];exact⟨_,rfl,k H1 T⟩
  .cases e
def kZ(ht:PTE X G c e ta)(h1:Pv X G s1 badF):PSE X G c (.If e s1 [] pos) (ifE ta):=by
 rintro O J x S s z H D I ⟨L,T,r,⟨A,o⟩,e,k⟩
 refine gJ (@ht O J x) (@h1 O J) Kh S s z H D I ?_;unfold ifE at e;split at e
 .rename_i U;cases e;exact⟨A,L,T,_,o,U,λW s1=>VY (k z W ⟨A,o.mono s1⟩)⟩
 .cases e
def MT(L:∀c C,G.cl c=X0 C->On X.K C/\Bd X.K C f)(hv:PE X (.Name x px) (OL 0))(ha:PF X G a fa)(O:eR a (X0 (.Attribute (.Name x px) f pos')) pos.line X.env=pure E3:=by rfl):
  PSE X G c (.Assign [.Attribute (.Name x px) f pos'] a pos) (JB f fa):=by
 rintro A0 He y π s σ H D I ⟨W,ε,r,⟨A,o⟩,e,k⟩
 refine gZ hv (@ha A) O π s σ H D I ?_;unfold JB at e;cases U:fa W with
 |none=>simp[U] at e
 |some d=>
  simp only[U,eB] at e;split at e
  .rename_i Z;cases e;refine⟨W,d,o.w.ok,U,λu H1 s1 r1=>?_⟩;have J:=o.mono s1;obtain⟨C,dx,fs,as,h1,T,S⟩:=J.ob;have hn:=S.none (vj.mp Z.1);refine⟨_,o.at0,y,C,dx,fs,rfl,h1,(L _ _ T).1,(L _ _ T).2,by rw[S.len];exact Z.2,?_⟩;rw[Qp hn];have sx:Nh y H1 (fk H1 y (.ins C dx (fs++[(f,u)]))):=λb w hb hw=>by rw[Al hb];exact hw
   have Y:=Ir J.xA sx;refine k _ _ ⟨A,J.wr J.xA J.x0 sx (by rw[Ah];exact Nt.ins) ⟨C,dx,_,as,Ah,T,?_⟩⟩;exact (S.mp (λv d r=>r.mono Y) (λp hp d t=>t.other (S.ne p hp).2.2 J.xA sx) λ_ _ z=>z).snocP (r1.mono Y)
  .cases e
def Xm(U:∀c C,G.cl c=X0 C->On X.K C/\Bd X.K C f)(hv:PE X (.Name x px) (OL 0))(ha:PN X G a fa)(S0:eR a (X0 (.Attribute (.Name x px) f pos')) pos.line X.env=pure E3:=by rfl):
    PSE X G c (.Assign [.Attribute (.Name x px) f pos'] a pos) (RM f fa):=by
  rintro A0 He y π s σ H D I ⟨ρ,ε,r,⟨A,o⟩,e,k⟩
  refine gZ hv (@ha A) S0 π s σ H D I ?_;unfold RM at e;cases e1:fa ρ with
  |none=>simp[e1] at e
  |some d=>
    simp only[e1,eB] at e;split at e
    . rename_i hz
      cases e;refine⟨ρ,d,o.w.ok,e1,λq W J Z t=>?_⟩;obtain⟨C,dx,fs,as,h1,h2,h3⟩:=o.ob;have L:q∉A:=λz=>(o.w.ok.live q z).ne Z;have Y:ab (cc A H) (cc (q::A) W):=KD J Z;have hn:=h3.none (vj.mp hz.1);have O0:q∉A0:=λz=>L (o.w.sub q z);have T:q≠y:=λz=>L (z▸o.xA);have N0:q∉as:=λz=>L (h3.ne q z).1;have S:VI G c A0 He y (q::A) σ W ρ ε:=⟨⟨o.w.same.trans J,λa ha=>cp _ (o.w.sub a ha),λa ha=>by
          rcases bp.mp ha with z | z
          . rw[z];exact .inr (o.w.same.free Z)
          . exact o.w.fr a z,o.w.l0,o.w.ok.fill J Z t.live,λi d a h _=>MG h (DK o.no i d),λy d _ h=>MG h (DK o.no 0 d)⟩,o.no,cp _ o.xA,o.x0,o.s0,C,dx,fs,as,J _ _ h1,h2,
          h3.mp (λv d r=>r.mono Y) (λp O d t=>t.plain J Y) λp _ O=>cp _ O⟩
      have g1:=J _ _ h1;have g2:=h2;have g3:ti G A0 (q::A) W y fs ε as:=h3.mp (λv d r=>r.mono Y) (λp O d t=>t.plain J Y) λp _ O=>cp _ O;have T0:=g3.none (vj.mp hz.1);refine⟨_,o.at0,y,C,dx,fs,rfl,g1,(U _ _ g2).1,(U _ _ g2).2,by rw[g3.len];exact hz.2,?_⟩;rw[Qp T0];have sx:Nh y W (fk W y (.ins C dx (fs++[(f,.ref q)]))):=λb w hb hw=>by rw[Al hb];exact hw
      have sm:=Ir S.xA sx;refine k _ _ ⟨q::A,S.wr S.xA S.x0 sx (by rw[Ah];exact Nt.ins) ⟨C,dx,_,as++[q],Ah,g2,?_⟩⟩;exact (g3.mp (λv d r=>r.mono sm) (λp O d t=>t.other (g3.ne p O).2.2 S.xA sx) λ_ _ z=>z).snocO df O0 T N0 (t.other T S.xA sx)
    . cases e
def Xn{ap:Pos}(hu:X.A.units+1<bo)(L:∀c C,G.cl c=X0 C->On X.K C/\Bd X.K C f)(hv:PE X (.Name x px) (OL 0))(ha:PF X G a fa)(hb:PF X G b fb)(z:ff (.Name x px) f X.env (eval (.Name x px) X.env)=eval (.Name x px) X.env:=by rfl)(hs:eR b (X0 (.Subscript (.Attribute (.Name x px) f ap) a spos)) pos.line X.env=pure E3:=by rfl):PSE X G c (.Assign [.Subscript (.Attribute (.Name x px) f ap) a spos] b pos) (RN f fa fb):=by
 rintro A0 He y π s σ H D I ⟨O,ε,r,⟨A,o⟩,e,k⟩
 refine Rj hu (Yw hv z) (@ha A) (@hb A) hs π s σ H D I ?_;unfold RN at e;cases T:fb O with
 |none=>simp[T] at e
 |some v=>
  cases e2:fa O with
  |none=>simp[T,e2] at e
  |some Y=>
   simp only[T,e2,eB] at e;split at e
   .rename_i d e3;cases U:DG d Y v with
    |none=>simp[U] at e
    |some d'=>
     simp only[U,gi] at e;cases e;unfold DG at U;split at U
     .rename_i O0;cases e5:Pl Y with
      |none=>simp[e5] at U
      |some q=>
       simp only[e5,eB] at U;split at U
       .rename_i hz;cases U;refine⟨O,v,o.w.ok,T,λu H1 s1 r1=>?_⟩;have W:=o.mono s1;obtain⟨C,dx,fs,as,Z,h2,h3⟩:=W.ob;obtain⟨p,q1,q2,q3,q4,q5,J,t1,t2,t3⟩:=h3.get e3;refine⟨_,o.at0,y,C,dx,fs,_,rfl,Z,(L _ _ h2).1,(L _ _ h2).2,q1,O,Y,W.w.ok,e2,λyv H2 S r2=>?_⟩;have ek:=KH r2 e5;subst ek;have o2:=W.mono S;obtain⟨C',T0,S0,N0,g1,g2,g3⟩:=o2.ob;rw[S _ _ Z] at g1;cases g1;have hl:J.length<sizeLine:=by
         have:=SG cy t2;rw[av,av] at this;omega
        refine⟨p,_,rfl,SS.k (S _ _ t1) hl,?_⟩;have pk:=Ro (k:=q) (r1.mono (Az S)) t2 (t3.mono (Az S));have sx:Nh p H2 (fk H2 p (.dK (OT J q u))):=λb w hb hw=>by rw[Al hb];exact hw
        refine k _ _ ⟨A,o2.wr q3 q4 sx (by rw[Ah];exact Nt.dK) ⟨C,dx,fs,N0,by rw[Al (cf q5)];exact S _ _ Z,g2,?_⟩⟩;refine g3.wr e3 q1 sx q3 ⟨_,Ah,pk.1,?_⟩;rw[Bh q3];exact pk.2
       .cases U
     .cases U
   .cases e
theorem VI.frameW{x:Addr}(o:VI G c A0 He x A σ H ρ ε):NM G A H A σ H ρ:=⟨ab.refl H,λ_ h=>h,λa h=>.inl h,λa z=>(o.w.ok.live a z).ne,o.w.ok,λi d a h _=>MG h (DK o.no i d),λy d _ h=>MG h (DK o.no 0 d)⟩
theorem ak{gb:Ps}(hp:tf .(3) X.A X.env X.xe)(hc:X.calm=E2)(hi:OQ X G E3 tg it src)(hg:PGD X G tg fg)(hk:∀d ρ L,fg d ρ=X0 L->L[0]?=ρ[0]?)(hb:PSEs X G c body gb)(hs:∀x,kR it X.env x=pure x:=by intro _;rfl):PSE X G c (.For tg it body [] pos) (YO src fg gb):=by
 rintro S Z x π s W H D I ⟨ρ,ε,r,⟨A,o⟩,e,k⟩
 cases e1:src ρ with
 |none=>simp[YO,e1] at e
 |some O=>
  have e':Jk fg gb O ρ ε=X0 r:=by simpa [YO,e1] using e
  have U1:SV X body (λD W H=>∃S Z x,tE G c S Z x gb D W H):=(by rintro π s W H D I ⟨S,Z,x,q⟩;exact @hb S Z x π s W H D I q);have S1:PG X tg (λv W H Q=>∃S Z,tGD G S Z fg v W H Q):=(by rintro π s W H v u Q I r ⟨S,Z,q⟩;exact @hg S Z π s W H v u Q I r q);refine Yr hp hc (@hi A) S1 U1 hs π s W H D I ⟨ρ,O,o.w.ok,e1,λJ H1 s1 sr=>?_⟩;have o1:=o.mono s1;obtain⟨T0,w2⟩:=o1.w.here;generalize X1:cc (A.filter λa=>decide (a∉S)) H1=Hf at T0 w2;have k2:∀z H',Zs G c S Hf x z H' r.1 r.2->D.nx z H':=(by rintro z H' ⟨B,q⟩;exact k z H' ⟨B,q.w.base T0 o.w.l0,q.no,q.xA,q.x0,q.s0,q.ob⟩);refine⟨λi m z H'=>m=O.length-i/\i<=O.length/\∃L T,Zs G c S Hf x z H' L T/\Jk fg gb (O.drop i) L T=X0 r,⟨O.length,by simp,eW _,ρ,ε,⟨A,w2,o1.no,o1.xA,o1.x0,o1.s0,o1.ob⟩,by simpa using e'⟩,?_⟩;rintro i m N1 H3 ⟨rfl,Q2,O0,S0,⟨B,o3⟩,U⟩;have pl:ab (cc A H1) (cc B H3):=by rw[<-X1] at o3;exact NM.plain o.w.sub o3.w
  by_cases Y:i<O.length
  .right;have hd:O[i]?=X0 O[i]:=by simp[Y]
   have ed:O.drop i=O[i]::O.drop (i+1):=ua Y;rw[ed] at U;unfold Jk at U;refine⟨sr.go i H3 (pl.trans Am) Y,λz H'=>∃L T,Zs G c S Hf x z H' L T/\Jk fg gb (O.drop (i+1)) L T=X0 r,λz H' q=>⟨O.length-(i+1),by omega,rfl,Y,q⟩,λy H' yy=>?_⟩;obtain⟨sy,rx⟩:=sr.yld i H3 y H' _ (pl.trans Am) hd yy;have o4:=o3.mono sy;cases e4:fg O[i] O0 with
   |none=>simp[e4] at U
   |some N0=>
    simp only[e4,eB] at U;split at U
    .rename_i no;refine⟨B,H',B,O0,O[i],N0,o4.frameW,rx B o3.w.ok.live pl,e4,λY1 H5 P1=>?_⟩;cases e5:gb N0 S0 with
     |none=>simp[e5] at U
     |some q=>
      simp only[e5,eB] at U;exact⟨S,Hf,x,N0,S0,q,o4.unframe P1 no (by rw[hk _ _ _ e4];exact o4.s0),e5,λz H' o'=>⟨q.1,q.2,o',U⟩⟩
    .cases U
  .left;have ei:i=O.length:=by omega
   subst ei;rw[AY] at U;cases U;exact⟨sr.stop _ H3 (pl.trans Am) (aw _),k2 N1 H3 ⟨B,o3⟩⟩
end
def Pg:b∈A.filter (λb=>decide (b≠p))↔b∈A/\b≠p:=by simp[fw]
def ao(I:Inv X π σ H s)(hA:a∈A)(t:MS G A H a d):
  ∃H',Inv X π σ H' s/\(∀b,b≠a->H' b=H b)/\ab (cc A H) (cc (A.filter λb=>decide (b≠a)) H')/\il G (cc (A.filter λb=>decide (b≠a)) H') (.ref a) d:=by
 have O:∀H':Hp,(∀b,b≠a->H' b=H b)->ab (cc A H) (cc (A.filter λb=>decide (b≠a)) H'):=λH' hh b u h=>by
  unfold cc at h;split at h
  .cases h
  .rename_i L;rw[BK (λz=>L (Pg.mp z).1),hh b (λz=>L (z▸hA))];exact h
 have at0:∀H':Hp,cc (A.filter λb=>decide (b≠a)) H' a=H' a:=λH'=>BK (λz=>(Pg.mp z).2 rfl);cases d with
 |lst Z=>
  obtain⟨U,T,S⟩:=t;have J:=O H λ_ _=>rfl;exact⟨H,I,λ_ _=>rfl,J,.lst (.of (by rw[at0];exact T)) (S.mono J).1 (S.mono J).2⟩
 |dk Z=>
  obtain⟨U,T,S,Y⟩:=t;obtain⟨o,W⟩:=Inv.frzK I T;have J:=O _ λb L=>Al (o:=.frz o (.dK U)) L;exact⟨_,W,λb L=>Al L,J,.dk (by rw[at0];exact Ah) S (Y.mono J).2⟩
 |dt Z=>
  obtain⟨U,T,S,Y⟩:=t;obtain⟨o,W⟩:=Inv.frzT I T;have J:=O _ λb L=>Al (o:=.frz o (.dT U)) L;exact⟨_,W,λb L=>Al L,J,.dt (by rw[at0];exact Ah) S (Y.mono J).2⟩
 |ob c gs=>
  obtain⟨C,dx,U,T,S,Y⟩:=t;have J:=O H λ_ _=>rfl;exact⟨H,I,λ_ _=>rfl,J,.ob S.1 (by rw[at0];exact T) S.2 (Y.mono J).2⟩
 |_=>exact t.elim
def ti.frz{x:Addr}{fs:List (Str×V)}{as:List Addr}(h:ti G A0 A H x fs ε as)(I:Inv X π σ H s):
  ∃H' O,Inv X π σ H' s/\(∀b,b∉as->H' b=H b)/\(∀b,b∈O↔b∈A/\b∉as)/\ab (cc A H) (cc O H')/\be G (cc O H') (fs.map (·.2)) (ε.map λp=>p.2.2):=by
 induction h with
 |nil=>exact⟨H,A,I,λ_ _=>rfl,λb=>by simp,ab.refl _,.nil⟩
 |pl rv _ ih=>
  obtain⟨H',O,i1,T,S,J,i5⟩:=ih;exact⟨H',O,i1,T,S,J,.cons (rv.mono J) i5⟩
 | @ow f a d fs ε as h1 h2 h3 h4 t _ ih=>
  obtain⟨H1,A1,i1,T,S,J,i5⟩:=ih;have ha:a∈A1:=(S a).mpr ⟨h1,h4⟩;have U:H1 a=H a:=T a h4;have t1:MS G A1 H1 a d:=by
   cases d with
   |lst ds=>obtain⟨L,q1,q2⟩:=t;exact⟨L,by rw[U];exact q1,q2.mono J⟩
   |dk ds=>obtain⟨L,q1,q2,q3⟩:=t;exact⟨L,by rw[U];exact q1,q2,q3.mono J⟩
   |dt ds=>obtain⟨L,q1,q2,q3⟩:=t;exact⟨L,by rw[U];exact q1,q2,q3.mono J⟩
   |ob c gs=>obtain⟨C,dx,L,q1,q2,q3⟩:=t;exact⟨C,dx,L,by rw[U];exact q1,q2,q3.mono J⟩
   |_=>exact t.elim
  obtain⟨H2,j1,j2,j3,j4⟩:=ao i1 ha t1;refine⟨H2,A1.filter λb=>decide (b≠a),j1,λb hb=>?_,λb=>?_,J.trans j3,.cons j4 (i5.mono j3)⟩
  .rw[j2 b (λz=>hb (by simp[z])),T b (λz=>hb (cp _ z))]
  .rw[Pg,S b];simp only[bp,not_or];exact⟨(by rintro ⟨⟨Z,Y⟩,W⟩;exact ⟨Z,W,Y⟩),(by rintro ⟨Z,W,Y⟩;exact ⟨⟨Z,Y⟩,W⟩)⟩
theorem VI.whole{x:Addr}(o:VI G c A0 He x A σ H ρ ε)(I:Inv X π σ H s):
  ∃H',Inv X π σ H' s/\ab He H'/\il G (cc A0 H') (.ref x) (finE c ε):=by
 obtain⟨C,dx,fs,as,h1,h2,S⟩:=o.ob;obtain⟨H',A',Z,L,Y,i4,W⟩:=S.frz I;have U:x∉as:=λz=>(S.ne x z).2.2 rfl;refine⟨H',Z,λb u J=>?_,?_⟩
 .rw[L b (λz=>?_)]
  .exact o.w.same b u J
  .obtain⟨q1,q2,_⟩:=S.ne b z;rw[(o.w.fr b q1).resolve_left q2] at J;cases J
 .have T:∀a∈A0,a∈A':=λa O=>(Y a).mpr ⟨o.w.sub a O,λz=>(S.ne a z).2.1 O⟩;have en:fs.map (·.1)=(ε.map λp=>(p.1,p.2.2)).map (·.1):=by
   rw[S.names,bE];rfl
  have es:(ε.map λp=>(p.1,p.2.2)).map (·.2)=ε.map λp=>p.2.2:=by rw[bE];rfl
  refine .ob h2 (by rw[BK o.x0,L x U];exact h1) en ?_;rw[es];exact (W.mono (Ed T)).2
def tEI(G:Gx)(c:Str)(A0:List Addr)(L:Hp)(x:Addr)(g:Ps):TS:=λD O H=>∃ρ J r,Zs G c A0 L x O H ρ J/\g ρ J=X0 r/\∀z I,ab L I->il G (cc A0 I) (.ref x) (finE c r.2)->D.nx z I
def PSI(X:Cx)(G:Gx)(c:Str)(st:List Stmt)(g:Ps):Prop:=∀⦃A0⦄ He x,SV X st (tEI G c A0 He x g)
def aq:PSI X G c [] nilE:=by
 rintro W U x L s z H D I ⟨S,T,r,⟨A,o⟩,e,k⟩
 cases e;obtain⟨J,O,q1,q2⟩:=o.whole I;exact Kh L s z J D O (k z J q1 q2)
def Dy{hQ:List Stmt}{g O:Ps}(h1:PSE X G c st g)(h2:PSI X G c hQ O):PSI X G c (st::hQ) (Ge g O):=by
 rintro T S x Y s W H D I ⟨J,L,r,o,e,k⟩
 refine Ow (@h1 T S x) (@h2 T S x) Y s W H D I ?_;unfold Ge at e;cases z:g J L with
 |none=>simp[z] at e
 |some q=>
  simp only[z,eB] at e;exact⟨J,L,q,o,z,λU H' Z=>⟨q.1,q.2,r,Z,e,k⟩⟩
def spI(G:Gx)(c:Str)(g:Addr->List D->Option Ef):Sp:=λvs H Q _=>∃A x z ds J C dx,vs=.ref x::z/\(∀a∈A,Nt (H a))/\x∉A/\H x=X0 (.ins C dx [])/\G.cl c=X0 C/\be G (cc (x::A) H) z ds/\g x ds=X0 J ∧
 ∀I,Nh x H I->il G (cc A I) (.ref x) (finE c J)->Q .non I
def Oc(n:Nat)(ds:List D):OO (Cu n ds)=E2:=by
 unfold OO Cu;rw[eD];intro z O
 rcases eJ.mp O with q | q
 .obtain⟨d,_,rfl⟩:=aT.mp q;rfl
 .rw[(List.mem_replicate.mp q).2]
def fn_I{base:Heap}{f:Addr}{k:Nat}{b:Ps}(F:Fun G.K x qual st f fd)(S:bc N ps (Ab st))(hl:ps.length<=N.length)(Y:∀(cdv:ac) (A:aE) (I:List Env) (s:ah) (H:Hp) (E:XK),Room k (A.deeper (gy qual (Ab st) s.heap.objs.size f cdv))->PSI (Po CX0 P w G.K mg base N qual (Ab st) f cdv A I s H E).nox G c (Bf st) b):
  kr P w G.K mg base CX0 (k+1) f fd ps (spI G c (XU N.length ps.length b)):=by
 refine F.ok S (λvs H Q E h=>?_) (λcdv A I s H vs Q E hr h=>?_)
 .obtain⟨A,x,L,O,ε,C,dx,rfl,U,W,Z,hc,r,e,_⟩:=h;unfold XU at e;split at e
  .rename_i hz;rw[d3,r.1];exact hz
  .cases e
 .obtain⟨A1,x,L,O,ε,C,dx,rfl,U,W,Z,hc,r,e,k⟩:=h;unfold XU at e;split at e
  .rename_i hz;have T:∀a∈x::A1,Nt (H a):=λa J=>by
    rcases bp.mp J with z | z
    .rw[z,Z];exact Nt.ins
    .exact U a z
   have r':be G (cc (x::A1) H) (.ref x::L) (.adr x::O):=.cons (.adr x) r;obtain⟨B,w⟩:=PB (N:=N) T r' (by rw[d3,r.1];omega);cases e1:b (Te N.length x O) [] with
   |none=>simp[e1] at e
   |some q=>
    simp only[e1,gi] at e;cases e;have hzz:=Y cdv A I s H E hr;refine⟨_,@hzz A1 (cc [x] H) x,Te N.length x O,[],q,?_,e1,λN0 H' s' rv=>k H' (λb o Y ho=>s' b o (by rw[BK (by simpa using Y)];exact ho)) rv⟩;refine⟨B,⟨Am,λa J=>w.sub a (cp _ J),λa J=>?_,λa J=>?_,w.ok,λi d a h _=>MG h (DK (Oc _ _) i d),λy d _ h=>MG h (DK (Oc _ _) 0 d)⟩,Oc _ _,w.sub x df,W,rfl,C,dx,[],[],Z,hc,.nil⟩
    .rcases w.fr a J with z | z
     .rcases bp.mp z with z | z
      .right;unfold cc;rw[SF (by simp[z])]
      .exact .inl z
     .right;unfold cc;split
      .rfl
      .exact z
    .rw[BK (λz=>W (by simp at z;rw[<-z];exact J))];exact (U a J).ne
  .cases e
section
variable {a b:Expr}{p:Pos}{es:List Expr}{fs:FA}
def ZQ{k:Nat}{f:Addr}{g:Addr->List D->Option Ef}{cn:Str}(S0:G.cl cn=X0 C)(M:Mk X.K C f)(F:kr X.prog X.w X.K X.mg X.base CX0 k f fd ps (spI G cn g))(hr:Room (k+1) X.A)(hg:Gl X x)(hm:X.mg x=X0 (.ref C))(I:MV X.K fd ps [])(ha:SR X G (a::es) fs)(O0:.(8)=E3:=by decide)(he:ay (a::es) X.env=(E3,eval a X.env)::ay es X.env:=by rfl)(Y:(dn pos (ay es X.env)).any (·.1)=E3:=by rfl):
  PF X G (.Call (.Name x p) (a::es) [] pos) (mkI cn g fs):=λA=>CZ (qJ M F hr hg hm I .nil VB (@ha A) O0 he Y)<|by
 rintro σ H Q ⟨ρ,d,o,e,k⟩
 unfold mkI at e;cases S:fs ρ with
 |none=>simp[S] at e
 |some ds=>
  cases e3:g 0 ds with
  |none=>simp[S,e3] at e
  |some ε=>
   simp only[S,e3,eB] at e;split at e
   .rename_i L;cases e;refine⟨ρ,ds,o,S,λvs H1 U rv=>λy dx O N0 Z=>?_⟩;have T:ab H1 (fk (fk H1 dx (.own y)) y (.ins C dx [])):=(Aj N0 _).trans (Aj (by rw[Al (cf Z)];exact O) _);have J:=(o.mono U).live;refine⟨A,y,vs,ds,ε,C,dx,by rw[f6],λb I=>?_,λz=>(J y z).ne O,Ah,S0,rv.mono (KD T O),L y,λH' sx W=>?_⟩
    .exact (J b I).mono λu e=>T _ _ e
    .refine⟨rfl,k _ H' (λb u I=>sx b u (λz=>?_) (T _ _ (U _ _ I))) W⟩;have:=U _ _ I;rw[z,O] at this;cases this
   .cases e
end
def WF{f:FE}(ρ z:Rho)(h:HD f ρ=X0 (.nx z)):z[0]?=ρ[0]?:=by
 unfold HD at h;cases e:f ρ with
 |none=>simp[e] at h
 |some d=>simp[e] at h;rw[h]
def K0s(g:FGs):Prop:=∀ds ρ z,g ds ρ=X0 z->z[0]?=ρ[0]?
def kh:K0s NV:=λJ I z h=>by
 unfold NV at h;split at h
 .cases h;rfl
 .cases h
def Rr{g:FGs}(I:i≠0)(U:K0s g):K0s (Bw i g):=λL J z h=>by
 unfold Bw at h;split at h
 .rw[U _ _ _ h,i6 I]
 .cases h
def km{g:FGs}(U:K0s g)(d:D)(ρ z:Rho)(h:NU n g d ρ=X0 z):z[0]?=ρ[0]?:=by
 unfold NU at h;split at h
 .split at h
  .exact U _ _ _ h
  .cases h
 .split at h
  .exact U _ _ _ h
  .cases h
 .cases h
end PV
namespace PV
open PySem PySem.W PySem.Calls PyProof.Rows L2
end PV
namespace PV
open PySem PySem.Spec L2
open PyProof.Rows hiding St
section
def YU(a b:List (Key×D)):Option Bool:=if a.length≠b.length then X0 E3 else if a.map (·.1)=b.map (·.1) then MR flD (a.map (·.2)) (b.map (·.2)) else W1
theorem au{A:aE}{s:ah}{L:List (Key×ac)}:∀{z:List (Key×ac)}{ds es:List D}{b:Bool},z.length=ds.length ->
  (∀(j:Nat) (k:Key) (v:ac) (d e:D) (c:Bool),z[j]?=X0 (k,v)->ds[j]?=X0 d->es[j]?=X0 e->flD d e=X0 c->∃y,qc L k=X0 y/\kU A s v y c)->MR flD ds es=X0 b->Kj A s L z b
 |[],ds,es,b,Y,_,h=>by
  cases ds with
  |nil=>
   cases es with
   |nil=>cases h;exact .nil
   |cons e r=>cases h
  |cons d r=>simp at Y
 | (k,v)::z,[],es,b,Y,_,h=>by simp at Y
 | (k,v)::z,d::ds,[],b,Y,_,h=>by cases h
 | (k,v)::z,d::ds,e::es,b,Y,g,h=>by
  unfold MR at h;cases I:flD d e with
  |none=>rw[I] at h;cases h
  |some c=>
   cases J:MR flD ds es with
   |none=>rw[I,J] at h;cases h
   |some b'=>
    rw[I,J] at h;cases h;obtain⟨y,S,O⟩:=g 0 k v d e c rfl rfl rfl I;exact .hit S O (au (by simpa using Y) (λj k v d e c Z W U T=>g (j+1) k v d e c (by simpa using Z) (by simpa using W) (by simpa using U) T) J)
def k_(G:Gx)(z:Bool):R2:=λx y H Q=>∃(A:List Addr) (a b:List (Key×D)) (c:Bool),mr G A H x (.dk a)/\mr G A H y (.dk b)/\YU a b=X0 c/\Q (.bl (if z then !c else c)) H
theorem VN(hG:G.K=X.K)(hu:X.A.units+64<bo)(I:Inv X π σ H s){A:List Addr}{a b:List (Key×D)}{c:Bool}{x y:V}(rx:mr G A H x (.dk a))(ry:mr G A H y (.dk b))(e:YU a b=X0 c):
  ∃p q ka Z,x=.ref p/\y=.ref q/\(p==fE)=E3/\(q==fE)=E3/\s.heap.DictOf (Av X.prog X.w) p ka/\s.heap.DictOf (Av X.prog X.w) q Z/\∃c',(ka.length=Z.length->Kj X.A.in1 s Z ka c')/\((ka.length==Z.length)&&c')=c:=by
 obtain⟨p,L,rfl,h1,h2,r1⟩:=rx.dk;obtain⟨q,J,rfl,h3,h4,r2⟩:=ry.dk;unfold YU at e;split at e
 .rename_i T0;cases e;obtain⟨z1,Y,U,S,da⟩:=Jh I.hok h1;obtain⟨z2,W,T,O,db⟩:=Jh I.hok h3;have la:L.length=U.length:=S.length;have lb:J.length=T.length:=O.length;have l1:L.length=a.length:=by have:=SG cy h2;simpa using this
  have l2:J.length=b.length:=by have:=SG cy h4;simpa using this
  exact⟨p,q,U,T,rfl,rfl,Y,W,da,db,E2,λz=>MG z .(0),by rw[AX];exact beq_eq_false_iff_ne.mpr .(0)⟩
 split at e
 .rename_i hk;obtain⟨z1,Y,U,S,da⟩:=Jh I.hok h1;obtain⟨z2,W,T,O,db⟩:=Jh I.hok h3;have la:L.length=U.length:=S.length;have lb:J.length=T.length:=O.length;have l1:L.length=a.length:=by have:=SG cy h2;simpa using this
  have l2:J.length=b.length:=by have:=SG cy h4;simpa using this
  have l3:a.length=b.length:=by have:=SG cy hk;simpa using this
  have nd:(T.map (·.1)).Nodup:=by obtain⟨_,_,_,_,_,_,_,_,nd⟩:=db;exact nd
  refine⟨p,q,U,T,rfl,rfl,Y,W,da,db,c,λ_=>au (ds:=a.map (·.2)) (es:=b.map (·.2)) (by rw[av];omega) (λj k v d e' c' g1 g2 g3 g4=>?_) e,by rw[beq_iff_eq.mpr (show U.length=T.length by omega),ma]⟩;have hj:j<U.length:=(dP.mp g1).1;have kj:L[j]?=X0 L[j]:=by simp[show j<L.length by omega]
  have wj:J[j]?=X0 J[j]:=by simp[show j<J.length by omega]
  have bj:T[j]?=X0 T[j]:=by simp[show j<T.length by omega]
  have p1:=Ie S kj g1;have p2:=Ie O wj bj;have ek:(L[j]).1=(J[j]).1:=by
   have a1:(L.map (·.1))[j]?=X0 (L[j]).1:=by rw[br,kj];rfl
   have a2:(J.map (·.1))[j]?=X0 (J[j]).1:=by rw[br,wj];rfl
   rw[h2,hk,<-h4,a2] at a1;exact (cS a1).symm
  have S0:k=(T[j]).1:=by rw[<-p2.1,<-ek];exact p1.1.symm
  refine⟨(T[j]).2,valueAt_of_get nd (i:=j) (by rw[bj,S0]),?_⟩;have O0:il G (cc A H) (L[j]).2 d:=r1.2 j _ d (by rw[br,kj];rfl) g2;have N0:il G (cc A H) (J[j]).2 e':=r2.2 j _ e' (by rw[br,wj];rfl) g3;exact N_ I hG 0 X.A.in1 (by show X.A.units+1+0<bo;omega) (show MM 0 d e'=X0 c' from g4) (O0.mono Am) (N0.mono Am) p1.2 p2.2
 .cases e
def rM(Y:G.K=X.K)(U:X.A.units+64<bo):Na X (d4 .Eq) (k_ G E3):=by
 intro π s σ H x y v u Q I rx J h;obtain⟨A,a,b,c,O,L,e,k⟩:=h;obtain⟨p,q,ka,kb,rfl,rfl,T,S,da,Z,c',z,rfl⟩:=VN Y U I O L e;cases rx;cases J;exact PySem.W.keq_eq T S da Z .(0) z ⟨.bl _,H,I,rfl,k⟩
def rN(Y:G.K=X.K)(U:X.A.units+64<bo):Na X (d4 .NotEq) (k_ G E2):=by
 intro π s σ H x y v u Q I rx J h;obtain⟨A,a,b,c,O,L,e,k⟩:=h;obtain⟨p,q,ka,kb,rfl,rfl,T,S,da,Z,c',z,rfl⟩:=VN Y U I O L e;cases rx;cases J;exact PySem.W.keq_ne T S da Z .(0) z ⟨.bl _,H,I,rfl,k⟩
def XO(z:Bool)(x y:D):Option D:=match x,y with
 |.dk a,.dk b=>(YU a b).map λc=>.bl (if z then !c else c)
 |x,y=>Nd z x y
def az(z:Bool):Eg G (λx y H Q=>rEqA G z x y H Q∨k_ G z x y H Q) (XO z):=by
 intro A H x y dx L d Q J rx I h k;unfold XO at h;split at h
 .rename_i a b;cases e:YU a b with
  |none=>simp[e] at h
  |some c=>
   simp only[e,gi] at h;cases h;exact .inr ⟨A,a,b,c,rx,I,e,k _ H (ab.refl H) (.bl _)⟩
 .exact .inl (V2 z A H x y _ _ d Q J rx I h k)
end
structure FunD (K:aI) (x qual:Str) (st:Stmt) (f:Addr) (fd:mN):Prop where
 ex:∃(oc:ac) (od:Option Addr) (dV kV doc pm:ac) (an:Option Addr) (cdv ct:ac) (osl:Array (Option ac)),
  fd=iL x qual (Eu st) (Bf st) (Ab st) dV kV doc pm an cdv ct/\K.lookup f=X0 ⟨oc,od,.func fd,osl⟩/\pV K cdv qual=E2
 kp:jI K (.ref f)=E2
def rP{K:aI}{f:Addr}{z kV:ac}(l:K.lookup f=X0 ⟨oc,od,.func (iL x qual (Eu st) (Bf st) (Ab st) z kV doc pm an cdv ct),osl⟩)(c:pV K cdv qual=E2)(k:jI K (.ref f)=E2):FunD K x qual st f (iL x qual (Eu st) (Bf st) (Ab st) z kV doc pm an cdv ct):=⟨⟨oc,od,z,kV,doc,pm,an,cdv,ct,osl,rfl,l,c⟩,k⟩
def AAX{base:Heap}{f:Addr}{k:Nat}{b:FS}(F:FunD G.K x qual st f fd)(S:bc N ps (Ab st))(hl:ps.length<=N.length)(hb:∀(cdv:ac) (A:aE) (z:List Env) (s:ah) (H:Hp) (E:XK),Room k (A.deeper (gy qual (Ab st) s.heap.objs.size f cdv))->Pv (Po CX0 P w G.K mg base N qual (Ab st) f cdv A z s H E).nox G (Bf st) b):
  kr P w G.K mg base CX0 (k+1) f fd ps (MU G (li N.length ps.length b)):=by
 obtain⟨oc,od,dV,kV,O0,pm,an,cdv,ct,N0,rfl,lk,J⟩:=F.ex;refine gw lk J S (λvs H Q E h=>?_) (λA z s H vs Q E hr h=>?_)
 .obtain⟨A,L,d,W,r,e,_⟩:=h;unfold li at e;split at e
  .rename_i O;rw[r.1];exact O
  .cases e
 .obtain⟨A0,L,d,W,r,e,k⟩:=h;unfold li at e;split at e
  .rename_i O;have hzz:=hb cdv A z s H E hr;refine⟨_,(@hzz A0 H).nox,Cu N.length L,?_⟩;cases I:b (Cu N.length L) with
   |none=>simp[I] at e
   |some o=>
    refine⟨o,PB W r (by rw[r.1,O];exact hl),rfl,?_⟩;cases o with
    |nx U=>
     simp only[I] at e;cases e;rintro Y T ⟨A,w⟩;exact k _ T w.same .non
    |rt d' Z=>
     simp only[I] at e;cases e;exact λv Y T A w r'=>k v T w.same (r'.mono (Ed w.sub))
    |bk U=>simp[I] at e
    |ct U=>simp[I] at e
  .cases e
def xf(l:List D)(y:D):dq (.lst l) y=ixD (.lst l) y:=fy _
def xg(l:Str)(y:D):dq (.str l) y=ixD (.str l) y:=fy _
def Kv(k:List (Key×D))(x:Str):dq (.dk k) (.str x)=wh (.inr x) k:=fy _
def rQ(l:List (Key×D)):NI (.dk l)=X0 (.int l.length):=fy _
def a_(z:Bool)(x:Int)(k:List (Key×D)):Oy z (.int x) (.dk k)=X0 (.bl (if z then !(wh (.inl x) k).isSome else (wh (.inl x) k).isSome)):=fy _
def Jl(o:Option D):Option (List D):=match o with | some (.str x)=>X0 (Xe x) | some (.lst ds)=>X0 ds | some (.tup ds)=>X0 ds | some (.dk z)=>X0 (z.map λp=>Sn p.1) | _=>W1
def Bs(f:FE)(ρ:Rho):hW f ρ=Jl (f ρ):=by
 unfold hW seqE Jl;cases f ρ with
 |none=>rfl
 |some d=>cases d<;>rfl
def Cr(l:List D):Jl (X0 (.lst l))=X0 l:=fy _
def Rt(l:List D):Jl (X0 (.tup l))=X0 l:=fy _
def Kw(l:List (Key×D)):Jl (X0 (.dk l))=X0 (l.map λp=>Sn p.1):=fy _
def putO(i:Nat)(ρ:Rho)(x y v:Option D):Option Pw:=v.bind λv=>y.bind λy=>x.bind λx=>(DG x y v).map λz=>.nx (ρ.set i (.ow z))
def Tg(i:Nat)(I z:FE)(ρ:Rho):putF i I z ρ=putO i ρ (getW ρ[i]?) (I ρ) (z ρ):=fy _
def Oe(i:Nat)(ρ:Rho)(x y v:D):putO i ρ (X0 x) (X0 y) (X0 v)=(DG x y v).map λz=>.nx (ρ.set i (.ow z)):=fy _
def vM(i:Nat)(ρ:Rho)(x:Option D)(y:Option (List D))(v:Option D):Option Pw:=v.bind λv=>y.bind λy=>x.bind λx=>(PQ x y v).map λz=>.nx (ρ.set i (.ow z))
def xj(i:Nat)(I:FA)(z:FE)(ρ:Rho):Xc i I z ρ=vM i ρ (getW ρ[i]?) (I ρ) (z ρ):=fy _
def rT(i:Nat)(ρ:Rho)(x:D)(y:List D)(v:D):vM i ρ (X0 x) (X0 y) (X0 v)=(PQ x y v).map λz=>.nx (ρ.set i (.ow z)):=fy _
def frzO(ρ:Rho)(i:Nat)(o:Option Slot):Rho:=match o with | some (.ow d)=>ρ.set i (.fz d) | _=>ρ
def Ph(g:FS)(ρ:Rho):XI [] g ρ=g ρ:=fy _
def Pj(i:Nat)(z:List Nat)(g:FS)(ρ:Rho):XI (i::z) g ρ=XI z g (frzO ρ i ρ[i]?):=fy _
def Ky(ρ:Rho)(i:Nat)(d:D):frzO ρ i (X0 (.ow d))=ρ.set i (.fz d):=fy _
def Pk(i j:Nat)(a b:D)(ρ:Rho):NU 2 (Bw i (Bw j NV)) (.tup [a,b]) ρ=X0 ((ρ.set i (.fz a)).set j (.fz b)):=fy _
def Th(x:Str):Sn (.inr x)=.str x:=fy _
theorem Qq{I:Type}[DecidableEq I]{k:I}:∀{l:List (I×D)},k∉l.map (·.1)->wh k l=W1
 |[],_=>rfl
 |p::r,h=>by
  unfold wh;rw[bb,bp,not_or] at h;rw[UF (λz=>h.1 z.symm)];exact Qq h.2
theorem WK{I:Type}[DecidableEq I]{k:I}{d:D}:∀{l:List (I×D)},(l.map (·.1)).Nodup->(k,d)∈l->wh k l=X0 d
 |[],_,h=>by cases h
 |p::r,J,h=>by
  unfold wh;rw[bb,iF] at J
  rcases bp.mp h with q | q
  .subst q;rw[SF rfl]
  .rw[UF (λz=>J.1 (by rw[z];exact aT.mpr ⟨(k,d),q,rfl⟩))];exact WK J.2 q
def qd{z:Type}[DecidableEq z]{k:z}{v:D}{l:List (z×D)}(h:k∉l.map (·.1)):Qb k v l=l++[(k,v)]:=by
 unfold Qb;rw[Qq h];rfl
def Kz(k:List (Key×D))(x:Str)(v:D)(Y:k.length<=1000000):DG (.dk k) (.str x) v=X0 (.dk (Qb (.inr x) v k)):=by
 show (if k.length<sizeLine then X0 (D.dk (Qb (.inr x) v k)) else W1)=_;rw[SF (si Y .(2))]
def xm(k:List (Key×D))(x:Int)(v:D)(Y:k.length<=1000000):DG (.dk k) (.int x) v=X0 (.dk (Qb (.inl x) v k)):=by
 show (if k.length<sizeLine then X0 (D.dk (Qb (.inl x) v k)) else W1)=_;rw[SF (si Y .(2))]
def xn(k:List (List Key×D))(x y:Int)(v:D)(Y:k.length<=1000000):PQ (.dt k) [.int x,.int y] v=X0 (.dt (Qb [.inl x,.inl y] v k)):=by
 show (if k.length<sizeLine/\2<=sizeLine then X0 (D.dt (Qb [.inl x,.inl y] v k)) else W1)=_;rw[SF ⟨si Y .(2),by decide⟩]
def WL{g:FS}{z:Rho}(h:g ρ=X0 (.nx z))(I:OO z=E2):OZ g ρ ε=X0 (z,ε):=by
 unfold OZ;rw[h];show (if OO z=E2 then X0 (z,ε) else W1)=_;rw[SF I]
def vN(r:Option (Rho×Ef))(L:Ps):Option (Rho×Ef):=r.bind λr=>L r.1 r.2
def Gf(g gs:Ps)(ρ:Rho)(z:Ef):Ge g gs ρ z=vN (g ρ z) gs:=fy _
def Eh(L:Ps)(ρ:Rho)(ε:Ef):vN (X0 (ρ,ε)) L=L ρ ε:=fy _
def lA(ρ:Rho)(z:Ef):nilE ρ z=X0 (ρ,z):=fy _
def lC{tg:FG}{b:Ps}(h:src ρ=X0 ds):YO src tg b ρ ε=Jk tg b ds ρ ε:=by
 unfold YO;rw[h];rfl
section
variable {A:aE}
def btx(w:bP):Bool:=w.params.followText "set-order"
def ObX(h:Heap)(a:Addr)(es:Array (Int×ac))(t:SetTable):Prop:=∃o ep,h.get? a=X0 o/\o.ExactSet/\o.data=.set es ep t
end
section
variable {A:aE}
theorem AAZ{T z I:String}{as:List ac}{Q Q1:ac->ah->Prop}(ft:TypeCalled T z I)(Z:checkTypeCall T ⟨as,[]⟩=pure ())(O:gg (ai prog w) A.in1 (.call (.builtin z) ⟨.type T::as,[]⟩) (wants Q1 E) s)(U:∀ob s1,Q1 ob s1->s1.TypeIs ob T/\gg (ai prog w) A.in1 (.call (.builtin I) ⟨ob::as,[]⟩) (wants (λr S=>r=.none/\Q ob S) E) s1):ag (ai prog w) A (call (.type T) as) Q E s:=by
 obtain⟨Y,W,g1⟩:=ft.mro;have g2:=ft.made;have g3:=ft.sub;have g4:=ft.notType;have g5:=ft.canCreate;refine D7 (codeAny_of_tree (show ag _ _ (callAny (.type T) _) _ _ _ from ar ⟨EN _ (by decide +kernel),hJ F.entry_type_call ?_⟩));rw[Around.under_plain (weight_type_call_type T as []) (units_type_call_type T as [])]
 repeat (any_goals (first | assumption | wp_step))
 refine rq O λr s1 q1=>?_
 match r,q1 with
 |.error _,q1=>exact q1
 |.ok .next,q1=>exact q1.elim
 |.ok .brk,q1=>exact q1.elim
 |.ok .cont,q1=>exact q1.elim
 |.ok (.ret ob),q1=>
  obtain⟨ty,J⟩:=U ob s1 q1;have g6:=ft.init.lookup;have g7:=ft.init.bind ob
  repeat (any_goals (first | assumption | wp_step))
  refine rq J λL S q2=>?_
  match L,q2 with
  |.error _,q2=>exact q2
  |.ok .next,q2=>exact q2.elim
  |.ok .brk,q2=>exact q2.elim
  |.ok .cont,q2=>exact q2.elim
  |.ok (.ret v),⟨e,q2⟩=>
   subst e
   repeat (any_goals (first | assumption | wp_step))
theorem rU(v:ac){Q:ac->ah->Prop}(k:Q .(11) { s with heap:=s.heap.push { cls:=.type "set",dict:=W1,data:=.set #[] 0 (.fresh 0 0 (!btx w)) } }):gg (ai prog w) A (.call (.builtin "set.__new__") ⟨[.type "set",v],[]⟩) (wants Q E) s:=by
 have L:isSubtype (.type "set") (.type "set")=pure E2:=by rw[qo];kernel_rfl
 refine codeAny_of_tree (show ag _ A.in1 (do checkBuiltinCall "set.__new__" ⟨[.type "set",v],[]⟩;again (.builtin "set.__new__" ⟨[.type "set",v],[]⟩)) _ _ s from ?_);refine ae (ya (F.newCall_set_1 v) (ar ⟨ko Kk _,hJ F.entry_set_new ?_⟩));rw[kX Kk _];unfold fN.«set.__new__» Builtin.Frozenset.newClass;obtain⟨h,g,d,tk,z⟩:=s
 wp_walk
 refine vk (ar ?_);dsimp only [newObj];exact ae (wpAny_alloc (ar (ar k)))
end
open PySem.SetTable (below insertAt Probe Met)
abbrev SL (l:List Nat):Prop:=l.Pairwise (·<·)
theorem Ti(xs:Array Nat)(J:SL xs.toList)(j:Nat):∀(f lo hi:Nat),hi-lo<=f->lo<=hi->hi<=xs.size->(∀i (h:i<xs.size),i<lo->xs[i]<j)->(∀i (h:i<xs.size),hi<=i->j<=xs[i]) ->
  lo<=below.go xs j f lo hi/\below.go xs j f lo hi<=hi/\(∀i (h:i<xs.size),i<below.go xs j f lo hi->xs[i]<j)/\(∀i (h:i<xs.size),below.go xs j f lo hi<=i->j<=xs[i])
 |0,lo,hi,Z,Y,hs,I,z=>by
  have:lo=hi:=by omega
  subst this;exact⟨aw _,aw _,I,z⟩
 |f+1,lo,hi,Z,Y,hs,I,z=>by
  have mono:∀a b (T:a<xs.size) (S:b<xs.size),a<=b->xs[a]<=xs[b]:=λa b T S O=>by
   rcases Kn O with h | h
   .have:=vt.mp J a b (by simpa using T) (by simpa using S) h;simp at this;omega
   .subst h;exact aw _
  have W:below.go xs j (f+1) lo hi=if lo<hi then (if xs.getD ((lo+hi)/2) j<j then below.go xs j f ((lo+hi)/2+1) hi else below.go xs j f lo ((lo+hi)/2)) else lo:=rfl
  by_cases c:lo<hi
  .have L:(lo+hi)/2<xs.size:=by omega
   have gd:xs.getD ((lo+hi)/2) j=xs[(lo+hi)/2]:=by simp[L]
   rw[W,SF c,gd]
   by_cases d:xs[(lo+hi)/2]<j
   .simp only[SF d];obtain⟨a,b,e,g⟩:=Ti xs J j f ((lo+hi)/2+1) hi .(0) .(0) hs (λi h U=>si (mono i _ h L .(0)) d) z;exact⟨by omega,b,e,g⟩
   .simp only[UF d];obtain⟨a,b,e,g⟩:=Ti xs J j f lo ((lo+hi)/2) .(0) .(0) .(0) I (λi h U=>by have:=mono _ i L h U;omega);exact⟨a,by omega,e,g⟩
  .rw[W,UF c];have:lo=hi:=by omega
   subst this;exact⟨aw _,aw _,I,z⟩
def Pn(xs:Array Nat)(z:SL xs.toList)(j:Nat):below xs j<=xs.size/\(∀i (h:i<xs.size),i<below xs j->xs[i]<j)/\(∀i (h:i<xs.size),below xs j<=i->j<=xs[i]):=by
 have:=Ti xs z j xs.size 0 xs.size .(0) .(0) (aw _) (λ_ _ h=>by omega) (λi h J=>by omega);exact this.2
def below_at(xs:Array Nat)(z:SL xs.toList){i j:Nat}(h:xs[i]?=X0 j):below xs j=i:=by
 obtain⟨I,e⟩:=Array.getElem?_eq_some_iff.mp h;obtain⟨L,b1,b2⟩:=Pn xs z j
 rcases B9 (below xs j) i with c | c | c
 .have J:=b2 (below xs j) .(0) (aw _);have:=vt.mp z (below xs j) i (by simp;omega) (by simpa using I) c;simp at this;omega
 .exact c
 .have:=b1 i I c;omega
def VP{t:SetTable}(z:SL t.place.toList){i j:Nat}(h:t.place[i]?=X0 j):t.slot j=.live i:=by
 unfold Kt;rw[below_at _ z h];simp[h]
def ZR{t:SetTable}(I:t.dummies=#[]){j:Nat}(h:j∉t.place.toList):t.slot j=.empty:=by
 unfold Kt;have L:¬ (t.place[below t.place j]?==X0 j)=E2:=λz=>by
  have:=eq_of_beq z;exact h (by have:=Array.mem_of_getElem? this;simpa using this)
 have J:KA t.dummies j=E3:=by rw[I];rfl
 simp only[L,J];rfl
def WO(m:Nat)(p:Probe):Probe:=if p.more > 0 then { p with j:=p.j+1,more:=p.more-1 } else { p with j:=(lh m p.i p.perturb).1,more:=gI m (lh m p.i p.perturb).1-(lh m p.i p.perturb).1,i:=(lh m p.i p.perturb).1,perturb:=(lh m p.i p.perturb).2 }
def lD(t:SetTable)(p:Probe):t.advance p=WO t.mask p:=by
 unfold SetTable.advance WO;split<;>rfl
def TU(m:Nat)(p:Probe):Nat->Probe
 |0=>p
 |n+1=>TU m (WO m p) n
theorem VR(m:Nat):∀(n:Nat) (p:Probe),(TU m p n).dummy=p.dummy
 |0,_=>rfl
 |n+1,p=>by
  show (TU m (WO m p) n).dummy=_;rw[VR m n];unfold WO;split<;>rfl
theorem Xo(t:SetTable)(z:Nat->Int)(h:Int):∀(n f:Nat) (p:Probe),n<f->(∀k,k<n->∃i,t.slot (TU t.mask p k).j=.live i/\z i≠h)->t.slot (TU t.mask p n).j=.empty->qr t z h f p=X0 (.empty (TU t.mask p n).j p.dummy)
 |0,f+1,p,_,_,e=>by
  unfold qr;have e:t.slot p.j=.empty:=e;rw[e];rfl
 |n+1,f+1,p,O,I,e=>by
  obtain⟨i,s,d⟩:=I 0 .(0);have s:t.slot p.j=.live i:=s;have J:=Xo t z h n f (WO t.mask p) .(0) (λk L=>I (k+1) .(0)) e;unfold qr;rw[s];show (if (z i==h)=E2 then _ else qr t z h f (t.advance p))=_;rw[UF (by simpa using d),lD,J];rw[show (WO t.mask p).dummy=p.dummy from VR t.mask 1 p];rfl
theorem bA(t:SetTable)(z:Nat->Int)(h:Int):∀(n f:Nat) (p:Probe) (i:Nat),n<f->(∀k,k<n->∃i,t.slot (TU t.mask p k).j=.live i/\z i≠h)->t.slot (TU t.mask p n).j=.live i->z i=h->∃U,qr t z h f p=X0 (.candidate (TU t.mask p n).j i U)
 |0,f+1,p,i,_,_,e,g=>by
  unfold qr;have e:t.slot p.j=.live i:=e;rw[e];show ∃U,(if (z i==h)=E2 then _ else _)=_;rw[SF (by simpa using g)];exact⟨_,rfl⟩
 |n+1,f+1,p,L,S,I,e,g=>by
  obtain⟨i,s,d⟩:=I 0 .(0);have s:t.slot p.j=.live i:=s;obtain⟨U,J⟩:=bA t z h n f (WO t.mask p) L .(0) (λk O=>I (k+1) .(0)) e g;unfold qr;rw[s];show ∃U,(if (z i==h)=E2 then _ else qr t z h f (t.advance p))=_;rw[UF (by simpa using d),lD,J];exact⟨U,rfl⟩
def Nl(m:Nat)(h:Int)(n:Nat):Nat:=(TU m { j:=ja h%(m+1),more:=gI m (ja h%(m+1))-ja h%(m+1),i:=ja h%(m+1),perturb:=ja h,dummy:=W1 } n).j
def Cov(m:Nat)(h:Int):Prop:=∀j,j<=m->∃n,n<10*nc m/\Nl m h n=j
structure Tab (t:SetTable) (hs:List Int):Prop where
 len:t.place.toList.length=hs.length
 rise:SL t.place.toList
 dum:t.dummies=#[]
 mask:∀j∈t.place.toList,j<=t.mask
 room:hs.length<=t.mask
 far:∀q∈t.place.toList.zip hs,∃n,n<10*nc t.mask/\Nl t.mask q.2 n=q.1/\∀k,k<n->Nl t.mask q.2 k∈t.place.toList
def least{P:Nat->Prop}(h:P n):∃m,m<=n/\P m/\∀k,k<m->¬ P k:=by
 induction n using Nat.strongRecOn with
 |ind n z=>
  by_cases c:∃k,k<n/\P k
  .obtain⟨k,I,O⟩:=c;obtain⟨m,a,b,d⟩:=z k I O;exact⟨m,by omega,b,d⟩
  .exact⟨n,aw _,h,λk I O=>c ⟨k,I,O⟩⟩
def WM{t:SetTable}{hs:List Int}(T:Tab t hs){j:Nat}(h:j∈t.place.toList):∃i,i<hs.length/\t.place.toList[i]?=X0 j/\t.slot j=.live i:=by
 obtain⟨i,z,e⟩:=ng.mp h;have O:t.place.toList[i]?=X0 j:=by rw[bv z,e]
 exact⟨i,by rw[<-T.len];exact z,O,VP T.rise (by simpa using O)⟩
theorem UM:∀{l m:List Nat},l.Nodup->(∀x∈l,x∈m)->l.length<=m.length
 |[],m,_,_=>eW _
 |x::l,m,L,h=>by
  obtain⟨n1,n2⟩:=iF.mp L;have J:=h x .(1);have O:=UM (m:=m.erase x) n2 λy I=>(Bi (show y≠x from λz=>n1 (z▸I))).mpr (h y (by simp[I]));rw[Bn J] at O;have:=vx J;simp;omega
def eY{m:Nat}(L:SL l)(O:l.length<=m):∃j,j<=m/\j∉l:=by
 refine EQ λc=>?_;have sub:∀j,j<=m->j∈l:=λj U=>EQ λz=>c ⟨j,U,z⟩;have I:(aS (m+1)).Nodup:=yT;have:(aS (m+1)).length<=l.length:=by
  refine UM I λx J=>sub x ?_;have:=cE.mp J;omega
 rw[oj] at this;omega
theorem WN{t:SetTable}{hs:List Int}(T:Tab t hs)(J:Nat->Int)(he:∀i h,hs[i]?=X0 h->J i=h)(nd:hs.Nodup){i:Nat}{h:Int}(L:hs[i]?=X0 h):∃j U,t.probe J h (t.probeStart h)=X0 (.candidate j i U):=by
 have Y:i<t.place.toList.length:=by rw[T.len];exact (dP.mp L).1
 have hz:(t.place.toList[i],h)∈t.place.toList.zip hs:=by
  refine yY.mpr ⟨i,?_⟩;rw[zd];exact⟨bv Y,L⟩
 obtain⟨n,hn,Z,hb⟩:=T.far _ hz;simp only at Z hb;obtain⟨m,hm,⟨I,s1,g1⟩,hk⟩:=least (P:=λn=>∃i,t.slot (Nl t.mask h n)=.live i/\J i=h) (n:=n) ⟨i,by rw[Z];exact VP T.rise (by simp[Y]),he i h L⟩;have N0:∀k,k<m->∃i,t.slot (Nl t.mask h k)=.live i/\J i≠h:=λk W=>by
  obtain⟨i2,_,_,s2⟩:=WM T (hb k .(0));exact⟨i2,s2,λz=>hk k W ⟨i2,s2,z⟩⟩
 obtain⟨U,e⟩:=bA t J h m (10*nc t.mask) (t.probeStart h) I .(0) N0 s1 g1;have O:Nl t.mask h m∈t.place.toList:=by
  rcases Kn hm with c | c
  .exact hb m c
  .rw[c,Z];exact fA Y
 obtain⟨i3,S,p3,s3⟩:=WM T O;have ei:I=i3:=by
  have:=s1.symm.trans s3;injection this
 subst ei;have g3:=he I _ (bv S);have:I=i:=by
  have e1:hs[I]?=X0 h:=by rw[bv S,<-g3,g1]
  exact (ER S nd).mp (e1.trans L.symm)
 subst this;exact⟨_,U,e⟩
theorem Xp{t:SetTable}{hs:List Int}(T:Tab t hs)(L:Nat->Int)(Z:∀i h,hs[i]?=X0 h->L i=h){h:Int}(Y:h∉hs)(cv:Cov t.mask h):∃n,n<10*nc t.mask/\Nl t.mask h n∉t.place.toList/\(∀k,k<n->Nl t.mask h k∈t.place.toList)/\t.probe L h (t.probeStart h)=X0 (.empty (Nl t.mask h n) W1):=by
 obtain⟨j,W,O⟩:=eY (m:=t.mask) T.rise (by rw[T.len];exact T.room);obtain⟨n0,S,e0⟩:=cv j W;obtain⟨n,hn,p,U⟩:=least (P:=λn=>Nl t.mask h n∉t.place.toList) (n:=n0) (by rw[e0];exact O);have J:∀k,k<n->Nl t.mask h k∈t.place.toList:=λk I=>EQ λz=>U k I z;refine⟨n,by omega,p,J,?_⟩;refine Xo t L h n (10*nc t.mask) (t.probeStart h) .(0) (λk I=>?_) (ZR T.dum p);obtain⟨i,l,p',s⟩:=WM T (J k I);refine⟨i,s,λz=>Y ?_⟩;have:=Z i _ (bv l);rw[z] at this;rw[this];exact fA l
def Tj{z:Type}(xs:Array z)(p:Nat)(x:z):(insertAt xs p x).toList=xs.toList.take p++x::xs.toList.drop p:=by
 unfold insertAt;simp;rw[E4];simp
def ZS{xs:Array Nat}(L:SL xs.toList){j:Nat}(O:j∉xs.toList):(∀a∈xs.toList.take (below xs j),a<j)/\∀a∈xs.toList.drop (below xs j),j<a:=by
 obtain⟨T,b1,b2⟩:=Pn xs L j;refine⟨λa J=>?_,λa J=>?_⟩
 .obtain⟨i,I,rfl⟩:=ng.mp J;rw[kf] at I;rw[ES];have:=b1 i (by simp at I;omega) .(0);simpa using this
 .have S:a∈xs.toList:=ET J;obtain⟨i,I,rfl⟩:=ng.mp J;rw[mP] at I;rw[KB];have:=b2 (below xs j+i) (by simp at I;omega) .(0);have ne:¬ xs.toList[below xs j+i]'(by omega)=j:=λz=>O (z▸fA _);simp at this ne ⊢;omega
def lE{J I:Type}{l:List J}{m:List I}{p:Nat}{q:J×I}(h:q∈(l.take p).zip (m.take p)):q∈l.zip m:=by
 obtain⟨i,z⟩:=yY.mp h;rw[zd] at z;have L:i<p:=by
  have:=(dP.mp z.1).1;rw[kf] at this;omega
 rw[Da L,Da L] at z;exact yY.mpr ⟨i,zd.mpr z⟩
def lF{I z:Type}{l:List I}{m:List z}{p:Nat}{q:I×z}(h:q∈(l.drop p).zip (m.drop p)):q∈l.zip m:=by
 obtain⟨i,J⟩:=yY.mp h;rw[zd,AS,AS] at J;exact yY.mpr ⟨p+i,zd.mpr J⟩
theorem Tab.put{t:SetTable}{hs:List Int}(T:Tab t hs){h:Int}{n j:Nat}(hn:n<10*nc t.mask)(ej:Nl t.mask h n=j)(hj:j∉t.place.toList)(hm:j<=t.mask)(hb:∀k,k<n->Nl t.mask h k∈t.place.toList)(rm:hs.length+1<=t.mask):
  Tab (t.put j).1 (hs.take (t.put j).2++h::hs.drop (t.put j).2)/\(t.put j).2<=hs.length:=by
 have S:(t.put j).2=below t.place j:=rfl;have Y:(t.put j).1.place.toList=t.place.toList.take (below t.place j)++j::t.place.toList.drop (below t.place j):=Tj _ _ _;have L:(t.put j).1.mask=t.mask:=rfl;have hd:(t.put j).1.dummies=#[]:=by
  show (if KA t.dummies j then _ else t.dummies)=_;rw[T.dum];rfl
 obtain⟨b0,b1,b2⟩:=Pn t.place T.rise j;obtain⟨s1,s2⟩:=ZS T.rise hj;have len:=T.len;have W:below t.place j<=hs.length:=by rw[<-len];simpa using b0
 have sub:∀x∈t.place.toList,x∈(t.put j).1.place.toList:=λx I=>by
  rw[Y];rw[<-ze (below t.place j) t.place.toList] at I
  rcases eJ.mp I with I | I
  .exact jp _ I
  .exact fR _ (cp _ I)
 refine⟨⟨?_,?_,hd,?_,?_,?_⟩,by rw[S];exact W⟩
 .rw[Y,S];simp only[fh,kf,d3,mP];omega
 .rw[Y];have r:=T.rise;rw[<-ze (below t.place j) t.place.toList] at r;obtain⟨r1,r2,r3⟩:=KF.mp r;refine KF.mpr ⟨r1,lx.mpr ⟨s2,r2⟩,λa Z b U=>?_⟩
  rcases bp.mp U with z | z
  .rw[z];exact s1 a Z
  .exact r3 a Z b z
 .intro x I;rw[Y] at I;rw[L]
  rcases eJ.mp I with I | I
  .exact T.mask x (KG I)
  .rcases bp.mp I with z | z
   .rw[z];exact hm
   .exact T.mask x (ET z)
 .rw[L,S];simp only[fh,kf,d3,mP];omega
 .intro q J;rw[Y,S,List.zip_append (by simp only[kf];omega),Cf] at J;rw[L];have O:∀q∈t.place.toList.zip hs,∃n,n<10*nc t.mask/\Nl t.mask q.2 n=q.1/\∀k,k<n->Nl t.mask q.2 k∈(t.put j).1.place.toList:=λq J=>by
   obtain⟨n,a,b,c⟩:=T.far q J;exact⟨n,a,b,λk L=>sub _ (c k L)⟩
  rcases eJ.mp J with J | J
  .exact O q (lE J)
  .rcases bp.mp J with z | z
   .rw[z];exact⟨n,hn,ej,λk L=>sub _ (hb k L)⟩
   .exact O q (lF z)
def stA(m i pt:Nat):Probe:={ j:=i,more:=gI m i-i,i:=i,perturb:=pt,dummy:=W1 }
theorem WP(m:Nat):∀(a b:Nat) (p:Probe),TU m p (a+b)=TU m (TU m p a) b
 |0,b,p=>by rw[lc];rfl
 |a+1,b,p=>by
  rw[Nat.add_right_comm];exact WP m a b (WO m p)
theorem WQ(m i pt:Nat):∀(k L:Nat),k<=L->∀c,TU m { j:=i+c,more:=L,i:=i,perturb:=pt,dummy:=W1 } k={ j:=i+c+k,more:=L-k,i:=i,perturb:=pt,dummy:=W1 }
 |0,L,_,c=>rfl
 |k+1,L,h,c=>by
  show TU m (WO m _) k=_;have:WO m { j:=i+c,more:=L,i:=i,perturb:=pt,dummy:=W1 }={ j:=i+(c+1),more:=L-1,i:=i,perturb:=pt,dummy:=W1 }:=by
   unfold WO;rw[SF (show L > 0 by omega)];simp[zS]
  rw[this,WQ m i pt k (L-1) .(0) (c+1)];simp;omega
def lG(m i pt:Nat):TU m (stA m i pt) (gI m i-i+1)=stA m (lh m i pt).1 (lh m i pt).2:=by
 rw[WP];have:=WQ m i pt (gI m i-i) (gI m i-i) (aw _) 0;rw[KI] at this;unfold stA;rw[this];show WO m _=_;unfold WO;rw[UF .(1)]
def xq(m i pt k:Nat)(h:k<=gI m i-i):(TU m (stA m i pt) k).j=i+k:=by
 have:=WQ m i pt k (gI m i-i) h 0;rw[KI] at this;unfold stA;rw[this]
def ZV(m i:Nat):gI m i+1-i<=10/\i<=gI m i:=by
 unfold gI;split<;>omega
def Tn(m:Nat)(j:Nat):Nat->Nat->Nat->Bool
 |0,_,_=>E3
 |f+1,i,pt=>(decide (i<=j)&&decide (j<=gI m i))||Tn m j f (lh m i pt).1 (lh m i pt).2
theorem bB(m j:Nat):∀(f i pt:Nat),Tn m j f i pt=E2->∃n,n<10*f/\(TU m (stA m i pt) n).j=j
 |0,i,pt,h=>by cases h
 |f+1,i,pt,h=>by
  obtain⟨z,L⟩:=ZV m i;unfold Tn at h
  rcases Bool.or_eq_true_iff.mp h with h | h
  .rw[eP,OH,OH] at h;exact⟨j-i,by omega,by rw[xq m i pt (j-i) .(0)];omega⟩
  .obtain⟨n,a,b⟩:=bB m j f _ _ h;exact⟨gI m i-i+1+n,by omega,by rw[WP,lG];exact b⟩
def CovR(m:Nat)(h:Int):Prop:=∀j,j<=m->Tn m j (nc m) (ja h%(m+1)) (ja h)=E2
def CovR.cov{m:Nat}{h:Int}(c:CovR m h):Cov m h:=λj U=>bB m j _ _ _ (c j U)
theorem xr{m:Nat}{p:Probe}(h:p.j+p.more<=m):(WO m p).j+(WO m p).more<=m:=by
 unfold WO;split
 .simp;omega
 .have Y:(lh m p.i p.perturb).1<=m:=zh (vE _ (KL m));obtain⟨z,L⟩:=ZV m (lh m p.i p.perturb).1;have:gI m (lh m p.i p.perturb).1<=m:=by
   unfold gI;split<;>omega
  simp;omega
theorem lH{m:Nat}:∀(n:Nat) {p:Probe},p.j+p.more<=m->(TU m p n).j<=m
 |0,p,h=>by show p.j<=m;omega
 |n+1,p,h=>lH n (xr h)
def rW(m:Nat)(h:Int)(n:Nat):Nl m h n<=m:=by
 refine lH n ?_;have Y:ja h%(m+1)<=m:=zh (vE _ (KL m));obtain⟨z,L⟩:=ZV m (ja h%(m+1));have:gI m (ja h%(m+1))<=m:=by
  unfold gI;split<;>omega
 show ja h%(m+1)+(gI m (ja h%(m+1))-ja h%(m+1))<=m;omega
abbrev mf:=Nat×Nat
def kk(p:mf):List Key:=[.inl (p.1:Int),.inl (p.2:Int)]
def hP(p:mf):Int:=C9 (zI [(p.1:Int),(p.2:Int)])
def QU(p:mf):Prop:=p.1<5/\p.2<5
def covB(m:Nat)(h:Int):Bool:=(aS (m+1)).all λj=>Tn m j (nc m) (ja h%(m+1)) (ja h)
def all5:((aS 5).all λa=>(aS 5).all λb=>covB 7 (hP (a,b)))=E2:=by decide +kernel
def dif5:((aS 25).all λa=>(aS 25).all λb=>a==b||!(hP (a/5,a%5)==hP (b/5,b%5)))=E2:=by decide +kernel
def cov5{p:mf}(h:QU p):CovR 7 (hP p):=by
 have:=eD.mp (eD.mp all5 p.1 (cE.mpr h.1)) p.2 (cE.mpr h.2);exact λj U=>eD.mp this j (cE.mpr .(0))
def inj5{p q:mf}(h:QU p)(k:QU q)(e:hP p=hP q):p=q:=by
 obtain⟨a,b⟩:=p;obtain⟨c,d⟩:=q;obtain⟨S,O⟩:a<5/\b<5:=h;obtain⟨L,J⟩:c<5/\d<5:=k;have:=eD.mp (eD.mp dif5 (5*a+b) (cE.mpr .(0))) (5*c+d) (cE.mpr .(0));rw[show (5*a+b)/5=a by omega,show (5*a+b)%5=b by omega,show (5*c+d)/5=c by omega,show (5*c+d)%5=d by omega,e] at this;simp at this;have I:a=c:=by omega
 have z:b=d:=by omega
 rw[I,z]
section
variable {A:aE}
def rY{p:mf}(h:QU p):wf (Av prog w) (kk p)=hP p:=by
 have e:∀n:Nat,n<5->(Av prog w).hash (.inl (n:Int))=(n:Int):=λn z=>by
  match n,z with
  |0,_=>rfl
  |1,_=>rfl
  |2,_=>rfl
  |3,_=>rfl
  |4,_=>rfl
 unfold wf hP kk;simp only[bb,iO,e p.1 h.1,e p.2 h.2]
def xu{p q:mf}(e:kk p=kk q):p=q:=by
 unfold kk at e;injection e with I z
 injection z with z _
 have L:=wt I;have J:=wt z;exact rS .(0) .(0)
abbrev QP (prog:cr) (w:bP) (h:Heap) (p:mf) (b:Addr):Prop:=QU p/\zD (Av prog w) h (kk p) b
def QP.keep{g:Heap}{p:mf}(x:QP prog w h p b)(k:∀o,h.get? b=X0 o->g.get? b=X0 o):QP prog w g p b:=by
 obtain⟨i,o,z,n,I,r⟩:=x;exact⟨i,o,z,n,k o I,r⟩
def QP.ne{p:mf}{t:SetTable}(x:QP prog w h p b)(g:h.get? a=X0 o)(d:o.data=.set es ep t):b≠a:=λz=>by
 subst z;obtain⟨_,O,L,n,I,_,J,_⟩:=x;cases g.symm.trans I;cases d.symm.trans J
structure FP (prog:cr) (w:bP) (h:Heap) (es:Array (Int×ac)) (t:SetTable) (qs:List (mf×Addr)):Prop where
 ent:es.toList=qs.map λx=>(hP x.1,bg x.2)
 isp:∀x∈qs,QP prog w h x.1 x.2
 nd:(qs.map (·.1)).Nodup
 tab:Tab t (es.toList.map (·.1))
 msk:t.mask=7/\qs.length<=4
 led:btx w=E3->t.led=E2
 pln:t.plain=E2
def SK(prog:cr)(w:bP)(B:Addr->Prop)(h:Heap)(a:Addr)(ps:List mf):Prop:=∃es t qs,ObX h a es t/\FP prog w h es t qs/\(qs.map (·.1)).Perm ps/\∀x∈qs,B x.2
def FP.len{t:SetTable}{qs:List (mf×Addr)}(f:FP prog w h es t qs):es.size=qs.length:=by
 have:=SG cy f.ent;simpa using this
theorem FP.fits{h:Heap}{es:Array (Int×ac)}{t:SetTable}{qs:List (mf×Addr)}(f:FP prog w h es t qs):t.fits es.size=E2:=by
 have l:=f.tab.len;rw[av,i8,i8] at l;have r:=f.tab.room;rw[av,i8] at r;unfold SetTable.fits KO;rw[f.tab.dum];simp[l,r]
def FP.hs{t:SetTable}{qs:List (mf×Addr)}(f:FP prog w h es t qs):es.toList.map (·.1)=qs.map λx=>hP x.1:=by
 rw[f.ent,bE];rfl
def FP.hnd{t:SetTable}{qs:List (mf×Addr)}(f:FP prog w h es t qs):(es.toList.map (·.1)).Nodup:=by
 rw[f.hs];have I:=f.nd;rw[nh,kH] at I ⊢;exact sB (λ{a b} O J L z=>L (inj5 (f.isp a O).1 (f.isp b J).1 z)) I
theorem FP.keep{h g:Heap}{es:Array (Int×ac)}{t:SetTable}{qs:List (mf×Addr)}(f:FP prog w h es t qs)(k:∀x∈qs,∀o,h.get? x.2=X0 o->g.get? x.2=X0 o):FP prog w g es t qs:=⟨f.ent,λx z=>(f.isp x z).keep (k x z),f.nd,f.tab,f.msk,f.led,f.pln⟩
def FP.odd{t:SetTable}{qs:List (mf×Addr)}(f:FP prog w h es t qs):t.gaveWay=E3:=by
 unfold SetTable.gaveWay;rw[f.msk.1];rfl
def FP.cov{t:SetTable}{qs:List (mf×Addr)}(f:FP prog w h es t qs){p:mf}(z:QU p):CovR t.mask (hP p):=by
 rw[f.msk.1];exact cov5 z
def bC(n:Nat){p:mf}{b:Addr}{Q:Bool->ah->Prop}(x:QP prog w s.heap p b)(k:Q E3 s):ag (ai prog w) A (Bz (n+1) (.ref b)) Q E s:=by
 have ty:=x.2.typeIs;obtain⟨_,o,L,m,g,_,d,i⟩:=x;unfold Bz;refine ae (xw ty ?_);show ag _ _ (if ("tuple"=="tuple")=E2 then _ else _) _ _ s;rw[SF (show (("tuple":String)=="tuple")=E2 by decide)];refine ae (ar ?_);simp only[lI,dE,NH];refine ae (kN g d ?_);dsimp only;refine ae ?_;rw[<-wm];refine rb _ (λr q z=>q.1=W1/\z=s/\∀v∈r,Co v=E2) _ ?_ ?_ _ _ ⟨rfl,rfl,i.byValue⟩
 .rintro v r q z ⟨e,rfl,I⟩;have J:=I v .(1);have:Bz n v=pure E3:=by
   cases v with
   |ref a=>cases J
   |_=>first | rfl | (unfold Bz;rfl)
  rw[this];refine ae (ar ?_);simp only[dE,NH];exact ar ⟨rfl,rfl,λu S=>I u (by simp[S])⟩
 .rintro⟨q1,q2⟩ z ⟨e,rfl,_⟩;simp only at e;subst e;exact ar k
def xx{p:mf}(x:QP prog w s.heap p b):∀(vs:List ac) {Q:Bool->ah->Prop},(∀v∈vs,∃q c,v=.ref c/\QP prog w s.heap q c)->Q E3 s->ag (ai prog w) A (KP (.ref b) vs) Q E s:=by
 intro vs Q O k;unfold KP;refine ae ?_;refine rb _ (λr q z=>q.1=W1/\z=s/\∀v∈r,∃q c,v=.ref c/\QP prog w s.heap q c) _ ?_ ?_ _ _ ⟨rfl,rfl,O⟩
 .rintro v r q z ⟨e,rfl,L⟩;obtain⟨q2,c,rfl,y⟩:=L v .(1);have I:∀v∈r,∃q c,v=.ref c/\QP prog w z.heap q c:=λu S=>L u (by simp[S]);dsimp only
  by_cases J:(b==c)=E2
  .rw[SF (by simp[J])];exact ar ⟨rfl,rfl,I⟩
  .rw[UF (by simp[J,Co])];refine ae (KS x.2 ?_);simp only[lI,dE,NH];refine ae (KS y.2 ?_);simp only[lI,dE,NH];refine ae (bC 7 x ?_);simp only[dE,NH];refine ae (bC 7 y ?_);simp only[dE,NH];exact ar ⟨rfl,rfl,I⟩
 .rintro⟨q1,q2⟩ z ⟨e,rfl,_⟩;simp only at e;subst e;exact ar k
def AAa{p:mf}{Q:Bool->ah->Prop}(x:QP prog w s.heap p b)(k:Q E2 s):ag (ai prog w) A (BA 8 (.ref b)) Q E s:=by
 have ty:=x.2.typeIs;obtain⟨_,o,W,m,g,_,d,i⟩:=x;unfold BA;refine ae (nv ty wl.lookup ?_);dsimp only;refine ae (kN g d ?_);refine ae ?_;show ag _ _ (forIn W _ _) _ _ s;rw[<-wm];refine rb _ (λr q z=>q.1=W1/\z=s/\∀v∈r,∃i t,v=.int i t) _ ?_ ?_ _ _ ⟨rfl,rfl,?_⟩
 .rintro v r q z ⟨e,rfl,T⟩;obtain⟨j,t,rfl⟩:=T v .(1);have:BA 7 (.int j t)=pure E2:=by unfold BA;rfl
  rw[this];refine ae (ar ?_);simp only[lI,dE,NH];exact ar ⟨rfl,rfl,λu hu=>T u (by simp[hu])⟩
 .rintro⟨q1,q2⟩ z ⟨e,rfl,_⟩;simp only at e;subst e;exact ar k
 .have:∀{O:List Key}{L:List ac},ItemsAre (Av prog w) O L->(∀k∈O,∃i,k=.inl i)->∀v∈L,∃i t,v=sQ i t:=λ{O L} it=>by
   induction it with
   |nil=>intro _ v J;simp at J
   | @cons Z v0 Y U h1 _ ih=>
    intro I v J
    rcases bp.mp J with rfl | J
    .obtain⟨i,rfl⟩:=I Z .(1)
     rcases Bq (show RC (.inl i) v=E2 from h1) with ⟨j,t,_,e⟩ | ⟨y,t,e,_⟩
     .exact⟨j,t,e⟩
     .cases e
    .exact ih (λk S=>I k (by simp[S])) v J
  exact this i λk I=>by
   unfold kk at I;simp only[bp,IS,or_false] at I
   rcases I with rfl | rfl
   .exact⟨_,rfl⟩
   .exact⟨_,rfl⟩
end
section
variable {A:aE}
abbrev nK (X:Cx):=SQ (Av X.prog X.w)
theorem Ru:∀{bs:List Addr}{us:List ac},cx (bs.map V.ref) us->us=bs.map bg
 |[],_,.nil=>rfl
 |c::bs,_,.cons r t=>by
  obtain rfl:=(show _=bg c from r);rw[Ru t];rfl
def tup_is(I:Inv X π σ H s){k:List Key}{c:Addr}(h:NL X.K H c (k.map kV)):zD (Av X.prog X.w) s.heap k c:=by
 obtain⟨z,r,⟨o,g,J,n,d⟩,_⟩:=I.tuple (show MZ X.K H c (k.map kV) from h);exact⟨o,z.toArray,n,g,J,d,Qf r⟩
def M_(I:Inv X π σ H s){ks:List (List Key)}{b:Addr}(h:MX X.K H ks b):OX (Av X.prog X.w) s.heap ks b:=by
 obtain⟨bs,J,S⟩:=h;obtain⟨z,r,⟨o,g,T,n,d⟩,O⟩:=I.tuple (show MZ X.K H b (bs.map V.ref) from J);refine⟨o,z.toArray,n,g,T,d,?_⟩;rw[Ru r];show Zl (Av X.prog X.w) s.heap ks (bs.map bg);clear J r d O
 induction S with
 |nil=>exact .nil
 |cons h _ L=>exact .cons (tup_is I h) L
theorem ZW(I:Inv X π σ H s)(L:H a=X0 (.mem F X.K)):(a==fE)=E3/\∃xs,s.heap.DictOfH (nK X) a xs/\∀q∈xs,MX X.K H q.1 q.2.1/\TN q.1/\dm (.int (F q.1)) q.2.2:=by
 obtain⟨hs,xs,z,o,S,U,g,O,d,e,J⟩:=(show BV X.prog X.w H s.heap a (.mem F X.K) from I.hok a _ L);exact⟨hs,xs,⟨o,S,U,g,O,d,e,λq T=>M_ I (z q T).1,J⟩,z⟩
def num:List (Nat×Nat)->Nat
 |[]=>0
 |p::r=>(5*p.1+p.2+1)+26*num r
theorem lJ:∀{ps:List (Nat×Nat)}{n:Nat},ps.length<=n->(∀p∈ps,p.1<5/\p.2<5)->num ps<26^n
 |[],n,_,_=>KU .(1)
 |p::r,0,h,_=>by simp at h
 |p::r,n+1,h,z=>by
  have I:=lJ (ps:=r) (n:=n) (by simpa using h) λq T=>z q (by simp[T]);have:=z p .(1);unfold num;rw[Nat.pow_succ];omega
theorem bD:∀{ps qs:List (Nat×Nat)},(∀p∈ps,p.1<5/\p.2<5)->(∀p∈qs,p.1<5/\p.2<5)->num ps=num qs->ps=qs
 |[],[],_,_,_=>rfl
 |[],q::s,_,T,e=>by unfold num at e;omega
 |p::r,[],I,_,e=>by unfold num at e;omega
 |p::r,q::s,I,T,e=>by
  have a:=I p .(1);have b:=T q .(1);unfold num at e;have S:5*p.1+p.2=5*q.1+q.2:=by omega
  have O:p.1=q.1:=by omega
  have L:p.2=q.2:=by omega
  have J:num r=num s:=by omega
  rw[bD (λx z=>I x (by simp[z])) (λx z=>T x (by simp[z])) J];rw[show p=q from rS O L]
theorem lK{ks:List (List (List Key))}(nd:ks.Nodup)(h:∀k∈ks,TN k):ks.length<=sizeLine:=by
 have:∀k:List (List Key),∃n:Nat,TN k->∃ps:List (Nat×Nat),k=ps.map (λp=>[.inl (p.1:Int),.inl (p.2:Int)])/\ps.length<=5/\(∀p∈ps,p.1<5/\p.2<5)/\n=num ps:=λk=>by
  by_cases I:TN k
  .obtain⟨ps,U,T,S⟩:=I;exact⟨num ps,λ_=>⟨ps,U,T,S,rfl⟩⟩
  .exact⟨0,λz=>MG z I⟩
 obtain⟨f,W⟩:=Classical.axiomOfChoice this;have Y:∀k,TN k->f k<26^5/\∀k',TN k'->f k=f k'->k=k':=λk I=>by
  obtain⟨ps,U,T,S,Z⟩:=W k I;refine⟨by rw[Z];exact lJ T S,λk' L e=>?_⟩;obtain⟨qs,g1,g2,g3,g4⟩:=W k' L;rw[Z,g4] at e;rw[U,g1,bD S g3 e]
 have J:(ks.map f).Nodup:=by
  rw[nh,kH];exact sB (λ{a b} ha hb O z=>O ((Y a (h a ha)).2 b (h b hb) z)) nd
 have:=UM (m:=aS (26^5)) J λy hy=>by
  obtain⟨k,I,rfl⟩:=aT.mp hy;exact cE.mpr (Y k (h k I)).1
 rw[av,oj] at this;rw[iA];exact cw this .(2)
def Qs{Q:ac->ah->Prop}(S:A.units+4<bo)(I:Inv X π σ H s)(J:H a=X0 (.mem F X.K))(z:MX X.K H ks b)(h:∀xs tk,s.heap.DictOfH (nK X) a xs->(∀q∈xs,MX X.K H q.1 q.2.1/\TN q.1/\dm (.int (F q.1)) q.2.2)->Q (.bool (!(eA xs ks).isSome)) { s with toks:=tk }):ag .(3) A (d4 .NotIn (.ref b) (.ref a)) Q E s:=by
 obtain⟨hs,xs,Z,L⟩:=ZW I J;exact KW (knd:=nK X) (by show A.units+1+1<bo;omega) (M_ I z) hs Z (h xs _ Z L)
theorem lL(z:H a=X0 (.mem F X.K)):fk H a (.mem F X.K)=H:=by
 funext c;unfold fk;split
 .rename_i e;rw[e,z]
 .rfl
theorem UK{v:ac}{Q:Unit->ah->Prop}(hu:A.units+4<bo)(I:Inv X π σ H s)(Z:H a=X0 (.mem F X.K))(Y:MX X.K H ks b)(hi:TN ks)(rv:dm (.int (F ks)) v)(h:∀xs s',Inv X π σ H s'->s'.heap.DictOfH (nK X) a xs->(∀q∈xs,MX X.K H q.1 q.2.1/\TN q.1/\dm (.int (F q.1)) q.2.2)->(eA xs ks).isSome=E2->Q () s'):ag .(3) A (setItem (.ref a) (.ref b) v) Q E s:=by
 obtain⟨hs,xs,dd,al⟩:=ZW I Z;have nd:(xs.map (·.1)).Nodup:=let ⟨_,_,_,_,_,_,_,_,z⟩:=dd;z;have O:=lK nd λk Y=>by
  obtain⟨q,T,rfl⟩:=aT.mp Y;exact (al q T).2.1
 rw[av] at O;refine II (knd:=nK X) (by show A.units+1+1<bo;omega) (M_ I Y) dd (λh' S sb=>?_) O;have U:∀q∈xC xs ks b v,MX X.K H q.1 q.2.1/\TN q.1/\dm (.int (F q.1)) q.2.2:=λq T=>by
  unfold xC at T;split at T
  .obtain⟨x,W,e⟩:=aT.mp T;have ax:=al x W;unfold putAt at e;split at e
   .rename_i ek;rw[<-e];exact⟨ax.1,ax.2.1,ek▸rv⟩
   .rw[<-e];exact ax
  .rcases eJ.mp T with T | T
   .exact al q T
   .obtain rfl:q=(ks,b,v):=by simpa using T
    exact⟨Y,hi,rv⟩
 have L:(eA (xC xs ks b v) ks).isSome=E2:=by
  cases J:eA xs ks with
  |none=>
   rw[storedH_new J];unfold eA;rw[xD,L0];exact⟨(ks,b,v),by simp,by simp⟩
  |some p=>
   rw[storedH_old J];unfold eA at J ⊢;obtain⟨x,W,e⟩:=mv.mp J;rw[xD,L0];have S0:=EU W;have O0:=L1 W;refine⟨putAt ks v x,aT.mpr ⟨x,S0,rfl⟩,?_⟩;have:x.1=ks:=WG O0;unfold putAt;rw[SF this];simpa using this
 obtain⟨o',N1,P1,g',T0,d',e',S1,N0⟩:=id S;have I':=I.write (x:=a) (e:=a) (o:=.mem F X.K) (t':=s.toks+(nK X).draws ks) (by rw[Z];exact trivial) (.inl rfl) (λc q J z=>(sb.2 c J).trans z) ⟨o',g'⟩ (by
  rw[lL Z];exact⟨hs,_,U,o',N1,P1,g',T0,d',e',N0⟩)
 rw[lL Z] at I';exact h _ _ I' S U L
def bG{xs:List (List (List Key)×Addr×ac)}{Q:ac->ah->Prop}(Y:A.units+4<bo)(I:Inv X π σ H s)(O:MX X.K H ks b)(Z:s.heap.DictOfH (nK X) a xs)(W:∀q∈xs,MX X.K H q.1 q.2.1/\TN q.1/\dm (.int (F q.1)) q.2.2)(L:(eA xs ks).isSome=E2)(h:∀u tk,dm (.int (F ks)) u->Q u { s with toks:=tk }):ag .(3) A (nX (.ref a) (.ref b)) Q E s:=by
 obtain⟨p,z⟩:=AE.mp L;refine IH (knd:=nK X) (by show A.units+1+1<bo;omega) (M_ I O) Z z (h _ _ ?_);unfold eA at z;obtain⟨x,J,e⟩:=mv.mp z;have T:=(W x (EU J)).2.2;have U:=L1 J;have S:x.1=ks:=WG U;rw[<-e,<-S];exact T
end
open PyProof.Rows (isTrue_and isTrue_not isTrue_and_nil)
def prD:D->Option mf
 |.tup [.int i,.int j]=>if 0<=i/\i<5/\0<=j/\j<5 then X0 (i.toNat,j.toNat) else W1
 |_=>W1
def QI:List D->Option (List mf)
 |[]=>X0 []
 |d::r=>(prD d).bind λp=>(QI r).map (p::·)
def QN:D->Option (List mf)
 |.tup ds=>(QI ds).bind λps=>if ps.length<=5 then X0 ps else W1
 |_=>W1
abbrev Sb (ps:List mf):List (List Key):=ps.map kk
section
def x_{A:List Addr}{p:mf}(r:il G H v d)(e:prD d=X0 p):QU p/\∃c,v=.ref c/\NL G.K H c ((kk p).map kV):=by
 unfold prD at e;split at e
 .rename_i i j;split at e
  .rename_i h;cases e;cases r with
   | @tup c z T I O S=>
    refine⟨⟨by show i.toNat<5;omega,by show j.toNat<5;omega⟩,c,rfl,?_⟩;have:z=[.int i,.int j]:=by
     match z,O,S with
     |[x,y],_,S=>
      have J:=S 0 x (.int i) rfl rfl;have L:=S 1 y (.int j) rfl rfl;cases J;cases L;rfl
    rw[this] at I;show MZ G.K H c [.int ((i.toNat:Nat):Int),.int ((j.toNat:Nat):Int)];rw[BB h.1,BB h.2.2.1];exact I
  .cases e
 .cases e
theorem Rv{H:Hp}:∀{ds:List D}{xs:List V}{ps:List mf},be G H xs ds->QI ds=X0 ps->(∀p∈ps,QU p)/\∃bs:List Addr,xs=bs.map V.ref/\mE (λk c=>NL G.K H c (k.map kV)) (Sb ps) bs
 |[],xs,ps,r,e=>by
  cases e;have:xs=[]:=ol.mp r.1;subst this;exact⟨by simp,[],rfl,.nil⟩
 |d::ds,xs,ps,r,e=>by
  obtain⟨x,Y,rfl,S,O⟩:=r.uncons;unfold QI at e;cases I:prD d with
  |none=>rw[I] at e;cases e
  |some p=>
   rw[I] at e;cases z:QI ds with
   |none=>rw[z] at e;cases e
   |some Z=>
    rw[z] at e;cases e;obtain⟨W,c,rfl,L⟩:=x_ (A:=[]) S I;obtain⟨U,bs,rfl,J⟩:=Rv O z;refine⟨λq T=>?_,c::bs,rfl,.cons L J⟩
    rcases bp.mp T with rfl | T
    .exact W
    .exact U q T
def rZ{ps:List mf}(r:il G H v d)(e:QN d=X0 ps):∃b,v=.ref b/\MX G.K H (Sb ps) b/\TN (Sb ps):=by
 unfold QN at e;split at e
 .rename_i T;cases z:QI T with
  |none=>rw[z] at e;cases e
  |some I=>
   rw[z] at e;have e:(if I.length<=5 then X0 I else W1)=X0 ps:=e;split at e
   .rename_i O;cases e;cases r with
    | @tup b U _ L J S=>
     obtain⟨W,bs,rfl,t⟩:=Rv (G:=G) (H:=H) ⟨J,S⟩ z;exact⟨b,rfl,⟨bs,L,t⟩,ps,rfl,O,W⟩
   .cases e
 .cases e
def Iu{K:aI}(s:ab H H')(h:MX K H ks b):MX K H' ks b:=by
 have T:∀{c:Addr}{xs:List V},NL K H c xs->NL K H' c xs:=λ{c xs} z=>by
  rcases z with (z | ⟨o,z⟩) | z
  .exact .inl (.inl (s _ _ z))
  .exact .inl (.inr ⟨o,s _ _ z⟩)
  .exact .inr z
 obtain⟨bs,J,I⟩:=h;exact⟨bs,T J,Paired.mapP I λ_ _ z=>T z⟩
def JC{Q:ac->ah->Prop}(Z:X.N[i]?=X0 x)(T:UY X.env.scope x)(L:.(8)=E3)(O:(x==("__classdict__":Str))=E3)(I:Inv X π σ H s)(e:σ[i]?=X0 (X0 v))(k:∀u,dm v u->Q u s):ag .(3) X.A (eval (.Name x pos) X.env) Q E s:=by
 obtain⟨m,U,Y⟩:=I.loc;obtain⟨u,r,l⟩:=Y i x v Z e T
 rcases l with ⟨J,W⟩ | ⟨J,c,S,z⟩
 .exact sT (GV I.ok.kind J U W (k u r)) L
 .rcases J with J | J
  .exact sT (GW I.ok.kind J S z (k u r)) L
  .exact sT (GY I.ok.kind J S z (k u r) O) L
structure Fm (X:Cx) (σ:St) (H:Hp) (i:Nat) (f:Str) (m:Addr) (F:List (List Key)->Int):Prop where
 at_:∃a C dx fs,σ[i]?=X0 (X0 (.ref a))/\H a=X0 (.ins C dx fs)/\On X.K C/\Bd X.K C f/\fs.lookup f=X0 (.ref m)
 mem:H m=X0 (.mem F X.K)
def Fm.mono{m:Addr}(h:Fm X σ H i f m F)(s:ab H H'):Fm X σ H' i f m F:=by
 obtain⟨⟨a,C,dx,fs,J,I,S⟩,z⟩:=h;exact⟨⟨a,C,dx,fs,J,s _ _ I,S⟩,s _ _ z⟩
theorem Og{m:Addr}{Q:ac->ah->Prop}(W:X.N[i]?=X0 x)(L:UY X.env.scope x)(T:.(8)=E3)(z:(x==("__classdict__":Str))=E3)(U:ff (.Name x p1) f X.env (eval (.Name x p1) X.env)=eval (.Name x p1) X.env)(I:Inv X π σ H s)(h:Fm X σ H i f m F)(k:∀tk,Q (.ref m) { s with toks:=tk }):ag .(3) X.A (eval (.Attribute (.Name x p1) f p2) X.env) Q E s:=by
 obtain⟨⟨a,C,dx,fs,Z,Y,c,n,l⟩,_⟩:=h;refine Vs U (JC W L T z I Z λu r=>?_);obtain rfl:u=bg a:=r;obtain⟨mA,O,r,_,_,_⟩:=Ox I.hok Y;obtain⟨u,S,J⟩:=NY.some_of (v:=.ref m) (o:=mA f) (by rw[<-l];exact r f);obtain rfl:u=bg m:=J;exact Vr I.kIn O (c.get f) c.hd n S (Qc (v:=.ref m) rfl) (k _)
theorem lO(hG:G.K=X.K)(I:∀c C,G.cl c=X0 C->On X.K C/\Bd X.K C f)(o:OW G A σ H ρ)(e:uF (jn f) (vF i) ρ=X0 (.mem F)):∃m,Fm X σ H i f m F:=by
 obtain⟨S,L,J⟩:=Kp e;have O:ρ[i]?=X0 (.fz S):=by
  unfold vF at L;split at L
  .rename_i z O;cases L;exact O
  .cases L
 obtain⟨v,h1,h2⟩:=o.fz i S O;unfold jn at J;split at J
 .rename_i cn gs;cases h2 with
  | @ob a C dx c fs _ q1 q2 q3 T=>
   have Y:=SG cy q3;rw[av,av] at Y;obtain⟨v2,Z,U⟩:=Qm (f:=f) (d:=.mem F) (G:=G) q3 ⟨by rw[av,av];exact Y,T⟩ J;cases U with
   | @mem m _ W=>exact⟨m,⟨a,C,dx,fs,h1,Am _ _ q2,(I _ _ q1).1,(I _ _ q1).2,Z⟩,by rw[<-hG];exact Am _ _ W⟩
 .cases J
def Ma{ps:List mf}(W:G.K=X.K)(o:OW G A σ H ρ)(e:vF j ρ=X0 d)(T:QN d=X0 ps):∃b,σ[j]?=X0 (X0 (.ref b))/\MX X.K H (Sb ps) b/\TN (Sb ps):=by
 have O:ρ[j]?=X0 (.fz d):=by
  unfold vF at e;split at e
  .rename_i z O;cases e;exact O
  .cases e
 obtain⟨v,L,J⟩:=o.fz j d O;obtain⟨b,rfl,S,I⟩:=rZ J T;exact⟨b,L,by rw[<-W];exact Iu Am S,I⟩
def memR(i:Nat)(f:Str)(j:Nat)(z:FE):FS:=λρ=>match uF (jn f) (vF i) ρ,(vF j ρ).bind QN,z ρ with
 |some (.mem F),X0 ps,X0 (.int v)=>if v=F (Sb ps) then X0 (.rt (.int v) ρ) else W1
 |_,_,_=>W1
def memZ(i:Nat)(f:Str)(j:Nat)(ft:FT):FS:=λρ=>match uF (jn f) (vF i) ρ,(vF j ρ).bind QN,ft ρ with
 |some (.mem F),X0 ps,X0 t=>if t=E2∨F (Sb ps)=0 then X0 (.nx ρ) else W1
 |_,_,_=>W1
theorem lQ{z:Expr}{fv:FE}{Y W:Pos}(hu:X.A.units+64<bo)(hG:G.K=X.K)(Y1:∀c C,G.cl c=X0 C->On X.K C/\Bd X.K C f)(hN:X.N[i]?=X0 x)(hv:UY X.env.scope x)(T0:X.N[j]?=X0 y)(Z:UY X.env.scope y)(hval:PF X G z fv)(hs:eR z (X0 (.Subscript (.Attribute (.Name x p5) f p6) (.Name y p7) p8)) p9.line X.env=pure E3:=by rfl)(hm:iq .NotIn (.Attribute (.Name x p2) f p3)=E3:=by rfl)(X1:NoSl (.Name y p13):=by intro _ _;rfl)(hd:.(8)=E3:=by decide)(O0:(x==("__classdict__":Str))=E3:=by decide)(N0:(y==("__debug__":Str))=E3:=by decide)(O:(y==("__classdict__":Str))=E3:=by decide)(hb:∀p,ff (.Name x p) f X.env (eval (.Name x p) X.env)=eval (.Name x p) X.env:=by intro _;rfl):
    Pv X G [.If (.Compare (.Name y p1) [.NotIn] [.Attribute (.Name x p2) f p3] p4) [.Assign [.Subscript (.Attribute (.Name x p5) f p6) (.Name y p7) p8] z p9] [] p10,.Return (X0 (.Subscript (.Attribute (.Name x p11) f p12) (.Name y p13) Y)) W] (memR i f j fv):=by
  rintro A0 He π s σ H D I ⟨ρ,o,⟨A,w⟩,e,k⟩
  unfold memR at e;split at e
  . rename_i F ps v ef ek ev
    split at e
    . rename_i hF
      cases e;obtain⟨dk,T2,S2⟩:=zi.mp ek;obtain⟨m,fm⟩:=lO (X:=X) hG Y1 w.ok ef;obtain⟨b,S0,mk,kin⟩:=Ma (X:=X) hG w.ok T2 S2;have rz:∀(L:Hp) (s':ah) (J:List (List (List Key)×Addr×ac)),ab H L->Inv X π σ L s'->s'.heap.DictOfH (nK X) m J->(∀q∈J,MX X.K L q.1 q.2.1/\TN q.1/\dm (.int (F q.1)) q.2.2)->(eA J (Sb ps)).isSome=E2 ->
          ag .(3) X.A (exec (.Return (X0 (.Subscript (.Attribute (.Name x p11) f p12) (.Name y p13) Y)) W) X.env) (SP X π D) X.xe s':=λL s' J S U dd al pr=>by
        refine As (Z8 EB.lookup X1 (Og hN hv hd O0 (hb _) U (fm.mono S) λtk=>JC T0 Z N0 O (U.tok tk) S0 λu r=>⟨dd.typeIs,?_⟩));obtain rfl:u=bg b:=r;refine bG (F:=F) .(0) (U.tok tk) (Iu S mk) dd al pr λu T ru=>⟨.int v,σ,L,(U.tok tk).tok T,by rw[hF];exact ru,?_⟩;exact k (.int v) σ L A (w.mono S) (.int v)
      have hQ:∀(L:Hp) (s':ah) (J:List (List (List Key)×Addr×ac)),ab H L->Inv X π σ L s'->s'.heap.DictOfH (nK X) m J->(∀q∈J,MX X.K L q.1 q.2.1/\TN q.1/\dm (.int (F q.1)) q.2.2)->(eA J (Sb ps)).isSome=E2 ->
          ag .(3) X.A (kt [.Return (X0 (.Subscript (.Attribute (.Name x p11) f p12) (.Name y p13) Y)) W] X.env) (SP X π D) X.xe s':=λL s' J S U dd al pr=>by
        refine lP (mo (rz L s' J S U dd al pr) λfl s1 q=>?_);cases fl with
        |next=>
          obtain⟨P1,H2,I2,q⟩:=q;exact Kh (X:=X) π s1 P1 H2 D I2 q
        |ret v=>exact q
        |brk=>exact q
        |cont=>exact q
      refine lP (wx (xi (JC T0 Z N0 O I S0 λu r=>Og hN hv hd O0 (hb _) I fm λtk=>?_) hm));obtain rfl:u=bg b:=r;refine Qs (F:=F) .(0) (I.tok tk) fm.mem mk λJ T dd al=>kq ?_;cases pr:(eA J (Sb ps)).isSome with
      |true=>
        show ag _ _ (kt [] X.env) _ _ _;exact kQ (hQ H _ J (ab.refl H) ((I.tok tk).tok T) dd al pr)
      |false=>
        show ag _ _ (kt [_] X.env) _ _ _;have I2:=(I.tok tk).tok T;refine lP (AN (mo (@hval A π _ σ H (λx H1=>ab H H1/\x=.int v) I2 ⟨ρ,_,w.ok,ev,λv1 H1 s1 r1=>⟨s1,by cases r1;rfl⟩⟩) λr1 s1 q0=>?_) hs);obtain⟨v1,H1,I1,rv,S,Q2⟩:=q0;subst Q2;refine Og hN hv hd O0 (hb _) I1 (fm.mono S) λN1=>JC T0 Z N0 O (I1.tok N1) S0 λu r=>?_;obtain rfl:u=bg b:=r;refine UK (F:=F) .(0) (I1.tok N1) (S _ _ fm.mem) (Iu S mk) kin (by rw[<-hF];exact rv) λS1 s' U U2 X2 U1=>?_;exact kQ (hQ H1 s' S1 S U U2 X2 U1)
    . cases e
  . cases e
theorem lR{O:Expr}{jj:Nat}(hu:X.A.units+64<bo)(hG:G.K=X.K)(P1:∀c C,G.cl c=X0 C->On X.K C/\Bd X.K C f)(hN:X.N[i]?=X0 x)(hv:UY X.env.scope x)(T0:X.N[j]?=X0 y)(Z:UY X.env.scope y)(ht:RS X G O ft)(hs:eR (.Constant (.int 0) jj p9) (X0 (.Subscript (.Attribute (.Name x p5) f p6) (.Name y p7) p8)) p10.line X.env=pure E3:=by rfl)(hm:iq .NotIn (.Attribute (.Name x p2) f p3)=E3:=by rfl)(hd:.(8)=E3:=by decide)(O0:(x==("__classdict__":Str))=E3:=by decide)(N0:(y==("__debug__":Str))=E3:=by decide)(S:(y==("__classdict__":Str))=E3:=by decide)(hb:∀p,ff (.Name x p) f X.env (eval (.Name x p) X.env)=eval (.Name x p) X.env:=by intro _;rfl):
  Sl X G (.If (.BoolOp .And [.Compare (.Name y p1) [.NotIn] [.Attribute (.Name x p2) f p3] p4,.UnaryOp .Not O p11] p12) [.Assign [.Subscript (.Attribute (.Name x p5) f p6) (.Name y p7) p8] (.Constant (.int 0) jj p9) p10] [] p13) (memZ i f j ft):=by
 rintro A0 He W s U H D I ⟨ρ,o,⟨A,w⟩,e,k⟩
 unfold memZ at e;split at e
 .rename_i F ps t ef ek et;split at e
  .rename_i hF;cases e;obtain⟨dk,U1,S1⟩:=zi.mp ek;obtain⟨m,fm⟩:=lO (X:=X) hG P1 w.ok ef;obtain⟨b,S0,mk,kin⟩:=Ma (X:=X) hG w.ok U1 S1;have z:∀(J:Hp) (s':ah),ab H J->Inv X W U J s'->SP X W D .next s':=λJ s' L I'=>⟨U,J,I',k U J ⟨A,w.mono L⟩⟩;have put:∀(J:Hp) (s':ah),ab H J->Inv X W U J s'->F (Sb ps)=0->ag .(3) X.A (kt [.Assign [.Subscript (.Attribute (.Name x p5) f p6) (.Name y p7) p8] (.Constant (.int 0) jj p9) p10] X.env) (SP X W D) X.xe s':=λJ s' L I' h0=>by
    refine lP (AN (CH ?_) hs);have T:=I'.tok (s'.toks+1);refine Og hN hv hd O0 (hb _) T (fm.mono L) λY=>JC T0 Z N0 S (T.tok Y) S0 λu r=>?_;obtain rfl:u=bg b:=r;refine UK (F:=F) .(0) (T.tok Y) (L _ _ fm.mem) (Iu L mk) kin (by rw[h0];exact⟨_,rfl⟩) λX1 s2 I3 Q2 S2 Y1=>?_;exact kQ (z J s2 L I3)
   refine wx (t5 (xi (JC T0 Z N0 S I S0 λu r=>Og hN hv hd O0 (hb _) I fm λtk=>?_) hm));obtain rfl:u=bg b:=r;refine Qs (F:=F) .(0) (I.tok tk) fm.mem mk λxs N1 dd al=>kq ?_;have T:=(I.tok tk).tok N1;cases pr:(eA xs (Sb ps)).isSome with
   |true=>
    show ag _ _ (kt [] X.env) _ _ _;exact kQ (z H _ (ab.refl H) T)
   |false=>
    show ag _ _ (pc _ _ _) _ _ _;refine t5 (CL (mo (@ht A W _ U H (λb H1=>ab H H1/\b=t) T ⟨ρ,_,w.ok,et,λH1 s1=>⟨s1,rfl⟩⟩) λb s1 q9=>?_));obtain⟨H1,I1,L,eb⟩:=q9;subst eb;cases b with
    |true=>
     show ag _ _ (kt [] X.env) _ _ _;exact kQ (z H1 s1 L I1)
    |false=>
     refine CI ?_;show ag _ _ (kt [_] X.env) _ _ _;exact put H1 s1 L I1 (hF.resolve_left .(1))
  .cases e
 .cases e
def memE(z:Rho->Option (List (List Key)->Int)):FE:=λρ=>(z ρ).map .mem
theorem yC{J:Rho->Option (List (List Key)->Int)}(W:G.K=X.K):PF X G (.Dict [] [] pos) (memE J):=by
 rintro A π s σ H Q I ⟨ρ,d,o,e,k⟩
 unfold memE at e;obtain⟨F,_,rfl⟩:=mv.mp e;have T:(s.heap.objs.size==fE)=E3:=(show BV X.prog X.w (fk H s.heap.objs.size (.dK [])) _ _ (.dK []) from W9 s.heap I.big).2.1;have z:H s.heap.objs.size=W1:=I.hok.fresh (aw _);obtain⟨L,Z,ep,U,Y,d1,e1,_,O⟩:=Heap.DictOfH.new (knd:=nK X) s.heap;refine DU ⟨.ref s.heap.objs.size,_,I.laid (a:=s.heap.objs.size) (o:=.mem F X.K) (t':=s.toks) (λ_ _ q=>ba _ q) (aw _) ⟨T,[],by simp,L,Z,ep,U,Y,d1,e1,O⟩,rfl,k _ _ (Aj z _) (.mem ?_)⟩;unfold cc;rw[UF,W]
 .exact Ah
 .intro S;have:=o.live _ S;rw[z] at this;exact MG rfl this.1
end
def WS(ps:List mf)(p:mf):List mf:=if p∈ps then ps else ps++[p]
section
variable {A:aE}
def yD{h:Int}(e:(es.toList.map (·.1))[i]?=X0 h):∃v,es[i]?=X0 (h,v):=by
 rw[br] at e;obtain⟨x,z,rfl⟩:=mv.mp e;exact⟨x.2,by rw[<-xB];exact z⟩
theorem sE{t:SetTable}{qs:List (mf×Addr)}{p:mf}{Q:SetFound->ah->Prop}(hu:A.units<bo)(g:s.heap.get? a=X0 o)(d:o.data=.set es ep t)(f:FP prog w s.heap es t qs)(y:QP prog w s.heap p b)(k1:p∈qs.map (·.1)->Q (.there W1) s)(k2:p∉qs.map (·.1)->∀n,n<10*nc t.mask->Nl t.mask (hP p) n∉t.place.toList->(∀k,k<n->Nl t.mask (hP p) k∈t.place.toList)->Q (.free (Nl t.mask (hP p) n) E3) s):ag (ai prog w) A (setSearch a (.ref b) (hP p) (adding:=E2)) Q E s:=by
  unfold setSearch EV;refine ae (qv g d f.fits ?_);dsimp only;rw[f.odd];simp only[dE,NH];have ha:∀(i:Nat) (h:Int),(es.toList.map (·.1))[i]?=X0 h->(es[i]?.map (·.1)).getD 0=h:=λi h e=>by
    obtain⟨v,T⟩:=yD e;rw[T];rfl
  by_cases m:p∈qs.map (·.1)
  . obtain⟨x,I,J⟩:=aT.mp m
    obtain⟨i,hi,ei⟩:=ng.mp I;have hh:(es.toList.map (·.1))[i]?=X0 (hP p):=by
      rw[f.hs,br,bv hi,ei,<-J];rfl
    obtain⟨j,nx,e⟩:=WN f.tab _ ha f.hnd hh;have e':t.probe (λi=>(es[i]?.map (·.1)).getD 0) (hP p) (BC W1 (t.probeStart (hP p)))=X0 (.candidate j i nx):=e;have ev:es[i]?=X0 (hP x.1,bg x.2):=by
      rw[<-xB,f.ent,br,bv hi,ei];rfl
    have yx:=f.isp x I;have hQ:ag (ai prog w) A (do
        let X0 (_,y):=es[i]? | EW "internal:set-entry"
        let equal <-lS [y] (eqBool y (.ref b))
        let (es',_,t') <-setState a
        if E2&&equal then return SetFound.there W1
        let X0 same:=t'.sameMemory t.moves t.mask | EW "set.changed-during-lookup:is-the-new-block-at-the-old-address"
        let still <-match (if same then t'.slot j else .empty) with
          |.live L=>match es'[L]? with
            |some (_,y')=>do pure (if <-isSame y' y then X0 L else W1)
            |none=>pure W1
          |_=>pure W1
        match still with
        |none=>rule "set.search.anew";EV a (.ref b) (hP p) E2 99999 W1
        |some L=>if equal then return .there (X0 L) else EV a (.ref b) (hP p) E2 99999 (X0 nx)) Q E s:=by
      rw[ev];dsimp only;refine ae (wpAny_holding (GE hu yx.2 y.2 ?_));rw[OG (show kk x.1=kk p by rw[J])];refine ae (qv g d f.fits ?_);dsimp only;simp only[Bool.and_self,MH];exact ar (k1 m)
    show ag _ _ (match t.probe (λi=>(es[i]?.map (·.1)).getD 0) (hP p) (BC W1 (t.probeStart (hP p))) with | some O=>_ | _=>_) _ _ _;rw[e'];dsimp only
    by_cases ld:t.led=E2
    . rw[ld]
      simp only[lI,dE,NH];exact hQ
    . have S:t.led=E3:=by simpa using ld
      rw[S];simp only[GG,MH];refine ae (xx y _ (λv T=>?_) ?_)
      . obtain⟨e1,Z,rfl⟩:=aT.mp T
        have:e1∈es.toList:=by
          have:=CY.mp Z;rw[Array.mem_filter] at this;exact CY.mpr this.1
        rw[f.ent] at this;obtain⟨z,hz,rfl⟩:=aT.mp this;exact⟨z.1,z.2,rfl,f.isp z hz⟩
      . simp only[dE,NH]
        exact hQ
  . have hn:hP p∉es.toList.map (·.1):=λz=>by
      rw[f.hs] at z;obtain⟨x,I,J⟩:=aT.mp z;exact m (aT.mpr ⟨x,I,inj5 (f.isp x I).1 y.1 J⟩)
    obtain⟨n,Y,W,U,e⟩:=Xp f.tab _ ha hn (f.cov y.1).cov;have e':t.probe (λi=>(es[i]?.map (·.1)).getD 0) (hP p) (BC W1 (t.probeStart (hP p)))=X0 (.empty (Nl t.mask (hP p) n) W1):=e;show ag _ _ (match t.probe (λi=>(es[i]?.map (·.1)).getD 0) (hP p) (BC W1 (t.probeStart (hP p))) with | some O=>_ | _=>_) _ _ _;rw[e'];dsimp only;exact ar (k2 m n Y W U)
end
section
variable {A:aE}
def yE{I:Array (Int×ac)}{t t':SetTable}{Q:Unit->ah->Prop}(g:s.heap.get? a=X0 o)(L:o.ExactSet)(d:o.data=.set es ep t)(z:I.size<=100)(k:∀h' J,fI a s.heap h'->h'.get? a=X0 J->J.ExactSet->J.data=.set I (ep+1) t'->Q () { s with heap:=h' }):ag (ai prog w) A (storeSet a I t') Q E s:=by
 refine wpAny_storeSet_of g d (k _ { o with data:=.set I (ep+1) t' } (vi _ _ _) ?_ L rfl) (cw z .(2));have u:=kG (Obj.putSet I t') g (by rw[putSet_of I t' d];rfl)
 rwa [putSet_of I t' d] at u
theorem lU{J Z:Type}{f:J->Z}{l:List Z}{m:List J}(h:l.Perm (m.map f)):∃k:List J,l=k.map f/\k.Perm m:=by
 generalize e:m.map f=x at h
 induction h generalizing m with
 |nil=>
  have:m=[]:=by simpa using e
  subst this;exact⟨[],rfl,sC _⟩
 | @cons a l1 l2 _ ih=>
  cases m with
  |nil=>cases e
  |cons y r=>
   rw[bb] at e;injection e with Y I
   obtain⟨k,ek,pk⟩:=ih I;exact⟨y::k,by rw[bb,Y,ek],BD _ pk⟩
 |swap a c l1=>
  match m,e with
  |y::z::r,e=>
   rw[bb,bb] at e;injection e with Y I
   injection I with I e3
   exact⟨z::y::r,by rw[bb,bb,Y,I,e3],L3 _ _ _⟩
 |trans _ _ T S=>
  obtain⟨k2,U,L⟩:=S e;obtain⟨k1,W,O⟩:=T U.symm;exact⟨k1,W,O.trans L⟩
theorem AAb{B:Addr->Prop}{ps:List mf}{p:mf}{Q:Bool->ah->Prop}(hu:A.units<bo)(x:SK prog w B s.heap a ps)(y:QP prog w s.heap p b)(yb:B b)(r:ps.length<=3)(c:∀v h',fI a s.heap h'->SK prog w B h' a (WS ps p)->Q v { s with heap:=h' }):ag (ai prog w) A (setAddHashed a (.ref b) (hP p)) Q E s:=by
 obtain⟨L,t,I,⟨o,ep,g,ex,d⟩,f,pm,bq⟩:=x;have lq:I.length=ps.length:=by have:=pm.length_eq;simpa using this
 have le:=f.len;unfold setAddHashed setAddHashedIn;refine wpAny_holding (ae (qv g d f.fits ?_));dsimp only;rw[UF (show ¬ byScan (.ref b) L=E2 by unfold byScan Value.scannable;simp)];refine ae (sE hu g d f y (λm=>?_) λm n Q2 T0 Y1=>?_)
 .dsimp only;have mp:p∈ps:=pm.mem_iff.mp m;refine ar ?_;have:=c E3 s.heap (JE a _) (by unfold WS;rw[SF mp];exact⟨L,t,I,⟨o,ep,g,ex,d⟩,f,pm,bq⟩);exact this
 .dsimp only;have mp:p∉ps:=λz=>m (pm.mem_iff.mpr z);refine ae (qv g d f.fits ?_);dsimp only;generalize hj:Nl t.mask (hP p) n=j at T0;have jm:j<=t.mask:=hj▸rW _ _ _;have hl:(L.toList.map (·.1)).length=I.length:=by rw[av,i8,le]
  have rm:(L.toList.map (·.1)).length+1<=t.mask:=by
   rw[hl];rw[f.msk.1];omega
  obtain⟨T1,pl⟩:=f.tab.put Q2 hj T0 jm Y1 rm;have N0:(t.put j).1.plain=E2:=f.pln;rw[N0];simp only[MH];refine ae (AAa y ?_);simp only[MH];rw[hl] at pl;have S:(insertAt L (t.put j).2 (hP p,bg b)).toList=(I.take (t.put j).2++(p,b)::I.drop (t.put j).2).map λx=>(hP x.1,bg x.2):=by
   rw[Tj,f.ent,<-zk,<-BE,dS,bb]
  have W:(I.take (t.put j).2++(p,b)::I.drop (t.put j).2).Perm (I++[(p,b)]):=by
   refine L4.trans ?_;rw[ze];exact (List.perm_append_singleton _ _).symm
  have T2:∀x∈I.take (t.put j).2++(p,b)::I.drop (t.put j).2,B x.2:=λx J=>by
   rcases eJ.mp (W.mem_iff.mp J) with J | J
   .exact bq x J
   .obtain rfl:x=(p,b):=by simpa using J
    exact yb
  have Y:(insertAt L (t.put j).2 (hP p,bg b)).size=I.length+1:=by
   have:=SG cy S;rw[av,W.length_eq] at this;simpa using this
  have S1:∀x∈I,x.2≠a:=λx J=>(f.isp x J).ne g d;have U1:b≠a:=y.ne g d;have S0:∀h',fI a s.heap h'->∀x∈I.take (t.put j).2++(p,b)::I.drop (t.put j).2,QP prog w h' x.1 x.2:=λh' sb x J=>by
   have J:=W.mem_iff.mp J
   rcases eJ.mp J with J | J
   .exact (f.isp x J).keep λo' g'=>(sb.2 x.2 (S1 x J)).trans g'
   .obtain rfl:x=(p,b):=by simpa using J
    exact y.keep λo' g'=>(sb.2 b U1).trans g'
  have P1:((I.take (t.put j).2++(p,b)::I.drop (t.put j).2).map (·.1)).Nodup:=by
   rw[(W.map (·.1)).nodup_iff,dS];refine eI.mpr ⟨f.nd,by simp,λu hu v hv e=>?_⟩;have:v=p:=by simpa using hv
   exact m (this▸e▸hu)
  have O0:((I.take (t.put j).2++(p,b)::I.drop (t.put j).2).map (·.1)).Perm (WS ps p):=by
   unfold WS;rw[UF mp];refine (W.map (·.1)).trans ?_;rw[dS];exact pm.append_right _
  have X1:(insertAt L (t.put j).2 (hP p,bg b)).toList.map (·.1)=(L.toList.map (·.1)).take (t.put j).2++hP p::(L.toList.map (·.1)).drop (t.put j).2:=by
   rw[Tj,dS,bb,zk,BE]
  have U:Tab (t.put j).1 ((insertAt L (t.put j).2 (hP p,bg b)).toList.map (·.1)):=by rw[X1];exact T1
  have T:(t.put j).1.fill=I.length+1:=by
   unfold KO;rw[U.dum];have:=U.len;rw[av,i8,i8,Y] at this;simpa using this
  have O:(t.put j).1.mask=t.mask:=rfl;refine ae (yE g ex d (by rw[Y];omega) λh1 o1 Z g1 S2 d1=>?_);have N1:¬ (t.put j).1.tooFull=E2:=by
   unfold SetTable.tooFull;rw[T,O,f.msk.1];simp;omega
  rw[UF (by simp[N1])];refine ar (c E2 h1 Z ⟨_,_,_,⟨o1,ep+1,g1,S2,d1⟩,⟨S,S0 h1 Z,P1,U,?_,f.led,N0⟩,O0,T2⟩);rw[W.length_eq,fh,IC,O];exact⟨f.msk.1,by omega⟩
end
section
variable {A:aE}{R:nL->ah->Prop}{I:Addr}{wr:List Addr}{P:Nat->ac->Prop}{Sx:Nat->Heap->Prop}{B:Addr->Prop}
theorem SK.keep{h h':Heap}{a:Addr}{ps:List mf}(x:SK prog w B h a ps)(e:∀b,B b->∀o,h.get? b=X0 o->h'.get? b=X0 o)(Y:∀o,h.get? a=X0 o->h'.get? a=X0 o):SK prog w B h' a ps:=by
 obtain⟨U,t,J,⟨o,W,g,q⟩,f,T,z⟩:=x;exact⟨U,t,J,⟨o,W,Y o g,q⟩,f.keep λx O L S=>e x.2 (z x O) L S,T,z⟩
def Sr(val:Nat->mf)(i:Nat):List mf:=((aS i).map val).foldl WS []
def Qt(val:Nat->mf)(i:Nat):Sr val (i+1)=WS (Sr val i) (val i):=by simp[Sr,xS,List.foldl_append]
theorem Xq(val:Nat->mf):∀i,(Sr val i).length<=i
 |0=>aw _
 |i+1=>by
  have q:=Xq val i;rw[Qt];unfold WS;split<;>simp<;>omega
theorem AAc(hu:A.units+1<bo)(W:ki prog w A.in1 I fp wr n P Sx){S:Addr}(nS:S∉fp)(val:Nat->mf)(bs:Nat->Addr)(hv:∀i v,P i v->v=.ref (bs i))(hB:∀i,i<n->B (bs i))(nB:∀b,B b->b∉wr/\b≠S)(hb:n<=4):
    ∀(m i:Nat) (s:ah),i+m=n->Sx i s.heap->SK prog w B s.heap S (Sr val i)->(∀i,i<n->QP prog w s.heap (val i) (bs i)) ->
      (∀h' tk,(∀b o,b∉wr->b≠S->s.heap.get? b=X0 o->h'.get? b=X0 o)->SK prog w B h' S (Sr val n)->R (.ok (.ret .none)) { s with heap:=h',toks:=tk }) ->
      gg (ai prog w) A (.builtin "set.update.loop" ⟨[.ref S,.ref I],[]⟩) R s:=by
  have nW:S∉wr:=λz=>nS (W.sub S z);have J:∀{s:ah},ag (ai prog w) A.in1 (do
        let X0 x <-eK (.ref I) | ret .none
        let _ <-lS [x] (setAdd S x)
        again (.builtin "set.update.loop" ⟨[.ref S,.ref I],[]⟩))
      (λrz Y=>match rz with | .done f=>R (.ok f) Y | .again c'=>c'.quiet=E2/\gg (ai prog w) A c' R Y) (λe Y=>R (.error e) Y) s->gg (ai prog w) A (.builtin "set.update.loop" ⟨[.ref S,.ref I],[]⟩) R s:=λq=>by
    refine hJ PyProof.Rows.F.entry_set_update_loop ?_;rw[kX L5 _];exact q
  intro m
  induction m with
  |zero=>
    intro i s e st x _ k;have:i=n:=by omega
    subst this;exact J (ae (W.done s _ _ st λh' tk L=>ar (k h' tk (λb o Z _ q=>L b o Z q) (x.keep (λb hb o q=>L b o (nB b hb).1 q) λo q=>L S o nW q))))
  |succ m ih=>
    intro i s e st x al k;refine J (ae (W.item i s _ _ .(0) st λv h1 tk pv N0 L=>?_));obtain rfl:=hv i v pv;have x1:SK prog w B h1 S (Sr val i):=x.keep (λb hb o q=>L b o (nB b hb).1 q) λo q=>L S o nW q;have U:∀i,i<n->QP prog w h1 (val i) (bs i):=λi T=>(al i T).keep λo q=>L _ o (nB _ (hB i T)).1 q;have hl:=Xq val i;have y:=U i .(0);refine ae (wpAny_holding (wpAny_holding (ae (GB (s:={ s with heap:=h1,toks:=tk }) (show A.in1.units<bo from hu) y.2 ?_))));rw[rY y.1];refine AAb (s:={ s with heap:=h1,toks:=tk+((kk (val i)).length+1) }) (w:=w) (show A.in1.units<bo from hu) x1 y (hB i .(0)) .(0) λb h2 sb x2=>ar ⟨ko L5 _,?_⟩;rw[<-Qt] at x2;refine ih (i+1) { s with heap:=h2,toks:=tk+((kk (val i)).length+1) } .(0) (W.frame _ _ _ N0 λb m o q=>(sb.2 b λz=>nS (z▸m)).trans q) x2 (λi T=>(U i T).keep λo q=>(sb.2 _ (nB _ (hB i T)).2).trans q) λh3 t3 O0 x3=>?_;exact k h3 t3 (λb o Z O q=>O0 b o Z O ((sb.2 b O).trans (L b o Z q))) x3
structure ZN (prog:cr) (w:bP) (T:String) (l:Addr) (n:Nat) (bs:Nat->Addr) (h0:Heap):Prop where
 ty:∀s:ah,(∀o,h0.get? l=X0 o->s.heap.get? l=X0 o)->s.TypeIs (.ref l) T
 ns:isSubtype (.type T) (.type "set")=pure E3
 nf:isSubtype (.type T) (.type "frozenset")=pure E3
 nd:(mB T==mB "dict")=E3
 lt:l<h0.objs.size
 it:∀(A:aE) (E:ac->ah->Prop) (s:ah) (Q:ac->ah->Prop),A.handled=W1->(∀o,h0.get? l=X0 o->s.heap.get? l=X0 o)->l<s.heap.objs.size ->
  (∀(oI:Obj) (Sx:Nat->Heap->Prop) (P:Nat->ac->Prop),(∀A':aE,A'.handled=W1->ki prog w A' s.heap.objs.size [s.heap.objs.size,l] [s.heap.objs.size] n P Sx)->Sx 0 (s.heap.push oI)->(∀i v,P i v->v=.ref (bs i))->Q .(11) { s with heap:=s.heap.push oI }) ->
  ag (ai prog w) A (nI (.ref l)) Q E s
def ZX(h:Heap):SK prog w B (h.push { cls:=.type "set",dict:=W1,data:=.set #[] 0 (.fresh 0 0 (!btx w)) }) h.objs.size []:=
 ⟨#[],_,[],⟨_,0,bS _ rfl,⟨rfl,rfl,rfl⟩,rfl⟩,⟨rfl,by simp,by simp,⟨rfl,by simp[EZ,SL],rfl,by simp[EZ],by simp,by simp⟩,⟨rfl,by simp⟩,λb=>by simp[EZ,b],rfl⟩,by simp,by simp⟩
theorem sG{B:Addr->Prop}{T:String}{l:Addr}{val:Nat->mf}{bs:Nat->Addr}{Q:ac->ah->Prop}(hu:A.units+4<bo)(hh:A.handled=W1)(X:ZN prog w T l n bs s.heap)(al:∀i,i<n->QP prog w s.heap (val i) (bs i))(L:n<=4)(hB:∀i,i<n->B (bs i))(Y:∀b,B b->b<s.heap.objs.size)(k:∀h' tk,SK prog w B h' s.heap.objs.size (Sr val n)->.(7)->Q .(11) { s with heap:=h',toks:=tk }):ag (ai prog w) A (call (.type "set") [.ref l]) Q E s:=by
 refine AAZ (Q1:=λob O=>ob=.ref s.heap.objs.size/\O={ s with heap:=s.heap.push { cls:=.type "set",dict:=W1,data:=.set #[] 0 (.fresh 0 0 (!btx w)) } }) F.called_set (F.typeCall_set_1 _) (rU _ ⟨rfl,rfl⟩) λob O q0=>?_;obtain⟨e1,e2⟩:=q0;subst e1 e2;have ob:=bS s.heap (o:={ cls:=.type "set",dict:=W1,data:=.set #[] 0 (.fresh 0 0 (!btx w)) }) rfl;refine⟨⟨_,ob,rfl⟩,codeAny_call_builtin F.called_set.init.plain F.entry_set_init (check_set_init_1 ⟨_,ob,rfl⟩ ?_)⟩;have Z:∀o,s.heap.get? l=X0 o->(s.heap.push { cls:=.type "set",dict:=W1,data:=.set #[] 0 (.fresh 0 0 (!btx w)) }).get? l=X0 o:=λo q=>ba _ q;have ty:=X.ty { s with heap:=s.heap.push { cls:=.type "set",dict:=W1,data:=.set #[] 0 (.fresh 0 0 (!btx w)) } } Z;have O:=X.ns;have s2:=X.nf;have s3:=X.nd;unfold fN.«set.__init__» noKeywords Builtin.Frozenset.updateFrom;generalize hp:nI=PI
 wp_walk
 subst hp;refine X.it _ _ _ _ (by simp[hh]) Z (by rw[iE];exact mS X.lt) λoI Sx P W st hv=>?_;refine ae (BF ?_);have J:(s.heap.push { cls:=.type "set",dict:=W1,data:=.set #[] 0 (.fresh 0 0 (!btx w)) }).objs.size=s.heap.objs.size+1:=iE _ _;have x0:SK prog w B ((s.heap.push { cls:=.type "set",dict:=W1,data:=.set #[] 0 (.fresh 0 0 (!btx w)) }).push oI) s.heap.objs.size (Sr val 0):=(ZX s.heap).keep (λb _ o q=>ba _ q) λo q=>ba _ q;refine AAc (by simp;omega) (W _ (by simp[hh])) (S:=s.heap.objs.size) (λz=>?_) val bs hv hB (λb L=>⟨λz=>?_,bX (Y b L)⟩) L n 0 _ .(0) st x0 (λi hi=>(al i hi).keep λo q=>ba _ (ba _ q)) λh' tk kp x=>?_
 .rcases bp.mp z with z | z
  .rw[J] at z;exact MG z (bX (tq _))
  .exact MG (ii.mp z) (pd X.lt)
 .have e:=ii.mp z;rw[J] at e;exact MG e (bX (mS (Y b L)))
 .show ag _ _ _ _ _ _;refine ar (show ag _ _ (ret hU) _ _ _ from ar ⟨rfl,k h' tk x λb o q=>?_⟩);have U:b<s.heap.objs.size:=bn q;exact kp b o (λz=>by have e:=ii.mp z;rw[J] at e;exact MG e (bX (mS U))) (bX U) (ba _ (ba _ q))
end
end PV
namespace PV
open PySem PySem.W PyProof.Rows
section
variable {key:Nat->Nat}
def RO(n:Nat)(z:Nat->Nat){I:Type}:KasT I->(I->Prop)->Prop
 |.ret a,Q=>Q a
 |.ask i j k,Q=>i<n/\j<n/\RO n z (k (decide (z i<z j))) Q
theorem RO.bind{z I:Type}{f:z->KasT I}{Q:I->Prop}{R:z->Prop}:∀{t:KasT z},RO n key t R->(∀a,R a->RO n key (f a) Q)->RO n key (t.bind f) Q
 |.ret a,h,k=>k a h
 |.ask i j g,h,k=>⟨h.1,h.2.1,RO.bind h.2.2 k⟩
theorem RO.wp{z:Type}{cmp:Nat->Nat->(Bool->ah->Prop)->ah->Prop}{s:ah}(J:∀i j C,i<n->j<n->C (decide (key i<key j)) s->cmp i j C s){Q:z->Prop}{R:z->ah->Prop}(I:∀a,Q a->R a s):∀{t:KasT z},RO n key t Q->t.kasWp cmp R s
 |.ret a,h=>I a h
 |.ask i j k,h=>J i j _ h.1 h.2.1 (RO.wp J I h.2.2)
structure Od (n:Nat) (p:Array Nat):Prop where
 sz:p.size=n
 pm:p.toList.Perm (aS n)
theorem Od.lt{p:Array Nat}(o:Od n p){i:Nat}(h:i<n):p.getD i 0<n:=by
 have z:i<p.size:=by rw[o.sz];exact h
 rw[show p.getD i 0=p[i] by simp[z]];have:p[i]∈p.toList:=by simp
 exact cE.mp (o.pm.mem_iff.mp this)
theorem Od.inj{p:Array Nat}(o:Od n p){i j:Nat}(L:i<n)(I:j<n)(e:p.getD i 0=p.getD j 0):i=j:=by
 have U:i<p.size:=by rw[o.sz];exact L
 have J:j<p.size:=by rw[o.sz];exact I
 rw[show p.getD i 0=p[i] by simp[U],show p.getD j 0=p[j] by simp[J]] at e;have z:p.toList.Nodup:=o.pm.nodup_iff.mpr yT;refine (ER (l:=p.toList) (by simpa using U) z).mp ?_;rw[bv (by simpa using U),bv (by simpa using J)];simpa using e
def ZH(z:Nat->Nat)(p:Array Nat)(m:Nat):Prop:=∀i j,i<j->j<m->z (p.getD i 0)<z (p.getD j 0)
def Dsc(z:Nat->Nat)(p:Array Nat)(m:Nat):Prop:=∀i j,i<j->j<m->z (p.getD j 0)<z (p.getD i 0)
variable (inj:∀i j,i<n->j<n->key i=key j->i=j)
include inj
theorem lV{p:Array Nat}(o:Od n p){i j:Nat}(z:i<n)(U:j<n)(h:i≠j):key (p.getD i 0)≠key (p.getD j 0):=λe=>h (o.inj z U (inj _ _ (o.lt z) (o.lt U) e))
theorem ZZ{p:Array Nat}(o:Od n p):∀(f m:Nat),1<=m->m+f<=n->ZH key p m->RO n key (kas_asc p f m) λr=>m<=r/\r<=m+f/\ZH key p r/\(r<m+f->key (p.getD r 0)<key (p.getD (r-1) 0))
 |0,m,S,L,a=>⟨aw _,aw _,a,λz=>MG z .(0)⟩
 |f+1,m,S,L,a=>by
  refine⟨o.lt .(0),o.lt .(0),?_⟩
  by_cases c:key (p.getD m 0)<key (p.getD (m-1) 0)
  .rw[OG c];dsimp only;rw[SF rfl];exact⟨aw _,by omega,a,λ_=>c⟩
  .rw[NG c];dsimp only;rw[UF .(1)];have ne:=lV inj o (i:=m) (j:=m-1) .(0) .(0) .(0);have U:ZH key p (m+1):=λi j I W=>by
    by_cases e:j=m
    .subst e
     by_cases T:i=j-1
     .subst T;omega
     .have:=a i (j-1) .(0) .(0);omega
    .exact a i j I .(0)
   have:=ZZ o f (m+1) .(0) .(0) U;have O:∀{t:KasT Nat},RO n key t (λr=>m+1<=r/\r<=m+1+f/\ZH key p r/\(r<m+1+f->key (p.getD r 0)<key (p.getD (r-1) 0)))->RO n key t λr=>m<=r/\r<=m+(f+1)/\ZH key p r/\(r<m+(f+1)->key (p.getD r 0)<key (p.getD (r-1) 0)):=λ{t}=>by
    induction t with
    |ret r=>exact λh=>⟨by have:=h.1;omega,by have:=h.2.1;omega,h.2.2.1,λz=>h.2.2.2 .(0)⟩
    |ask i j k J=>exact λh=>⟨h.1,h.2.1,J _ h.2.2⟩
   exact O this
theorem bH{p:Array Nat}(o:Od n p):∀(f m:Nat),1<=m->m+f<=n->Dsc key p m->RO n key (kas_desc f p m 0) λr=>r.1=p/\r.2.2=0/\m<=r.2.1/\r.2.1<=m+f/\Dsc key p r.2.1
 |0,m,L,J,a=>⟨rfl,rfl,aw _,aw _,a⟩
 |f+1,m,L,J,a=>by
  refine⟨o.lt .(0),o.lt .(0),?_⟩;have ne:=lV inj o (i:=m) (j:=m-1) .(0) .(0) .(0)
  by_cases c:key (p.getD m 0)<key (p.getD (m-1) 0)
  .rw[OG c];dsimp only;rw[SF rfl,UF .(0)];have T:Dsc key p (m+1):=λi j I U=>by
    by_cases e:j=m
    .subst e
     by_cases S:i=j-1
     .subst S;omega
     .have:=a i (j-1) .(0) .(0);omega
    .exact a i j I .(0)
   have:=bH o f (m+1) .(0) .(0) T;have O:∀{t:KasT (Array Nat×Nat×Nat)},RO n key t (λr=>r.1=p/\r.2.2=0/\m+1<=r.2.1/\r.2.1<=m+1+f/\Dsc key p r.2.1)->RO n key t λr=>r.1=p/\r.2.2=0/\m<=r.2.1/\r.2.1<=m+(f+1)/\Dsc key p r.2.1:=λ{t}=>by
    induction t with
    |ret r=>exact λh=>⟨h.1,h.2.1,by have:=h.2.2.1;omega,by have:=h.2.2.2.1;omega,h.2.2.2.2⟩
    |ask i j k z=>exact λh=>⟨h.1,h.2.1,z _ h.2.2⟩
   exact O this
  .rw[NG c];dsimp only;rw[UF .(1)];refine⟨o.lt .(0),o.lt .(0),?_⟩;rw[OG (show key (p.getD (m-1) 0)<key (p.getD m 0) by omega)];dsimp only;rw[SF rfl];exact⟨rfl,rfl,aw _,Nat.le_add_right m (f+1),a⟩
omit inj
theorem Od.rev{p:Array Nat}(o:Od n p)(m:Nat):Od n (zl p 0 m):=⟨(mirror_size _ _ _ _).trans o.sz,(L6.mp (mirror_perm p 0 m _)).trans o.pm⟩
theorem lW{p:Array Nat}{m:Nat}(z:m<=p.size){k:Nat}(I:k<m):(zl p 0 m).getD k 0=p.getD (m-1-k) 0:=by
 have e:=getElem?_mirror (xs:=p) (i:=0) (j:=m) z ((m-0)/2) .(0) k;have:(zl p 0 m)[k]?=p[m-1-k]?:=by
  unfold zl;rw[e];split
  .congr 1;omega
  .congr 1;omega
 simp only[L7,this]
include inj
theorem lX{p:Array Nat}(o:Od n p)(m:Nat)(h1:1<=m)(I:m<=n)(d:Dsc key p m):RO n key (kas_tail3 m n p) λr=>Od n r.2/\1<=r.1/\r.1<=n/\ZH key r.2 r.1:=by
 have z:=o.rev m;have a:ZH key (zl p 0 m) m:=λi j L U=>by
  rw[lW (by rw[o.sz];exact I) (by omega:i<m),lW (by rw[o.sz];exact I) U];exact d _ _ .(0) .(0)
 unfold kas_tail3;exact RO.bind (ZZ inj z (n-m) m h1 .(0) a) λr J=>⟨z,by omega,by omega,J.2.2.1⟩
theorem lY(h1:1<=n){p:Array Nat}(o:Od n p):RO n key (kas_count n p) λr=>Od n r.2/\1<=r.1/\r.1<=n/\ZH key r.2 r.1:=by
 unfold kas_count;refine RO.bind (ZZ inj o (n-1) 1 (aw _) .(0) λi j I Z=>by omega) λm Y=>?_;obtain⟨T,m2,a,S⟩:=Y
 by_cases c:(m==n)=E2
 .rw[SF c];exact⟨o,T,by omega,a⟩
 .rw[UF c];have c':m≠n:=by simpa using c
  by_cases z:m > 1
  .rw[SF z];refine⟨o.lt .(0),o.lt .(0),?_⟩;rw[OG (a 0 (m-1) .(0) .(0))];dsimp only;rw[SF rfl];exact⟨o,T,by omega,a⟩
  .rw[UF z];have e1:m=1:=by omega
   subst e1;have U:=S .(0);unfold kas_descPart;have d:Dsc key p 2:=λi j I Z=>by
    have:i=0:=by omega
    have:j=1:=by omega
    subst i j;exact U
   refine RO.bind (bH inj o (n-(1+1)) (1+1) .(0) .(0) d) λr W=>?_;obtain⟨O,L,r3,r4,J⟩:=W;rw[L,UF .(0),O];exact lX inj o r.2.1 .(0) .(0) J
omit inj
theorem Tp{p:Array Nat}(o:Od n p){k:Nat}(L:k<n)(a:ZH key p k):∀(f l r:Nat),r-l<=f->l<=r->r<=k->(∀i,i<l->¬ key (p.getD k 0)<key (p.getD i 0))->(∀i,r<=i->i<k->key (p.getD k 0)<key (p.getD i 0))->RO n key (kas_place p k f l r) λx=>x<=k/\(∀i,i<x->¬ key (p.getD k 0)<key (p.getD i 0))/\(∀i,x<=i->i<k->key (p.getD k 0)<key (p.getD i 0))
 |0,l,r,T,Y,S,J,I=>⟨by omega,J,λi O z=>I i .(0) z⟩
 |f+1,l,r,T,Y,S,J,I=>by
  unfold kas_place
  by_cases c:l≥r
  .rw[SF c];exact⟨by omega,J,λi O z=>I i .(0) z⟩
  .rw[UF c];refine⟨o.lt L,o.lt .(0),?_⟩
   by_cases d:key (p.getD k 0)<key (p.getD ((l+r)/2) 0)
   .rw[OG d];dsimp only;rw[SF rfl];refine Tp o L a f l ((l+r)/2) .(0) .(0) .(0) J λi O z=>?_
    by_cases e:i=(l+r)/2
    .subst e;exact d
    .have:=a ((l+r)/2) i .(0) z;omega
   .rw[NG d];dsimp only;rw[UF .(1)];refine Tp o L a f ((l+r)/2+1) r .(0) .(0) S (λi O=>?_) I
    by_cases e:i=(l+r)/2
    .subst e;exact d
    .have:=a i ((l+r)/2) .(0) .(0);omega
include inj
theorem lZ:∀(f:Nat) {p:Array Nat}{k:Nat},Od n p->k+f=n->ZH key p k->RO n key (kas_bin f p k) λq=>Od n q/\ZH key q n
 |0,p,k,o,e,a=>⟨o,by rw[<-e];exact a⟩
 |f+1,p,k,o,e,a=>by
  unfold kas_bin;refine RO.bind (Tp o .(0) a k 0 k .(0) .(0) (aw _) (λi hi=>by omega) λi h1 h2=>by omega) λl W=>?_;obtain⟨l1,Y,U⟩:=W;have hs:k<p.size:=by rw[o.sz];omega
  have T:Od n (bubble p k (k-l)):=⟨(bubble_size _ _ _).trans o.sz,(L6.mp (bubble_perm p k _)).trans o.pm⟩;have z:∀i,(bubble p k (k-l)).getD i 0=if i=l then p.getD k 0 else if l<i/\i<=k then p.getD (i-1) 0 else p.getD i 0:=λi=>by
   have e:=getElem?_bubble hs (k-l) .(0) i;rw[show k-(k-l)=l by omega] at e;simp only[L7,e];split
   .rfl
   .split<;>rfl
  refine lZ f T .(0) λi j Z hj=>?_;rw[z i,z j];have O:∀x,x<k->key (p.getD k 0)≠key (p.getD x 0):=λx hx=>lV inj o .(0) .(0) .(0)
  by_cases L:i=l
  .rw[SF L,UF .(0),SF .(0)];exact U (j-1) .(0) .(0)
  .rw[UF L]
   by_cases S:j=l
   .rw[SF S,UF .(0)];have:=Y i .(0);have:=O i .(0);omega
   .rw[UF S]
    by_cases J:l<i/\i<=k
    .rw[SF J,SF .(0)];exact a _ _ .(0) .(0)
    .rw[UF J]
     by_cases I:l<j/\j<=k
     .rw[SF I]
      by_cases e2:i=j-1
      .omega
      .exact a _ _ .(0) .(0)
     .rw[UF I];exact a _ _ .(0) .(0)
theorem sH(h1:1<=n):RO n key (kas_sort n) λq=>Od n q/\ZH key q n:=by
 have o:Od n (L8 (aS n)):=⟨by simp,by simp⟩;unfold kas_sort;refine RO.bind (lY inj h1 o) λr J=>?_;obtain⟨I,O,L,z⟩:=J
 by_cases c:r.1<n
 .rw[SF c,show max r.1 1=r.1 by omega];exact lZ inj (n-r.1) I .(0) z
 .rw[UF c];have:r.1=n:=by omega
  exact⟨I,this▸z⟩
end
open PySem.Spec L2
def PR(p:mf):Nat:=5*p.1+p.2
section
variable {A:aE}
theorem QP.items{p:mf}(x:QP prog w h p b):∃o n t u,h.get? b=X0 o/\o.cls=.type "tuple"/\o.data=.seq #[.int (p.1:Int) t,.int (p.2:Int) u] n:=by
 obtain⟨_,o,J,n,g,c,d,i⟩:=x;unfold kk at i;generalize e:J.toList=l at i;cases i with
 | @cons _ Y _ I S i=>
  cases i with
  | @cons _ U _ W O i=>
   cases i;have f:∀{k:Int}{v:ac},(Av prog w).is (.inl k) v=E2->∃t,v=.int k t:=λ{k v} L=>by
    rcases Bq (show RC (.inl k) v=E2 from L) with ⟨j,t,z,T⟩ | ⟨y,t,z,_⟩
    .have:=wt z;subst this;exact⟨t,T⟩
    .cases z
   obtain⟨t,rfl⟩:=f S;obtain⟨u,rfl⟩:=f O;refine⟨o,n,t,u,g,c,?_⟩;rw[d];congr 1;exact E9.mp e
def AAd{p q:mf}{c:Addr}{Q:Bool->ah->Prop}(x:QP prog w s.heap p b)(y:QP prog w s.heap q c)(k:Q (decide (PR p<PR q)) s):ag (ai prog w) A (keyLt' (tuples' E2) (.ref b) (.ref c)) Q E s:=by
 have S:=x.1;have Y:=y.1;obtain⟨o,n,t,u,g,_,d⟩:=x.items;obtain⟨Z,n2,J,u2,T,_,W⟩:=y.items;obtain⟨O,L⟩:=p;obtain⟨q1,q2⟩:=q;obtain⟨h1,h2⟩:O<5/\L<5:=S;obtain⟨h3,h4⟩:q1<5/\q2<5:=Y;unfold PR at k;simp only at k;refine kat_lt g d T W ?_;show KatLex _ _ _ _ _ _ [(.int (O:Int) t,.int (q1:Int) J),(.int (L:Int) u,.int (q2:Int) u2)] 0 s;refine kat_cons (CA (kat_go (λe=>?_) λe=>?_))
 .have U:O=q1:=by have:=eq_of_beq e;omega
  refine kat_yes (kat_cons (CA (kat_go (λI=>?_) λI=>?_)))
  .have e3:L=q2:=by have:=eq_of_beq I;omega
   refine kat_yes (kat_nil ?_);rw[NG .(0)] at k;exact k
  .refine kat_no (kat_one _ _ (PyProof.Rows.lt_int ?_));show Q (decide ((L:Int)<(q2:Int))) s;rw[show decide ((L:Int)<(q2:Int))=decide (5*O+L<5*q1+q2) by rw[decide_eq_decide];omega];exact k
 .have U:O≠q1:=λz=>by rw[z] at e;simp at e
  refine kat_no (oneLt_int ?_);rw[show decide ((O:Int)<(q1:Int))=decide (5*O+L<5*q1+q2) by rw[decide_eq_decide];omega];exact k
theorem lg{h:Heap}:∀{qs:List (mf×Addr)},(∀x∈qs,QP prog w h x.1 x.2)->∃fs:List ac,KatTups h (qs.map λx=>.ref x.2) fs/\fs.length=qs.length/\∀v∈fs,∃i t,v=sQ i t
 |[],_=>⟨[],KatTups.nil,rfl,by simp⟩
 |x::r,I=>by
  obtain⟨fs,a,b,c⟩:=lg (qs:=r) λy J=>I y (by simp[J]);obtain⟨o,n,t,u,g,L,d⟩:=(I x .(1)).items;refine⟨.int (x.1.1:Int) t::fs,KatTups.cons g L d rfl a,by simp[b],λv z=>?_⟩
  rcases bp.mp z with rfl | z
  .exact⟨_,_,rfl⟩
  .exact c v z
def bI{p q:mf}(a:QU p)(b:QU q)(e:PR p=PR q):p=q:=by
 obtain⟨O,L⟩:=p;obtain⟨q1,q2⟩:=q;obtain⟨J,I⟩:O<5/\L<5:=a;obtain⟨S,z⟩:q1<5/\q2<5:=b;unfold PR at e;simp only at e;have:O=q1:=by omega
 have:L=q2:=by omega
 rw[‹O=q1›,‹L=q2›]
theorem bJ{z:Type}:∀l:List z,(l.zip l).map (·.2)=l
 |[]=>rfl
 |x::r=>by rw[Cf,bb,bJ r]
theorem Tq{qs:List (mf×Addr)}{P:Fin->ah->Prop}(ho:s.heap.get? a=X0 (seqObj "list" (qs.map λx=>bg x.2).toArray n))(O:∀x∈qs,QP prog w s.heap x.1 x.2)(nd:(qs.map (·.1)).Nodup)(T2:qs.length<64)(k:∀Z:List (mf×Addr),Z.Perm qs->(Z.map λx=>PR x.1).Pairwise (·<·)->P (.done (.ret .none)) { s with heap:=sortedHeap s.heap a (qs.map λx=>bg x.2) (Z.map λx=>bg x.2).toArray }):
  ag (ai prog w) A (fN.«list.sort» ⟨[.ref a],[]⟩) P E s:=by
 generalize S:(qs.map λx=>bg x.2)=vs at ho k;have lv:vs.length=qs.length:=by rw[<-S,av]
 rw[list_sort_plain];have ha:a<s.heap.objs.size:=bn ho;refine ae (listItems_at ho rfl ?_);refine ae (F0 ho rfl ?_ (by rw[ck,iA];omega) (eW _));obtain⟨e1,N1⟩:∃e1,(s.heap.update a (kg λ_=>#[])).get? a=X0 (seqObj "list" #[] e1):=⟨_,get?_update_seq ho (λ_=>#[])⟩;refine ae (F3 N1 rfl ?_);refine ae (wpAny_newTuple ?_ (by show vs.length<=_;rw[iA];omega));refine ae (vS ?_ (eW _));refine wpAny_holding ?_;generalize hg:((s.heap.update a (kg λ_=>#[])).push (seqObj "tuple" vs.toArray 0)).push (seqObj "list" #[] 0)=g6;have W:g6.get? a=X0 (seqObj "list" #[] e1):=by
  rw[<-hg];exact ba _ (ba _ N1)
 have J:∀x∈qs,QP prog w g6 x.1 x.2:=λx hx=>(O x hx).keep λo g=>by
  rw[<-hg];have ne:x.2≠a:=λz=>by
   obtain⟨o2,_,_,_,g2,c2,_⟩:=(O x hx).items;rw[z] at g2;cases g2.symm.trans ho;have c3:mB "list"=mB "tuple":=c2;injection c3 with c3
   exact MG c3 .(2)
  exact ba _ (ba _ ((gE _ _ (cf ne)).trans g))
 have hG:sortedHeap s.heap a vs=λS0=>g6.update a (kg λ_=>S0):=by funext S0;rw[<-hg];rfl
 dsimp only
 by_cases Y:vs.toArray.size<2
 .rw[SF Y,SF Y];refine ae (ar ?_);rw[StateT.run_pure];refine ae (ar ?_);dsimp only;refine ae (F3 W rfl ?_);refine ae (F0 W rfl ?_ (hsz2:=by rw[Array.size_map];show (pairsOf vs).size<=_;rw[PyProof.Rows.pairsOf_size,iA];omega));simp only[bne_self_eq_false,dE,NH];refine ar ?_;have:=k qs (sC _) (by
   rw[ck,lv] at Y
   match qs,Y with
   |[],_=>exact AQ
   |[x],_=>exact List.pairwise_singleton _ _)
  rw[S,hG] at this;have ez:(arrOf (L9 general' (vs.toArray.zip vs.toArray) #[] 7 W1)).map (·.2)=vs.toArray:=by
   show (vs.toArray.zip vs.toArray).map (·.2)=vs.toArray;apply E9.mp;simp[bJ]
  rw[show (vs.toArray.zip vs.toArray)=pairsOf vs from rfl] at ez;show P _ { s with heap:=g6.update a (kg λ_=>(arrOf (L9 general' (pairsOf vs) #[] 7 W1)).map (·.2)) };rw[ez];exact this
 .rw[UF Y,UF Y];have l2:2<=vs.length:=by rw[ck] at Y;omega
  obtain⟨fs,t1,t2,t3⟩:=lg J;rw[S] at t1;refine ae (kat_kind (s:={ s with heap:=g6 }) (T:=mB "int") t1 (by rw[t2,<-lv];omega) (λv hv=>?_) .(2) ?_)
  .obtain⟨i,t,rfl⟩:=t3 v hv;exact .now
  show ag (ai prog w) A _ P E { s with heap:=g6 };rw[show (mB "int" != mB "tuple")=E2 by decide];have N0:∀i (h:i<qs.length),vs.getD i hU=.ref qs[i].2:=λi h=>by
   rw[<-S];simp[h]
  have inj:∀i j,i<vs.length->j<vs.length->(λi=>PR (qs.getD i ((0,0),0)).1) i=(λi=>PR (qs.getD i ((0,0),0)).1) j->i=j:=λi j I U e=>by
   rw[lv] at I U;simp only[show qs.getD i ((0,0),0)=qs[i] by simp[I],show qs.getD j ((0,0),0)=qs[j] by simp[U]] at e;have e2:=bI (O _ (fA I)).1 (O _ (fA U)).1 e;refine (ER (l:=qs.map (·.1)) (by simpa using I) nd).mp ?_;rw[br,br,bv I,bv U];exact SG X0 e2
  have U1:=RO.wp (cmp:=kas_ask prog w A (tuples' E2) vs) (s:={ s with heap:=g6 }) (λi j C I U hC=>by
   rw[lv] at I U;unfold kas_ask;rw[N0 i I,N0 j U];refine AAd (J _ (fA I)) (J _ (fA U)) ?_;simp only[show qs.getD i ((0,0),0)=qs[i] by simp[I],show qs.getD j ((0,0),0)=qs[j] by simp[U]] at hC;exact hC) (Q:=λq=>Od vs.length q/\ZH (λi=>PR (qs.getD i ((0,0),0)).1) q vs.length) (R:=λq z=>z={ s with heap:=g6 }/\Od vs.length q/\ZH (λi=>PR (qs.getD i ((0,0),0)).1) q vs.length) (λq hq=>⟨rfl,hq⟩) (sH inj .(0))
  refine ae (i7 (kat_run (Q:=λL z=>z={ s with heap:=g6 }/\∃p:Array Nat,arrOf L=p.map (kas_item (vs.toArray.zip vs.toArray))/\failedOf L=W1/\Od vs.length p/\ZH (λi=>PR (qs.getD i ((0,0),0)).1) p vs.length) rfl l2 .(0) (λp L z a1 a2 a3 a4=>⟨a4.1,p,a2,a3,a4.2.1,a4.2.2⟩) U1) ?_ λ_ _ e=>e);rintro⟨⟨⟩,L⟩ z ⟨rfl,p,Q2,hf,od,S2⟩;dsimp only;have T0:=kat_snds (ks:=vs) (vs:=vs) rfl Q2;have oq:(L8 (p.toList.map λi=>vs.getD i hU))=((p.toList.map λi=>qs.getD i ((0,0),0)).map λx=>bg x.2).toArray:=by
   rw[bE];congr 1;refine ij λi I=>?_;have I:=cE.mp (od.pm.mem_iff.mp I);rw[lv] at I;rw[N0 i I];simp[I]
  rw[T0,oq];have O0:(p.toList.map λi=>qs.getD i ((0,0),0)).Perm qs:=by
   have e:(aS vs.length).map (λi=>qs.getD i ((0,0),0))=qs:=by
    apply List.ext_getElem
    .simp[lv]
    .intro i h1 Y;simp[Y]
   have:=od.pm.map λi=>qs.getD i ((0,0),0)
   rwa [e] at this
  have S1:((p.toList.map λi=>qs.getD i ((0,0),0)).map λx=>PR x.1).Pairwise (·<·):=by
   rw[bE,kH,vt];intro i j I U X1;have Y1:i<p.size:=by simpa using I
   have P1:j<p.size:=by simpa using U
   have:=S2 i j X1 (by rw[<-od.sz];exact P1);rw[show p.getD i 0=p[i] by simp[Y1],show p.getD j 0=p[j] by simp[P1]] at this;simpa using this
  refine ae (F3 W rfl ?_);refine ae (F0 W rfl ?_ (hsz2:=by
   rw[ck,av,O0.length_eq,iA];omega))
  rw[hf];simp only[bne_self_eq_false,dE,NH];have:=k _ O0 S1;rw[hG] at this;exact ar this
end
theorem NB:F4 "set_iterator" "__next__" "set_iterator.__next__":=
 .of (owner:="set_iterator") (n:="__next__") (by rw[typeLookup_type,Lc];kernel_rfl) (by decide +kernel) (by decide +kernel) (by decide +kernel) (by first | exact .inl (by decide +kernel) | exact .inr (by decide +kernel)) (by rw[qo];kernel_rfl)
def Xr:entryFor table "set_iterator.__next__"=X0 fN.«set_iterator.__next__»:=entryFor_of_tree (by kernel_rfl)
def lr:Manifest.owners.lookup (String.ofList ['r','o','t','a','r','e','t','i','_','t','e','s'].reverse)=X0 Manifest.sig_set_iterator:=by kernel_rfl
theorem bK(a:ac):qk "set_iterator.__next__" ⟨[a],[]⟩:=by
 unfold qk;rw[signature?_of (id:="set_iterator.__next__") (n:=['_','_','t','x','e','n','_','_']) (o:=['r','o','t','a','r','e','t','i','_','t','e','s']) (by kernel_rfl) lr]
 kernel_rfl
section
variable {A:aE}{I T:Addr}{first:ac}{t:SetTable}
def TR(h:Heap)(I q:Addr)(first:ac)(j n ep:Nat):Prop:=∃o,h.get? I=X0 o/\o.cls=.type "set_iterator"/\o.data=.fields #[first,.int j 0,.ref q,.int n 0,.int ep 0]
def Mf(h:Heap)(q:Addr)(es:Array (Int×ac))(ep:Nat)(t:SetTable):Prop:=∃o,h.get? q=X0 o/\o.ExactSet/\o.data=.set es ep t
theorem TR.ty(x:TR s.heap I q first j n ep):s.TypeIs (.ref I) "set_iterator":=let ⟨o,g,c,_⟩:=x;⟨o,g,c⟩
def TR.put0(x:TR h I q first j n ep)(L:ac):TR (h.update I (sv (·.setIfInBounds 0 L))) I q L j n ep:=by
 obtain⟨o,g,c,d⟩:=x;exact⟨_,kG _ g (B6 (sA d _)),(B7 ..).trans c,by rw[sA d];simp⟩
def TR.put1(x:TR h I q first j n ep):TR (h.update I (sv (·.setIfInBounds 1 (eS ((j:Int)+1))))) I q first (j+1) n ep:=by
 obtain⟨o,g,c,d⟩:=x;exact⟨_,kG _ g (B6 (sA d _)),(B7 ..).trans c,by rw[sA d];simp[eS]⟩
def WR{a:Addr}(z:s.heap=h)(x:TR h I q first j n ep){i:Nat}(J:i<5){v:ac}{Q:Unit->ah->Prop}(k:Q () { s with heap:=h.update I (sv (·.setIfInBounds i v)) }):ag (ai prog w) A (setField (.ref I) i v) Q E s:=by
 subst z;obtain⟨o,g,_,d⟩:=x;exact sw g d (by simpa using J) k
theorem sI{sl:Int}{v:ac}{U:Nat}{Q:Option ac->ah->Prop}(x:TR s.heap I q (.int sl 0) j n ep)(y:Mf s.heap q es ep t)(L:t.fits es.size=E2)(J:es.size=n)(z:∀(B:aE) (W:ac->ah->Prop) (R:Option (ac×Nat)->ah->Prop),R (X0 (v,U)) s->ag (ai prog w) B (qA q sl.toNat j ep) R W s)(k:∀h',fI I s.heap h'->TR h' I q (.int U 0) (j+1) n ep->Q (X0 v) { s with heap:=h' }):ag (ai prog w) A (eK (.ref I)) Q E s:=by
 obtain⟨o,g,c,d⟩:=id x;obtain⟨Y,O,_,S⟩:=y;unfold eK;refine ae (ve (o0 (name:=dA "__next__") x.ty NB (hZ NB x.ty Xr ?_ (bK _))));unfold fN.«set_iterator.__next__»;refine ae (ar (ae (B4 g d ?_)));dsimp only;refine ae (F5 O S L ?_);rw[UF (by rw[J];simp),eC,eC];refine ae (z _ _ _ ?_);refine ae (WR (a:=I) rfl x .(2) (ae (WR (a:=I) rfl (x.put0 (eS U)) .(2) (ar ⟨v,rfl,ar ?_⟩))));exact k _ ((vi ..).trans (vi ..)) (x.put0 (eS U)).put1
theorem sJ{Q:Option ac->ah->Prop}{z:ah}(O:A.handled=W1)(k:∀h',(∀b o,z.heap.get? b=X0 o->h'.get? b=X0 o)->Q W1 { z with heap:=h' }):
  ag (ai prog w) A.in1 (v3 (.type "StopIteration") [] >>= λe=>(raiseNew e:Sem Fin)) (λrz J=>∃v,rz=Fin.done (Flow.ret v)/\ag (ai prog w) A (pure (X0 v)) Q E J)
   (λe J=>ag (ai prog w) A (A3 e (.type "StopIteration") >>= λb=>if b=E2 then pure W1 else throw e) Q E J) z:=by
 refine ae ?_;simp only[v3,B3];refine ae (kB ?_ (by size_fits));refine ae (m:=BG _ _) (ya (a:=hU) (by first | rfl | (simp only[BG];rfl)) (kB ?_ (by size_fits)));unfold raiseNew;refine ae (wpAny_handled ?_);rw[show A.in1.handled=W1 from O];refine ae (ar (wpAny_throw ?_));have ty:∀(L:Heap) (ob:Obj),ob.cls=.type "StopIteration"->ob.isFreed=E3->EF { z with heap:=L.push ob } (.ref L.objs.size) "StopIteration":=λL ob c f=>⟨ob,bS _ f,c⟩;refine ae (rd (T:="StopIteration") (b:=E2) (ty _ _ rfl rfl) EL ?_);refine ar (k _ λb o e=>?_);exact ba _ (ba _ e)
theorem sO{sl:Int}{Q:Option ac->ah->Prop}(S:A.handled=W1)(x:TR s.heap I q (.int sl 0) j n ep)(y:Mf s.heap q es ep t)(U:t.fits es.size=E2)(O:es.size=n)(J:∀(B:aE) (Z:ac->ah->Prop) (R:Option (ac×Nat)->ah->Prop),R W1 s->ag (ai prog w) B (qA q sl.toNat j ep) R Z s)(k:∀h',(∀b o,b≠I->s.heap.get? b=X0 o->h'.get? b=X0 o)->Q W1 { s with heap:=h' }):ag (ai prog w) A (eK (.ref I)) Q E s:=by
 obtain⟨o,g,c,d⟩:=id x;obtain⟨oq,W,_,Y⟩:=y;unfold eK;refine ae (ve (o0 (name:=dA "__next__") x.ty NB (hZ NB x.ty Xr ?_ (bK _))));unfold fN.«set_iterator.__next__»;refine ae (ar (ae (B4 g d ?_)));dsimp only;refine ae (F5 W Y U ?_);rw[UF (by rw[O];simp),eC,eC];refine ae (J _ _ _ (ae (WR (a:=I) rfl x .(2) (sJ S λh' z=>k h' λb o L e=>z b o ?_))));exact (gE _ _ (cf L)).trans e
end
def K1(a:Str):ltS a a=E3:=by
 unfold ltS;exact NG (List.lt_irrefl _)
def Qu{a b:Str}(h1:ltS a b=E2)(z:ltS b c=E2):ltS a c=E2:=by
 unfold ltS at *;exact OG (List.lt_trans (WG h1) (WG z))
def bL{a b:Str}(h1:ltS a b=E3)(J:a≠b):ltS b a=E2:=by
 unfold ltS at *;have z:=of_decide_eq_false h1;have S:b.cps.toList<=a.cps.toList:=Ll.mp z
 rcases Decidable.em (b.cps.toList<a.cps.toList) with h | h
 .exact OG h
 .exfalso;have I:a.cps.toList<=b.cps.toList:=Ll.mp h;have e:a.cps.toList=b.cps.toList:=List.le_antisymm I S;apply J;cases a;cases b;simp at e;rw[e]
def Up(l:List Str):Prop:=l.Pairwise λa b=>ltS a b=E2
theorem Tr(x y:Str):∀l:List Str,y∈VZ x l↔y=x∨y∈l
 |[]=>by simp[VZ]
 |z::r=>by
  unfold VZ;split
  .simp
  .split
   .rename_i _ e;subst e;simp
   .simp[Tr x y r];constructor
    .rintro (h | h | h)
     .exact .inr (.inl h)
     .exact .inl h
     .exact .inr (.inr h)
    .rintro (h | h | h)
     .exact .inr (.inl h)
     .exact .inl h
     .exact .inr (.inr h)
theorem bM(x:Str):∀{l:List Str},Up l->Up (VZ x l)
 |[],_=>by simp[VZ,Up]
 |z::r,h=>by
  obtain⟨L,T⟩:=lx.mp h;unfold VZ;split
  .rename_i J;exact lx.mpr ⟨λy I=>by
    rcases bp.mp I with rfl | I
    .exact J
    .exact Qu J (L y I),h⟩
  .rename_i S;split
   .exact h
   .rename_i O;refine lx.mpr ⟨λy I=>?_,bM x T⟩
    rcases (Tr x y r).mp I with rfl | I
    .exact bL (by simpa using S) O
    .exact L y I
def Mg(l:List Str):Up (CQ l):=by
 unfold CQ
 induction l with
 |nil=>exact AQ
 |cons x r z=>exact bM x z
def Ex(y:Str)(l:List Str):y∈CQ l↔y∈l:=by
 unfold CQ
 induction l with
 |nil=>simp
 |cons x r z=>rw[BH,Tr,z];simp
def Xu{l:List Str}(h:Up l):l.Nodup:=h.imp λ{a b} L e=>by
 subst e;rw[K1] at L;cases L
theorem UH:∀{l m:List Str},l.Nodup->(∀x∈l,x∈m)->l.length<=m.length
 |[],_,_,_=>eW _
 |x::r,m,h,hs=>by
  obtain⟨L,J⟩:=iF.mp h;have I:x∈m:=hs x df;have:=UH (l:=r) (m:=m.erase x) J λy z=>(Bi (λe=>by subst e;exact L z)).mpr (hs y (cp _ z));rw[Bn I] at this;have O:0<m.length:=vx I;simp;omega
theorem Za:∀{l m:List Str},Up l->Up m->(∀x,x∈l↔x∈m)->l=m
 |[],[],_,_,_=>rfl
 |[],y::s,_,_,h=>by have:=(h y).mpr df;simp at this
 |x::r,[],_,_,h=>by have:=(h x).mp df;simp at this
 |x::r,y::s,T,S,h=>by
  obtain⟨L,U⟩:=lx.mp T;obtain⟨b1,b2⟩:=lx.mp S;have e:x=y:=by
   rcases bp.mp ((h x).mp df) with e | J
   .exact e
   .rcases bp.mp ((h y).mpr df) with e | I
    .exact e.symm
    .have:=Qu (L y I) (b1 x J);rw[K1] at this;cases this
  subst e;have:r=s:=Za U b2 λz=>by
   constructor
   .intro O
    rcases bp.mp ((h z).mp (cp _ O)) with e | q
    .subst e;have:=L z O;rw[K1] at this;cases this
    .exact q
   .intro O
    rcases bp.mp ((h z).mpr (cp _ O)) with e | q
    .subst e;have:=b1 z O;rw[K1] at this;cases this
    .exact q
  rw[this]
theorem bN:F4 "set_iterator" "__iter__" "set_iterator.__iter__":=
 .of (owner:="set_iterator") (n:="__iter__") (by rw[typeLookup_type,Lc];kernel_rfl) (by decide +kernel) (by decide +kernel) (by decide +kernel) (by first | exact .inl (by decide +kernel) | exact .inr (by decide +kernel)) (by rw[qo];kernel_rfl)
def l_:entryFor table "set_iterator.__iter__"=X0 fN.«dict_keyiterator.__iter__»:=entryFor_alias (id':="dict_keyiterator.__iter__") (by kernel_rfl) rfl (by decide +kernel) (by kernel_rfl)
theorem sS(a:ac):qk "set_iterator.__iter__" ⟨[a],[]⟩:=by
 unfold qk;rw[signature?_of (id:="set_iterator.__iter__") (n:=['_','_','r','e','t','i','_','_']) (o:=['r','o','t','a','r','e','t','i','_','t','e','s']) (by kernel_rfl) lr]
 kernel_rfl
def WT:entryFor table "set.__iter__"=X0 fN.«frozenset.__iter__»:=entryFor_alias (id':="frozenset.__iter__") (by kernel_rfl) rfl (by decide +kernel) (by kernel_rfl)
section
variable {A:aE}{I T:Addr}{first:ac}{t:SetTable}
theorem JD{z:Type}:∀{l:List z}{i:Nat}(h:i<l.length),(l[i]::l.eraseIdx i).Perm l
 |x::r,0,_=>sC _
 |x::r,i+1,h=>(L3 x (r[i]'(by simpa using h)) _).trans (BD x (JD (by simpa using h)))
def mC{src:Source}{Q:Nat->ah->Prop}(z:n≠0)(k:∀i d,i<n->Q i { s with drawn:=d }):ag M A (choose src n) Q E s:=λJ p _=>by
 show Sem.wp M J (.choose src n .pure) _ _ p s;rw[Sem.wp_choose];exact⟨z,k _ _ (vE _ (KU z))⟩
theorem Tt{z:Type}{M:Model}:∀(m:Nat) (xs:List z) (s:ah) {Q:List z->ah->Prop},xs.length=m->(∀ys d,ys.Perm xs->Q ys { s with drawn:=d })->ag M A (drawOrder m xs) Q E s
 |0,xs,s,Q,Y,k=>by
  have:xs=[]:=ol.mp Y;subst this;exact ar (k [] s.drawn (sC _))
 |m+1,[],s,Q,Y,k=>by simp at Y
 |m+1,x::r,s,Q,Y,k=>by
  show ag M A (choose .order (x::r).length >>= _) Q E s;refine ae (mC .(1) λi d J=>?_);have U:(x::r)[i]?=X0 (x::r)[i]:=by simp
  simp only[U];refine ae (Tt m ((x::r).eraseIdx i) _ (by rw[Lm,SF J];simp at Y ⊢;omega) λys O L=>ar (k _ O ?_));exact (BD _ L).trans (JD J)
def VV{z:Type}(f:Nat->Nat)(xs:Array z):(qE f xs).toList.Perm xs.toList:=by
 have O:∀(m k:Nat) (l:List z) (W:Array z),l.length=m->(F6 f m k l W).toList.Perm (W.toList++l):=by
  intro m
  induction m with
  |zero=>intro k l W Y;have:l=[]:=ol.mp Y;subst this;simp[F6]
  |succ m L=>
   intro k l W Y;have J:f k%l.length<l.length:=vE _ .(0);have U:l[f k%l.length]?=X0 l[f k%l.length]:=by simp[J]
   unfold F6;simp only[U];refine (L _ _ _ (by rw[Lm,SF J];omega)).trans ?_;rw[Array.toList_push,mT];exact List.Perm.append_left _ (JD J)
 have:=O xs.size 0 xs.toList #[] .(1);simpa [qE] using this
theorem Mf.keep(y:Mf h q es ep t)(e:∀o,h.get? q=X0 o->h'.get? q=X0 o):Mf h' q es ep t:=let ⟨o,g,r⟩:=y;⟨o,e o g,r⟩
theorem TR.keep(x:TR h I q first j n ep)(e:∀o,h.get? I=X0 o->h'.get? I=X0 o):TR h' I q first j n ep:=let ⟨o,g,r⟩:=x;⟨o,e o g,r⟩
def sU{Q:ac->ah->Prop}(x:TR s.heap I q first j n ep)(k:Q (.ref I) s):ag (ai prog w) A (nI (.ref I)) Q E s:=by
 refine EM x.ty bN (hZ bN x.ty l_ ?_ (sS _));show ag _ _ (ret (.ref I)) _ _ s;exact ar ⟨_,rfl,"set_iterator",_,x.ty,NB.lookup,k⟩
end
section
variable {A:aE}{I T:Addr}
theorem mD{Q:Bool->ah->Prop}(ty:s.TypeIs (.ref q) "set")(k:Q E3 s):ag (ai prog w) A (Lo (.ref q)) Q E s:=by
 unfold Lo;refine ae (nv ty F.slot_set_len.lookup ?_);generalize J:("set.__len__":String)=sid
 wp_delta
 rw[show splitId sid=X0 ("set","__len__") by subst J;decide +kernel];subst J;refine ae (rd (T:="set") (b:=E2) ty (by rw[qo];kernel_rfl) ?_);refine wpAny_ite_split (λz=>MG z .(2)) λ_=>wpAny_ite_split (λ_=>ae (xw ty (ar k))) λz=>MG (by decide +kernel) z
end
section
variable {A:aE}{I:Addr}{t:SetTable}
structure FQ (w:bP) (es:Array (Int×ac)) (t:SetTable) (qs:List (mf×Addr)):Prop where
 ent:es.toList=qs.map λx=>(hP x.1,bg x.2)
 rise:SL t.place.toList
 len:t.place.size=es.size
 fits:t.fits es.size=E2
 led:btx w=E3->t.led=E2
 pln:t.plain=E2
 sz:qs.length<=18
def FP.toQ{qs:List (mf×Addr)}(f:FP prog w h es t qs):FQ w es t qs:=by
 have l:=f.tab.len;rw[av,i8,i8] at l;exact⟨f.ent,f.tab.rise,l,f.fits,f.led,f.pln,by have:=f.msk.2;omega⟩
def QO(w:bP)(h:Heap)(a:Addr)(qs:List (mf×Addr)):Prop:=∃es t,ObX h a es t/\FQ w es t qs
def QO.keep{qs:List (mf×Addr)}(x:QO w h a qs)(e:∀o,h.get? a=X0 o->h'.get? a=X0 o):QO w h' a qs:=by
 obtain⟨z,t,⟨o,J,g,q⟩,f⟩:=x;exact⟨z,t,⟨o,J,e o g,q⟩,f⟩
theorem Xv(xs:Array Nat)(z:SL xs.toList){v i:Nat}(O:i<=xs.size)(h1:∀a (h:a<xs.size),a<i->xs[a]<v)(J:∀a (h:a<xs.size),i<=a->v<=xs[a]):zn xs v=i:=by
 obtain⟨L,b1,b2⟩:=Pn xs z v;generalize zn xs v=b at L b1 b2
 rcases B9 b i with c | c | c
 .have:=b2 b .(0) (aw _);have:=h1 b .(0) c;omega
 .exact c
 .have:=b1 i .(0) c;have:=J i .(0) (aw _);omega
def Zb(xs:Array Nat)(z:SL xs.toList){i:Nat}(S:i<=xs.size):zn xs (if i=0 then 0 else xs.getD (i-1) 0+1)=i:=by
 have mono:∀a b (U:a<xs.size) (T:b<xs.size),a<b->xs[a]<xs[b]:=λa b U T O=>by
  have:=vt.mp z a b (by simpa using U) (by simpa using T) O;simpa using this
 by_cases W:i=0
 .rw[SF W];exact Xv xs z S (λa h L=>by omega) λa h _=>eW _
 .have J:i-1<xs.size:=by omega
  rw[UF W,show xs.getD (i-1) 0=xs[i-1] by simp[J]];refine Xv xs z S (λa h L=>?_) λa h Y=>?_
  .by_cases e:a=i-1
   .subst e;omega
   .have:=mono a (i-1) h J .(0);omega
  .have:=mono (i-1) a J h .(0);omega
def mF{sl:Nat->Nat}(S:q≠I)(hf:t.fits es.size=E2)(hL:vs.length=es.size)(hx:∀(i:Nat) (z:ah),i<=es.size->Mf z.heap q es ep t->(∃v,vs[i]?=X0 v/\i<es.size/\∀(B:aE) (W:ac->ah->Prop) (R:Option (ac×Nat)->ah->Prop),R (X0 (v,sl (i+1))) z->ag (ai prog w) B (qA q (sl i) i ep) R W z)
   ∨ (es.size<=i/\∀(B:aE) (W:ac->ah->Prop) (R:Option (ac×Nat)->ah->Prop),R W1 z->ag (ai prog w) B (qA q (sl i) i ep) R W z)):
  ∀Y:aE,Y.handled=W1->ki prog w Y I [I,q] [I] vs.length (λi v=>vs[i]?=X0 v) (λi h=>TR h I q (.int (sl i) 0) i es.size ep/\Mf h q es ep t):=λY hh=>{
 sub:=λb m=>by simp at m;simp[m]
 frame:=λi h J U e=>⟨U.1.keep (e I .(1)),U.2.keep (e q .(1))⟩
 item:=λi z Q W hi U k=>by
  rcases hx i z .(0) U.2 with ⟨v,hv,_,L⟩ | ⟨O0,_⟩
  .refine sI U.1 U.2 hf rfl (λB T R y=>by rw[eC];exact L B T R y) λJ Z it=>k v J z.toks hv ⟨it,U.2.keep λo g=>(Z.2 q S).trans g⟩ λb o O g=>(Z.2 b λe=>O (by simp[e])).trans g
  .omega
 done:=λz Q W U k=>by
  rcases hx vs.length z .(0) U.2 with ⟨v,_,N0,_⟩ | ⟨_,L⟩
  .omega
  .exact sO hh U.1 U.2 hf rfl (λB T R y=>by rw[eC];exact L B T R y) λJ kp=>k J z.toks λb o O g=>kp b o (λe=>O (by simp[e])) g
 self:=λi z Q W U k=>sU U.1 k }
def ItP(prog:cr)(w:bP)(s:ah)(q:Addr)(qs:List (mf×Addr))(I:Addr)(h':Heap):Prop:=∃(L:List (mf×Addr)) (fp:List Addr) (Sx:Nat->Heap->Prop),L.Perm qs/\s.heap.objs.size<=I/\(∀b∈fp,b=q∨s.heap.objs.size<=b)/\.(7) ∧
 (∀J:aE,J.handled=W1->ki prog w J I fp [I] L.length (λi v=>(L.map λx=>bg x.2)[i]?=X0 v) Sx)/\Sx 0 h'
theorem eZ{qs:List (mf×Addr)}{Q:ac->ah->Prop}(x:QO w s.heap q qs)(k:∀I h',ItP prog w s q qs I h'->Q (.ref I) { s with heap:=h' }):ag (ai prog w) A (nI (.ref q)) Q E s:=by
  obtain⟨J,t,⟨o,O,g,ex,d⟩,f⟩:=x;have ty:s.TypeIs (.ref q) "set":=⟨o,g,ex.1⟩;have y:Mf s.heap q J O t:=⟨o,g,ex,d⟩;have lq:q<s.heap.objs.size:=bn g;have U:J.size=qs.length:=by have:=SG cy f.ent;simpa using this
  refine EM ty Lu (hZ Lu ty WT ?_ (F.args_set_iter_1 _));unfold fN.«frozenset.__iter__»;refine ae (show ag _ _ (pure q) _ _ s from ar ?_);refine ae (show ag _ _ (setEntries q >>= λr=>pure r.size) _ _ s from ae (F5 g d f.fits (ar ?_)));have rz:∀(T:ac),(∀h',h'=s.heap.push { cls:=.type "set_iterator",data:=.fields #[T,.int 0 0,.ref q,.int J.size 0,.int O 0] }->TR h' s.heap.objs.size q T 0 J.size O->Mf h' q J O t->ItP prog w s q qs s.heap.objs.size h') ->
      ag (ai prog w) A.in1 (do ret (<-newFields "set_iterator" [T,eS 0,.ref q,eS J.size,eS (<-setEpoch q)])) (λrz z=>∃v,rz=.done (.ret v)/\∃T' r,z.TypeIs v T'/\DI (.type T') "__next__"=pure (X0 r)/\Q v z) E s:=λT w1=>by
    refine ae (wpAny_setEpoch_of g d f.fits (ae (kB (ar ⟨_,rfl,"set_iterator",_,⟨_,bS _ rfl,rfl⟩,NB.lookup,k _ _ (w1 _ rfl ⟨_,bS _ rfl,rfl,rfl⟩ (y.keep λo' g'=>ba _ g'))⟩))))
  have dr:∀{R:Bool->ah->Prop},R E3 s->ag (ai prog w) A.in1 (setDrawn q) R E s:=λ{R} hr=>by
    unfold setDrawn;refine ae (qv g d f.fits ?_);refine ae (show ag _ A.in1 BI _ E s from ae (vk (ar (ar ?_))));show R (!(ai prog w).w.params.followText "set-order"&&(!t.plain&&decide (J.size > 1))) s;rw[f.pln];simpa using hr
  refine ae (dr ?_);simp only[dE,NH];have Y:∀b∈[s.heap.objs.size,q],b=q∨s.heap.objs.size<=b:=λb m=>by simp at m;rcases m with m | m;exact .inr (D4 m.symm);exact .inl m
  cases bq:btx w with
  |true=>
    refine ae (ar (rz _ λh' eh it sa=>?_));subst eh;obtain⟨L,eL,pL⟩:=lU (f:=λx:mf×Addr=>(hP x.1,bg x.2)) (l:=(qE (w.params.setOrder q O) J).toList) (m:=qs) (by rw[<-f.ent];exact VV _ J);have eV:(L.map λx=>bg x.2)=(qE (w.params.setOrder q O) J).toList.map (·.2):=by rw[eL,bE];rfl
    have pz:(qE (w.params.setOrder q O) J).size=J.size:=by have:=(VV (w.params.setOrder q O) J).length_eq;simpa using this
    refine⟨L,[s.heap.objs.size,q],(λi h=>TR h s.heap.objs.size q (.int (((λ_=>0:Nat->Nat) i:Nat):Int) 0) i J.size O/\Mf h q J O t),pL,aw _,Y,λb o z=>ba _ z,?_,it,sa⟩;have lv:(L.map λx=>bg x.2).length=L.length:=av ..;rw[<-lv];refine mF (sl:=λ_=>0) (es:=J) (t:=t) (ep:=O) (bX lq) f.fits (by rw[lv,pL.length_eq,U]) λi z O0 q0=>?_;obtain⟨oz,gz,_,dz⟩:=q0;have S:∀(B:aE) (W:ac->ah->Prop) (R:Option (ac×Nat)->ah->Prop),R (((qE (w.params.setOrder q O) J)[i]?).map λe=>(e.2,0)) z->ag (ai prog w) B (qA q 0 i O) R W z:=λB W R Z=>by
      unfold qA setWalk;refine ae (qv gz dz f.fits ?_);refine ae (show ag _ B BI _ W z from ae (vk (ar ?_)));rw[show (ai prog w).w.params.followText "set-order"=E2 from bq];dsimp only;rw[SF rfl,UF .(1)];refine ae (ae (qv gz dz f.fits (ae (show ag _ B BI _ W z from ae (vk (ar ?_))))));rw[show (ai prog w).w.params.followText "set-order"=E2 from bq];dsimp only;rw[SF rfl];exact ae (vk (ar (ar Z)))
    by_cases hi:i<J.size
    . have hz:i<(qE (w.params.setOrder q O) J).size:=by omega
      refine .inl ⟨(qE (w.params.setOrder q O) J)[i].2,?_,hi,λB W R Z=>S B W R ?_⟩
      . rw[eV,br]
        simp[hz]
      . rw[B5 hz]
        exact Z
    . refine .inr ⟨by omega,λB W R Z=>S B W R ?_⟩
      rw[EK .(0)];exact Z
  |false=>
    have N0:t.led=E2:=f.led bq;refine ae (ar (rz _ λh' eh it sa=>?_));subst eh;refine⟨qs,[s.heap.objs.size,q],(λi h=>TR h s.heap.objs.size q (.int (((λi=>if i=0 then 0 else t.place.getD (i-1) 0+1:Nat->Nat) i:Nat):Int) 0) i J.size O/\Mf h q J O t),sC _,aw _,Y,λb o z=>ba _ z,?_,it,sa⟩;have lv:(qs.map λx=>bg x.2).length=qs.length:=av ..;rw[<-lv];refine mF (sl:=λi=>if i=0 then 0 else t.place.getD (i-1) 0+1) (es:=J) (t:=t) (ep:=O) (bX lq) f.fits (by rw[lv,U]) λi z O0 q9=>?_;obtain⟨oz,gz,_,dz⟩:=q9;have S:∀(sl:Nat) (B:aE) (W:ac->ah->Prop) (R:Option (ac×Nat)->ah->Prop),R (match J[zn t.place sl]?,t.place[zn t.place sl]? with | some (_,x),X0 j=>X0 (x,j+1) | _,_=>W1) z->ag (ai prog w) B (qA q sl i O) R W z:=λsl B W R Z=>by
      unfold qA;refine ae (qv gz dz f.fits ?_);refine ae (show ag _ B BI _ W z from ae (vk (ar ?_)));rw[show (ai prog w).w.params.followText "set-order"=E3 from bq];dsimp only;rw[UF de];split
      . rename_i hd
        have S0:(!t.plain&&decide (J.size > 1))=E2:=hd;rw[f.pln] at S0;simp at S0
      . refine ae (show ag _ B (if (!t.led&&!J.isEmpty)=E2 then EW "set:maker-not-led" else pure ()) _ W z from ?_)
        rw[UF (by rw[N0];simp)];exact ar (ar Z)
    have eb:=Zb t.place f.rise (i:=i) (by rw[f.len];exact O0)
    by_cases hi:i<J.size
    . have hp:i<t.place.size:=by rw[f.len];exact hi
      refine .inl ⟨J[i].2,?_,hi,λB W R Z=>S _ B W R ?_⟩
      . have ev:(qs.map λx=>bg x.2)=J.toList.map (·.2):=by rw[f.ent,bE];rfl
        rw[ev,br];simp[hi]
      . rw[eb,B5 hi,B5 hp]
        have:(if i+1=0 then 0 else t.place.getD (i+1-1) 0+1)=t.place[i]+1:=by
          rw[UF .(0),Nat.add_sub_cancel];simp[hp]
        rw[this] at Z;exact Z
    . refine .inr ⟨by omega,λB W R Z=>S _ B W R ?_⟩
      rw[eb,EK .(0)];exact Z
end
section
variable {A:aE}{I T:Addr}
theorem QO.ty{qs:List (mf×Addr)}(x:QO w s.heap q qs):s.TypeIs (.ref q) "set":=let ⟨_,_,⟨o,_,g,ex,_⟩,_⟩:=x;⟨o,g,ex.1⟩
theorem WW{ks:List (mf×Addr)}{Q:List ac->ah->Prop}(hh:A.handled=W1)(x:QO w s.heap q ks)(hz:ks.length<=4000)(k:∀(L:List (mf×Addr)) (h':Heap) (tk:Nat),L.Perm ks->s.heap.objs.size<=h'.objs.size->.(7)->Q (L.map λx=>bg x.2) { s with heap:=h',toks:=tk }):
  ag (ai prog w) A (sD (.ref q)) Q E s:=by
 obtain⟨lq⟩:Nonempty (q<s.heap.objs.size):=let ⟨_,_,⟨_,_,g,_⟩,_⟩:=x;⟨bn g⟩;unfold sD;refine ae (BF (hJ F7 (show ag _ _ (do again (.builtin "list.__iadd__" ⟨[<-xI [],.ref q],[]⟩)) _ _ s from ?_)));refine ae (vS (ar ⟨EN _ (by decide +kernel),hJ F8 (show ag _ _ (zo .(11) (.ref q) .(11)) _ _ _ from ?_)⟩));have Z:QO w (s.heap.push { cls:=.type "list",data:=.seq ([]:List ac).toArray }) q ks:=x.keep λo g=>ba _ g;unfold zo;refine ae (xw (T:="set") (QO.ty (s:={ s with heap:=s.heap.push { cls:=.type "list",data:=.seq ([]:List ac).toArray } }) Z) ?_);have nr:Lv .(11) (.ref q)=E3:=by simp[Lv,pd lq]
 rw[UF (by rw[nr];decide)];refine ae (eZ (s:={ s with heap:=s.heap.push { cls:=.type "list",data:=.seq ([]:List ac).toArray } }) Z λI h' p0=>?_);obtain⟨L,fp,Sx,hL,O0,S0,kp,W,st⟩:=p0;have x2:QO w h' q ks:=Z.keep λo g=>kp q o g;refine ae (wpAny_holding (mD (s:={ s with heap:=h' }) (QO.ty (s:={ s with heap:=h' }) x2) ?_));have gS:h'.get? s.heap.objs.size=X0 { cls:=.type "list",dict:=W1,data:=.seq #[] 0,slots:=#[] }:=kp _ _ (bS _ rfl);have O:(s.heap.push { cls:=.type "list",data:=.seq ([]:List ac).toArray }).objs.size=s.heap.objs.size+1:=iE _ _;have nS:s.heap.objs.size∉fp:=λm=>by
  rcases S0 _ m with z | z
  .exact MG z (pd lq)
  .have z':(s.heap.push { cls:=.type "list",data:=.seq ([]:List ac).toArray }).objs.size<=s.heap.objs.size:=z;rw[O] at z';exact MG z' (Nat.not_succ_le_self _)
 have U:s.heap.objs.size+1<=I:=by rw[<-O];exact O0
 rw[SF (by decide +kernel)];refine ae (rc (ae (show ag _ _ (ub s.heap.objs.size (·.push .none) >>= λ_=>ub s.heap.objs.size (·.pop)) _ _ _ from ae (om gS rfl ?_))));have g1:=kG (kg (·.push hU)) gS rfl;refine om (hz:=by seq_fits) g1 rfl ?_;have g2:=kG (kg (·.pop)) g1 rfl;have S:∀b o,b≠s.heap.objs.size->h'.get? b=X0 o->((h'.update s.heap.objs.size (kg (·.push hU))).update s.heap.objs.size (kg (·.pop))).get? b=X0 o:=λb o nb g=>(gE _ _ (cf nb)).trans ((gE _ _ (cf nb)).trans g);have N0:=(W A hh).frame 0 _ _ st λb m o g=>S b o (λz=>nS (z▸m)) g;refine ar ⟨ko PySem.F.plain_extend_loop _,codeAny_extend_loopS (W _ (by simp[hh])).toS (cw (by rw[hL.length_eq];exact hz) .(2)) s.heap.objs.size nS _ L.length 0 { s with heap:=(h'.update s.heap.objs.size (kg (·.push hU))).update s.heap.objs.size (kg (·.pop)) } #[] _ rfl (eW _) N0 g2 (ItemsOf.nil _) λs' J c' hm Y ha=>?_⟩;rw[Moved.eq_with hm];show ag _ A (load s.heap.objs.size >>= _) _ _ _;have ev:J.toList=L.map λx=>bg x.2:=by
  apply AU;intro i;have hl:J.toList.length=L.length:=by rw[i8];exact ha.1
  by_cases c:i<L.length
  .have ga:J.toList[i]?=X0 (J.toList[i]'(by omega)):=bv .(0);rw[ga];exact (ha.2 i _ (by rw[<-xB];exact ga)).symm
  .rw[qf .(0),qf (by rw[av];omega)]
 refine ae (xa Y (ar (ev▸k L s'.heap s'.toks hL (sR (bn Y)) λb o g=>?_)));have lb:b<s.heap.objs.size:=bn g;refine hm.heap b o (λm=>?_) (S b o (bX lb) (kp b o (ba _ g)))
 rcases bp.mp m with z | z
 .exact MG z (bX lb)
 .exact MG (ii.mp z) (bX (fF lb (Nat.le_of_succ_le U)))
theorem Xw{qs:List (mf×Addr)}{Q:ac->ah->Prop}(hh:A.handled=W1)(x:QO w s.heap q qs)(S:∀x∈qs,QP prog w s.heap x.1 x.2)(nd:(qs.map (·.1)).Nodup)(k:∀(L:List (mf×Addr)) (e:Nat) (l:Addr) (h':Heap) (tk:Nat),L.Perm qs->(L.map λx=>PR x.1).Pairwise (·<·)->h'.get? l=X0 (qS "list" (L.map λx=>bg x.2).toArray e)->s.heap.objs.size<=l->.(7)->Q (.ref l) { s with heap:=h',toks:=tk }):
  ag (ai prog w) A (call (.builtin "sorted") [.ref q]) Q E s:=by
 have sz:qs.length<=18:=let ⟨_,_,_,f⟩:=x;f.sz;refine F9 Fa Fc Fh (Fk _) ?_;unfold fN.«sorted»;refine ae (m:=Fn "sorted" 1 1 _) (ar (ae (WW (A:=A.in1) hh x .(0) λL Y tk J le O=>?_)));have z:(L.map λx=>bg x.2).length<=60:=by rw[av,J.length_eq];omega
 refine ae (vS ?_ (cw z .(2)));have U:(Y.push { cls:=.type "list",data:=.seq (L.map λx=>bg x.2).toArray }).get? Y.objs.size=X0 (qS "list" (L.map λx=>bg x.2).toArray 0):=bS _ rfl;refine ae (wpAny_holding (hZ Fs ⟨_,U,rfl⟩ Fu (Tq U (λx hx=>(S x (J.mem_iff.mp hx)).keep λo g=>ba _ (O _ o g)) ((J.map (·.1)).nodup_iff.mpr nd) (by rw[J.length_eq];omega) λL2 p2 Z=>⟨_,rfl,?_⟩) (FB _)));obtain⟨c,hc⟩:=FC (out:=(L2.map λx=>bg x.2).toArray) U;refine ar ⟨_,rfl,k L2 c _ _ tk (p2.trans J) Z hc le λb o g=>?_⟩;have W:=bn (O b o g);rw[FD (bX W) (by rw[iE];exact mS W)];exact ba _ (O b o g)
end
theorem Pq:∀{r:List Str}{p:Str},LA p r=E2->(p::r).Nodup->Up (p::r)
 |[],p,_,_=>by simp[Up]
 |x::r,p,h,z=>by
  unfold LA at h;rw[eP] at h;obtain⟨J,I⟩:=h;obtain⟨n1,n2⟩:=iF.mp z;have u:=Pq I n2;have lt:ltS p x=E2:=bL (by unfold ltS;simpa [PyProof.Rows.ltCps_eq] using J) (λe=>n1 (by rw[<-e];exact df));refine lx.mpr ⟨λy m=>?_,u⟩
  rcases bp.mp m with e | m
  .rw[e];exact lt
  .exact Qu lt ((lx.mp u).1 y m)
def WX{l:List Str}(h:PyProof.Rows.sortedS l=E2)(z:l.Nodup):Up l:=by
 cases l with
 |nil=>exact AQ
 |cons p r=>exact Pq h z
open L2
section
variable {a:Expr}{fa:FE}
theorem Va:∀{xs:List Str}{us:List ac},BM us xs->cx (xs.map V.str) us
 |_,_,.nil=>.nil
 |_,_,.cons _ u r=>.cons ⟨u,rfl⟩ (Va r)
def mG{z:List Str}(r:be G H xs ds)(h:Ng ds=X0 z):xs=z.map V.str:=Xa r h
end
end PV
namespace PV
open PySem PySem.Spec L2
open PyProof.Rows hiding St
section
variable {a b:Expr}{fa fb:FE}{es:List Expr}{fs:FA}
def vr(i:Nat){x:Str}(L:X.N[i]?=X0 x:=by rfl)(I:UY X.env.scope x:=by first | exact dQ rfl | exact cq (dQ rfl) | exact cq (cq rfl))(J:.(8)=E3:=by decide)(z:(x==("__classdict__":Str))=E3:=by decide):PF X G (.Name x pos) (vF i):=ww i (pv i L I J z)
def vp(i:Nat){x:Str}(L:X.N[i]?=X0 x:=by rfl)(I:UY X.env.scope x:=by first | exact dQ rfl | exact cq (dQ rfl) | exact cq (cq rfl))(J:.(8)=E3:=by decide)(z:(x==("__classdict__":Str))=E3:=by decide):PU X G (.Name x pos) (vF i):=PF.pu (vr i L I J z)
def vq(i:Nat){x:Str}(L:X.N[i]?=X0 x:=by rfl)(I:UY X.env.scope x:=by first | exact dQ rfl | exact cq (dQ rfl) | exact cq (cq rfl))(J:.(8)=E3:=by decide)(z:(x==("__classdict__":Str))=E3:=by decide):PU X G (.Name x pos) (vU i):=wy i (pv i L I J z)
def pU{f:FE}(h:PF X G e f):PU X G e f:=PF.pu h
def iP{i j}:PU X G (.Constant (.int i) j pos) (kF (.int i)):=PF.pu S8
def sP{x j}:PU X G (.Constant (.str x) j pos) (kF (.str x)):=PF.pu Vx
def iX{k:Nat}(z:Room k X.A)(J:PU X G a fa)(I:PU X G b fb)(W:G.K=X.K:=by rfl)(hs:O2 b:=by exact λ_ _=>rfl):PF X G (.Subscript a b pos) (bF dq fa fb):=xQ (HB z) W J I hs
def iD(I:PU X G a fa)(z:PU X G b fb)(W:G.K=X.K:=by rfl)(hs:O2 b:=by exact λ_ _=>rfl):PF X G (.Subscript a b pos) (bF ixD fa fb):=zz W I z hs
def MW(I:PU X G a fa)(z:PU X G b fb)(W:G.K=X.K:=by rfl):PF X G (.BinOp a .Add b pos) (bF sq fa fb):=N8 qj (by rw[<-W];exact ql) I z
def bSub(I:PU X G a fa)(z:PU X G b fb):PF X G (.BinOp a .Sub b pos) (bF ZU fa fb):=N8 wO qY I z
def UX(I:PU X G a fa)(z:PU X G b fb):PF X G (.BinOp a .Mult b pos) (bF NO fa fb):=N8 qZ qe I z
def Nw(I:PU X G a fa)(z:PU X G b fb):PF X G (.BinOp a .FloorDiv b pos) (bF Ec fa fb):=N8 qH iZ I z
def ui(I:PU X G a fa)(z:PU X G b fb):PF X G (.BinOp a .Mod b pos) (bF oo fa fb):=N8 wQ qg I z
def cEq{k:Nat}(z:Room k X.A)(J:PU X G a fa)(I:PU X G b fb)(W:G.K=X.K:=by rfl):PF X G (.Compare a [.Eq] [b] pos) (bF (Nd E3) fa fb):=Y8 (Y_ W z.unitsW) (V2 E3) J I (Jy _)
def tEq{k:Nat}(z:Room k X.A)(J:PU X G a fa)(I:PU X G b fb)(W:G.K=X.K:=by rfl):RS X G (.Compare a [.Eq] [b] pos) (tu (bF (Nd E3) fa fb)):=Fg (Y_ W z.unitsW) (V2 E3) J I (Jy _)
def tNe{k:Nat}(z:Room k X.A)(J:PU X G a fa)(I:PU X G b fb)(W:G.K=X.K:=by rfl):RS X G (.Compare a [.NotEq] [b] pos) (tu (bF (Nd E2) fa fb)):=Fg (iz W z.unitsW) (V2 E2) J I (Jy _)
def tEqF{k:Nat}(z:Room k X.A)(J:PU X G a fa)(I:PU X G b fb)(W:G.K=X.K:=by rfl):RS X G (.Compare a [.Eq] [b] pos) (tu (bF (XO E3) fa fb)):=Fg ((Y_ W z.unitsW).or (rM W z.units)) (az E3) J I (Jy _)
def tNeF{k:Nat}(z:Room k X.A)(J:PU X G a fa)(I:PU X G b fb)(W:G.K=X.K:=by rfl):RS X G (.Compare a [.NotEq] [b] pos) (tu (bF (XO E2) fa fb)):=Fg ((iz W z.unitsW).or (rN W z.units)) (az E2) J I (Jy _)
def cIn{k:Nat}(z:Room k X.A)(L:PU X G a fa)(J:PU X G b fb)(W:G.K=X.K:=by rfl)(I:iq .In b=E3:=by with_unfolding_all rfl):PF X G (.Compare a [.In] [b] pos) (bF (Oy E3) fa fb):=Y8 ((iu.or (ZC (HB z))).or (jV W z.units)) (by rw[<-W];exact V8 E3) L J I
def tIn{k:Nat}(z:Room k X.A)(L:PU X G a fa)(J:PU X G b fb)(W:G.K=X.K:=by rfl)(I:iq .In b=E3:=by with_unfolding_all rfl):RS X G (.Compare a [.In] [b] pos) (tu (bF (Oy E3) fa fb)):=Fg ((iu.or (ZC (HB z))).or (jV W z.units)) (by rw[<-W];exact V8 E3) L J I
def tNi{k:Nat}(z:Room k X.A)(L:PU X G a fa)(J:PU X G b fb)(W:G.K=X.K:=by rfl)(I:iq .NotIn b=E3:=by with_unfolding_all rfl):RS X G (.Compare a [.NotIn] [b] pos) (tu (bF (Oy E2) fa fb)):=Fg ((du.or (eE (HB z))).or (eU W z.units)) (by rw[<-W];exact V8 E2) L J I
def tLt(I:PU X G a fa)(z:PU X G b fb):RS X G (.Compare a [.Lt] [b] pos) (tu (bF ltD fa fb)):=Fg uf ie I z (Jy _)
def tGt(I:PU X G a fa)(z:PU X G b fb):RS X G (.Compare a [.Gt] [b] pos) (tu (bF gtD fa fb)):=Fg zf xF I z (Jy _)
def tGe(I:PU X G a fa)(z:PU X G b fb):RS X G (.Compare a [.GtE] [b] pos) (tu (bF geD fa fb)):=Fg zg xG I z (Jy _)
def tLe(I:PU X G a fa)(z:PU X G b fb):RS X G (.Compare a [.LtE] [b] pos) (tu (bF leD fa fb)):=Fg zc wz I z (Jy _)
def sF(O:X.N.Nodup)(i:Nat){x:Str}{p:Pos}(L:PF X G a fa)(I:X.N[i]?=X0 x:=by rfl)(z:Loc X.env.scope x:=by first | exact dQ rfl | exact cq rfl)(hs:eR a (X0 (.Name x p)) pos.line X.env=pure E3:=by rfl)(J:X.fn x=E2∨X.env.scope.names.lookup x=X0 .local :=by first | exact .inl rfl | exact .inr rfl | assumption):Sl X G (.Assign [.Name x p] a pos) (im i fa):=qx (λ_ h=>Yo O I z h hs J) L
def sW(S:X.N.Nodup)(i:Nat){x:Str}{p:Pos}(O:PN X G a fa)(J:X.N[i]?=X0 x:=by rfl)(I:Loc X.env.scope x:=by first | exact dQ rfl | exact cq rfl)(hs:eR a (X0 (.Name x p)) pos.line X.env=pure E3:=by rfl)(L:X.fn x=E2∨X.env.scope.names.lookup x=X0 .local :=by first | exact .inl rfl | exact .inr rfl | assumption)(z:i≠0:=by decide):Sl X G (.Assign [.Name x p] a pos) (setW i fa):=jN (λ_ h=>Yo S J I h hs L) O z
def gN(L:X.N.Nodup)(i:Nat){x:Str}(I:X.N[i]?=X0 x:=by rfl)(z:Loc X.env.scope x:=by first | exact dQ rfl | exact cq rfl)(J:X.fn x=E2∨X.env.scope.names.lookup x=X0 .local :=by first | exact .inl rfl | exact .inr rfl | assumption):PG X (.Name x pos) (Ff i):=qG L I z J
def cO{t:Str}(I:X.N=N)(hs:X.env.scope=sc)(h:V4 N sc scope t=E2:=by decide +kernel):L_ X scope t:=VG I hs h
abbrev nT (N:List Str) (t:Str):List Str:=N++[t]
structure Dx (K:aI) (mg:Str->Option ac) (x:Str) (st:Stmt) (ps:List Str) where
 f:Addr
 fd:mN
 F:FunD K x x st f fd
 B:MV K fd ps []
 m:mg x=X0 (.ref f)
abbrev PM (P:cr) (w:bP) (base:Heap) {K:aI}{mg:Str->Option ac}{x:Str}{st:Stmt}{ps:List Str}(d:Dx K mg x st ps) (k:Nat) (sp:Sp):Prop:=kr P w K mg base CX0 k d.f d.fd ps sp
theorem fX{k:Nat}{p:Pos}{d:Dx X.K X.mg x st ps}(F:kr X.prog X.w X.K X.mg X.base CX0 k d.f d.fd ps (MU G g))(L:Room k' X.A)(S:SR X G (a::es) fs)(I:k<=k':=by omega)(U:Gl X x:=by rfl)(J:.(8)=E3:=by decide)(O:ay (a::es) X.env=(E3,eval a X.env)::ay es X.env:=by rfl)(z:(dn pos (ay es X.env)).any (·.1)=E3:=by rfl):PF X G (.Call (.Name x p) (a::es) [] pos) (An g fs):=z_ F (L.mono I) U d.m d.F.kp d.B S J O z
end
section
variable {K:aI}{f:Addr}{dV kV:ac}
theorem RH{base:Heap}{k:Nat}{b:FS}(d:Dx G.K mg x st ps)(S:bc N ps (Ab st))(I:∀(cdv:ac) (A:aE) (z:List Env) (s:ah) (H:Hp) (E:XK),Room k (A.deeper (gy x (Ab st) s.heap.objs.size d.f cdv))->Pv (Po CX0 P w G.K mg base N x (Ab st) d.f cdv A z s H E).nox G (Bf st) b)(Y:ps.length<=N.length:=by decide):
  kr P w G.K mg base CX0 (k+1) d.f d.fd ps (MU G (li N.length ps.length b)):=AAX d.F S Y I
def dx(X:K.In h)(N:h.Ns gL mg)(a:BN K gL x=X0 (X0 (.ref f)))(l:K.lookup f=X0 ⟨oc,od,.func (iL x x (Eu st) (Bf st) (Ab st) .none kV doc pm an cdv ct),osl⟩)(c:pV K cdv x=E2)(k:jI K (.ref f)=E2)(b:∀(kV doc pm:ac) (an:Option Addr) (cdv ct:ac) (us:List ac),us.length=ps.length->xo (iL x x (Eu st) (Bf st) (Ab st) .none kV doc pm an cdv ct) ⟨us,[]⟩=pure (ps.zip us)):Dx K mg x st ps:=⟨f,_,rP l c k,(Sy l c k).binds b,vT X N a⟩
structure Ix (K:aI) (C:Addr) (qual:Str) (st:Stmt) (ps:List Str) where
 f:Addr
 fd:mN
 F:Fun K "__init__" qual st f fd
 B:MV K fd ps []
 mM:Mk K C f
def ix(X:K.In h)(m:D3 K C=E2)(z:jI K (.ref C)=E2)(a:gX K (.ref C) "__init__"=X0 (X0 (.ref f)))(i:tm K (.ref f)=E2)(l:K.lookup f=X0 ⟨oc,od,.func (iL "__init__" qual (Eu st) (Bf st) (Ab st) .none kV doc pm an cdv ct),osl⟩)(c:pV K cdv qual=E2)(k:jI K (.ref f)=E2)(b:∀(kV doc pm:ac) (an:Option Addr) (cdv ct:ac) (us:List ac),us.length=ps.length->xo (iL "__init__" qual (Eu st) (Bf st) (Ab st) .none kV doc pm an cdv ct) ⟨us,[]⟩=pure (ps.zip us)):Ix K C qual st ps:=⟨f,_,Sy l c k,(Sy l c k).binds b,m,a,i,z⟩
structure Sx (mg:Str->Option ac) (x:Str) (f:Tok->ac) where
 t:Tok
 m:mg x=X0 (f t)
structure Kx (G:Gx) (mg:Str->Option ac) (x:Str) (c:D) where
 a:Addr
 m:mg x=X0 (.ref a)
 r:il G (λ_=>W1) (.ref a) c
def sx{t:Tok}{f:Tok->ac}(X:K.In h)(N:h.Ns gL mg)(a:BN K gL x=X0 (X0 (f t))):Sx mg x f:=⟨t,vT X N a⟩
def cls(X:K.In h)(J:xk K C nV=E2)(L:AC K C=E2)(I:D1 K C=E2)(z:gX K (.ref C) "__setattr__"=X0 (X0 (.builtin "object.__setattr__"))):On K C:=⟨J,L,I,z⟩
end
def anyD:D->Option D
 |.lst ds=>(OU ds).map λbs=>.bl (bs.any id)
 |_=>W1
def bO:D->Option D
 |.int i=>if 0<=i/\i<=1000000 then X0 (.lst (tx i.toNat)) else W1
 |_=>W1
theorem WY{z:Type}(f:z->Bool):∀l:List z,OU (l.map λx=>.bl (f x))=X0 (l.map f)
 |[]=>rfl
 |x::r=>by rw[bb,OU,WY f r];rfl
def mH{z:Type}(f:z->Bool)(l:List z):anyD (.lst (l.map λx=>.bl (f x)))=X0 (.bl (l.any f)):=by
 unfold anyD;simp only[];rw[WY,gi,B8];rfl
section
variable {a:Expr}{fa:FE}{es:List Expr}{fs:FA}
theorem Vb(hc:X.calm=E2):Di X (.builtin "any") (λxs H Q=>∃(p:Addr) (bs:List Bool),xs=[.ref p]/\MO X.K H p (bs.map V.bl)/\Q (.bl (bs.any id)) H):=by
 intro π s σ H xs us Q I r h;obtain⟨p,bs,rfl,hs,k⟩:=h;obtain⟨u,rfl,S⟩:=r.one;cases S;obtain⟨J,Z,pl,hz⟩:=I.list hs;have Y:=pl.isList;have T:p≠s.heap.objs.size:=by obtain⟨o,ho,_⟩:=Y;exact bX (bn ho)
 have z:bs.length=J.length:=by have:=Z.length;rwa [av] at this
 refine call_any_walk (xb Y ?_);refine⟨_,_,_,_,_,_,λi=>bs.getD i E2,rfl,so (A:=X.A.in1) (I.ok.hd hc) s.heap.objs.size p T J.toArray,⟨⟨_,bS _ rfl,rfl,rfl⟩,Y.push _⟩,?_,λh' tk kk=>?_⟩
 .intro i v s' Q' E' hv hq;have L:J[i]?=X0 v:=by simpa using hv
  have hlt':i<bs.length:=by rw[z];exact (dP.mp L).1
  obtain⟨u',hu,S⟩:=Z.get (i:=i) (x:=.bl (bs[i]'hlt')) (by rw[br];simp[hlt']);rw[L] at hu;cases hu;cases (show v=nw (bs[i]'hlt') from S);have e:bs.getD i E2=bs[i]'hlt':=by simp[uk,hlt']
  have O:Q' (bs.getD i E2) s':=hq;rw[e] at O;exact kq O
 .refine⟨.bl (bs.any id),H,I.kept (λb o e=>kk b o ?_ (ba _ e)),?_,k⟩
  .intro W;have:b=s.heap.objs.size:=by simpa using W
   exact MG (bn e) (by rw[this];exact gT _)
  .show nw _=nw _;congr 1;rw[ck,<-z];rw[g9,oB,oB];constructor
   .rintro⟨i,L,q⟩;have U:=cE.mp L;exact⟨bs[i]'U,fA U,by simpa [uk,U] using q⟩
   .rintro⟨b,W,q⟩;obtain⟨i,L,rfl⟩:=uS W;exact⟨i,cE.mpr L,by simpa [uk,L] using q⟩
def bQ:Sk G (λxs H Q=>∃(p:Addr) (bs:List Bool),xs=[.ref p]/\MO G.K H p (bs.map V.bl)/\Q (.bl (bs.any id)) H) anyD:=by
 intro A H x dx d Q L rx h k;unfold anyD at h;split at h
 .rename_i J;cases e:OU J with
  |none=>simp[e] at h
  |some bs=>
   rw[e] at h;cases h;obtain⟨p,xs,rfl,z,r⟩:=rx.lst;have I:=V6 r e;subst I;exact⟨p,bs,rfl,z,k _ H (ab.refl H) (.bl _)⟩
 .cases h
def mJ:dL "any"=X0 (.builtin "any"):=by decide +kernel
theorem e_:Di X (.type "range") (λxs H Q=>∃i:Int,xs=[.int i]/\∀l,H l=W1->Q (.ref l) (fk H l (.rng 0 i))):=by
 intro L s J H xs O Q I r h;obtain⟨i,rfl,q⟩:=h;obtain⟨u,rfl,z⟩:=r.one;obtain⟨t,rfl⟩:=z;refine call_range_1 ?_;exact⟨.ref s.heap.objs.size,_,I.laid (λb o e=>ba _ e) (aw _) (show BV X.prog X.w _ _ _ (.rng 0 i) from⟨_,_,_,bS _ rfl⟩),rfl,q _ (I.hok.fresh (aw _))⟩
theorem bR:∀{xs:List V}{us:List ac},us.length=xs.length->(∀(j:Nat) x u,xs[j]?=X0 x->us[j]?=X0 u->dm x u)->cx xs us
 |[],us,Y,_=>by
  rw[yA Y];exact .nil
 |x::r,[],Y,_=>by simp at Y
 |x::r,u::us,Y,h=>.cons (h 0 x u rfl rfl) (bR (by simpa using Y) λj y v a b=>h (j+1) y v (by simpa using a) (by simpa using b))
theorem Uu(hc:X.calm=E2):Di X (.type "list") (λxs H Q=>∃(p:Addr) (n:Nat),xs=[.ref p]/\H p=X0 (.rng 0 n)/\n<=1000000/\∀l,H l=W1->Q (.ref l) (fk H l (.lst ((aS n).map λ(k:Nat)=>V.int k)))):=by
 intro π s σ H xs us Q I r h;obtain⟨p,n,rfl,e,hn,q⟩:=h;obtain⟨u,rfl,O⟩:=r.one;cases O;obtain⟨t,u,v,Z⟩:=(show BV X.prog X.w H s.heap p (.rng 0 n) from I.hok p _ e);have W:HE 0 n 1=(n:Int):=by rw[rangeSize_one];split<;>omega
 refine call_list_range (I.ok.hd hc) Z (small_one .(2) .(2) .(0) .(0)) W .(0) λh' tk z c' Y U J=>?_;have T:cx ((aS n).map λ(k:Nat)=>V.int k) z.toList:=by
  refine bR (by simp[J.1]) λj x u L S=>?_;obtain⟨tk,rfl⟩:=J.2 j u (by simpa using S);have hj:j<n:=by
   have:=(dP.mp S).1;rw[i8,J.1] at this;exact this
  rw[br,List.getElem?_range hj] at L;cases L;exact⟨tk,by simp⟩
 exact⟨.ref s.heap.objs.size,_,I.laid (t':=tk) Y (aw _) (show BV X.prog X.w _ h' _ (.lst _) from⟨by rw[av,oj];exact cw hn .(2),z.toList,c',T,by simpa using U⟩),rfl,q _ (I.hok.fresh (aw _))⟩
def mK:dL "range"=X0 (.type "range"):=by decide +kernel
def sV{p q J:Pos}(hg:Gl X "list")(hm:X.mg "list"=W1)(Y:Gl X "range")(I:X.mg "range"=W1)(ha:PU X G a fa)(hc:X.calm=E2:=by rfl)(Z:ay [a] X.env=[(E3,eval a X.env)]:=by rfl)(O:ay [.Call (.Name "range" q) [a] [] J] X.env=[(E3,eval (.Call (.Name "range" q) [a] [] J) X.env)]:=by rfl):
  PN X G (.Call (.Name "list" p) [.Call (.Name "range" q) [a] [] J] [] pos) (uF bO fa):=λA=>CZ (HH (Uu hc) hg hm Rn (Bt (HH e_ Y I mK (Bt (@ha A) De Z) .(2) .(2) Z rfl) De O) .(2) .(2) O rfl)<|by
 rintro σ H Q ⟨ρ,d,o,e,k⟩
 obtain⟨dx,e1,L⟩:=Kp e;refine⟨ρ,dx,o,e1,λv H1 U r1=>?_⟩;unfold bO at L;split at L
 .rename_i i;split at L
  .rename_i hi;cases L;rw[r1.int];refine⟨i,rfl,λl hl=>⟨l,i.toNat,rfl,by rw[Ah,BB hi.1],by omega,λm I=>?_⟩⟩;have o1:=(o.mono U);have n1:l≠m:=λz=>by rw[<-z,Ah] at I;cases I
   have W:H1 m=W1:=by rw[Al (cf n1)] at I;exact I
   refine k m _ (U.trans ((Aj hl _).trans (Aj I _))) (U.free W) ⟨(aS i.toNat).map λ(k:Nat)=>V.int k,Ah,by simp[tx],λj x d S T=>?_⟩;unfold tx at T;rw[br] at S T;cases q:(aS i.toNat)[j]? with
   |none=>rw[q] at S;cases S
   |some z=>rw[q] at S T;cases S;cases T;exact .int z
  .cases L
 .cases L
end
section
variable {A:aE}{T:String}{r d:Addr}{P:Nat->ac->Prop}{OK:Heap->Prop}
theorem Xx{R:List ac->ah->Prop}(K:Ki prog w T r d n P OK)(hh:A.handled=W1)(L:OK s.heap)(hn:n<=sizeLine)(h:∀(h':Heap) (tk:Nat) (U:Array ac),.(7)->s.heap.objs.size<=h'.objs.size->ItemsOf P U n->R U.toList { s with heap:=h',toks:=tk }):
  ag (ai prog w) A (sD (.ref r)) R E s:=by
 obtain⟨hr,hd⟩:=K.there _ L;have gS:(s.heap.push { cls:=.type "list",data:=.seq ([]:List ac).toArray }).get? s.heap.objs.size=X0 { cls:=.type "list",data:=.seq #[] }:=bS _ rfl;unfold sD;refine ae (BF (hJ F7 ?_));rw[kX PySem.F.plain_proto_collect _];show ag _ A.in1 (xI [] >>= λl=>again (.builtin "list.__iadd__" ⟨[l,.ref r],[]⟩)) _ _ s;refine ae (kB (ar ⟨ko LB _,hJ F8 ?_⟩));rw[kX LB _];show ag _ A.in1 (zo .(11) (.ref r) .(11)) _ _ _;have Z:=PySem.W.kdl_extend (A:=A) (s:={ s with heap:=s.heap.push { cls:=.type "list",data:=.seq ([]:List ac).toArray } }) K
  (R:=λq Y=>∃(h':Heap) (tk:Nat) (z:Array ac) (J:Nat),q=.ok (.ret .(11))/\Y={ s with heap:=h',toks:=tk }/\.(7)/\h'.get? s.heap.objs.size=X0 { cls:=.type "list",dict:=W1,data:=.seq z J,slots:=#[] }/\ItemsOf P z n)
  hh (K.keep _ _ L λb _ o e=>ba _ e) s.heap.objs.size (pd hr) (pd hd) .(11) 0 gS
  (λh' tk z J O I S=>⟨h',tk,z,J,rfl,rfl,λb o e=>O b o (bX (bn e)) (ba _ e),I,S⟩) hn
 refine i7 Z (λrz Y x=>?_) λe Y x=>?_
 .cases rz with
  |done f=>
   obtain⟨h',tk,z,J,e,rfl,O,I,S⟩:=x;cases e;show ag _ A (load s.heap.objs.size >>= _) _ _ _;exact ae (xa I (ar (h h' tk z O (sR (bn I)) S)))
  |again c=>
   refine⟨x.1,rq x.2 λr2 s2 y=>?_⟩;obtain⟨h',tk,z,J,e,rfl,O,I,S⟩:=y;cases e;show ag _ A (load s.heap.objs.size >>= _) _ _ _;exact ae (xa I (ar (h h' tk z O (sR (bn I)) S)))
 .obtain⟨h',tk,z,J,e,_⟩:=x;cases e
end
section
variable {A:aE}
theorem fB{ks:List Str}{v:ac}{Q:ac->ah->Prop}(nd:ks.Nodup)(L:ks.length<=60)(I:∀(R:List ac->ah->Prop) (E':ac->ah->Prop),(∀(vs:List ac) (h':Heap) (tk:Nat),BM vs ks->s.heap.objs.size<=h'.objs.size->.(7)->R vs { s with heap:=h',toks:=tk })->ag (ai prog w) A.in1 (sD v) R E' s)(k:∀(its:List ac) (e:Nat) (l:Addr) (h':Heap) (tk:Nat),BM its (CQ ks)->h'.get? l=X0 (qS "list" its.toArray e)->s.heap.objs.size<=l->.(7)->Q (.ref l) { s with heap:=h',toks:=tk }):
  ag (ai prog w) A (call (.builtin "sorted") [v]) Q E s:=by
 refine F9 Fa Fc Fh (Fk _) ?_;unfold fN.«sorted»;refine ae (m:=Fn "sorted" 1 1 _) (ar (ae (I _ _ λvs J tk T le Y=>?_)));have z:vs.length<=60:=by rw[T.length];exact L
 refine ae (vS ?_ (cw z .(2)));have O:(J.push { cls:=.type "list",data:=.seq vs.toArray }).get? J.objs.size=X0 (qS "list" vs.toArray 0):=bS _ rfl;refine ae (wpAny_holding (hZ Fs ⟨_,O,rfl⟩ Fu (PyProof.Rows.list_sort_treeK PyProof.Rows.strKind_oneLt O T.keysOf (λa b r e=>PyProof.Rows.keyKind_strs (by rw[<-e];exact T)) .(0) λU a1 a2=>⟨_,rfl,?_⟩) (FB _)));obtain⟨Z,o1,S,o3⟩:=PyProof.Rows.sorted_out_str T a1 a2;have e:Z=CQ ks:=Za (WX o3 (S.nodup_iff.mpr nd)) (Mg ks) λy=>by rw[Ex,S.mem_iff]
 subst e;obtain⟨c,I⟩:∃c,(PyProof.Rows.sortedHeap (J.push { cls:=.type "list",data:=.seq vs.toArray }) J.objs.size vs ((FH U).map (·.2))).get? J.objs.size=X0 (qS "list" ((FH U).map (·.2)).toList.toArray c):=by
  obtain⟨c,I⟩:=FC (out:=(FH U).map (·.2)) O;exact⟨c,by rw[I,Array.toArray_toList]⟩
 refine ar ⟨_,rfl,k _ c _ _ tk o1 I le λb o g=>?_⟩;have W:=bn (Y b o g);rw[FD (bX W) (by rw[iE];exact mS W)];exact ba _ (Y b o g)
end
open L2
section
variable {a:Expr}{p:Pos}
theorem Pu:∀{z:List Str}{us:List ac},cx (z.map V.str) us->BM us z
 |[],_,.nil=>.nil
 |_::_,_,.cons r t=>by obtain⟨u,rfl⟩:=r;exact .cons _ _ (Pu t)
theorem Hh(hc:X.calm=E2):Di X (.builtin "sorted") (λxs H Q=>∃p kvs J,xs=[.ref p]/\Rd H p (.dK kvs)/\kvs.map (λq=>kV q.1)=J.map V.str/\J.Nodup/\J.length<=60/\∀l,H l=W1->Q (.ref l) (fk H l (.lst ((CQ J).map V.str)))):=by
 intro π s σ H xs us Q I r h;obtain⟨p,kvs,J,rfl,e,ez,nd,hz,k⟩:=h;obtain⟨u,rfl,ru⟩:=r.one;cases ru;obtain⟨z,hd,W,L,Z⟩:=Jh I.hok e;obtain⟨ep,Z⟩:=Z.dictAt;have hl:kvs.length=W.length:=L.length;refine fB (ks:=J) nd hz (λR E' hR=>Xx (JY (knd:=Av X.prog X.w) (kvs:=W) (ep:=ep) hd) (I.ok.hd hc) Z .(0) λh' tk U S O hi=>hR _ h' tk ?_ O S) λT e2 l h' tk hS g O S=>?_
 .have Y:cx (kvs.map λq=>kV q.1) U.toList:=by
   refine V5 (P:=X.prog) (w:=X.w) (by simp[hi.1,hl]) λj u hu=>?_;obtain⟨k,x,h1,h2⟩:=hi.2 j u (by simpa using hu);have hj:j<kvs.length:=by rw[hl];exact (dP.mp h1).1
   refine⟨kvs[j],by simp[hj],?_⟩;rw[(Ie L (by simp[hj]) h1).1];exact h2
  rw[ez] at Y;exact Pu Y
 .have hv:=Va hS;refine⟨.ref l,_,I.laid (a:=l) (o:=.lst ((CQ J).map V.str)) (t':=tk) S O ⟨?_,T,e2,hv,g⟩,rfl,k l (I.hok.fresh O)⟩;rw[av];have:=UH (Xu (Mg J)) (m:=J) λy m=>(Ex y J).mp m;exact cw this (cw hz .(2))
def sdkL(I:List (Key×D)):Option D:=(Ng (I.map λp=>Sn p.1)).bind λz=>if z.Nodup/\z.length<=60 then X0 (.lst ((CQ z).map .str)) else W1
def ZY:D->Option D
 |.dk z=>sdkL z
 |_=>W1
def Rw:Sk G (λxs H Q=>∃p kvs I,xs=[.ref p]/\Rd H p (.dK kvs)/\kvs.map (λq=>kV q.1)=I.map V.str/\I.Nodup/\I.length<=60/\∀l,H l=W1->Q (.ref l) (fk H l (.lst ((CQ I).map V.str)))) ZY:=by
 intro A H x dx d Q W r e k;cases dx with
 |dk L=>
  have e:sdkL L=X0 d:=e;obtain⟨p,kvs,rfl,J,O,Z⟩:=r.dk;unfold sdkL at e;cases S:Ng (L.map λp=>Sn p.1) with
  |none=>rw[S] at e;cases e
  |some I=>
   rw[S] at e;have T:(if I.Nodup/\I.length<=60 then X0 (D.lst ((CQ I).map .str)) else W1)=X0 d:=e;split at T
   .rename_i U;cases T;refine⟨p,kvs,I,rfl,J,mG (G:=G) (H:=cc A H) (jT O) S,U.1,U.2,λl Y=>k _ _ (Aj Y _) (Cz W Y ⟨by simp,λi v d J O=>?_⟩)⟩;rw[br] at J O;cases q:(CQ I)[i]? with
    |none=>rw[q] at J;cases J
    |some z=>rw[q] at J O;cases J;cases O;exact .str z
   .cases T
 |_=>cases e
end
open EX
section
variable {a ob:Expr}{es:List Expr}{fs:FA}{fo:FE}{p:Pos}
def Ej(c m:Str):D->Bool
 |.ob z L=>z==c&&(L.lookup m).isNone
 |_=>E3
def Gg(c m:Str)(g:List D->Option D)(z:FE)(fs:FA):FE:=λρ=>(z ρ).bind λo=>if Ej c m o=E2 then (fs ρ).bind λds=>g (o::ds) else W1
def Qv{fs:List (Str×V)}{L:List (Str×D)}(h:fs.map (·.1)=L.map (·.1))(n:L.lookup m=W1):fs.lookup m=W1:=by
 induction fs generalizing L with
 |nil=>rfl
 |cons p r z=>
  cases L with
  |nil=>cases h
  |cons q t=>
   obtain⟨a,b⟩:=p;obtain⟨O,J⟩:=q;simp only[bb,sM] at h;obtain⟨rfl,I⟩:=h;simp only[cb] at n ⊢;split at n
   .cases n
   .exact z I n
end
end PV
namespace EX
open PySem PySem.W PyProof.Rows PySem.Calls
open PySem.Spec
section
variable {A:aE}{K:Frag}{x:Addr}{ox:Obj}{od:Option Obj}{name:Str}{v:ac}
open Builtin Builtin.ObjectAttr in
end
end EX
namespace EX
open PySem PySem.Spec L2
open PyProof.Rows hiding St
abbrev bmV:List ac:=[.type "ValueError",.type "Exception",.type "BaseException",.type "object"]
def excX(K:aI)(C:Addr):Bool:=match K.lookup C with
 |some ⟨.type "type",_,.cls cd,sl⟩=>(match cd.mro,sl.toList with
  |.ref I::z,[_,_,_,_,X0 (.builtin n),_]=>I==C&&n=="ValueError.__new__"&&!cd.hasDel&&PySem.W.tailIn K bmV z
  |_,_=>E3)
 |_=>E3
structure XC (K:aI) (C R:Addr):Prop where
 obj:excX K C=E2
 sa:gX K (.ref C) "__setattr__"=X0 (X0 (.builtin "object.__setattr__"))
 ga:gX K (.ref C) "__getattribute__"=X0 (X0 (.builtin "BaseException.__getattribute__"))
 gt:gX K (.ref C) "__getattr__"=X0 W1
 cd:(PySem.W.clsIn K C).any (λcd=>cd.mro==[.ref C,.ref R,.type "ValueError",.type "Exception",.type "BaseException",.type "object"]&&cd.hasDict)=E2
end EX
namespace PV
open PySem PySem.Spec L2 EX
open PyProof.Rows hiding St
end PV
namespace EX
open PySem PySem.Spec L2
open PyProof.Rows hiding St
section
variable {e R:Addr}{K:aI}
abbrev Cx.tr (X:Cx) (E:ac->ah->Prop) (pn:zP):Cx:={ X with xe:=E,pn:=pn }
end
end EX
namespace PV
open PySem PySem.Spec L2 EX
open PyProof.Rows hiding St
end PV
namespace EX
open PySem PySem.W PySem.Spec PyProof.Rows PySem.Calls
end EX
namespace PV
open PySem PySem.Spec L2 EX
open PyProof.Rows hiding St
structure Mx (K:aI) (C:Addr) (m qual:Str) (st:Stmt) (ps:List Str) where
 f:Addr
 fd:mN
 F:Fun K m qual st f fd
 B:MV K fd ps []
 me:Meth K C m f
structure Rx (K:aI) (mg:Str->Option ac) (rn:Str) where
 R:Addr
 m:mg rn=X0 (.ref R)
 x:excX K R=E2
 h1:LD K (.ref R) "__getattribute__"=X0 (X0 (.builtin "type.__getattribute__"))
 h2:LE K R (.type "type")=E2
 h3:LF K (.ref R) (.type "type") "__init__"=X0 (.val (.builtin "ValueError.__init__"))
section
variable {a ob:Expr}{es:List Expr}{fs:FA}{fa fo:FE}{p np:Pos}
theorem mO{k:Nat}{d:Mx X.K C m qual st ps}{pl:Sem Bool}(U:G.cl c=X0 C)(cl:On X.K C)(F:kr X.prog X.w X.K X.mg X.base CX0 k d.f d.fd ps (MU G g))(hr:Room k' X.A)(ho:PF X G ob fo)(L:k<=k':=by omega)(ht:eval (.Call (.Attribute ob m apos) [] [] pos) X.env=(do
   let ov <-eval ob X.env
   pw apos.atName
   let (f,first) <-lS [ov] (ro ov m pl)
   rL pos f first (dn pos (ay [] X.env)) (jS pos (i9 [] X.env))):=by rfl):
  PF X G (.Call (.Attribute ob m apos) [] [] pos) (Gg c m g fo af):=λA=>CZ (gj (@ho A) cl d.me F (hr.mono L) d.B .nil VB ht)<|by
 rintro σ H Q ⟨J,dd,o,e,k⟩
 unfold Gg at e;cases O:fo J with
 |none=>simp[O] at e
 |some I=>
  rw[O] at e;have S:(if Ej c m I=E2 then (af J).bind λds=>g (I::ds) else W1)=X0 dd:=e;split at S
  .rename_i z;have e2:g [I]=X0 dd:=S;refine⟨J,I,o,O,λv H1 T r1=>?_⟩;cases I with
   |ob c' gs=>
    simp only[Ej,eP,XG,vj] at z;obtain⟨rfl,hn⟩:=z;cases r1 with
    |ob W Y Z r2=>
     rw[U] at W;cases W;exact⟨_,_,_,rfl,Am _ _ Y,Qv Z hn,A,[.ob c' gs],dd,(o.mono T).live,.cons (.ob U Y Z r2) .nil,e2,λv H3 s3 r4=>k v H3 (T.trans s3) r4⟩
   |_=>simp[Ej] at z
  .cases S
end
section
variable {K:aI}{cn:Str}{f R:Addr}{kV:ac}{l:List (Str×Addr)}
def mx(X:K.In h)(a:gX K (.ref C) m=X0 (X0 (.ref f)))(i:tm K (.ref f)=E2)(z:K.lookup f=X0 ⟨oc,od,.func (iL m qual (Eu st) (Bf st) (Ab st) .none kV doc pm an cdv ct),osl⟩)(c:pV K cdv qual=E2)(k:jI K (.ref f)=E2)(b:∀(kV doc pm:ac) (an:Option Addr) (cdv ct:ac) (us:List ac),us.length=ps.length->xo (iL m qual (Eu st) (Bf st) (Ab st) .none kV doc pm an cdv ct) ⟨us,[]⟩=pure (ps.zip us)):Mx K C m qual st ps:=⟨f,_,Sy z c k,(Sy z c k).binds b,a,i,k⟩
def rx(X:K.In h)(N:h.Ns gL mg)(a:BN K gL x=X0 (X0 (.ref R)))(e:excX K R=E2)(h1:LD K (.ref R) "__getattribute__"=X0 (X0 (.builtin "type.__getattribute__")))(z:LE K R (.type "type")=E2)(S:LF K (.ref R) (.type "type") "__init__"=X0 (.val (.builtin "ValueError.__init__"))):Rx K mg x:=⟨R,vT X N a,e,h1,z,S⟩
end
def AAe:R2:=λx y H Q=>∃a kvs k b,y=.ref a/\Rd H a (.dT kvs)/\x=.ref b/\H b=X0 (.tup (k.map kV))/\Q (.bl (OS kvs k).isSome) H
def Yf(ds:Option (List D))(y:Option D):Option D:=ds.bind λds=>y.bind λy=>match y with
 |.dt z=>if ds.length<=sizeLine then (MJ ds).map λk=>.bl (wh k z).isSome else W1
 |_=>W1
def inTF(fs:FA)(z:FE):FE:=λρ=>Yf (fs ρ) (z ρ)
section
variable {b:Expr}{fb:FE}{es:List Expr}{fs:FA}
def sX(S:X.A.units+1<bo):Na X (d4 .In) AAe:=by
 intro U s T H x y v u Q I rx J h;obtain⟨a,z,k,b,rfl,e,rfl,L,q⟩:=h;cases J;exact d_in S I (.inr ⟨z,k,b,e,rfl,L,rfl⟩) rx λW O=>⟨.bl _,H,O,rfl,q⟩
def mL{x1}{k:Nat}(hr:Room k X.A)(ha:SR X G es fs)(hb:PU X G b fb)(hm:iq .In b=E3:=by with_unfolding_all rfl):PF X G (.Compare (.Tuple es x1 p1) [.In] [b] pos) (inTF fs fb):=λA=>CZ (Z0 (sX (HB hr)) (Yz (@ha A)) (@hb A) hm)<|by
 rintro σ H Q ⟨I,d,o,e,k⟩
 unfold inTF Yf at e;cases J:fs I with
 |none=>simp[J] at e
 |some L=>
  cases U:fb I with
  |none=>simp[J,U] at e
  |some y=>
   rw[J,U] at e;cases y with
   |dt z=>
    have O:(if L.length<=sizeLine then (MJ L).map λk=>D.bl (wh k z).isSome else W1)=X0 d:=e;split at O
    .rename_i hz;cases T:MJ L with
     |none=>simp[T] at O
     |some ks=>
      rw[T] at O;cases O;refine⟨I,L,o,J,λxs H1 Z r1=>⟨by rw[r1.1];exact hz,λp hp=>?_⟩⟩;have ex:=Qj r1 T;have Y:ab H1 (fk H1 p (.tup xs)):=Aj hp _;refine⟨I,.dt z,o.mono (Z.trans Y),U,λv H3 W r3=>?_⟩;obtain⟨a,S,rfl,h1,h2,r⟩:=r3.dt;have h3:=(M9 (k:=ks) h2 r).2;refine⟨a,S,ks,p,rfl,h1,rfl,by rw[W _ _ Ah,ex],?_⟩;rw[h3];exact k _ H3 ((Z.trans Y).trans W) (.bl _)
    .cases O
   |_=>cases e
end
end PV
namespace L2
end L2
namespace PV
open PySem PySem.Spec L2
section
variable {es l1:List Expr}{a b c:Expr}
def RP{k j}:ay (.Constant k j pos::es) env=(E3,eval (.Constant k j pos) env)::ay es env:=rfl
def Ry{x}:ay (.Name x pos::es) env=(E3,eval (.Name x pos) env)::ay es env:=rfl
def CT{o}:ay (.BinOp a o b pos::es) env=(E3,eval (.BinOp a o b pos) env)::ay es env:=rfl
def Oh{o}:ay (.Compare a o l1 pos::es) env=(E3,eval (.Compare a o l1 pos) env)::ay es env:=rfl
def Ak:ay (.Subscript a b pos::es) env=(E3,eval (.Subscript a b pos) env)::ay es env:=rfl
def DN{x}:ay (.Attribute a x pos::es) env=(E3,eval (.Attribute a x pos) env)::ay es env:=rfl
def mQ{x}:ay (.Tuple l1 x pos::es) env=(E3,eval (.Tuple l1 x pos) env)::ay es env:=rfl
def sY:ay (.List l1 pos::es) env=(E3,eval (.List l1 pos) env)::ay es env:=rfl
def Ei{k}:ay (.Call a l1 k pos::es) env=(E3,eval (.Call a l1 k pos) env)::ay es env:=rfl
def Jm{g sc}:ay (.ListComp a g sc pos::es) env=(E3,eval (.ListComp a g sc pos) env)::ay es env:=rfl
end
section
variable {es:List Expr}{fs:FA}
def iS{i j}(h:SR X G es fs):SR X G (.Constant (.str i) j pos::es) (Aa (kF (.str i)) fs):=Ae Vx h RP
def iI{i j}(h:SR X G es fs):SR X G (.Constant (.int i) j pos::es) (Aa (kF (.int i)) fs):=Ae S8 h RP
end
open PyProof.Rows hiding St
open EX
end PV
namespace EX
open PySem PySem.W PySem.Spec PyProof.Rows PySem.Calls
section
variable {A:aE}{K:Frag}{x:Addr}{ox:Obj}{name:Str}{v:ac}
open Builtin Builtin.ObjectAttr in
end
end EX
namespace EX
open PySem PySem.Spec L2
open PyProof.Rows hiding St
end EX
namespace PV
open PySem PySem.Spec L2 EX
open PyProof.Rows hiding St
structure Xx2 (G:Gx) (mg:Str->Option ac) (R:Addr) (cn f g qual:Str) (st:Stmt) (ps:List Str) where
 C:Addr
 fi:Addr
 fd:mN
 gc:G.xcl cn=X0 C
 xc:XC G.K C R
 hi:gX G.K (.ref C) "__init__"=X0 (X0 (.ref fi))
 hf:tm G.K (.ref fi)=E2
 kp:jI G.K (.ref C)=E2
 na:Bd G.K C f
 nb:Bd G.K C g
 m:mg cn=X0 (.ref C)
 F:Fun G.K "__init__" qual st fi fd
 B:MV G.K fd ps []
end PV
namespace EX
open PySem PySem.Spec L2
open PyProof.Rows hiding St
end EX
namespace PV
open PySem PySem.Spec L2 EX
open PyProof.Rows hiding St
def NN{P:List Str}(a:sc.kind=.function:=by rfl)(b:sc.isCoroutine=E3:=by rfl)(c:sc.isGenerator=E3:=by rfl)(d:N.Nodup:=by decide +kernel)(e:N.take P.length=P:=by rfl)(f:∀x∈P,sc.names.lookup x=X0 .local ∨sc.names.lookup x=X0 .cell :=by decide +kernel)(g:∀y∈sc.names,y.2≠.free :=by decide +kernel):bc N P sc:=⟨a,b,c,d,e,f,g⟩
def fc{es:List Expr}{fs:FA}{I:Pos}(i:Nat)(h:SR X G es fs)(O:X.N[i]?=X0 x:=by rfl)(J:UY X.env.scope x:=by first | exact dQ rfl | exact cq (dQ rfl) | exact cq (cq rfl))(L:.(8)=E3:=by decide)(z:(x==("__classdict__":Str))=E3:=by decide):SR X G (.Name x I::es) (Aa (vF i) fs):=Ae (vr i O J L z) h Ry
def vO{z:Type}{us:List z}(h:us.length=1):∃a,us=[a]:=by
 cases us with
 |nil=>cases h
 |cons a r=>exact⟨a,by rw[yA (BO h)]⟩
def vP{I:Type}{us:List I}(h:us.length=2):∃a b,us=[a,b]:=by
 cases us with
 |nil=>cases h
 |cons z r=>
  obtain⟨a,rfl⟩:=vO (BO h);exact⟨z,a,rfl⟩
def vQ{I:Type}{us:List I}(h:us.length=3):∃a b c,us=[a,b,c]:=by
 cases us with
 |nil=>cases h
 |cons z r=>
  obtain⟨a,b,rfl⟩:=vP (BO h);exact⟨z,a,b,rfl⟩
def AAf{I:Type}{us:List I}(h:us.length=4):∃a b c d,us=[a,b,c,d]:=by
 cases us with
 |nil=>cases h
 |cons z r=>
  obtain⟨a,b,c,rfl⟩:=vQ (BO h);exact⟨z,a,b,c,rfl⟩
abbrev EO:=Sum (Rho×Ef) (D×Rho)
abbrev FEz:=Rho->Ef->Option EO
open Classical in
section
open PySem PySem.Spec L2
end
open PySem PySem.Spec L2 EX
open PyProof.Rows hiding St
section
variable {a ob:Expr}{es:List Expr}{fs:FA}{fo:FE}
theorem mA{k:Nat}{d:Mx X.K C m qual st ps}{pl:Sem Bool}(hc:G.cl c=X0 C)(cl:On X.K C)(F:kr X.prog X.w X.K X.mg X.base CX0 k d.f d.fd ps (MU G g))(hr:Room k' X.A)(ho:PF X G ob fo)(ha:SR X G (a::es) fs)(Y:k<=k':=by omega)(U:ay (a::es) X.env=(E3,eval a X.env)::ay es X.env:=by rfl)(W:(dn pos (ay es X.env)).any (·.1)=E3:=by rfl)(ht:eval (.Call (.Attribute ob m apos) (a::es) [] pos) X.env=(do
   let ov <-eval ob X.env
   pw apos.atName
   let (f,first) <-lS [ov] (ro ov m pl)
   rL pos f first (dn pos (ay (a::es) X.env)) (jS pos (i9 [] X.env))):=by rfl):
  PF X G (.Call (.Attribute ob m apos) (a::es) [] pos) (Gg c m g fo fs):=λA=>CZ (Z3 (@ho A) cl d.me F (hr.mono Y) d.B .nil VB (@ha A) U W ht)<|by
 rintro σ H Q ⟨I,dd,o,e,k⟩
 unfold Gg at e;cases e0:fo I with
 |none=>simp[e0] at e
 |some J=>
  rw[e0] at e;have O:(if Ej c m J=E2 then (fs I).bind λL=>g (J::L) else W1)=X0 dd:=e;split at O
  .rename_i z;cases Z:fs I with
   |none=>simp[Z] at O
   |some L=>
    have e2:g (J::L)=X0 dd:=by simpa [Z] using O
    refine⟨I,J,o,e0,λv H1 T r1=>?_⟩;cases J with
    |ob c' gs=>
     simp only[Ej,eP,XG,vj] at z;obtain⟨rfl,hn⟩:=z;cases r1 with
     |ob hC h1 l1 r2=>
      rw[hc] at hC;cases hC;refine⟨_,_,_,rfl,Am _ _ h1,Qv l1 hn,I,L,o.mono T,Z,λvs H2 S r3=>?_⟩;refine⟨A,.ob c' gs::L,dd,((o.mono T).mono S).live,?_,e2,λv H3 s3 r4=>k v H3 ((T.trans S).trans s3) r4⟩;rw[f6];exact .cons (il.mono (.ob hc h1 l1 r2) (Az S)) r3
    |_=>simp[Ej] at z
  .cases O
end
abbrev Xy (w:bP) (q:Addr) (rs:List (mf×Addr)):HO:=.ext λh=>QO w h q rs
abbrev ST (qs:List (mf×Addr)):List V:=qs.map λx=>V.ref x.2
def AtP(X:Cx)(H:Hp)(qs:List (mf×Addr)):Prop:=∀x∈qs,QU x.1/\NL X.K H x.2 ((kk x.1).map kV)
section
theorem Wa(val:Nat->mf):∀{n:Nat}{y:mf},y∈Sr val n↔∃i,i<n/\val i=y
 |0,y=>by simp[Sr]
 |n+1,y=>by
  rw[Qt];unfold WS;have I:=Wa val (n:=n) (y:=y);split
  .rename_i h;rw[I];constructor
   .rintro⟨i,z,e⟩;exact⟨i,by omega,e⟩
   .rintro⟨i,z,e⟩
    by_cases c:i=n
    .subst c;obtain⟨j,U,J⟩:=(Wa val (n:=i) (y:=val i)).mp h;exact⟨j,U,J.trans e⟩
    .exact⟨i,by omega,e⟩
  .rw[eJ,I,ii];constructor
   .rintro (⟨i,z,e⟩ | e)
    .exact⟨i,by omega,e⟩
    .exact⟨n,by omega,e.symm⟩
   .rintro⟨i,z,e⟩
    by_cases c:i=n
    .subst c;exact .inr e.symm
    .exact .inl ⟨i,by omega,e⟩
def bT{qs:List (mf×Addr)}(I:Inv X π σ H s)(h:AtP X H qs):∀x∈qs,QP X.prog X.w s.heap x.1 x.2:=λx z=>⟨(h x z).1,tup_is I (h x z).2⟩
def Xz{qs:List (mf×Addr)}(r:cx (ST qs) us)(i:Nat)(v:ac)(h:us[i]?=X0 v):v=.ref (qs.getD i ((0,0),0)).2:=by
 have e:us=(qs.map (·.2)).map bg:=Ru (bs:=qs.map (·.2)) (by rw[bE];exact r);rw[e,bE,br] at h;obtain⟨x,z,rfl⟩:=mv.mp h;simp[z]
def prsL{qs:List (mf×Addr)}(i:Inv X π σ H s)(h:MO X.K H p (ST qs)):ZN X.prog X.w "list" p qs.length (λi=>(qs.getD i ((0,0),0)).2) s.heap:=by
 obtain⟨I,r,L,_⟩:=i.list h;obtain⟨o,g,c,m,d⟩:=L.isList;have Y:=r.length;rw[av] at Y;refine⟨λz e=>⟨o,e o g,c⟩,by rw[qo];kernel_rfl,by rw[qo];kernel_rfl,by decide,bn g,λA E z Q S e lt k=>?_⟩;have J:z.heap.IsList p I.toArray:=⟨o,e o g,c,m,d⟩;refine xb J (k _ (λi h=>h.IsListIter z.heap.objs.size p i/\h.IsList p I.toArray) (λi v=>I.toArray[i]?=X0 v) (λT O=>by rw[Y,<-ck];exact so O _ p (bX lt) I.toArray) ⟨⟨_,bS _ rfl,rfl,rfl⟩,J.push _⟩ λi v q=>Xz r i v (by simpa using q))
def prsT{qs:List (mf×Addr)}(i:Inv X π σ H s)(h:MZ X.K H p (ST qs)):ZN X.prog X.w "tuple" p qs.length (λi=>(qs.getD i ((0,0),0)).2) s.heap:=by
 obtain⟨I,r,L,_⟩:=i.tuple h;obtain⟨o,g,c,m,d⟩:=(show s.heap.IsTuple p I.toArray from L);have Y:=r.length;rw[av] at Y;refine⟨λz e=>⟨o,e o g,c⟩,by rw[qo];kernel_rfl,by rw[qo];kernel_rfl,by decide,bn g,λA E z Q U e lt k=>?_⟩;have J:z.heap.IsTuple p I.toArray:=⟨o,e o g,c,m,d⟩;refine xh J (k _ (λi h=>h.IsTupleIter z.heap.objs.size p i/\h.IsTuple p I.toArray) (λi v=>I.toArray[i]?=X0 v) (λW O=>by rw[Y,<-ck];exact Walks.tuple O _ p (bX lt) I.toArray) ⟨⟨_,bS _ rfl,rfl,rfl⟩,J.at λT S=>ba _ S⟩ λi v q=>Xz r i v (by simpa using q))
def vR(X:Cx):List V->Hp->VK->Prop:=λxs H Q=>∃p qs,xs=[.ref p]/\(MO X.K H p (ST qs)∨MZ X.K H p (ST qs))/\AtP X H qs/\qs.length<=4/\∀l z,H l=W1->(z.map (·.1)).Nodup->(∀x∈z,x∈qs)->(∀x∈qs,x.1∈z.map (·.1))->Q (.ref l) (fk H l (Xy X.w l z))
theorem fC(hu:X.A.units+64<bo)(hc:X.calm=E2):Di X (.type "set") (vR X):=by
 intro π s Z H xs us Q I r h;obtain⟨p,qs,rfl,hs,U,hz,k⟩:=h;obtain⟨u,rfl,ru⟩:=OI r;cases ru;have O:=bT I U;have Y:∀{T:String},ZN X.prog X.w T p qs.length (λi=>(qs.getD i ((0,0),0)).2) s.heap->ag .(3) X.A (call (.type "set") [.ref p]) (EP X π Z Q) X.xe s:=λt=>by
  refine sG (B:=λb=>b∈qs.map (·.2)) (val:=λi=>(qs.getD i ((0,0),0)).1) .(0) (I.ok.hd hc) t (λi z=>?_) hz (λi z=>?_) (λb hb=>?_) λh' tk x W=>?_
  .rw[show qs.getD i ((0,0),0)=qs[i] by simp[z]];exact O _ (fA z)
  .rw[show qs.getD i ((0,0),0)=qs[i] by simp[z]];exact aT.mpr ⟨_,fA z,rfl⟩
  .obtain⟨y,J,rfl⟩:=aT.mp hb;obtain⟨_,o,_,_,g,_⟩:=O y J;exact bn g
  .obtain⟨es,t,S,ob,f,pm,bq⟩:=x;have sub:∀x∈S,x∈qs:=λx L=>by
    obtain⟨y,J,e⟩:=aT.mp (bq x L);have iy:=(O y J).keep (g:=h') λo g=>W _ o g;have ix:=f.isp x L;rw[<-e] at ix;have:=xu (ix.2.inj iy.2);rw[show x=y from rS this e.symm];exact J
   refine⟨.ref s.heap.objs.size,_,I.laid (a:=s.heap.objs.size) (o:=Xy X.w s.heap.objs.size S) (t':=tk) W (aw _) ⟨⟨es,t,ob,f.toQ⟩,?_,λh1 h2 x1 e=>x1.keep e⟩,rfl,k _ S I.fresh f.nd sub λx L=>?_⟩
   .obtain⟨o,_,g,_⟩:=ob;exact⟨o,g⟩
   .obtain⟨i,z,e⟩:=ng.mp L;exact pm.mem_iff.mpr ((Wa _).mpr ⟨i,z,by simp[z,e]⟩)
 rcases hs with hs | hs
 .exact Y (prsL I hs)
 .exact Y (prsT I hs)
def Tv(X:Cx):List V->Hp->VK->Prop:=λxs H Q=>∃p z,xs=[.ref p]/\(H p=X0 (Xy X.w p z)∨((MO X.K H p (ST z)∨MZ X.K H p (ST z))/\z.length<=60))/\AtP X H z/\(z.map (·.1)).Nodup/\∀l I,H l=W1->I.Perm z->(I.map λx=>PR x.1).Pairwise (·<·)->Q (.ref l) (fk H l (.lst (ST I)))
theorem Tw:∀(qs:List (mf×Addr)),cx (ST qs) (qs.map λx=>bg x.2)
 |[]=>.nil
 |x::r=>.cons rfl (Tw r)
theorem X3{A:aE}{l:Addr}{T:String}{Q:List ac->ah->Prop}(O:T="list"∨T="tuple")(I:s.heap.get? l=X0 o)(L:o.cls=.type T)(J:o.data=.seq vs.toArray n)(hz:vs.length<=1000)(k:∀h',s.heap.objs.size<=h'.objs.size->.(7)->Q vs { s with heap:=h' }):ag (ai prog w) A (sD (.ref l)) Q E s:=by
 unfold sD;refine ae (BF (hJ F7 (show ag _ _ (do again (.builtin "list.__iadd__" ⟨[<-xI [],.ref l],[]⟩)) _ _ s from ?_)));refine ae (vS (ar ⟨EN _ (by decide +kernel),hJ F8 (show ag _ _ (zo .(11) (.ref l) .(11)) _ _ { s with heap:=s.heap.push (qS "list" #[] 0) } from ?_)⟩));have z:(s.heap.push (qS "list" #[] 0)).get? l=X0 o:=ba _ I;unfold zo;refine ae (xw (T:=T) ⟨o,z,L⟩ ?_);rw[SF (by rcases O with rfl | rfl<;>simp)];refine ae (LG z J (ae (LG (xs:=#[]) (n:=0) (bS _ rfl) rfl ?_)));rw[UF .(1)];refine ae (PyProof.Rows.listUpdate_at (xs:=#[]) (n:=0) (bS _ rfl) rfl ?_ (eW _) (by simp only[Array.size_append,ck,DT,iA];omega));refine ar (show ag (ai prog w) A (load s.heap.objs.size >>= _) Q E _ from ae (xa (PyProof.Rows.get?_update_seq (bS _ rfl) _) ?_));show ag _ _ (pure ((#[]:Array ac)++vs.toArray).toList) Q E _;rw[show ((#[]:Array ac)++vs.toArray).toList=vs by simp];refine ar (k _ (by rw[Heap.size_update,iE];exact kz _) λb o g=>?_);rw[Heap.get?_update_ne _ _ _ _ (bX (bn g))];exact ba _ g
theorem Px(hc:X.calm=E2):Di X (.builtin "sorted") (Tv X):=by
 intro π s σ H xs us Q I r h;obtain⟨p,O,rfl,J,S0,nd,k⟩:=h;obtain⟨u,rfl,ru⟩:=OI r;cases ru;have W:=bT I S0
 rcases J with J | ⟨J,hz⟩
 .obtain⟨x,_,_⟩:=(show BV X.prog X.w H s.heap p (Xy X.w p O) from I.hok p _ J);have sz:O.length<=18:=let ⟨_,_,_,f⟩:=x;f.sz;refine Xw (I.ok.hd hc) x W nd λL e l h' tk hL hS g S U=>?_;exact⟨.ref l,_,I.laid (a:=l) (o:=.lst (ST L)) (t':=tk) U S ⟨by rw[av,hL.length_eq,iA];omega,_,e,Tw L,g⟩,rfl,k l L (I.hok.fresh S) hL hS⟩
 .have go:∀{T:String}{o:Obj}{n:Nat},(T="list"∨T="tuple")->s.heap.get? p=X0 o->o.cls=.type T->o.data=.seq (O.map λx=>bg x.2).toArray n->ag .(3) X.A (call (.builtin "sorted") [.ref p]) (EP X π σ Q) X.xe s:=λ{T o n} hT ho N0 hd=>by
   refine F9 Fa Fc Fh (Fk _) ?_;unfold fN.«sorted»;refine ae (m:=Fn "sorted" 1 1 _) (ar (ae (X3 hT ho N0 hd (by rw[av];omega) λY S U=>?_)));refine ae (vS ?_ (by rw[av,iA];omega));have gl:(Y.push { cls:=.type "list",data:=.seq (O.map λx=>bg x.2).toArray }).get? Y.objs.size=X0 (qS "list" (O.map λx=>bg x.2).toArray 0):=bS _ rfl;refine ae (wpAny_holding (hZ Fs ⟨_,gl,rfl⟩ Fu (Tq gl (λx hx=>(W x hx).keep λo g=>ba _ (U _ o g)) nd .(0) λL2 p2 s2=>⟨_,rfl,?_⟩) (FB _)));obtain⟨c,O0⟩:=FC (out:=(L2.map λx=>bg x.2).toArray) gl;refine ar ⟨_,rfl,.ref Y.objs.size,_,I.laid (a:=Y.objs.size) (o:=.lst (ST L2)) (t':=s.toks) (λb o g=>?_) S ⟨by rw[av,p2.length_eq,iA];omega,_,c,Tw L2,O0⟩,rfl,k _ L2 (I.hok.fresh S) p2 s2⟩;have lb:=bn (U b o g);rw[FD (bX lb) (by rw[iE];exact mS lb)];exact ba _ (U b o g)
  have ei:∀{z:List ac},cx (ST O) z->z=O.map λx=>bg x.2:=λ{z} r=>by
   have:=Ru (bs:=O.map (·.2)) (us:=z) (by rw[bE];exact r);rw[this,bE];rfl
  rcases J with J | J
  .obtain⟨z,r,Z,_⟩:=I.list J;obtain⟨o,g,c,m,d⟩:=Z.isList;exact go (.inl rfl) g c (by rw[<-ei r];exact d)
  .obtain⟨z,r,Z,_⟩:=I.tuple J;obtain⟨o,g,c,m,d⟩:=(show s.heap.IsTuple p z.toArray from Z);exact go (.inr rfl) g c (by rw[<-ei r];exact d)
end
def UR(p:mf):List mf->List mf
 |[]=>[p]
 |q::r=>if PR p<PR q then p::q::r else if PR p=PR q then q::r else q::UR p r
def Ao(ps:List mf):List mf:=ps.foldr UR []
abbrev OV (l:List mf):Prop:=(l.map PR).Pairwise (·<·)
theorem Tz{p x:mf}(z:QU p):∀{l:List mf},(∀q∈l,QU q)->(x∈UR p l↔x=p∨x∈l)
 |[],_=>by simp[UR]
 |q::r,h=>by
  have I:=Tz (x:=x) z (l:=r) λy J=>h y (by simp[J]);unfold UR;split
  .simp
  .split
   .rename_i _ e;have:p=q:=bI z (h q .(1)) e;subst this;simp
   .rw[bp,I,bp];constructor
    .rintro (a | a | a)
     .exact .inr (.inl a)
     .exact .inl a
     .exact .inr (.inr a)
    .rintro (a | a | a)
     .exact .inr (.inl a)
     .exact .inl a
     .exact .inr (.inr a)
theorem X4{p:mf}(S:QU p):∀{l:List mf},(∀q∈l,QU q)->OV l->OV (UR p l)
 |[],_,_=>by simp[UR,OV]
 |q::r,h,s=>by
  have L:∀y∈r,QU y:=λy I=>h y (by simp[I]);have J:(∀y∈r,PR q<PR y)/\OV r:=by
   rw[OV,bb,lx] at s;exact⟨λy I=>s.1 _ (aT.mpr ⟨y,I,rfl⟩),s.2⟩
  have T:=X4 S L J.2;unfold UR;split
  .rename_i c;rw[OV,bb,lx];refine⟨λy I=>?_,s⟩;obtain⟨z,O,rfl⟩:=aT.mp I
   rcases bp.mp O with rfl | O
   .exact c
   .exact IG c (J.1 z O)
  .split
   .exact s
   .rename_i W U;rw[OV,bb,lx];refine⟨λy I=>?_,T⟩;obtain⟨z,O,rfl⟩:=aT.mp I
    rcases (Tz S L).mp O with rfl | O
    .omega
    .exact J.1 z O
theorem Py:∀{ps:List mf},(∀p∈ps,QU p)->OV (Ao ps)/\∀x,x∈Ao ps↔x∈ps
 |[],_=>⟨by simp[Ao,OV],λx=>by simp[Ao]⟩
 |p::r,h=>by
  have z:∀y∈r,QU y:=λy I=>h y (by simp[I]);obtain⟨a,b⟩:=Py z;have hs:∀q∈Ao r,QU q:=λq T=>z q ((b q).mp T);exact⟨X4 (h p .(1)) hs a,λx=>by show x∈UR p (Ao r)↔_;rw[Tz (h p .(1)) hs,b,bp]⟩
theorem Wb:∀{l m:List mf},OV l->OV m->(∀x,x∈l↔x∈m)->l=m
 |[],[],_,_,_=>rfl
 |[],y::m,_,_,h=>MG ((h y).mpr .(1)) .(1)
 |x::l,[],_,_,h=>MG ((h x).mp .(1)) .(1)
 |x::l,y::m,a,b,h=>by
  rw[OV,bb,lx] at a b;have L:∀z∈l,PR x<PR z:=λz O=>a.1 _ (aT.mpr ⟨z,O,rfl⟩);have b1:∀z∈m,PR y<PR z:=λz O=>b.1 _ (aT.mpr ⟨z,O,rfl⟩);have e:x=y:=by
   rcases bp.mp ((h x).mp .(1)) with z | z
   .exact z
   .rcases bp.mp ((h y).mpr .(1)) with w | w
    .exact w.symm
    .have:=b1 x z;have:=L y w;omega
  subst e;have:=Wb a.2 b.2 λz=>by
   have O:=h z;rw[bp,bp] at O;constructor
   .intro c
    rcases O.mp (.inr c) with d | d
    .subst d;have:=L z c;omega
    .exact d
   .intro c
    rcases O.mpr (.inr c) with d | d
    .subst d;have:=b1 z c;omega
    .exact d
  rw[this]
abbrev prT (p:mf):D:=.tup [.int (p.1:Int),.int (p.2:Int)]
def tssL(ds:List D):Option D:=(QI ds).bind λps=>if ps.length<=4 then X0 (.tup ((Ao ps).map prT)) else W1
def tssD:D->Option D
 |.lst ds=>tssL ds
 |.tup ds=>tssL ds
 |_=>W1
def tslL(ds:List D):Option D:=(QI ds).bind λps=>if ps.length<=17/\ps.Nodup then X0 (.tup ((Ao ps).map prT)) else W1
def tslD:D->Option D
 |.lst ds=>tslL ds
 |.tup ds=>tslL ds
 |_=>W1
section
variable {a:Expr}{fa:FE}
theorem So{H:Hp}:∀{ks:List mf}{bs:List Addr},mE (λk c=>NL X.K H c (k.map kV)) (Sb ks) bs->(∀p∈ks,QU p)->∃qs:List (mf×Addr),bs=qs.map (·.2)/\ks=qs.map (·.1)/\AtP X H qs
 |[],_,.nil,_=>⟨[],rfl,rfl,λx z=>by cases z⟩
 |k::ks,_,.cons r t,h=>by
  obtain⟨qs,O,L,J⟩:=So t λp I=>h p (by simp[I]);refine⟨(k,_)::qs,by rw[bb,<-O],by rw[bb,<-L],λx z=>?_⟩
  rcases bp.mp z with rfl | z
  .exact⟨h k .(1),r⟩
  .exact J x z
def Mh{qs:List (mf×Addr)}(s:ab H H')(h:AtP X H qs):AtP X H' qs:=λx I=>by
 obtain⟨a,b⟩:=h x I;refine⟨a,?_⟩
 rcases b with (z | ⟨o,z⟩) | z
 .exact .inl (.inl (s _ _ z))
 .exact .inl (.inr ⟨o,s _ _ z⟩)
 .exact .inr z
theorem sZ{J:List (mf×Addr)}(W:G.K=X.K)(h:AtP X (cc A H) J):be G (cc A H) (ST J) ((J.map (·.1)).map prT):=by
 refine⟨by simp,λi x d z I=>?_⟩;rw[br] at z;rw[bE,br] at I;cases e:J[i]? with
 |none=>rw[e] at z;cases z
 |some y=>
  rw[e] at z I;cases z;cases I;obtain⟨_,t⟩:=h y (ic e);rw[<-W] at t;refine .tup (xs:=[.int (y.1.1:Int),.int (y.1.2:Int)]) t rfl λj x d z I=>?_
  match j,z,I with
  |0,z,I=>cases z;cases I;exact .int _
  |1,z,I=>cases z;cases I;exact .int _
  |j+2,z,_=>simp at z
def Vc{qs z:List (mf×Addr)}{ps:List mf}(e:ps=qs.map (·.1))(W:∀p∈ps,QU p)(T:(z.map λx=>PR x.1).Pairwise (·<·))(J:∀x,x∈z.map (·.1)↔x∈ps):z.map (·.1)=Ao ps:=by
 obtain⟨I,S⟩:=Py W;refine Wb ?_ I λx=>by rw[J,S]
 rw[OV,bE];exact T
def bU{l:Addr}{z:List (mf×Addr)}{ps:List mf}{Q:VK}(L:G.K=X.K)(o:OW G A σ H ρ)(S:ab H H2)(I:AtP X (cc A H2) z)(Y:H2 l=W1)(O:z.map (·.1)=Ao ps)(k:∀v H',ab H H'->il G (cc A H') v (.tup ((Ao ps).map prT))->Q v H'):(∃p ys,[V.ref l]=[.ref p]/\((MO X.K (fk H2 l (.lst (ST z))) p ys/\∀m,fk H2 l (.lst (ST z)) m=W1->Q (.ref m) (fk (fk H2 l (.lst (ST z))) m (.tup ys)))∨(MZ X.K (fk H2 l (.lst (ST z))) p ys/\Q (.ref p) (fk H2 l (.lst (ST z)))))):=by
 refine⟨l,ST z,rfl,.inl ⟨.of Ah,λm J=>k _ _ ?_ ?_⟩⟩
 .exact (S.trans (Aj Y _)).trans (Aj J _)
 .have W:ab H (fk H2 l (.lst (ST z))):=S.trans (Aj Y _);refine GQ (o.mono W).live J ?_;rw[<-O];exact sZ L (Mh (Az (Aj Y _)) I)
theorem yF{z:Str}{p q r J I:Pos}(hu:X.A.units+64<bo)(hc:X.calm=E2)(hG:G.K=X.K)(hg:Gl X z)(hm:X.mg z=W1)(hv:dL z=X0 (.type "tuple"))(S2:Gl X x)(Y1:X.mg x=W1)(P1:dL x=X0 (.builtin "sorted"))(Q2:Gl X y)(X1:X.mg y=W1)(N1:dL y=X0 (.type "set"))(ha:PU X G a fa)(hn:z≠"__name__":=by decide)(T2:(z==("__debug__":Str))=E3:=by decide)(U1:x≠"__name__":=by decide)(O0:.(8)=E3:=by decide)(S1:y≠"__name__":=by decide)(N0:(y==("__debug__":Str))=E3:=by decide)(he:ay [a] X.env=[(E3,eval a X.env)]:=by rfl)(Z:ay [.Call (.Name y q) [a] [] J] X.env=[(E3,eval (.Call (.Name y q) [a] [] J) X.env)]:=by rfl)(Y:ay [.Call (.Name x p) [.Call (.Name y q) [a] [] J] [] I] X.env=[(E3,eval (.Call (.Name x p) [.Call (.Name y q) [a] [] J] [] I) X.env)]:=by rfl):
  PF X G (.Call (.Name z r) [.Call (.Name x p) [.Call (.Name y q) [a] [] J] [] I] [] pos) (uF tssD fa):=λA=>CZ (HH Nb hg hm hv (Bt (Oz (Px hc) S2 Y1 P1 (Bt (HH (fC hu hc) Q2 X1 N1 (Bt (@ha A) De he) S1 N0 he rfl) De Z) U1 O0 Z rfl) De Y) hn T2 Y rfl)<|by
 rintro σ H Q ⟨ρ,d,o,e,k⟩
 obtain⟨dx,e1,e2⟩:=Kp e;refine⟨ρ,dx,o,e1,λv W s1 r1=>?_⟩;have T:∀(ds:List D) (L:Addr) (O:List V),tssL ds=X0 d->v=.ref L->(MO G.K W L O∨MZ G.K W L O)->be G (cc A W) O ds->vR X [v] W λx2 H2=>Tv X [x2] H2 λx3 H3=>(∃p ys,[x3]=[.ref p]/\((MO X.K H3 p ys/\∀l,H3 l=W1->Q (.ref l) (fk H3 l (.tup ys)))∨(MZ X.K H3 p ys/\Q (.ref p) H3))):=λds L O e3 ev hs rr=>by
  unfold tssL at e3;obtain⟨ps,ez,e4⟩:=zi.mp e3;split at e4
  .rename_i hz;cases e4;obtain⟨i5,bs,rfl,pr⟩:=Rv rr ez;rw[hG] at pr;obtain⟨qs,eb,eq,at0⟩:=So pr i5;have er:bs.map V.ref=ST qs:=by rw[eb,bE];rfl
   have S0:AtP X W qs:=Mh Am at0;refine⟨L,qs,by rw[ev],by rw[<-hG,<-er];exact hs,S0,by rw[eq,av] at hz;exact hz,λl rs hl nd sub all=>⟨l,rs,rfl,.inl Ah,Mh (Aj hl _) λx S=>S0 x (sub x S),nd,λm ts hm U T0=>?_⟩⟩;have s2:ab H (fk W l (Xy X.w l rs)):=s1.trans (Aj hl _);refine bU (ps:=ps) hG o s2 (λx S=>Mh (Az (Aj hl _)) at0 x (sub x (U.mem_iff.mp S))) hm (Vc eq i5 T0 λx=>?_) k;constructor
   .intro S;obtain⟨y,hy,rfl⟩:=aT.mp S;rw[eq];exact aT.mpr ⟨y,sub y (U.mem_iff.mp hy),rfl⟩
   .intro S;rw[eq] at S;obtain⟨y,hy,rfl⟩:=aT.mp S;obtain⟨z,hz,ez⟩:=aT.mp (all y hy);exact aT.mpr ⟨z,U.mem_iff.mpr hz,ez⟩
  .cases e4
 unfold tssD at e2;split at e2
 .obtain⟨L,O,ev,hs,r⟩:=r1.lst;exact T _ L O e2 ev (.inl hs) r
 .obtain⟨L,O,ev,hs,r⟩:=r1.tup;exact T _ L O e2 ev (.inr hs) r
 .cases e2
def yG{z:Str}{p r I:Pos}(hc:X.calm=E2)(hG:G.K=X.K)(hg:Gl X z)(hm:X.mg z=W1)(hv:dL z=X0 (.type "tuple"))(N1:Gl X x)(T0:X.mg x=W1)(O0:dL x=X0 (.builtin "sorted"))(ha:PU X G a fa)(hn:z≠"__name__":=by decide)(P1:(z==("__debug__":Str))=E3:=by decide)(S0:x≠"__name__":=by decide)(T:.(8)=E3:=by decide)(he:ay [a] X.env=[(E3,eval a X.env)]:=by rfl)(S:ay [.Call (.Name x p) [a] [] I] X.env=[(E3,eval (.Call (.Name x p) [a] [] I) X.env)]:=by rfl):
  PF X G (.Call (.Name z r) [.Call (.Name x p) [a] [] I] [] pos) (uF tslD fa):=λA=>CZ (HH Nb hg hm hv (Bt (Oz (Px hc) N1 T0 O0 (Bt (@ha A) De he) S0 T he rfl) De S) hn P1 S rfl)<|by
 rintro σ H Q ⟨ρ,d,o,e,k⟩
 obtain⟨dx,e1,Y⟩:=Kp e;refine⟨ρ,dx,o,e1,λv H1 s1 r1=>?_⟩;have O:∀(ds:List D) (L:Addr) (J:List V),tslL ds=X0 d->v=.ref L->(MO G.K H1 L J∨MZ G.K H1 L J)->be G (cc A H1) J ds->Tv X [v] H1 λx3 Z=>(∃p ys,[x3]=[.ref p]/\((MO X.K Z p ys/\∀l,Z l=W1->Q (.ref l) (fk Z l (.tup ys)))∨(MZ X.K Z p ys/\Q (.ref p) Z))):=λds L J e3 W hs rr=>by
  unfold tslL at e3;obtain⟨ps,ez,e4⟩:=zi.mp e3;split at e4
  .rename_i hz;cases e4;obtain⟨i5,bs,rfl,pr⟩:=Rv rr ez;rw[hG] at pr;obtain⟨qs,eb,eq,at0⟩:=So pr i5;have er:bs.map V.ref=ST qs:=by rw[eb,bE];rfl
   have S1:AtP X H1 qs:=Mh Am at0;have lz:qs.length<=17:=by have:=hz.1;rw[eq,av] at this;exact this
   refine⟨L,qs,by rw[W],.inr ⟨by rw[<-hG,<-er];exact hs,by omega⟩,S1,by rw[<-eq];exact hz.2,λm ts hm U N0=>?_⟩;refine bU (ps:=ps) hG o s1 (λx hx=>at0 x (U.mem_iff.mp hx)) hm (Vc eq i5 N0 λx=>?_) k;rw[eq];exact (U.map (·.1)).mem_iff
  .cases e4
 unfold tslD at Y;split at Y
 .obtain⟨L,J,W,hs,r⟩:=r1.lst;exact O _ L J Y W (.inl hs) r
 .obtain⟨L,J,W,hs,r⟩:=r1.tup;exact O _ L J Y W (.inr hs) r
 .cases Y
end
open PyProof.Rows hiding St
def Xt(val:Nat->Int):Nat->Int
 |0=>val 0
 |k+1=>if val (k+1)<Xt val k then val (k+1) else Xt val k
def X5(x y:D):Option D:=match x with
 |.lst ds=>(J8 ds).map λL=>if L=[] then y else .int (Xt (λi=>L.getD i 0) (L.length-1))
 |_=>W1
section
variable {A:aE}{R:nL->ah->Prop}{I:Addr}{wr:List Addr}{P:Nat->ac->Prop}{Sx:Nat->Heap->Prop}
def Wc:(toString "min"++toString ".loop":String)="min.loop":=by decide
def su(W:ki prog w A.in1 I fp wr n P Sx)(bt:Nat->Nat->Bool)(T0:CmpOf prog w A.in1 .Lt P bt)(S:Addr)(nS:S∉fp):
  ∀(k j:Nat) (s:ah) (O:ac) (c:Nat),k=n-(j+1)->j+1<=n->Sx (j+1) s.heap->P (fq bt j) O->s.heap.get? S=X0 { cls:=.type "list",dict:=W1,data:=.seq #[O,O] c,slots:=#[] } ->
  (∀v h' tk,P (fq bt (n-1)) v->(∀b o,b∉wr->b≠S->s.heap.get? b=X0 o->h'.get? b=X0 o)->R (.ok (.ret v)) { s with heap:=h',toks:=tk })->gg (ai prog w) A (.builtin "min.loop" ⟨[.ref I,.none,.ref S],kw⟩) R s:=by
 have nW:S∉wr:=λh=>nS (W.sub _ h);intro k
 induction k with
 |zero=>
  intro j s O c hk hj Z hb hS hR;have en:j+1=n:=by omega
  refine hJ FK (by
   rw[kX sK _];show ag _ A.in1 (qh (.ref S) >>= _) _ _ s;refine ae (kN hS rfl ?_);show ag _ A.in1 (tryCatch (eK (.ref I)) _ >>= _) _ _ s;refine ae (n9 (W.done s _ _ (by rw[<-en];exact Z) λh1 tk kp=>?_));have L:=kp S _ nW hS;show ag _ A.in1 (ub S (λ_=>#[]) >>= _) _ _ _;refine ae (om L rfl (ae (oy (ar ?_))));exact hR O _ tk (by rw[<-en];exact hb) λb o U J e=>(gE _ _ (cf J)).trans (kp b o U e))
 |succ k ih=>
  intro j s O c hk hj Z hb hS hR;have N0:j+1<n:=by omega
  refine hJ FK (by
   rw[kX sK _];show ag _ A.in1 (qh (.ref S) >>= _) _ _ s;refine ae (kN hS rfl ?_);show ag _ A.in1 (tryCatch (eK (.ref I)) _ >>= _) _ _ s;refine ae (n9 (W.item (j+1) s _ _ N0 Z λv h1 tk hP S0 kp=>?_));have L:=kp S _ nW hS;show ag _ A.in1 (tryCatch (lS [v,v] (richCompare .Lt v O >>= _)) _ >>= _) _ _ _;refine ae (n9 (wpAny_holding (ae (T0 (j+1) (fq bt j) v O _ _ _ hP hb ?_))));refine ae (wpAny_holding (kq (ae (oy (ar ?_)))));cases q:bt (j+1) (fq bt j) with
   |true=>
    simp only[MH];refine ae (om L rfl (ae (oy ?_)));rw[Wc];refine ar ⟨ko sK _,ih (j+1) _ v _ .(0) N0 (W.frame _ _ _ S0 λb N1 o e=>(gE _ _ (λz:S=b=>nS (by rw[z];exact N1))).trans e) (by simp only[fq,q,MH];exact hP) (kG _ L rfl)
     λv2 h2 T O0 Y=>hR v2 h2 T O0 λb o U J e=>Y b o U J ((gE _ _ (cf J)).trans (kp b o U e))⟩
   |false=>
    simp only[dE,NH];refine ae (oy ?_);rw[Wc];exact ar ⟨ko sK _,ih (j+1) _ O c .(0) N0 S0 (by simp only[fq,q,dE,NH];exact hb) L λv2 h2 T O0 Y=>hR v2 h2 T O0 λb o U J e=>Y b o U J (kp b o U e)⟩)
def mR(W:ki prog w A.in1 I fp wr n P Sx)(bt:Nat->Nat->Bool)(O:CmpOf prog w A.in1 .Lt P bt)(S:Addr)(nS:S∉fp){s:ah}{c:Nat}{nm:Str}{dv:ac}(L:Sx 0 s.heap)(hS:s.heap.get? S=X0 { cls:=.type "list",dict:=W1,data:=.seq #[] c,slots:=#[] })(hR:0<n->∀v h' tk,P (fq bt (n-1)) v->(∀b o,b∉wr->b≠S->s.heap.get? b=X0 o->h'.get? b=X0 o)->R (.ok (.ret v)) { s with heap:=h',toks:=tk })(h0:n=0->∀h' tk,(∀b o,b∉wr->s.heap.get? b=X0 o->h'.get? b=X0 o)->R (.ok (.ret dv)) { s with heap:=h',toks:=tk }):
  gg (ai prog w) A (.builtin "min.loop" ⟨[.ref I,.none,.ref S],[(nm,dv)]⟩) R s:=by
 have nW:S∉wr:=λh=>nS (W.sub _ h);refine hJ FK (by
  rw[kX sK _];show ag _ A.in1 (qh (.ref S) >>= _) _ _ s;refine ae (kN hS rfl ?_);show ag _ A.in1 (tryCatch (eK (.ref I)) _ >>= _) _ _ s
  by_cases hn:0<n
  .refine ae (n9 (W.item 0 s _ _ hn L λv h1 tk hP Z U=>?_));have T:=U S _ nW hS;show ag _ A.in1 (ub S (λ_=>#[v,v]) >>= _) _ _ _;refine ae (om T rfl ?_);rw[Wc];exact ar ⟨ko sK _,su W bt O S nS _ 0 _ v _ rfl hn (W.frame _ _ _ Z λb O0 o e=>(gE _ _ (λz:S=b=>nS (by rw[z];exact O0))).trans e) hP (kG _ T rfl)
    λv2 h2 Y S0 N0=>hR hn v2 h2 Y S0 λb o nb J e=>N0 b o nb J ((gE _ _ (cf J)).trans (U b o nb e))⟩
  .have en:n=0:=by omega
   refine ae (n9 (W.done s _ _ (by rw[en];exact L) λh1 tk U=>?_));exact ae (rc (ar (h0 en h1 tk U))))
end
section
variable {A:aE}{l:Addr}{xs:Array (Int×Tok)}
def fD(a v:ac):qk "min" ⟨[a],[(dA "default",v)]⟩:=by unfold qk;kernel_rfl
theorem fG{Q:ac->ah->Prop}{L:ac}(Y:A.handled=W1)(hl:s.heap.IsList l (d6 xs))(h1:0<xs.size->∀v h' tk,(d6 xs)[fq (λi j=>decide (gu xs i<gu xs j)) (xs.size-1)]?=X0 v->.(7)->Q v { s with heap:=h',toks:=tk })(h0:xs.size=0->∀h' tk,.(7)->Q L { s with heap:=h',toks:=tk }):
  ag (ai prog w) A (call (.builtin "min") [.ref l] [(dA "default",L)]) Q E s:=by
 refine IZ PySem.F.kind_min PySem.F.plain_min PySem.F.entry_min (fD _ _) ?_;show ag _ A.in1 (AZ "min" ["key","default"] 0 ⟨[],[(dA "default",L)]⟩ >>= _) _ _ s;refine ae (ya (show AZ "min" ["key","default"] 0 ⟨[],[(dA "default",L)]⟩=pure [W1,X0 L] from rfl) (ae (ar ?_)));refine ae (iter_intList hl λs2 e st T J=>?_);subst e;refine ae (kB ?_);have nS:(s.heap.push { cls:=.type "list_iterator",data:=.fields #[.ref l,.int 0 0] }).objs.size∉[s.heap.objs.size,l]:=λI=>gT _ (T _ I);have W:ki prog w A.in1.in1 s.heap.objs.size [s.heap.objs.size,l] [s.heap.objs.size] (d6 xs).size (λi v=>(d6 xs)[i]?=X0 v) (λi h=>h.IsListIter s.heap.objs.size l i/\h.IsList l (d6 xs)):=so (A:=A.in1.in1) Y _ l J (d6 xs);have Z:ki prog w A.in1 s.heap.objs.size [s.heap.objs.size,l] [s.heap.objs.size] (d6 xs).size (λi v=>(d6 xs)[i]?=X0 v) (λi h=>h.IsListIter s.heap.objs.size l i/\h.IsList l (d6 xs)):=so (A:=A.in1) Y _ l J (d6 xs);have sz:(d6 xs).size=xs.size:=by simp[d6]
 have U:∀b o,s.heap.get? b=X0 o->((s.heap.push { cls:=.type "list_iterator",data:=.fields #[.ref l,.int 0 0] }).push { cls:=.type "list",data:=.seq ([]:List ac).toArray }).get? b=X0 o:=λb o e=>ba _ (ba _ e);rw[Wc];refine ar ⟨ko sK _,mR Z (λi j=>decide (gu xs i<gu xs j)) (CmpOf.ints_lt (gu xs) (λ_ _=>B0)) _ nS (Z.frame 0 _ _ st λb hb o e=>ba _ e) (bS _ rfl) (λS v h' tk hP O=>?_) (λS h' tk O=>?_)⟩
 .refine h1 (by rw[<-sz];exact S) v h' tk (by rw[sz] at hP;exact hP) λb o e=>O b o ?_ ?_ (U b o e)
  .intro I;exact MG (bn e) (by rw[ii.mp I];exact gT _)
  .intro z;have q:b<s.heap.objs.size:=bn e;rw[iE] at z;exact MG (z▸q) (kD.mpr (kz _))
 .refine h0 (by rw[<-sz];exact S) h' tk λb o e=>O b o ?_ (U b o e);intro I;exact MG (bn e) (by rw[ii.mp I];exact gT _)
end
theorem X6(val:Nat->Int):∀k,val (fq (λi j=>decide (val i<val j)) k)=Xt val k
 |0=>rfl
 |k+1=>by
  have z:=X6 val k;unfold fq Xt
  by_cases h:val (k+1)<Xt val k
  .rw[SF (by rw[z];exact OG h),SF h]
  .rw[UF (by rw[z];simpa using h),UF h];exact z
theorem Vd{f g:Nat->Int}:∀{k:Nat},(∀i,i<=k->f i=g i)->Xt f k=Xt g k
 |0,h=>h 0 (aw _)
 |k+1,h=>by
  unfold Xt;rw[h (k+1) (aw _),Vd λi z=>h i (y0 z)]
def AAg(K:aI):V->V->Hp->VK->Prop:=λx y H Q=>∃p L,x=.ref p/\MO K H p (L.map V.int)/\Q (if L=[] then y else .int (Xt (λi=>L.getD i 0) (L.length-1))) H
section
variable {a b:Expr}{fa fb:FE}{p kpos:Pos}
def tB(hc:X.calm=E2){Y:zP}{s:ah}{W:St}{H:Hp}{x y:V}{v u:ac}{Q:VK}(I:Inv X Y W H s)(rx:dm x v)(ry:dm y u)(h:AAg X.K x y H Q):
  ag .(3) X.A (call (.builtin "min") [v] [(dA "default",u)]) (EP X Y W Q) X.xe s:=by
 obtain⟨q,S,rfl,hs,k⟩:=h;cases rx;obtain⟨N0,rv,pl,hz⟩:=I.list hs;obtain⟨J,e1,L,e3⟩:=XX rv;have hl:s.heap.IsList q (d6 J):=by rw[<-e1];exact pl.isList
 refine fG (I.ok.hd hc) hl (λU w h' tk hP T=>?_) (λU h' tk T=>?_)
 .have O:S≠[]:=λz=>by rw[z] at L;exact MG U (by rw[L];exact gT _)
  rw[UF O] at k;obtain⟨t,rfl⟩:=B0 hP;refine⟨.int _,H,I.kept T,⟨t,?_⟩,k⟩;have O0:=OJ (λi j=>decide (gu J i<gu J j)) (J.size-1);have q:=X6 (gu J) (J.size-1);rw[q,L];congr 1;have Z:0<S.length:=Jn.mpr O;exact Vd λi hi=>e3 i .(0)
 .have O:S=[]:=by
   rw[U] at L;exact ol.mp L.symm
  rw[SF O] at k;exact⟨y,H,I.kept T,ry,k⟩
def tD(hc:X.calm=E2)(hG:G.K=X.K)(hg:Gl X x)(hm:X.mg x=W1)(hv:dL x=X0 (.builtin "min"))(ha:PU X G a fa)(hb:PF X G b fb)(hn:x≠"__name__":=by decide)(N0:.(8)=E3:=by decide)(he:ay [a] X.env=[(E3,eval a X.env)]:=by rfl)(hk:i9 [⟨X0 (dA "default"),b,kpos⟩] X.env=[(X0 (dA "default"),eval b X.env)]:=by rfl):
  PF X G (.Call (.Name x p) [a] [⟨X0 (dA "default"),b,kpos⟩] pos) (bF X5 fa fb):=λA π s σ H Q I h=>by
 obtain⟨ρ,d,o,e,k⟩:=h;obtain⟨dx,dy,e1,e2,z⟩:=O8 e;refine tz (N5 I hg hm hv ?_ hn N0);have hA:=Bt (X:=X) (@ha A) De he pos π s σ H (λT L=>∃v,T=[v]/\ab H L/\mr G A L v dx) I ⟨ρ,dx,o,e1,λv L U r1=>⟨v,rfl,U,r1⟩⟩;refine callWith_kw (mo hA λus U q0=>?_) (by rw[he];rfl) (by rw[he];rfl) (by rw[hk];rfl) (by rw[hk];rfl);obtain⟨T,L,I1,rv,v,ev,S,r1⟩:=q0;subst ev;have hK:=Z4 (X:=X) (nm:=X0 (dA "default")) (kpos:=kpos) (@hb A) gr pos π U σ L (λT J=>∃v,T=[v]/\ab L J/\il G (cc A J) v dy) I1 ⟨ρ,dy,o.mono S,e2,λv J s2 Z=>⟨v,rfl,s2,Z⟩⟩;refine mo hK λks s2 q9=>?_;obtain⟨ws,J,I2,W,y,ey,O,Z⟩:=q9;subst ey;obtain⟨u,rfl,ru⟩:=OI rv;obtain⟨u2,rfl,Y⟩:=OI W;rw[hk];have s0:=S.trans O;unfold X5 at z;cases dx with
 |lst ds=>
  simp only at z;cases ei:J8 ds with
  |none=>simp[ei] at z
  |some ns=>
   simp only[ei,gi] at z;obtain⟨q,xs,rfl,h1,rr⟩:=(r1.mono O).lst;have ex:=SH rr ei;subst ex;refine tB hc I2 ru Y ⟨q,ns,rfl,by rw[<-hG];exact h1,?_⟩
   by_cases nn:ns=[]
   .rw[SF nn] at z ⊢;cases z;exact k _ J s0 Z
   .rw[UF nn] at z ⊢;cases z;exact k _ J s0 (.int _)
 |_=>cases z
end
def vV(K:aI):R2:=λx y H Q=>∃a b xs z,x=.ref a/\y=.ref b/\MZ K H a xs/\MZ K H b z/\z≠[]/\xs.length+z.length<=sizeLine ∧
 (xs=[]->Q (.ref b) H)/\∀p,H p=W1->Q (.ref p) (fk H p (.tup (xs++z)))
def catU:D->D->Option D
 |.tup ds,.tup es=>if es≠[]/\ds.length+es.length<=1000 then X0 (.tup (ds++es)) else W1
 |_,_=>W1
section
theorem tG:Na X (kx .Add) (vV X.K):=by
 intro π s σ H x y v u Q I rx ry h;obtain⟨a,b,xs,ys,rfl,rfl,ha,hb,hy,hz,q1,q2⟩:=h;cases rx;cases ry;obtain⟨L,Y,p1,_⟩:=I.tuple ha;obtain⟨J,W,p2,_⟩:=I.tuple hb
 by_cases Z:L=[]
 .obtain⟨⟨cls,dd,S0,sl⟩,ho,hc,n,hd⟩:=id p1;obtain⟨⟨T0,N0,O0,U⟩,O,T,n2,S⟩:=id p2;simp only at hc hd T S;subst hc hd T S;exact AG ⟨_,ho,rfl⟩ ⟨_,O,rfl⟩ DA DB DC DD (DE _ _)
   (tuple_addW0 a b L.toArray J.toArray n n2 dd N0 sl U (by simp[Z])) ⟨ho,O,⟨.ref b,H,I,rfl,q1 (Y.nil_iff.mp Z)⟩⟩
 .refine HT.qK p1 p2 Z (λz=>MG (W.nil_iff.mp z) hy) (λz=>?_) (by rw[<-Y.length,<-W.length];exact hz);refine⟨.ref s.heap.objs.size,_,I.laid (t':=s.toks) (o:=.tup (xs++ys)) (λb ob q=>ba _ q) (aw _) ?_,rfl,q2 _ (I.hok.fresh (aw _))⟩;exact⟨by rw[fh];exact hz,_,Y.append W,DL _ _⟩
def mU:Eg G (vV G.K) catU:=by
 intro A H x y dx dy d Q U rx I h k;unfold catU at h;split at h
 .rename_i ds es;split at h
  .rename_i W;cases h;obtain⟨l,T,rfl,Z,J⟩:=rx.tup;obtain⟨m,S,rfl,Y,L⟩:=I.tup;refine⟨l,m,T,S,rfl,rfl,Z,Y,λz=>W.1 ?_,by rw[J.1,L.1,iA];omega,λz=>?_,λp O=>k _ _ (Aj O _) (GQ U O (J.append L))⟩
   .rw[z] at L;exact ol.mp L.1.symm
   .have:ds=[]:=by
     rw[z] at J;exact ol.mp J.1.symm
    rw[this,ip] at k
    rcases I with I | ⟨a,e,I⟩
    .exact k _ H (ab.refl H) I
    .exact I.elim
  .cases h
 .cases h
end
abbrev Mu:=List (Addr×D)
def pq(μ:Mu):List Addr:=μ.map (·.1)
abbrev KM:=Pw->Mu->Prop
abbrev FM:=Rho->Mu->KM->Prop
structure MQ (G:Gx) (A0:List Addr) (He Hb:Hp) (A:List Addr) (σ:St) (H:Hp) (ρ:Rho) (μ:Mu):Prop where
 w:NM G (pq μ++A0) Hb A σ H ρ
 sb:ab He Hb
 l0:∀a∈A0,He a≠W1
 nf:∀a∈pq μ,He a=W1
 nd:(pq μ).Nodup
 top:∀p∈μ,MS G A H p.1 p.2
def WV(G:Gx)(A0:List Addr)(I:Hp)(z:St)(H:Hp)(ρ:Rho)(μ:Mu):Prop:=∃A J,MQ G A0 I J A z H ρ μ
def MS.keep{O:List Addr}(t:MS G A H a d)(e:H' a=H a)(s:ab (cc A H) (cc O H')):MS G O H' a d:=by
 cases d with
 |lst I=>obtain⟨z,L,J⟩:=t;exact⟨z,by rw[e];exact L,J.mono s⟩
 |dk I=>obtain⟨z,L,J,Y⟩:=t;exact⟨z,by rw[e];exact L,J,Y.mono s⟩
 |dt I=>obtain⟨z,L,J,Y⟩:=t;exact⟨z,by rw[e];exact L,J,Y.mono s⟩
 |ob c S=>obtain⟨C,dx,z,L,J,Y⟩:=t;exact⟨C,dx,z,by rw[e];exact L,J,Y.mono s⟩
 |_=>exact t.elim
def J0{μ:Mu}{p:Addr×D}(h:p∈μ):p.1∈pq μ:=aT.mpr ⟨p,h,rfl⟩
def vW{μ:Mu}(h:a∈pq μ):∃d,(a,d)∈μ:=by
 obtain⟨p,I,z⟩:=aT.mp h;exact⟨p.2,by rw[<-z];exact I⟩
def Pf{μ:Mu}(h:μ.lookup a=X0 d):(a,d)∈μ:=by
 induction μ with
 |nil=>cases h
 |cons p r z=>
  rw[ca] at h;cases q:(a==p.1) with
  |true=>
   rw[q] at h;cases h;rw[eq_of_beq q];exact df
  |false=>
   rw[q] at h;exact cp _ (z h)
def RU(a:Addr)(c:D)(μ:Mu):Mu:=μ.map λp=>if p.1=a then (a,c) else p
def Zc(a:Addr)(c:D)(μ:Mu):pq (RU a c μ)=pq μ:=by
 unfold pq RU;rw[bE];refine ij λp _=>?_;show (if p.1=a then (a,c) else p).1=p.1;split
 .rename_i h;exact h.symm
 .rfl
section
variable {Hb:Hp}
theorem MQ.mono(o:MQ G A0 He Hb A σ H ρ μ)(s:ab H H'):MQ G A0 He Hb A σ H' ρ μ:=
 ⟨o.w.mono s,o.sb,o.l0,o.nf,o.nd,λp h=>(o.top p h).mono s⟩
theorem MQ.set{v:V}{d:D}(o:MQ G A0 He Hb A σ H ρ μ)(r:il G (cc A H) v d)(i:Nat):MQ G A0 He Hb A (σ.set i (X0 v)) H (ρ.set i (.fz d)) μ:=
 ⟨o.w.set r i,o.sb,o.l0,o.nf,o.nd,o.top⟩
theorem MQ.inA(o:MQ G A0 He Hb A σ H ρ μ){a:Addr}(h:a∈pq μ):a∈A:=o.w.sub a (jp _ h)
def MQ.n0(o:MQ G A0 He Hb A σ H ρ μ){a:Addr}(h:a∈pq μ):a∉A0:=λz=>o.l0 a z (o.nf a h)
theorem MQ.same(o:MQ G A0 He Hb A σ H ρ μ):ab He H:=o.sb.trans o.w.same
theorem MQ.fr(o:MQ G A0 He Hb A σ H ρ μ){a:Addr}(h:a∈A):a∈A0∨He a=W1:=by
 rcases o.w.fr a h with z | z
 .rcases eJ.mp z with z | z
  .exact .inr (o.nf a z)
  .exact .inl z
 .exact .inr (o.sb.free z)
theorem MQ.lift(o:MQ G A0 He Hb A σ H ρ μ):∃Hf,NM G (pq μ++A0) Hf A σ H ρ/\∀O I H' J,NM G (pq μ++A0) Hf O I H' J->MQ G A0 He Hf O I H' J μ:=by
 obtain⟨T,W⟩:=o.w.here;refine⟨_,W,λO I H' J L=>⟨L,o.sb.trans T,o.l0,o.nf,o.nd,λp S=>?_⟩⟩;have t:=o.top p S;refine t.keep ?_ (NM.plain o.w.sub L);cases e:H p.1 with
 |none=>exact MG e t.live.ne
 |some u=>
  refine L.same p.1 u ?_;rw[BK (λz=>by
   have:=(fw.mp z).2;exact (WG this) (jp _ (J0 S)))]
  exact e
theorem MQ.new{c:D}(o:MQ G A0 He Hb A σ H ρ μ)(s:ab H H')(L:H p=W1)(t:MS G (p::A) H' p c):WV G A0 He σ H' ρ ((p,c)::μ)/\p∉pq μ/\MQ G A0 He (λb=>if b=p then H' b else Hb b) (p::A) σ H' ρ ((p,c)::μ):=by
 have I:p∉A:=λz=>(o.w.ok.live p z).ne L;have O:p∉pq μ:=λz=>I (o.inA z);have m:MQ G A0 He (λb=>if b=p then H' b else Hb b) (p::A) σ H' ρ ((p,c)::μ):=by
  refine⟨⟨λb u h=>?_,λa J=>?_,λa J=>?_,λa J=>?_,o.w.ok.fill s L t.live,λi d a U T=>?_,o.w.lt⟩,λb u h=>?_,o.l0,λa J=>?_,?_,λq Y=>?_⟩
  .by_cases q:b=p
   .simp only[q,MH] at h ⊢;exact h
   .simp only[q,NH] at h;exact s b u (o.w.same b u h)
  .rcases bp.mp J with z | z
   .rw[z];exact df
   .exact cp _ (o.w.sub a z)
  .rcases bp.mp J with z | z
   .rw[z];exact .inl df
   .rcases o.w.fr a z with q | q
    .exact .inl (cp _ q)
    .right;have:a≠p:=λe=>I (e▸z);simp only[this,NH];exact q
  .rcases bp.mp J with z | z
   .have W:a=p:=z;simp only[W,MH];exact t.live.ne
   .have:a≠p:=λe=>I (e▸o.w.sub a z);simp only[this,NH];exact o.w.l0 a z
  .intro z
   rcases bp.mp z with z | z
   .obtain⟨q,q1,q2,_⟩:=o.w.ok.ow i d U;rw[T] at q1;cases q1;exact I ((show a=p from z)▸q2)
   .exact o.w.ow0 i d a U T z
  .have S:=o.sb b u h;have:b≠p:=λe=>by
    rw[e] at S;rw[o.w.same p u S] at L;cases L
   simp only[this,NH];exact S
  .rcases bp.mp J with z | z
   .rw[z];exact o.same.free L
   .exact o.nf a z
  .exact iF.mpr ⟨O,o.nd⟩
  .rcases bp.mp Y with z | z
   .rw[z];exact t
   .exact (o.top q z).fill s L
 exact⟨⟨_,_,m⟩,O,m⟩
theorem MQ.wr{c:D}(o:MQ G A0 He Hb A σ H ρ μ)(T:q∈pq μ)(sx:Nh q H H')(t:MS G A H' q c):MQ G A0 He (λb=>if b=q then H' b else Hb b) A σ H' ρ (RU q c μ):=by
 have W:=o.inA T;have S:=Ir W sx;have I:∀(i:Nat) (d:D) (a:Addr),ρ[i]?=X0 (.ow d)->σ[i]?=X0 (X0 (.ref a))->a≠q:=λi d a h1 h2 z=>o.w.ow0 i d a h1 h2 (z▸jp _ T);have J:NM G (pq μ++A0) (λb=>if b=q then H' b else Hb b) A σ H' ρ:=by
  refine⟨λb u h=>?_,o.w.sub,λa L=>?_,λa L=>?_,⟨o.w.ok.len,λb Z=>?_,λj e h=>?_,λj e h=>?_,o.w.ok.inj⟩,o.w.ow0,o.w.lt⟩
  .by_cases z:b=q
   .simp only[z,MH] at h ⊢;exact h
   .simp only[z,NH] at h;exact sx b u z (o.w.same b u h)
  .by_cases z:a=q
   .exact .inl (z▸jp _ T)
   .rcases o.w.fr a L with y | y
    .exact .inl y
    .right;simp only[z,NH];exact y
  .by_cases z:a=q
   .simp only[z,MH];exact t.live.ne
   .simp only[z,NH];exact o.w.l0 a L
  .by_cases z:b=q
   .rw[z];exact t.live
   .exact (o.w.ok.live b Z).mono λu e=>sx b u z e
  .obtain⟨v,q1,q2⟩:=o.w.ok.fz j e h;exact⟨v,q1,q2.mono S⟩
  .obtain⟨a,q1,q2,q3⟩:=o.w.ok.ow j e h;exact⟨a,q1,q2,q3.other (I j e a h q1) W sx⟩
 refine⟨by rw[Zc];exact J,λb u h=>?_,o.l0,by rw[Zc];exact o.nf,by rw[Zc];exact o.nd,λp Y=>?_⟩
 .have:b≠q:=λe=>by
   rw[e,o.nf q T] at h;cases h
  simp only[this,NH];exact o.sb b u h
 .obtain⟨U,h0,O⟩:=aT.mp Y;split at O
  .rw[<-O];exact t
  .rename_i z;rw[<-O];exact (o.top U h0).other z W sx
theorem MQ.at(o:MQ G A0 He Hb A σ H ρ μ){i:Nat}{a:Addr}(h:ρ[i]?=X0 (.fz (.adr a))):σ[i]?=X0 (X0 (.ref a)):=by
 obtain⟨v,q1,q2⟩:=o.w.ok.fz i _ h;cases q2;exact q1
end
def K3(μ:Mu):List Nat->List Addr->Rho->Option Rho
 |[],_,ρ=>X0 ρ
 |j::I,z,ρ=>match ρ[j]? with
  |some (.fz (.adr a))=>if a∈z then W1 else (μ.lookup a).bind λc=>K3 μ I (a::z) (ρ.set j (.ow c))
  |_=>W1
theorem Ve{G:Gx}{A:List Addr}{T:St}{H:Hp}{μ:Mu}(inA:∀p∈μ,p.1∈A)(top:∀p∈μ,MS G A H p.1 p.2):∀(Y:List Nat) (seen:List Addr) (ρ I:Rho),OW G A T H ρ->(∀(i:Nat) (d:D) (a:Addr),ρ[i]?=X0 (.ow d)->T[i]?=X0 (X0 (.ref a))->a∉pq μ∨a∈seen)->K3 μ Y seen ρ=X0 I->OW G A T H I
 |[],_,ρ,I,o,_,e=>by cases e;exact o
 |j::Y,seen,ρ,I,o,hs,e=>by
  unfold K3 at e;split at e
  .rename_i a ej;split at e
   .cases e
   .rename_i na;cases el:μ.lookup a with
    |none=>rw[el] at e;cases e
    |some c=>
     rw[el] at e;have hm:=Pf el;obtain⟨v,q1,q2⟩:=o.fz j _ ej;cases q2;have ne:∀(i:Nat) (d:D) (b:Addr),ρ[i]?=X0 (.ow d)->T[i]?=X0 (X0 (.ref b))->b≠a:=λi d b S J z=>by
      rcases hs i d b S J with y | y
      .exact y (z▸J0 hm)
      .exact na (z▸y)
     refine Ve inA top Y (a::seen) _ I ⟨by rw[sj];exact o.len,o.live,λi d h=>?_,λi d h=>?_,λi k d f b S J W U=>?_⟩ (λi d b S J=>?_) e
     .rcases Bu h with ⟨_,O,_⟩ | ⟨_,O⟩
      .cases O
      .exact o.fz i d O
     .rcases Bu h with ⟨hj,O,_⟩ | ⟨_,O⟩
      .cases O;subst hj;exact⟨a,q1,inA _ hm,top _ hm⟩
      .exact o.ow i d O
     .rcases Bu S with ⟨L,_,_⟩ | ⟨L,Z⟩<;>rcases Bu J with ⟨hk,_,_⟩ | ⟨hk,z2⟩
      .rw[L,hk]
      .subst L;rw[q1] at W;cases W;exact MG rfl (ne k f _ z2 U)
      .subst hk;rw[q1] at U;cases U;exact MG rfl (ne i d _ Z W)
      .exact o.inj i k d f b Z z2 W U
     .rcases Bu S with ⟨L,_,_⟩ | ⟨L,Z⟩
      .subst L;rw[q1] at J;cases J;exact .inr df
      .exact (hs i d b Z J).imp id λy=>cp _ y
  .cases e
theorem MQ.view{O:Hp}{μ:Mu}(o:MQ G A0 He O A σ H ρ μ){I:List Nat}{ρ':Rho}(e:K3 μ I [] ρ=X0 ρ'):OW G A σ H ρ':=
 Ve (λp h=>o.inA (J0 h)) o.top I [] ρ ρ' o.w.ok (λi d a L J=>.inl λz=>o.w.ow0 i d a L J (jp _ z)) e
abbrev FXM:=Rho->Mu->(D->Mu->Prop)->Prop
def puM(g:FS):FM:=λρ μ K=>∃o,g ρ=X0 o/\K o μ
def thM(L:FM)(K:KM):KM:=λo μ=>match o with | .nx ρ=>L ρ μ K | o=>K o μ
def PY(g L:FM):FM:=λρ μ K=>g ρ μ (thM L K)
def nxM:FM:=λρ μ K=>K (.nx ρ) μ
def vwM{α:Type}(I:List Nat)(f:Rho->Option α)(ρ:Rho)(μ:Mu):Option α:=(K3 μ I [] ρ).bind f
def ifM(I:List Nat)(t:FT)(g L:FM):FM:=λρ μ K=>match vwM I t ρ μ with | some E2=>g ρ μ K | some E3=>L ρ μ K | none=>False
def bdM(O:FM)(K:KM):KM:=λo μ=>match o with | .nx ρ=>O ρ μ K | .ct ρ=>O ρ μ K | .bk ρ=>K (.nx ρ) μ | .rt e ρ=>K (.rt e ρ) μ
def Ni(tg:FG)(b:FM):List D->FM
 |[],ρ,μ,K=>K (.nx ρ) μ
 |d::r,ρ,μ,K=>∃O,tg d ρ=X0 O/\b O μ (bdM (Ni tg b r) K)
def forM(src:FI)(tg:FG)(b:FM):FM:=λρ μ K=>∃ds,src ρ=X0 ds/\Ni tg b ds ρ μ K
def newX(f:FE):FXM:=λρ μ K=>∃c,f ρ=X0 c/\∀p,p∉pq μ->K (.adr p) ((p,c)::μ)
abbrev GM:=List D->Mu->(D->Mu->Prop)->Prop
def calX(g:GM)(fs:FA):FXM:=λρ μ K=>∃ds,fs ρ=X0 ds/\g ds μ K
def mV(i:Nat)(h:FXM):FM:=λρ μ K=>h ρ μ λd z=>K (.nx (ρ.set i (.fz d))) z
def Vf(h:FXM):FM:=λρ μ K=>h ρ μ λ_ z=>K (.nx ρ) z
def X7(i:Nat)(J:FE)(h:FXM):FM:=λρ μ K=>h ρ μ λv I=>∃y x z,J ρ=X0 y/\ρ[i]?=X0 (.ow x)/\DG x y v=X0 z/\K (.nx (ρ.set i (.ow z))) I
def XY(i:Nat)(I:List Nat)(g:D->List D->Option (D×D))(fs:FA):FXM:=λρ μ K=>∃ds a c v z,vwM I fs ρ μ=X0 ds/\ρ[i]?=X0 (.fz (.adr a))/\μ.lookup a=X0 c/\g c ds=X0 (v,z)/\K v (RU a z μ)
def Nn:Nat->Mu->D->D
 |0,_,d=>d
 |n+1,μ,.adr a=>match μ.lookup a with | some c=>Nn n μ c | none=>.adr a
 |n+1,μ,.lst ds=>.lst (ds.map (Nn n μ))
 |n+1,μ,.tup ds=>.tup (ds.map (Nn n μ))
 |n+1,μ,.dk z=>.dk (z.map λp=>(p.1,Nn n μ p.2))
 |_+1,_,d=>d
def Ta(n:Nat)(μ:Mu):Slot->Slot
 |.fz d=>.fz (Nn n μ d)
 |z=>z
def frzM(n:Nat)(g:FM):FM:=λρ μ K=>g (ρ.map (Ta n μ)) [] K
def finM(K:D->Mu->Prop):KM:=λo μ=>match o with | .rt d _=>K d μ | .nx _=>K .non μ | _=>False
def VT(n z:Nat)(b:FM):GM:=λds μ K=>ds.length=z/\b (Cu n ds) μ (finM K)
def Qw(G:Gx)(A0:List Addr)(I:Hp)(D:QY):Pw->Mu->Prop
 |.nx ρ,μ=>∀z H,WV G A0 I z H ρ μ->D.nx z H
 |.rt d ρ,μ=>∀v z H A J,MQ G A0 I J A z H ρ μ->il G (cc A H) v d->D.rt v H
 |.bk ρ,μ=>∀z H,WV G A0 I z H ρ μ->D.bk z H
 |.ct ρ,μ=>∀z H,WV G A0 I z H ρ μ->D.ct z H
def tM(G:Gx)(A0:List Addr)(I:Hp)(g:FM):TS:=λD J H=>∃ρ μ K,WV G A0 I J H ρ μ/\g ρ μ K/\∀o z,K o z->Qw G A0 I D o z
def PSM(X:Cx)(G:Gx)(st:Stmt)(g:FM):Prop:=∀⦃A0⦄ He,PS X st (tM G A0 He g)
def SO(X:Cx)(G:Gx)(st:List Stmt)(g:FM):Prop:=∀⦃A0⦄ He,SV X st (tM G A0 He g)
def tMX(G:Gx)(A0:List Addr)(L:Hp)(h:FXM):TE:=λJ H Q=>∃ρ μ K,WV G A0 L J H ρ μ/\h ρ μ K/\∀v I d z A O,K d z->MQ G A0 L O A J I ρ z->il G (cc A I) v d->Q v I
def PMX(X:Cx)(G:Gx)(e:Expr)(h:FXM):Prop:=∀⦃A0⦄ He,PE X e (tMX G A0 He h)
section
variable {Hb:Hp}
theorem MQ.base(o:MQ G A0 Hf Hb A σ H ρ μ)(s:ab He Hf)(z:∀a∈A0,He a≠W1):MQ G A0 He Hb A σ H ρ μ:=
 ⟨o.w,s.trans o.sb,z,λa h=>s.free (o.nf a h),o.nd,o.top⟩
theorem MQ.here(o:MQ G A0 He Hb A σ H ρ μ):ab He (cc (A.filter λa=>decide (a∉A0)) H)/\∃Hc,MQ G A0 (cc (A.filter λa=>decide (a∉A0)) H) Hc A σ H ρ μ:=by
 have J:∀b,b∈(A.filter λa=>decide (a∉A0))↔b∈A/\b∉A0:=λb=>by simp[fw]
 have L:ab He (cc (A.filter λa=>decide (a∉A0)) H):=λb u h=>by
  rw[BK]
  .exact o.same b u h
  .intro z;obtain⟨Z,Y⟩:=(J b).mp z
   rcases o.fr Z with q | q
   .exact Y q
   .rw[q] at h;cases h
 obtain⟨T,W⟩:=o.w.here;refine⟨L,_,W,λb u h=>?_,λa I h=>?_,λa I=>?_,o.nd,o.top⟩
 .unfold cc at h ⊢;split at h
  .cases h
  .rename_i O;rw[UF]
   .exact h
   .intro z;have S:=fw.mp z;refine O ((J b).mpr ⟨S.1,λy=>?_⟩);exact (WG S.2) (fR _ y)
 .rw[BK (λz=>((J a).mp z).2 I)] at h;exact (o.w.ok.live a (o.w.sub a (fR _ I))).ne h
 .unfold cc;rw[SF ((J a).mpr ⟨o.inA I,o.n0 I⟩)]
def MQ.plain(sub:∀a∈A0,a∈B)(o:MQ G A0 (cc (B.filter λa=>decide (a∉A0)) H1) Hb A σ H ρ μ):ab (cc B H1) (cc A H):=λb u h=>by
 unfold cc at h;split at h
 .cases h
 .rename_i I;have e:cc (B.filter λa=>decide (a∉A0)) H1 b=X0 u:=by
   rw[BK (λz=>I (fw.mp z).1)];exact h
  rw[BK]
  .exact o.same b u e
  .intro z
   rcases o.fr z with q | q
   .exact I (sub b q)
   .rw[q] at e;cases e
theorem Qw.base{O:Hp}{D:QY}{o:Pw}(k:Qw G A0 He D o μ)(s:ab He O)(I:∀a∈A0,He a≠W1):Qw G A0 O D o μ:=by
 cases o with
 |nx L=>rintro z H ⟨A,J,w⟩;exact k z H ⟨A,J,w.base s I⟩
 |rt d L=>exact λv z H A J w r=>k v z H A J (w.base s I) r
 |bk L=>rintro z H ⟨A,J,w⟩;exact k z H ⟨A,J,w.base s I⟩
 |ct L=>rintro z H ⟨A,J,w⟩;exact k z H ⟨A,J,w.base s I⟩
theorem MQ.subA0(o:MQ G A0 He Hb A σ H ρ μ):∀a∈A0,a∈A:=λa h=>o.w.sub a (fR _ h)
theorem MQ.ends{D:QY}(O:∀S I H' J,NM G (pq μ++A0) Hf S I H' J->MQ G A0 He Hf S I H' J μ){o:Pw}(k:Qw G A0 He D o μ):TF G (pq μ++A0) Hf D o:=by
 cases o with
 |nx L=>rintro z H ⟨A,w⟩;exact k z H ⟨A,Hf,O _ _ _ _ w⟩
 |rt d L=>exact λv z H A w r=>k v z H A Hf (O _ _ _ _ w) r
 |bk L=>rintro z H ⟨A,w⟩;exact k z H ⟨A,Hf,O _ _ _ _ w⟩
 |ct L=>rintro z H ⟨A,w⟩;exact k z H ⟨A,Hf,O _ _ _ _ w⟩
theorem MQ.wrO{J:D}{u:HO}(o:MQ G A0 He Hb A σ H ρ μ)(I:ρ[i]?=X0 (.ow J))(hs:σ[i]?=X0 (X0 (.ref p)))(t:MS G A (fk H p u) p d):MQ G A0 He Hb A σ (fk H p u) (ρ.set i (.ow d)) μ:=by
 have n:=o.w.ow0 i J p I hs;obtain⟨q,q1,q2,_⟩:=o.w.ok.ow i J I;rw[hs] at q1;cases q1;exact⟨o.w.wr I hs t,o.sb,o.l0,o.nf,o.nd,λc L=>(o.top c L).other (λz:c.1=p=>n (by rw[<-z];exact jp _ (J0 L))) q2 (λb x O S=>by rw[Al O];exact S)⟩
end
section
variable {a b c:Expr}{fa:FE}{hQ:List Stmt}{gp:FS}{g gs gb:FM}{h:FXM}
def tH:SO X G [] nxM:=by rintro T S J s z H D I ⟨L,O,K,ok,e,k⟩;exact Kh J s z H D I (k _ _ e z H ok)
theorem Dz(h1:PSM X G st g)(h2:SO X G hQ gs):SO X G (st::hQ) (PY g gs):=by
 rintro S O Y s U H D I ⟨W,Z,K,ok,e,k⟩
 refine Ow (@h1 S O) (@h2 S O) Y s U H D I ⟨W,Z,_,ok,e,λo J q=>?_⟩;cases o with
 |nx z=>exact λT H' L=>⟨z,J,K,L,q,k⟩
 |rt d z=>exact k _ _ q
 |bk z=>exact k _ _ q
 |ct z=>exact k _ _ q
def Jo(h1:PSM X G st g):SO X G [st] g:=λO z=>Vp (@h1 O z)
def Fj(h:Sl X G st gp):PSM X G st (puM gp):=by
 rintro U W L s z H D I ⟨J,O,K,⟨A,Z,w⟩,⟨o,e,q⟩,k⟩
 obtain⟨T,Y,S⟩:=w.lift;exact @h (pq O++U) T L s z H D I ⟨J,o,⟨A,Y⟩,e,MQ.ends S (k _ _ q)⟩
def T3{J:Type}{I:List Nat}{f:Rho->Option J}{μ:Mu}{d:J}(e:vwM I f ρ μ=X0 d):∃z,K3 μ I [] ρ=X0 z/\f z=X0 d:=by
 unfold vwM at e;cases L:K3 μ I [] ρ with
 |none=>rw[L] at e;cases e
 |some z=>rw[L] at e;exact⟨z,rfl,e⟩
def mW{U:List Stmt}(js:List Nat)(ht:RS X G c ga)(h1:SO X G s1 g)(h2:SO X G U gs):PSM X G (.If c s1 U pos) (ifM js ga g gs):=by
 rintro Z W π s σ H D I ⟨S,T,K,⟨A,Y,w⟩,e,k⟩
 refine gJ (@ht A) (@h1 Z W) (@h2 Z W) π s σ H D I ?_;unfold ifM at e;split at e
 .rename_i O;obtain⟨z,L,J⟩:=T3 O;exact⟨z,_,w.view L,J,λH1 s1=>Ya ⟨S,T,K,⟨A,Y,w.mono s1⟩,e,k⟩⟩
 .rename_i O;obtain⟨z,L,J⟩:=T3 O;exact⟨z,_,w.view L,J,λH1 s1=>VY ⟨S,T,K,⟨A,Y,w.mono s1⟩,e,k⟩⟩
 .exact e.elim
theorem bV{it:Expr}(hp:tf .(3) X.A X.env X.xe)(hc:X.calm=E2)(hi:OQ X G E3 tg it src)(hg:PGD X G tg fg)(hb:SO X G body gb)(hs:∀x,kR it X.env x=pure x:=by intro _;rfl):PSM X G (.For tg it body [] pos) (forM src fg gb):=by
 rintro O He π s Y H D I ⟨ρ,μ,K,⟨A,Hb,w⟩,⟨L,e1,e⟩,k⟩
 have X1:SV X body (λD Y H=>∃O He,tM G O He gb D Y H):=(by rintro π s Y H D I ⟨O,He,q⟩;exact @hb O He π s Y H D I q);have U1:PG X tg (λv Y H Q=>∃O He,tGD G O He fg v Y H Q):=(by rintro π s Y H v u Q I r ⟨O,He,q⟩;exact @hg O He π s Y H v u Q I r q);refine Yr hp hc (@hi A) U1 X1 hs π s Y H D I ⟨ρ,L,w.w.ok,e1,λJ H1 s1 sr=>?_⟩;obtain⟨T0,Hc,w2⟩:=(w.mono s1).here;have k2:∀o μ',K o μ'->Qw G O _ D o μ':=λo μ' q=>(k o μ' q).base T0 w.l0;generalize Y1:cc (A.filter λa=>decide (a∉O)) H1=Hf at T0 w2 k2;refine⟨λi m z W=>m=L.length-i/\i<=L.length/\∃S μ',WV G O Hf z W S μ'/\Ni fg gb (L.drop i) S μ' K,⟨L.length,by simp,eW _,ρ,μ,⟨A,Hc,w2⟩,by simpa using e⟩,?_⟩;rintro i m N1 H3 ⟨rfl,S2,P1,S0,⟨B,Hd,w3⟩,e3⟩;have pl:ab (cc A H1) (cc B H3):=by rw[<-Y1] at w3;exact MQ.plain w.subA0 w3
 by_cases Z:i<L.length
 .right;have hd:L[i]?=X0 L[i]:=by simp[Z]
  have ed:L.drop i=L[i]::L.drop (i+1):=ua Z;rw[ed] at e3;obtain⟨N0,e4,e5⟩:=e3;refine⟨sr.go i H3 (pl.trans Am) Z,λz W=>∃S μ',WV G O Hf z W S μ'/\Ni fg gb (L.drop (i+1)) S μ' K,λz W q=>⟨L.length-(i+1),by omega,rfl,Z,q⟩,λx W y=>?_⟩;obtain⟨sy,rx⟩:=sr.yld i H3 x W _ (pl.trans Am) hd y;obtain⟨Hg,w4,up⟩:=(w3.mono sy).lift;refine⟨pq S0++O,Hg,B,P1,L[i],N0,w4,rx B w3.w.ok.live pl,e4,λQ2 H5 ⟨A5,S1⟩=>⟨O,Hf,N0,S0,_,⟨A5,Hg,up _ _ _ _ S1⟩,e5,λo5 O0 q5=>?_⟩⟩;cases o5 with
  |nx T=>exact λz W U=>⟨T,O0,U,q5⟩
  |ct T=>exact λz W U=>⟨T,O0,U,q5⟩
  |bk T=>exact λz W U=>k2 _ _ q5 z W U
  |rt d5 T=>exact k2 _ _ q5
 .left;have ei:i=L.length:=by omega
  subst ei;rw[AY] at e3;exact⟨sr.stop _ H3 (pl.trans Am) (aw _),k2 _ _ e3 N1 H3 ⟨B,Hd,w3⟩⟩
def bW(ha:PN X G a fa):PMX X G a (newX fa):=λA0 Y L s z H Q I ⟨J,W,K,⟨A,Z,w⟩,⟨c,e,q⟩,k⟩=>
 @ha A L s z H Q I ⟨J,c,w.w.ok,e,λp U O T t=>by
  obtain⟨_,S,m⟩:=w.new O T t;exact k _ U _ _ _ _ (q p S) m (.adr p)⟩
def mX{p:Pos}(T:∀te,PE X a te->PS X (.Assign [.Name x p] a pos) (TZ te (Ff i)))(ha:PMX X G a h):PSM X G (.Assign [.Name x p] a pos) (mV i h):=λY U L s z H D I ⟨J,S,K,ok,e,k⟩=>
 T _ (@ha Y U) L s z H D I ⟨J,S,_,ok,e,λv Z d O A W q w r=>k _ _ q _ _ ⟨A,W,w.set r i⟩⟩
def T4(ha:PMX X G a h)(hs:eR a W1 pos.line X.env=pure E3:=by rfl):PSM X G (.Expr a pos) (Vf h):=λW T L s z H D I ⟨J,S,K,ok,e,k⟩=>
 Rh (@ha W T) hs L s z H D I ⟨J,S,_,ok,e,λv Y d O A U q w r=>k _ _ q _ _ ⟨A,U,w⟩⟩
def mY{x y v z:D}{O L:V}(t:MS G A H p x)(hA:p∈A)(I:DG x y v=X0 z)(W:il G (cc A H) L y)(Y:il G (cc A H) O v):∃u,SS H p L O (fk H p u)/\MS G A (fk H p u) p z:=by
 unfold DG at I;split at I
 .rename_i Z;cases U:Pl y with
  |none=>simp[U] at I
  |some q=>
   simp only[U,eB] at I;split at I
   .rename_i hz;cases I;obtain⟨J,h2,T,r⟩:=t;have ek:=KH W U;subst ek;have hl:J.length<sizeLine:=by
     have:=SG cy T;rw[av,av] at this;omega
    have S:=Ro (k:=q) Y T r;refine⟨_,SS.k h2 hl,_,Ah,S.1,?_⟩;rw[Bh hA];exact S.2
   .cases I
 .cases I
def X8(hu:X.A.units+1<bo)(hv:PE X .(13) (OL i))(ha:PF X G a fa)(hb:PMX X G b h)(hs:eR b (X0 (.Subscript .(13) a spos)) pos.line X.env=pure E3:=by rfl):PSM X G (.Assign [.Subscript .(13) a spos] b pos) (X7 i fa h):=by
 rintro A0 He L s J H D I ⟨T,Z,K,ok,e,k⟩
 have O:PE X a (λJ H Q=>∃A,tF G A fa J H Q):=(by rintro L s J H Q I ⟨A,q⟩;exact @ha A L s J H Q I q);refine Rj hu hv O (@hb A0 He) hs L s J H D I ⟨T,Z,_,ok,e,λv H' d Y A Hb q0 w r=>?_⟩;obtain⟨y,x0,z,e2,U,e3,q⟩:=q0;obtain⟨p,W,hA,t⟩:=w.w.ok.ow i _ U;refine⟨_,W,A,T,y,w.w.ok,e2,λyv H2 S r2=>?_⟩;have w2:=w.mono S;obtain⟨u,q1,q2⟩:=mY (t.mono S) hA e3 r2 (r.mono (Az S));exact⟨p,_,rfl,q1,k _ _ q _ _ ⟨A,Hb,w2.wrO U W q2⟩⟩
def SndM(G:Gx)(r:V->List V->Hp->VK->Prop)(g:D->List D->Option (D×D)):Prop:=∀(A:List Addr) (H:Hp) (l:Addr) (vs:List V) (c:D) (ds:List D) (v I:D) (Q:VK),(∀a∈A,Nt (H a))->l∈A->MS G A H l c->be G (cc A H) vs ds->g c ds=X0 (v,I)->(∀O z,Nh l H z->MS G A z l I->il G (cc A z) O v->Q O z)->r (.ref l) vs H Q
def bY{name:Str}{T id:String}{r:V->List V->Hp->VK->Prop}{gm:D->List D->Option (D×D)}{es:List Expr}{fs:FA}(js:List Nat)(pa:PlainAttrs T)(S:F4 T name id)(W:typeOf (.builtin id)=pure (.type "method_descriptor"))(hm:MtM X id r)(sn:SndM G r gm)(tv:∀(A:List Addr) (H:Hp) (l:Addr) (c:D) (ds:List D) (vc:D×D),gm c ds=X0 vc->MS G A H l c->tyV X.K T (.ref l) H)(hv:PE X .(13) (OL i))(ha:SR X G (e::es) fs)(L:ff .(13) name X.env (eval .(13) X.env)=eval .(13) X.env:=by rfl)(O:((dn pos (ay (e::es) X.env)).all (λx=>!x.1)&&(jS pos (i9 [] X.env)).all (λx=>x.1.isSome)&&decide ((e::es).length+([]:List ib).length+(if ([]:List ib).isEmpty then 0 else 1)<30))=E2:=by rfl)(J:(apos.endLine==pos.line)=E2:=by rfl)(hs:ay (e::es) X.env=(E3,eval e X.env)::ay es X.env:=by rfl)(Z:(dn pos (ay es X.env)).any (·.1)=E3:=by rfl):
  PMX X G (.Call (.Attribute .(13) name apos) (e::es) [] pos) (XY i js gm fs):=by
 rintro A0 He π s σ H Q I ⟨ρ,μ,K,⟨A,Hb,w⟩,⟨ds,l,c,v,c',e1,hi,hl,e2,q⟩,k⟩
 obtain⟨U,e3,e4⟩:=T3 e1;have z:=Pf hl;refine Z6 pa S W hm hv (@ha A) L O J hs Z π s σ H Q I ⟨_,w.at hi,tv _ _ _ _ _ _ e2 (w.top _ z),U,ds,w.view e3,e4,λvs H1 s1 r1=>?_⟩;have Y:=w.mono s1;exact sn A H1 l vs c ds v c' Q Y.w.ok.live (w.inA (J0 z)) (Y.top _ z) r1 e2 λvv H' sx t rv=>k vv H' v _ A _ q (Y.wr (J0 z) sx t) rv
end
def spM(G:Gx)(g:GM):Sp:=λvs H Q _=>∃A ds μ K,(∀a∈A,Nt (H a))/\(pq μ).Nodup/\(∀p∈μ,p.1∈A/\MS G A H p.1 p.2)/\be G (cc A H) vs ds/\g ds μ K ∧
 ∀v I J z d,K d z->(∀b u,b∉pq μ->H b=X0 u->I b=X0 u)->(∀a∈A,a∉pq μ->a∈J)->(∀a∈J,Nt (I a))->(pq z).Nodup->(∀p∈z,p.1∈J/\MS G J I p.1 p.2)->(∀a∈pq z,a∈pq μ∨H a=W1)->il G (cc J I) v d->Q v I
def fH{vs:List V}{μ:Mu}(live:∀a∈A,Nt (H a))(U:(pq μ).Nodup)(Y:∀p∈μ,p.1∈A/\MS G A H p.1 p.2)(r:be G (cc A H) vs ds)(Z:vs.length<=N.length):MQ G (A.filter λa=>decide (a∉pq μ)) (cc (pq μ) H) H A (start N vs) H (Cu N.length ds) μ:=by
 have inA:∀a∈pq μ,a∈A:=λa h=>by obtain⟨d,hd⟩:=vW h;exact (Y _ hd).1
 have S:∀a,a∈(A.filter λa=>decide (a∉pq μ))↔a∈A/\a∉pq μ:=λa=>by simp[fw]
 obtain⟨A1,w⟩:=PB (N:=N) live r Z;have J:∀a,a∈pq μ++(A.filter λa=>decide (a∉pq μ))↔a∈A:=λa=>by
  rw[eJ,S];constructor
  .rintro (h | h)
   .exact inA a h
   .exact h.1
  .intro h
   by_cases z:a∈pq μ
   .exact .inl z
   .exact .inr ⟨h,z⟩
 have L:∀(i:Nat) (d:D),(Cu N.length ds)[i]?≠X0 (.ow d):=λi d h=>by
  unfold Cu at h
  by_cases T:i<ds.length
  .rw[m4 (by simpa using T),br] at h;cases e:ds[i]? with
   |none=>rw[e] at h;cases h
   |some d=>rw[e] at h;cases h
  .rw[kS (by simpa using kD.mp T),AF] at h;split at h<;>cases h
 have O:OW G A (start N vs) H (Cu N.length ds):=by
  refine⟨w.ok.len,live,λi d h=>?_,λi d h=>MG h (L i d),λi j d e a h _ _ _=>MG h (L i d)⟩;obtain⟨v,q1,q2⟩:=w.ok.fz i d h;exact⟨v,q1,q2.mono (Ed w.sub)⟩
 refine⟨⟨ab.refl H,λa I=>(J a).mp I,λa I=>.inl ((J a).mpr I),λa I=>(live a ((J a).mp I)).ne,O,λi d a h _=>MG h (L i d),λx d _ h=>MG h (L 0 d)⟩,Am,λa I=>?_,λa I=>?_,U,λp W=>(Y p W).2⟩
 .rw[BK ((S a).mp I).2];exact (live a ((S a).mp I).1).ne
 .unfold cc;rw[SF I]
def fn_M{base:Heap}{f:Addr}{k:Nat}{b:FM}(F:FunD G.K x qual st f fd)(S:bc N ps (Ab st))(hl:ps.length<=N.length)(hb:∀(cdv:ac) (A:aE) (J:List Env) (s:ah) (H:Hp) (E:XK),Room k (A.deeper (gy qual (Ab st) s.heap.objs.size f cdv))->SO (Po CX0 P w G.K mg base N qual (Ab st) f cdv A J s H E).nox G (Bf st) b):
  kr P w G.K mg base CX0 (k+1) f fd ps (spM G (VT N.length ps.length b)):=by
 obtain⟨oc,od,dV,kV,S0,pm,an,cdv,ct,O0,rfl,lk,N0⟩:=F.ex;refine gw lk N0 S (λvs H Q E h=>?_) (λA J s H vs Q E hr h=>?_)
 .obtain⟨A,ds,O,K,lv,nd,ct,r,e,_⟩:=h;rw[r.1];exact e.1
 .obtain⟨A1,ds,O,K,lv,nd,ct,r,e,k⟩:=h;have hzz:=hb cdv A J s H E hr;have rz:∀(U:St) (H':Hp) (W:List Addr) (T:Hp) (L:Rho) (I:Mu) (v:V) (d:D),MQ G (A1.filter λa=>decide (a∉pq O)) (cc (pq O) H) T W U H' L I->il G (cc W H') v d->K d I->Q v H':=λU H' W T L I v d w rv kd=>by
   refine k v H' W I d kd (λb u nb hb=>w.same b u (by rw[BK nb];exact hb)) (λa ha na=>w.subA0 a (by simp[fw,ha,na])) w.w.ok.live w.nd (λp hp=>⟨w.inA (J0 hp),w.top p hp⟩) (λa ha=>?_) rv;have:=w.nf a ha
   by_cases z:a∈pq O
   .exact .inl z
   .rw[BK z] at this;exact .inr this
  refine⟨_,(@hzz (A1.filter λa=>decide (a∉pq O)) (cc (pq O) H)).nox,Cu N.length ds,O,_,⟨A1,H,fH lv nd ct r (by rw[r.1,e.1];exact hl)⟩,e.2,λo I q=>?_⟩;cases o with
  |nx L=>rintro Y H' ⟨A,T,w⟩;exact rz Y H' A T L I .non .non w .non q
  |rt d' Z=>exact λv Y H' A T w r'=>rz Y H' A T Z I v d' w r' q
  |bk L=>exact q.elim
  |ct L=>exact q.elim
def AAh{base:Heap}{f:Addr}{k:Nat}{b:FM}(F:FunD G.K x qual st f fd)(S:bc N ps (Ab st))(hl:ps.length<=N.length)(J:∀(cdv:ac) (A:aE) (I:List Env) (s:ah) (H:Hp) (E:XK),Room k (A.deeper (gy qual (Ab st) s.heap.objs.size f cdv))->SO (Po CX0 P w G.K mg base N qual (Ab st) f cdv A I s H E).nox G (Bf st) b)(hg:∀ds d,g ds=X0 d->VT N.length ps.length b ds [] λd' _=>d'=d):
  kr P w G.K mg base CX0 (k+1) f fd ps (MU G g):=
 (fn_M F S hl J).imp λvs H Q E ⟨A,ds,d,Z,r,e,q⟩=>⟨A,ds,[],_,Z,AO,λp hp=>(nomatch hp),r,hg ds d e,λv H' A' L d' e' O T Y W O0 N0 U=>by
  subst e';exact q v H' (λb u J=>O b u (λz=>nomatch z) J) (U.mono (Ed λa ha=>T a ha (λz=>nomatch z)))⟩
section
variable {a b c:Expr}{p:Pos}{es:List Expr}{fs:FA}{g:FM}
theorem yH{Hb:Hp}{μ:Mu}{vs:List V}{gm:GM}{K:D->Mu->Prop}{Q:VK}{E:XK}(Y:MQ G A0 He Hb A σ H1 ρ μ)(r1:be G (cc A H1) vs ds)(e2:gm ds μ K)(k:∀v H' d μ' A Hb,K d μ'->MQ G A0 He Hb A σ H' ρ μ'->il G (cc A H') v d->Q v H'):spM G gm vs H1 Q E:=by
 refine⟨A,ds,μ,K,Y.w.ok.live,Y.nd,λp hp=>⟨Y.inA (J0 hp),Y.top p hp⟩,r1,e2,λv H' A' μ' d kd sm sb lv nd ct fr rv=>?_⟩;have W:∀z,z∈(A.filter λa=>decide (a∉pq μ))++pq μ'↔(z∈A/\z∉pq μ)∨z∈pq μ':=λz=>by simp[fw]
 generalize O0:(A.filter λa=>decide (a∉pq μ))++pq μ'=A2 at W;have sub:∀z∈A2,z∈A':=λz O=>by
  rcases (W z).mp O with h | h
  .exact sb z h.1 h.2
  .obtain⟨d,hd⟩:=vW h;exact (ct _ hd).1
 have pl:ab (cc A H1) (cc A2 H'):=λb u I=>by
  unfold cc at I;split at I
  .cases I
  .rename_i Z;rw[BK]
   .exact sm b u (λz=>Z (Y.inA z)) I
   .intro z
    rcases (W b).mp z with h | h
    .exact Z h.1
    .rcases fr b h with y | y
     .exact Z (Y.inA y)
     .rw[y] at I;cases I
 have U:∀(i:Nat) (e:D) (q:Addr),ρ[i]?=X0 (.ow e)->σ[i]?=X0 (X0 (.ref q))->q∈A->q∉pq μ/\q∉pq μ'/\q∉A0:=λi e q T h2 h3=>by
  have n:=Y.w.ow0 i e q T h2;have n1:q∉pq μ:=λz=>n (jp _ z);refine⟨n1,λz=>?_,λz=>n (fR _ z)⟩
  rcases fr q z with y | y
  .exact n1 y
  .exact (Y.w.ok.live q h3).ne y
 have L:∀z,z∈A->z∉pq μ->H' z=H1 z:=λz O nz=>by
  cases e:H1 z with
  |none=>exact MG e (Y.w.ok.live z O).ne
  |some u=>exact sm z u nz e
 have N0:OW G A2 σ H' ρ:=by
  refine⟨Y.w.ok.len,λz O=>lv z (sub z O),λi e h=>?_,λi e h=>?_,Y.w.ok.inj⟩
  .obtain⟨v,q1,q2⟩:=Y.w.ok.fz i e h;exact⟨v,q1,q2.mono pl⟩
  .obtain⟨q,q1,q2,q3⟩:=Y.w.ok.ow i e h;have n:=U i e q h q1 q2;exact⟨q,q1,(W q).mpr (.inl ⟨q2,n.1⟩),q3.keep (L q q2 n.1) pl⟩
 have S:∀z,z∈(A2.filter λa=>decide (a∉pq μ'++A0))↔z∈A2/\z∉pq μ'++A0:=λz=>by simp[fw]
 have J:∀z∈pq μ'++A0,z∈A2:=λz O=>by
  rcases eJ.mp O with h | h
  .exact (W z).mpr (.inr h)
  .exact (W z).mpr (.inl ⟨Y.subA0 z h,λy=>Y.n0 y h⟩)
 refine k v H' d μ' A2 (cc (A2.filter λa=>decide (a∉pq μ'++A0)) H') kd ⟨⟨Am,J,λz O=>?_,λz O h=>?_,N0,λi e q T h2 z=>?_,Y.w.lt⟩,λb u I=>?_,Y.l0,λz O=>?_,nd,λq hq=>((ct q hq).2).sub sub⟩ (rv.mono (Ed sub))
 .by_cases y:z∈pq μ'++A0
  .exact .inl y
  .right;unfold cc;rw[SF ((S z).mpr ⟨O,y⟩)]
 .rw[BK (λy=>((S z).mp y).2 O)] at h;exact (lv z (sub z (J z O))).ne h
 .obtain⟨q',q1,q2,_⟩:=Y.w.ok.ow i e T;rw[h2] at q1;cases q1;have n:=U i e q T h2 q2
  rcases eJ.mp z with y | y
  .exact n.2.1 y
  .exact n.2.2 y
 .have T:=Y.same b u I;have Z:b∉pq μ:=λz=>by rw[Y.nf b z] at I;cases I
  rw[BK]
  .exact sm b u Z T
  .intro z;obtain⟨z1,z2⟩:=(S b).mp z
   rcases (W b).mp z1 with y | y
   .rcases Y.fr y.1 with x | x
    .exact z2 (fR _ x)
    .rw[x] at I;cases I
   .exact z2 (jp _ y)
 .rcases fr z O with y | y
  .exact Y.nf z y
  .exact Y.same.free y
def mZ{k:Nat}{f:Addr}{L:GM}(F:kr X.prog X.w X.K X.mg X.base CX0 k f fd ps (spM G L))(hr:Room k X.A)(hg:Gl X x)(hm:X.mg x=X0 (.ref f))(hk:jI X.K (.ref f)=E2)(hb:MV X.K fd ps [])(ha:SR X G (a::es) fs)(J:.(8)=E3:=by decide)(he:ay (a::es) X.env=(E3,eval a X.env)::ay es X.env:=by rfl)(z:(dn pos (ay es X.env)).any (·.1)=E3:=by rfl):
  PMX X G (.Call (.Name x p) (a::es) [] pos) (calX L fs):=by
 rintro A0 He T s O H Q I ⟨S,μ,K,⟨A,Hb,w⟩,⟨ds,e1,e2⟩,k⟩
 refine Z2 F hr hg hm hk hb .nil VB (@ha A) J he z T s O H Q I ⟨S,ds,w.w.ok,e1,λU H1 W Z=>?_⟩;have Y:=w.mono W;show spM G L (U++[]) H1 Q E0;rw[f6];exact yH Y Z e2 k
theorem Pz{F:Hp}{μ:Mu}(J:∀p∈μ,il G F (.ref p.1) p.2):∀(n:Nat) {v:V}{d:D},il G F v d->il G F v (Nn n μ d)
 |0,v,d,r=>r
 |n+1,v,d,r=>by
  have I:∀{O:List D}{i:Nat}{e:D},(O.map (Nn n μ))[i]?=X0 e->∃e0,O[i]?=X0 e0/\e=Nn n μ e0:=λ{O i e} h=>by
   rw[br] at h;cases q:O[i]? with
   |none=>rw[q] at h;cases h
   |some e0=>rw[q] at h;exact⟨e0,rfl,(cS h).symm⟩
  cases r with
  |non=>exact .non
  |bl b=>exact .bl b
  |int i=>exact .int i
  |str x=>exact .str x
  |tup h l k=>
   refine .tup h (by rw[av];exact l) λi x e L z=>?_;obtain⟨e0,q1,rfl⟩:=I z;exact Pz J n (k i x e0 L q1)
  |lst h l k=>
   refine .lst h (by rw[av];exact l) λi x e L z=>?_;obtain⟨e0,q1,rfl⟩:=I z;exact Pz J n (k i x e0 L q1)
  |dk h l k=>
   refine .dk h (by rw[bE];exact l) λi x e L z=>?_;rw[bE,br] at z;rename_i S;cases q:S[i]? with
   |none=>rw[q] at z;cases z
   |some e0=>
    rw[q] at z;cases z;exact Pz J n (k i x e0.2 L (by rw[br,q];rfl))
  |dt h l k=>exact .dt h l k
  |adr a=>
   show il G F _ (match μ.lookup a with | some c=>Nn n μ c | none=>.adr a);cases e:μ.lookup a with
   |none=>exact .adr a
   |some c=>exact Pz J n (J _ (Pf e))
  |ob c h l k=>exact .ob c h l k
  |err c h q f=>exact .err c h q f
  |mem h=>exact .mem h
theorem Vg{A:List Addr}{Z:zP}{s:ah}{Y:St}:∀{μ:Mu}{H:Hp},Inv X Z Y H s->(pq μ).Nodup->(∀p∈μ,p.1∈A/\MS G A H p.1 p.2) ->
  ∃H' T,Inv X Z Y H' s/\(∀b,b∉pq μ->H' b=H b)/\(∀b,b∈T↔b∈A/\b∉pq μ)/\ab (cc A H) (cc T H')/\∀p∈μ,il G (cc T H') (.ref p.1) p.2
 |[],H,I,_,_=>⟨H,A,I,λ_ _=>rfl,λb=>by simp[pq],ab.refl _,λp J=>(nomatch J)⟩
 | (a,d)::μ,H,I,nd,ct=>by
  obtain⟨na,S⟩:=iF.mp nd;obtain⟨H1,A1,i1,i2,i3,i4,i5⟩:=Vg (μ:=μ) I S λp J=>ct p (cp _ J);obtain⟨hA,t⟩:=ct (a,d) df;have ha:a∈A1:=(i3 a).mpr ⟨hA,na⟩;obtain⟨H2,j1,j2,j3,j4⟩:=ao i1 ha (t.keep (i2 a na) i4);refine⟨H2,A1.filter λb=>decide (b≠a),j1,λb hb=>?_,λb=>?_,i4.trans j3,λp J=>?_⟩
  .have U:b≠a/\b∉pq μ:=⟨λz=>hb (by rw[z];exact df),λz=>hb (cp _ z)⟩;rw[j2 b U.1,i2 b U.2]
  .rw[Pg,i3 b];show _↔b∈A/\b∉a::pq μ;simp only[bp,not_or];exact⟨(by rintro ⟨⟨O,L⟩,W⟩;exact ⟨O,W,L⟩),(by rintro ⟨O,W,L⟩;exact ⟨⟨O,L⟩,W⟩)⟩
  .rcases bp.mp J with z | z
   .rw[z];exact j4
   .exact (i5 p z).mono j3
def tK(n:Nat)(h:PSM X G st g):PSM X G st (frzM n g):=by
 rintro A0 He π s σ H Ds I ⟨T,μ,K,⟨A,Hb,w⟩,q,k⟩
 obtain⟨H',A',i1,i2,Z,i4,i5⟩:=Vg (A:=A) I w.nd λp hp=>⟨w.inA (J0 hp),w.top p hp⟩;have S:∀{i:Nat}{z:Slot},(T.map (Ta n μ))[i]?=X0 z->(∃d,T[i]?=X0 (.fz d)/\z=.fz (Nn n μ d))∨(T[i]?=X0 z/\∀d,z≠.fz d):=λ{i z} O=>by
  rw[br] at O;cases q:T[i]? with
  |none=>rw[q] at O;cases O
  |some y=>
   rw[q] at O;cases y with
   |fz d=>exact .inl ⟨d,rfl,(cS O).symm⟩
   |ow d=>cases O;exact .inr ⟨rfl,λd=>nofun⟩
   |un=>cases O;exact .inr ⟨rfl,λd=>nofun⟩
 have UU:∀{i:Nat}{d:D},(T.map (Ta n μ))[i]?=X0 (.ow d)->T[i]?=X0 (.ow d):=λ{i d} O=>by
  rcases S O with ⟨_,_,e⟩ | ⟨e,_⟩
  .cases e
  .exact e
 have L:∀a∈A0,a∈A':=λa J=>(Z a).mpr ⟨w.subA0 a J,λz=>w.n0 z J⟩;have lv:∀a∈A',Nt (H' a):=λa J=>by
  obtain⟨Y,W⟩:=(Z a).mp J;rw[i2 a W];exact w.w.ok.live a Y
 have N0:OW G A' σ H' (T.map (Ta n μ)):=by
  refine⟨by rw[av];exact w.w.ok.len,lv,λi d O=>?_,λi d O=>?_,λi j d e a Y W h3 h4=>w.w.ok.inj i j d e a (UU Y) (UU W) h3 h4⟩
  .rcases S O with ⟨d0,e0,e1⟩ | ⟨_,e⟩
   .cases e1;obtain⟨v,q1,q2⟩:=w.w.ok.fz i d0 e0;exact⟨v,q1,Pz i5 n (q2.mono i4)⟩
   .exact MG rfl (e d)
  .obtain⟨a,q1,q2,q3⟩:=w.w.ok.ow i d (UU O);have na:a∉pq μ:=λz=>w.w.ow0 i d a (UU O) q1 (jp _ z);exact⟨a,q1,(Z a).mpr ⟨q2,na⟩,q3.keep (i2 a na) i4⟩
 have hm:∀z,z∈(A'.filter λa=>decide (a∉A0))↔z∈A'/\z∉A0:=λz=>by simp[fw]
 refine @h A0 He π s σ H' Ds i1 ⟨_,[],K,⟨A',cc (A'.filter λa=>decide (a∉A0)) H',⟨Am,L,λa J=>?_,λa J O=>?_,N0,λi d a Y W z=>?_,λx d hx h0=>w.w.lt x d hx (UU h0)⟩,λb u U=>?_,w.l0,λa J=>(nomatch J),AO,λp hp=>(nomatch hp)⟩,q,k⟩
 .by_cases y:a∈A0
  .exact .inl y
  .right;unfold cc;rw[SF ((hm a).mpr ⟨J,y⟩)]
 .rw[BK (λy=>((hm a).mp y).2 J)] at O;exact (lv a (L a J)).ne O
 .exact w.w.ow0 i d a (UU Y) W (fR _ z)
 .have nb:b∉pq μ:=λz=>by rw[w.nf b z] at U;cases U
  rw[BK]
  .rw[i2 b nb];exact w.same b u U
  .intro z;obtain⟨z1,z2⟩:=(hm b).mp z
   rcases w.fr ((Z b).mp z1).1 with x | x
   .exact z2 x
   .rw[x] at U;cases U
end
def Itv(K:aI)(a:Addr)(n:Nat):It:=
 ⟨λi H=>(∃xs,MO K H a xs/\xs.length=n)/\i<n,λi H x z=>z=H/\∀xs,MO K H a xs->xs[n-1-i]?=X0 x,λi H=>n<=i⟩
theorem mj{K:aI}(a it:Addr)(n:Nat):To P w K tg (Itv K a n) [it] it (λi h=>i<=n/\h.IsRevIter it a ((n:Int)-1-(i:Nat))) where
 mem:=by simp
 obj:=λi h U b L=>by
  have e:b=it:=by simpa using L
  subst e;obtain⟨_,o,e,c,d⟩:=U;exact⟨o,e,λv z=>by rw[d] at z;cases z⟩
 keep:=λi h S U k=>⟨U.1,U.2.at λo e=>k it .(1) o e⟩
 item:=by
  intro X hP W Z hc i π s σ H E I O U Y;subst hP W Z;obtain⟨⟨T,hq,hn⟩,hi⟩:=Y;obtain⟨N0,rv,p,hz⟩:=I.list hq;have hx:T[n-1-i]?=X0 (T[n-1-i]'(by omega)):=by simp[show n-1-i<T.length by omega]
  obtain⟨u,hu,ru⟩:=rv.get hx;obtain⟨f0,f1,f2,f3,f4,f5⟩:=O it .(1);have e1:(n:Int)-1-(i:Nat)=((n-1-i:Nat):Int):=by omega
  have e2:((n-1-i:Nat):Int)-1=(n:Int)-1-((i+1:Nat):Int):=by omega
  replace U:=U.2;rw[e1] at U;refine wpAny_pyNext_rev_item U p.isList (x:=u) (by simpa using hu) λS J sb=>?_;rw[e2] at J;have I1:Inv X π σ H { s with heap:=S }:=I.turned (t':=s.toks) (λb o L e=>(sb.2 b L).trans e) f0 f1 f3 f4 f5;obtain⟨o,e,c,d⟩:=id J;exact⟨u,rfl,U4 (s:={ s with heap:=S }) e c d .(2) ⟨_,H,I1,ru,⟨rfl,λys hy=>by rw[I.list_inj hy hq];exact hx⟩,⟨hi,J⟩,λb L=>(O b L).1⟩⟩
 done:=by
  intro X hP W Z hc i π s σ H E I O U Y;subst hP W Z;obtain⟨f0,f1,f2,f3,f4,f5⟩:=O it .(1);have e1:(n:Int)-1-(i:Nat) = -1:=by have:n<=i:=Y;have:=U.1;omega
  replace U:=U.2;rw[e1] at U;exact wpAny_pyNext_rev_end (I.ok.hd hc) U λS eb=>⟨rfl,I.turned (t':=s.toks) (λb o L e=>eb b o L e) f0 f1 f3 f4 f5⟩
 self:=λ_ _ _ _ _ U h=>LH U.2 h
def Tb:dL "reversed"=X0 (.type "reversed"):=by decide +kernel
def SI:dL "enumerate"=X0 (.type "enumerate"):=by decide +kernel
section
variable {a:Expr}{fa:FE}{p:Pos}{ta:TA}
def iRev(K:aI)(J:TA):TI:=λI H R=>J I H λvs z=>∃a xs,vs=[.ref a]/\MO K z a xs/\R (Itv K a xs.length) z
theorem yI(hg:Gl X "reversed")(Z:X.mg "reversed"=W1)(ha:PA X [a] ta)(hs:ay [a] X.env=[(E3,eval a X.env)]:=by rfl):PI X tg (.Call (.Name "reversed" p) [a] [] pos) (iRev X.K ta):=by
 intro T s S H R I h;refine Call_ (N5 I hg Z Tb (AA (mo (ha pos T s S H _ I h) λus z q0=>?_) hs rfl));obtain⟨vs,H1,J,W,q1⟩:=q0;obtain⟨l,O,e,Y,q⟩:=q1;subst e;cases W with
 |cons r rr=>
  cases rr;cases r;obtain⟨L,U,p,hz⟩:=J.list Y;refine call_reversed_list p.isList ?_;have hl:=U.length;have e1:((L.toArray.size:Nat):Int)-1=(O.length:Int)-1-((0:Nat):Int):=by simp[hl]
  rw[e1];refine LH ⟨_,bS _ rfl,rfl,rfl⟩ ?_;refine⟨z.heap.objs.size,[z.heap.objs.size],_,_,H1,rfl,J.kept (t':=z.toks) λb o e=>ba _ e,mj l _ O.length,⟨eW _,_,bS _ rfl,rfl,rfl⟩,λb hb=>?_,q⟩;have e:b=z.heap.objs.size:=by simpa using hb
  subst e;exact J.fpOk (aw _) (J.hok.fresh (aw _))
def VU(f:FE):FI:=λρ=>match f ρ with | some (.lst ds)=>X0 ds.reverse | _=>W1
def tL{p:Addr}(h:MO G.K F1 p xs)(r:be G F2 xs ds):Src G (Itv G.K p xs.length) ds.reverse F1 F2 where
 go:=λi H s z=>⟨⟨xs,s.seq h,rfl⟩,by rw[FL,<-r.1] at z;exact z⟩
 yld:=λi H x J d s I y=>OD ⟨y.1,by
  have z:i<ds.length:=by have:=(dP.mp I).1;rwa [FL] at this
  rw[List.getElem?_reverse z,<-r.1] at I;exact r.2 _ x d (y.2 xs (s.seq h)) I⟩
 stop:=λi H s z=>by rw[FL,<-r.1] at z;exact z
def bZ(W:G.K=X.K)(U:Gl X "reversed")(O:X.mg "reversed"=W1)(h:PF X G a fa)(hs:ay [a] X.env=[(E3,eval a X.env)]:=by rfl):OQ X G E3 tg (.Call (.Name "reversed" p) [a] [] pos) (VU fa):=λA=>O_ (yI U O (Bt (@h A) De hs) hs)<|by
 rintro Z H R ⟨z,ds,o,e,k⟩
 unfold VU at e;split at e
 .rename_i T S;cases e;refine⟨z,_,o,S,λv Y J L=>?_⟩;cases L with
  |lst h l r=>
   rename_i b I;refine⟨b,I,rfl,by rw[<-W];exact Am.seq h,?_⟩;rw[<-W];exact k _ Y J (tL h ⟨l,r⟩)
 .cases e
def ZI:Nat->List D->List D
 |_,[]=>[]
 |n,d::r=>.tup [.int (n:Nat),d]::ZI (n+1) r
theorem Rz:∀(n:Nat) (ds:List D),(ZI n ds).length=ds.length
 |_,[]=>rfl
 |n,d::r=>by rw[ZI,d3,d3,Rz]
theorem bf:∀(n:Nat) (ds:List D) (i:Nat) (d:D),(ZI n ds)[i]?=X0 d->∃e,ds[i]?=X0 e/\d=.tup [.int ((n+i:Nat):Int),e]
 |_,[],i,d,h=>by simp[ZI] at h
 |n,x::r,0,d,h=>by simp[ZI] at h;exact⟨x,rfl,by rw[<-h];simp⟩
 |n,x::r,i+1,d,h=>by
  simp only[ZI,oC] at h ⊢;obtain⟨e,I,z⟩:=bf (n+1) r i d h;exact⟨e,I,by rw[z];congr 3;omega⟩
end
section
variable {A:aE}
def NxOk(prog:cr)(w:bP)(s:ah)(it:Addr)(x:ac)(P:Heap->Prop):Prop:=∀(B:aE) (W:ac->ah->Prop) (R:ac->ah->Prop),(∀h1,fI it s.heap h1->P h1->R x { s with heap:=h1 })->ag (ai prog w) B (BQ (.ref it)) R W s
def tO{e:Addr}{x old:ac}{P:Heap->Prop}{Q:Option ac->ah->Prop}(he:nk s.heap e it i old)(O:e≠it)(nx:NxOk prog w s it x P)(st:∀g g',P g->(∀o,g.get? it=X0 o->g'.get? it=X0 o)->P g')(k:∀h',IsEnumOut h' e it ((i:Int)+1) x s.heap.objs.size->P h'->h'.get? s.heap.objs.size=X0 { cls:=.type "tuple",data:=.seq #[.int i s.toks,x] }->h'.objs.size=s.heap.objs.size+1->(∀b o,b≠e->b≠it->s.heap.get? b=X0 o->h'.get? b=X0 o)->Q (X0 .(11)) { s with heap:=h',toks:=s.toks+1 }):
  ag (ai prog w) A (eK (.ref e)) Q E s:=by
 have ty:s.TypeIs (.ref e) "enumerate":=⟨_,he,rfl⟩;have le:e<s.heap.objs.size:=bn he;unfold eK;refine ae (ve (o0 (name:=dA "__next__") ty BS (hZ BS ty LI ?_ (LJ _))));obtain⟨T,U,Y,tk,S⟩:=s;show ag _ _ (qV (.ref e) 2 >>= _) _ _ _;refine ae (kA he rfl (x:=.ref it) rfl (ae (nx _ _ _ λW (J:fI it T W) p1=>?_)));have e1:nk W e it i old:=(J.2 e O).trans he;show ag _ _ (qV (.ref e) 3 >>= _) _ _ ⟨W,U,Y,tk,S⟩;refine ae (kA e1 rfl (x:=eS i) rfl ?_);show ag _ _ (qV (.ref e) 4 >>= _) _ _ ⟨W,U,Y,tk,S⟩;refine ae (kA e1 rfl (x:=.none) rfl ?_);show ag _ _ (mkInt i >>= _) _ _ ⟨W,U,Y,tk,S⟩;refine ae (wpAny_mkInt ?_);show ag _ _ (setField (.ref e) 3 (eS ((i:Int)+1)) >>= _) _ _ ⟨W,U,Y,tk+1,S⟩;refine ae (zt e1 .(1) λg2 (e2:nk g2 e it ((i:Int)+1) old) (I:fI e W g2)=>?_);show ag _ _ (setField (.ref e) 4 .none >>= _) _ _ ⟨g2,U,Y,tk+1,S⟩;refine ae (zt e2 .(1) λg3 (e3:nk g3 e it ((i:Int)+1) old) (z:fI e g2 g3)=>?_);show ag _ _ (B3 [.int i tk,x] >>= _) _ _ ⟨g3,U,Y,tk+1,S⟩;refine ae (wpAny_newTuple ?_);have z3:g3.objs.size=T.objs.size:=by rw[z.1,I.1,J.1]
 obtain⟨g4,Z⟩:∃g4,g4=g3.push { cls:=.type "tuple",data:=.seq #[.int i tk,x] }:=⟨_,rfl⟩;have e4:nk g4 e it ((i:Int)+1) old:=Z▸ba _ e3;have t4:g4.get? T.objs.size=X0 { cls:=.type "tuple",data:=.seq #[.int i tk,x] }:=by rw[Z,<-z3];exact bS _ rfl
 have z4:g4.objs.size=T.objs.size+1:=by rw[Z,iE,z3]
 have k4:∀b o,b≠e->b≠it->T.get? b=X0 o->g4.get? b=X0 o:=λb o L bi q=>by
  rw[Z];exact ba _ ((z.2 b L).trans ((I.2 b L).trans ((J.2 b bi).trans q)))
 have p4:P g4:=st W g4 p1 λo q=>by
  rw[Z];exact ba _ ((z.2 it (cf O)).trans ((I.2 it (cf O)).trans q))
 show ag _ _ (LL (.ref e) >>= _) _ _ ⟨g3.push { cls:=.type "tuple",data:=.seq #[.int i tk,x] },U,Y,tk+1,S⟩;rw[<-Z,z3];clear Z e3 z e2 I e1 J p1 z3;unfold LL;refine ae (ae (kA e4 rfl (x:=.none) rfl (ar ?_)));simp only[MH];refine ae (rc (ae (kA e4 rfl (x:=old) rfl (ae (zt e4 .(1) λg5 (e5:nk g5 e it ((i:Int)+1) x) (S0:fI e g4 g5)=>?_)))));show ag _ _ (LM (.ref e) (.ref T.objs.size) >>= _) _ _ ⟨g5,U,Y,tk+1,S⟩;unfold LM;refine ae (ae (zt e5 .(1) λg6 (e6:IsEnumOut g6 e it ((i:Int)+1) x T.objs.size) (O0:fI e g5 g6)=>?_));refine zt e6 .(1) λg7 (e7:IsEnumOut g7 e it ((i:Int)+1) x T.objs.size) (N0:fI e g6 g7)=>?_;have up:∀b,b≠e->∀o,g4.get? b=X0 o->g7.get? b=X0 o:=λb L o q=>(N0.2 b L).trans ((O0.2 b L).trans ((S0.2 b L).trans q));refine ae (oy (ar ⟨_,rfl,ar (k g7 e7 (st g4 g7 p4 (up it (cf O))) (up _ (pd le) _ t4) (by rw[N0.1,O0.1,S0.1,z4]) λb o L bi q=>up b L o (k4 b o L bi q))⟩))
def yJ{t:Addr}{us:Array ac}{x:ac}(z:s.heap.IsTupleIter it t i)(O:s.heap.IsTuple t us)(I:us[i]?=X0 x):NxOk prog w s it x (λh=>h.IsTupleIter it t (i+1)):=λB W R k=>by
 obtain⟨o,g,c,d⟩:=id z;obtain⟨L,J,_,S,dt⟩:=O;unfold BQ;refine ae (o0 (name:=dA "__next__") z.typeIs BU (hZ BU z.typeIs LN ?_ (LO _)));show ag _ _ (qV (.ref it) 0 >>= _) _ _ s;refine ae (kA g d (x:=.ref t) rfl ?_);show ag _ _ (if (bg t==hU)=E2 then _ else _) _ _ s;rw[UF (show ¬ ((bg t==hU)=E2) from de)];show ag _ _ (qV (.ref it) 1 >>= _) _ _ s;refine ae (kA g d (x:=.int i 0) rfl (show ag _ _ (qh (.ref t) >>= _) _ _ s from ae (kN J dt ?_)));simp only[eC,I];refine ae (sw g d .(1) (ar ⟨x,rfl,ar (k _ (vi ..) ?_)⟩));exact⟨_,kG _ g (B6 (sA d _)),(B7 ..).trans c,by rw[sA d];simp[eS]⟩
theorem mq{t:Addr}{us:Array ac}{Q:ac->ah->Prop}(J:A.handled=W1)(z:s.heap.IsTupleIter it t i)(O:s.heap.IsTuple t us)(I:us[i]?=W1)(k:∀h' v,yn it s.heap h'->(∃o,h'.get? v=X0 o/\o.cls=.type "StopIteration")->E (.ref v) { s with heap:=h' }):ag (ai prog w) A (BQ (.ref it)) Q E s:=by
 obtain⟨o,g,c,d⟩:=id z;obtain⟨S,L,_,T,dt⟩:=O;unfold BQ;refine ae (o0 (name:=dA "__next__") z.typeIs BU (hZ BU z.typeIs LN ?_ (LO _)));show ag _ _ (qV (.ref it) 0 >>= _) _ _ s;refine ae (kA g d (x:=.ref t) rfl ?_);show ag _ _ (if (bg t==hU)=E2 then _ else _) _ _ s;rw[UF (show ¬ ((bg t==hU)=E2) from de)];show ag _ _ (qV (.ref it) 1 >>= _) _ _ s;refine ae (kA g d (x:=.int i 0) rfl (show ag _ _ (qh (.ref t) >>= _) _ _ s from ae (kN L dt ?_)));simp only[eC,I];refine ae (rc (ae (sw g d .(1) ?_)));show ag _ _ (v3 (.type "StopIteration") [] >>= _) _ _ _;refine ae ?_;simp only[v3,B3];refine ae (kB ?_ (by size_fits));refine ae (m:=BG _ _) (ya (a:=hU) (by first | rfl | (simp only[BG];rfl)) (kB ?_ (by size_fits)));simp only[raiseNew];refine ae (wpAny_handled ?_);rw[show A.in1.handled=W1 from J];exact ae (ar (wpAny_throw (k _ _ (((vi ..).extBut.push _).push _) ⟨_,bS _ rfl,rfl⟩)))
theorem fJ{e t:Addr}{us:Array ac}{O:ac}{Q:Option ac->ah->Prop}(U:A.handled=W1)(I:nk s.heap e it i O)(z:s.heap.IsTupleIter it t i)(S:s.heap.IsTuple t us)(J:us[i]?=W1)(k:∀h',yn it s.heap h'->Q W1 { s with heap:=h' }):ag (ai prog w) A (eK (.ref e)) Q E s:=by
 have ty:s.TypeIs (.ref e) "enumerate":=⟨_,I,rfl⟩;unfold eK;refine ae (ve (o0 (name:=dA "__next__") ty BS (hZ BS ty LI ?_ (LJ _))));show ag _ _ (qV (.ref e) 2 >>= _) _ _ _;refine ae (kA I rfl (x:=.ref it) rfl (ae (mq U z S J λh' v W L=>?_)));obtain⟨o,g,c⟩:=L;exact ae (rd (T:="StopIteration") (b:=E2) ⟨o,g,c⟩ EL (ar (k _ W)))
def fK(t:Addr)(us:Array ac)(n:Nat)(I:Option Addr)(sl:Array (Option ac)):Meets (fN.«enumerate.__new__» ⟨[.type "enumerate",.ref t],[]⟩) (λ_ R s=>s.heap.get? t=X0 { cls:=.type "tuple",dict:=I,data:=.seq us n,slots:=sl } ∧
  R (.ok (.ret (.ref (s.heap.push { cls:=.type "tuple_iterator",data:=.fields #[.ref t,.int 0 0] }).objs.size))) { s with heap:=(s.heap.push { cls:=.type "tuple_iterator",data:=.fields #[.ref t,.int 0 0] }).push { cls:=.type "enumerate",data:=.fields #[.none,.bool E3,.ref s.heap.objs.size,eS 0,.none,.none] } }):=.of_wp λJ w A R s h=>by
 obtain⟨O,U,W,tk,L⟩:=s;obtain⟨g,h⟩:=h;have T:=sub_enumerate;have z:Heap.IsTuple (Shared.heap ⟨O,U,W,tk,L⟩) t us:=⟨_,g,rfl,n,rfl⟩
 wp_walk using BY g
 refine wpAny_stack_any λS=>ar ?_;split
 .rename_i c _ _ _ _ _;cases (c==mB "enumerate")
  .wp_walk using BY g,xh z
   exact⟨_,rfl,h⟩
  .wp_walk using BY g,xh z
   exact⟨_,rfl,h⟩
 .wp_walk using BY g,xh z
  exact⟨_,rfl,h⟩
theorem Zd{t:Addr}{us:Array ac}{Q:ac->ah->Prop}(J:s.heap.IsTuple t us)(k:∀h',nk h' .(12) s.heap.objs.size 0 .none->h'.IsTupleIter s.heap.objs.size t 0->h'.objs.size=s.heap.objs.size+2->.(7)->Q (.ref .(12)) { s with heap:=h' }):
  ag (ai prog w) A (call (.type "enumerate") [.ref t]) Q E s:=by
 obtain⟨⟨c,I,dt,W⟩,g,S,n,L⟩:=J;obtain rfl:c=.type "tuple":=S;obtain rfl:dt=.seq us n:=L;refine callType_new F.called_enumerate .(2) (F.typeCall_enumerate_1 _) (F.newCall_enumerate_1 _) (λob=>F.args_object_init_2 ob _) F.entry_enumerate_new (fK t us n I W) ⟨g,?_⟩;have O:(s.heap.push { cls:=.type "tuple_iterator",data:=.fields #[.ref t,.int 0 0] }).objs.size=s.heap.objs.size+1:=iE ..;show _/\_;rw[O];have z:nk ((s.heap.push { cls:=.type "tuple_iterator",data:=.fields #[.ref t,.int 0 0] }).push { cls:=.type "enumerate",data:=.fields #[.none,.bool E3,.ref s.heap.objs.size,eS 0,.none,.none] }) .(12) s.heap.objs.size 0 .none:=by
  have:=bS (s.heap.push { cls:=.type "tuple_iterator",data:=.fields #[.ref t,.int 0 0] }) (o:={ cls:=.type "enumerate",data:=.fields #[.none,.bool E3,.ref s.heap.objs.size,eS 0,.none,.none] }) rfl
  rwa [O] at this
 exact⟨⟨_,z,rfl⟩,k _ z ⟨_,ba _ (bS _ rfl),rfl,rfl⟩ (by rw[iE,O]) λb o x=>ba _ (ba _ x)⟩
end
section
variable {a:Expr}{fa:FE}{ta:TA}{p:Pos}
def IteT(K:aI)(a:Addr):It:=
 ⟨λi H=>∃xs x,MZ K H a xs/\xs[i]?=X0 x,λi H x z=>∃T y,H T=W1/\(∀xs,MZ K H a xs->xs[i]?=X0 y)/\x=.ref T/\z=fk H T (.tup [.int i,y]),λi H=>∃xs,MZ K H a xs/\xs.length<=i⟩
theorem Ze{K:aI}(a it e:Addr)(N0:e≠it):
  To P w K (.Tuple elts x1 tp) (IteT K a) [e,it] e (λi h=>(∃O,nk h e it ((i:Nat):Int) O)/\h.IsTupleIter it a i) where
 mem:=by simp
 obj:=λi h U b L=>by
  obtain⟨⟨O,T⟩,o,eo,c,d⟩:=U
  rcases bp.mp L with z | z
  .subst z;exact⟨_,T,λv z=>by
    have z':CS _=CU v:=z;cases z'⟩
  .have z:b=it:=by simpa using z
   subst z;exact⟨o,eo,λv z=>by rw[d] at z;cases z⟩
 keep:=λi h h' U k=>⟨let ⟨O,z⟩:=U.1;⟨O,k e .(1) _ z⟩,U.2.at λo z=>k it .(1) o z⟩
 item:=by
  intro X hP hw hK hc i π s σ H E I hf U hg;subst hP hw hK;obtain⟨⟨O,T⟩,S⟩:=U;obtain⟨xs,x,hq,hx⟩:=hg;obtain⟨S0,rv,p,hz⟩:=I.tuple hq;obtain⟨u,hu,ru⟩:=rv.get hx;obtain⟨f0,f1,f2,f3,f4,f5⟩:=hf e .(1);obtain⟨g0,g1,g2,g3,g4,g5⟩:=hf it .(1);have Z:e<s.heap.objs.size:=bn T;have W:it<s.heap.objs.size:=by obtain⟨o,eo,_⟩:=id S;exact bn eo
  refine tO T N0 (yJ S p (x:=u) (by simpa using hu)) (λg g' q z=>q.at z) λh1 N1 Y T0 S1 kk=>?_;refine⟨_,rfl,wpAny_letOwnedTupleGo_enum (s:={ s with heap:=h1,toks:=s.toks+1 }) N1 λh2 O0 sb=>?_⟩;have hT:H s.heap.objs.size=W1:=I.hok.fresh (aw _);have I1:Inv X π σ (fk H s.heap.objs.size (.tup [.int i,x])) { s with heap:=s.heap.push { cls:=.type "tuple",data:=.seq #[.int i s.toks,u] } }:=
   I.laid (a:=s.heap.objs.size) (t':=s.toks) (λb u e=>ba _ e) (aw _) ⟨by show 2<=sizeLine;decide,[.int i s.toks,u],.cons ⟨_,rfl⟩ (.cons ru .nil),_,bS _ rfl,rfl,_,rfl⟩
  let hA:=(s.heap.push { cls:=.type "tuple",data:=.seq #[.int i s.toks,u] })
  have P1:s.heap.objs.size<h1.objs.size:=by omega
  obtain⟨oi,U1,_⟩:=id Y;have I2:Inv X π σ (fk H s.heap.objs.size (.tup [.int i,x])) { s with heap:=h2,toks:=s.toks+1 }:=by
   have fr:({ cls:=.type "enumerate",data:=.fields #[.none,.bool E3,.ref it,eS ((i:Nat):Int),.none,O] }:Obj).isFreed=E3:=rfl;have gm:=kG (λ_=>({ cls:=.type "enumerate",data:=.fields #[.none,.bool E3,.ref it,eS ((i:Nat):Int),.none,O] }:Obj)) O0 fr;have go:∀b,b≠e->(h2.update e (λ_=>({ cls:=.type "enumerate",data:=.fields #[.none,.bool E3,.ref it,eS ((i:Nat):Int),.none,O] }:Obj))).get? b=h2.get? b:=λb L=>gE _ _ (cf L);generalize h2.update e (λ_=>({ cls:=.type "enumerate",data:=.fields #[.none,.bool E3,.ref it,eS ((i:Nat):Int),.none,O] }:Obj))=hm at gm go;have k1:∀b o,b≠it->(s.heap.push { cls:=.type "tuple",data:=.seq #[.int i s.toks,u] }).get? b=X0 o->hm.get? b=X0 o:=λb o L z=>by
    by_cases J:b=e
    .rcases EC z with ⟨q,_⟩ | q
     .rw[J] at q;exact MG q (bX Z)
     .rw[J] at q ⊢;have:s.heap.get? e=_:=T;rw[this] at q;cases q;exact gm
    .rw[go b J];refine (sb.2 b J).trans ?_
     rcases EC z with ⟨q,rfl⟩ | q
     .rw[q];exact T0
     .exact kk b o J L q
   have I3:=L2.Inv.turned (t':=s.toks+1) (it:=it) (h':=hm) I1 k1 (by rw[Al (bX W)];exact g0) g1 g3 g4 g5;exact L2.Inv.turned (s:={ s with heap:=hm,toks:=s.toks+1 }) (t':=s.toks+1) (it:=e) (h':=h2) I3 (λb o L z=>by have z':hm.get? b=X0 o:=z;rw[go b L] at z';exact z') (by rw[Al (bX Z)];exact f0) f1 f3 f4 f5
  refine⟨.ref s.heap.objs.size,_,I2,rfl,⟨_,x,hT,λys hy=>by rw[I.tuple_inj hy hq];exact hx,rfl,rfl⟩,⟨⟨u,by simpa using O0⟩,Y.at λo z=>(sb.2 it (cf N0)).trans z⟩,λb L=>?_⟩
  rcases bp.mp L with z | z
  .rw[z,Al (bX Z)];exact f0
  .have z:b=it:=by simpa using z
   rw[z,Al (bX W)];exact g0
 done:=by
  intro X hP hw hK hc i π s σ H E I hf U hg;subst hP hw hK;obtain⟨⟨O,T⟩,S⟩:=U;obtain⟨xs,hq,hx⟩:=hg;obtain⟨S0,rv,p,hz⟩:=I.tuple hq;obtain⟨g0,g1,g2,g3,g4,g5⟩:=hf it .(1);have hl:=rv.length;exact fJ (I.ok.hd hc) T S p (by simp;omega) λh' eb=>⟨rfl,I.turned (t':=s.toks) (λb o L e=>eb b o L e) g0 g1 g3 g4 g5⟩
 self:=λ_ _ _ _ _ U h=>let ⟨O,z⟩:=U.1;LP z h
def yK(K:aI)(J:TA):TI:=λI H R=>J I H λvs z=>∃a,vs=[.ref a]/\(∃xs,MZ K z a xs)/\R (IteT K a) z
theorem my(hg:Gl X "enumerate")(hm:X.mg "enumerate"=W1)(ha:PA X [a] ta)(hs:ay [a] X.env=[(E3,eval a X.env)]:=by rfl):PI X (.Tuple elts x1 tp) (.Call (.Name "enumerate" p) [a] [] pos) (yK X.K ta):=by
 intro T s S H R I h;refine PyProof.Rows.Call_ (N5 I hg hm SI (AA (mo (ha pos T s S H _ I h) λus J q0=>?_) hs rfl));obtain⟨vs,Y,L,Z,q1⟩:=q0;obtain⟨l,e,⟨xs,hq⟩,q⟩:=q1;subst e;cases Z with
 |cons r rr=>
  cases rr;cases r;obtain⟨N0,rv,p,hz⟩:=L.tuple hq;refine Zd p λh' W O O0 kp=>?_;refine LP W ?_;have I2:Inv X T S Y { J with heap:=h' }:=L.kept (t':=J.toks) kp;refine⟨J.heap.objs.size+1,[J.heap.objs.size+1,J.heap.objs.size],_,_,Y,rfl,I2,Ze l J.heap.objs.size (J.heap.objs.size+1) (IO _),⟨⟨_,W⟩,O⟩,λb hb=>?_,q⟩;have U:J.heap.objs.size<=b:=by
   rcases bp.mp hb with z | z
   .rw[z];exact kz _
   .have z:b=J.heap.objs.size:=by simpa using z
    rw[z];exact aw _
  exact L.fpOk U (L.hok.fresh U)
def enIT(f:FE):FI:=λρ=>match f ρ with | some (.tup ds)=>X0 (ZI 0 ds) | _=>W1
def fL(h:MZ G.K F1 q xs)(r:be G F2 xs ds):Src G (IteT G.K q) (ZI 0 ds) F1 F2 where
 go:=λi H s I=>⟨xs,xs[i]'(by rw[r.1];rwa [Rz] at I),Dw s h,by rw[Rz] at I;simp[r.1,I]⟩
 yld:=λi H x Y d s W y=>by
  obtain⟨T,z,O,Z,rfl,rfl⟩:=y;obtain⟨e,S,rfl⟩:=bf 0 ds i d W;have U:il G F2 z e:=r.2 i z e (Z xs (Dw s h)) S;refine⟨Aj O _,λB L J=>?_⟩;rw[lc];exact GQ L O (.cons (.int _) (.cons (U.mono J) .nil))
 stop:=λi H s I=>⟨xs,Dw s h,by rw[Rz] at I;rw[r.1];exact I⟩
def fO(W:G.K=X.K)(U:Gl X "enumerate")(O:X.mg "enumerate"=W1)(h:PF X G a fa)(hs:ay [a] X.env=[(E3,eval a X.env)]:=by rfl):OQ X G E3 (.Tuple elts x1 tp) (.Call (.Name "enumerate" p) [a] [] pos) (enIT fa):=λA=>O_ (my U O (Bt (@h A) De hs) hs)<|by
 rintro Z H R ⟨z,ds,o,e,k⟩
 unfold enIT at e;split at e
 .rename_i T S;cases e;refine⟨z,_,o,S,λv Y J L=>?_⟩;cases L with
  |tup h l r=>
   rename_i b I;refine⟨b,rfl,⟨I,by rw[<-W];exact Dw Am h⟩,?_⟩;rw[<-W];exact k _ Y J (fL h ⟨l,r⟩)
 .cases e
end
open PyProof.Rows (isTrue_and isTrue_not isTrue_and_nil envOfC)
section
variable {a:Expr}{fa:FE}{p:Pos}
def enIB(f:FE):FI:=λρ=>match f ρ with | some (.lst ds)=>X0 (ZI 0 ds) | some (.tup ds)=>X0 (ZI 0 ds) | _=>W1
end
def K4(P:cr)(w:bP)(m:Addr)(xs:List (List (List Key)×Addr×ac)):Heap->Prop:=λh=>∃o es ep,h.get? m=X0 o/\o.ExactDict/\o.data=.dict es ep/\es.toList=xs.map (wv (PV.SQ (Av P w)))/\(xs.map (·.1)).Nodup
structure Pres (P:cr) (w:bP) (K:aI) (f:Str) (H:Hp) (a b m:Addr) (F:List (List Key)->Int) (xs:List (List (List Key)×Addr×ac)) (ks:List (List Key)):Prop where
 at_:∃C dx fs,H a=X0 (.ins C dx fs)/\On K C/\Bd K C f/\fs.lookup f=X0 (.ref m)
 sm:(m==fE)=E3
 ext:H m=X0 (.ext (K4 P w m xs))
 al:∀q∈xs,MX K H q.1 q.2.1/\TN q.1/\dm (.int (F q.1)) q.2.2
 ky:MX K H ks b
 pr:(eA xs ks).isSome=E2
def spP(P:cr)(w:bP)(K:aI)(f:Str):Sp:=λvs H Q _=>∃a b m F xs ks,vs=[.ref a,.ref b]/\Pres P w K f H a b m F xs ks/\Q (.int (F ks)) H
def tP(P:cr)(w:bP)(K:aI)(f:Str):TS:=λD z H=>∃a b m F xs ks,z[0]?=X0 (X0 (.ref a))/\z[1]?=X0 (X0 (.ref b))/\Pres P w K f H a b m F xs ks/\D.rt (.int (F ks)) H
section
def Qx{m:Addr}{xs:List (List (List Key)×Addr×ac)}(I:Inv X π σ H s)(h:Pres X.prog X.w X.K f H a b m F xs ks):s.heap.DictOfH (nK X) m xs:=by
 obtain⟨⟨o,L,O,g,J,d,e,z⟩,_,_⟩:=(show BV X.prog X.w H s.heap m (.ext (K4 X.prog X.w m xs)) from I.hok m _ h.ext);exact⟨o,L,O,g,J,d,e,λq T=>M_ I (h.al q T).1,z⟩
theorem mz{m:Addr}{Q:ac->ah->Prop}(W:X.N[i]?=X0 x)(L:UY X.env.scope x)(T:.(8)=E3)(z:(x==("__classdict__":Str))=E3)(U:ff (.Name x p1) f X.env (eval (.Name x p1) X.env)=eval (.Name x p1) X.env)(I:Inv X π σ H s)(h1:σ[i]?=X0 (X0 (.ref a)))(h:∃C dx fs,H a=X0 (.ins C dx fs)/\On X.K C/\Bd X.K C f/\fs.lookup f=X0 (.ref m))(k:∀tk,Q (.ref m) { s with toks:=tk }):ag .(3) X.A (eval (.Attribute (.Name x p1) f p2) X.env) Q E s:=by
 obtain⟨C,dx,fs,Y,c,n,l⟩:=h;refine Vs U (JC W L T z I h1 λu r=>?_);obtain rfl:u=bg a:=r;obtain⟨mA,O,r,_,_,_⟩:=Ox I.hok Y;obtain⟨u,S,J⟩:=NY.some_of (v:=.ref m) (o:=mA f) (by rw[<-l];exact r f);obtain rfl:u=bg m:=J;exact Vr I.kIn O (c.get f) c.hd n S (Qc (v:=.ref m) rfl) (k _)
def tQ{Y W:Pos}(hu:X.A.units+64<bo)(hN:X.N[0]?=X0 x)(hv:UY X.env.scope x)(T:X.N[1]?=X0 y)(Z:UY X.env.scope y)(hm:iq .NotIn (.Attribute (.Name x p2) f p3)=E3:=by rfl)(O0:NoSl (.Name y p13):=by intro _ _;rfl)(hd:.(8)=E3:=by decide)(S:(x==("__classdict__":Str))=E3:=by decide)(L:(y==("__debug__":Str))=E3:=by decide)(O:(y==("__classdict__":Str))=E3:=by decide)(hb:∀p,ff (.Name x p) f X.env (eval (.Name x p) X.env)=eval (.Name x p) X.env:=by intro _;rfl):
  SV X [.If (.Compare (.Name y p1) [.NotIn] [.Attribute (.Name x p2) f p3] p4) body [] p10,.Return (X0 (.Subscript (.Attribute (.Name x p11) f p12) (.Name y p13) Y)) W] (tP X.prog X.w X.K f):=by
 rintro π s σ H D I ⟨a,b,m,F,xs,ks,h0,h1,h,k⟩
 refine lP (wx (xi (JC T Z L O I h1 λu r=>mz hN hv hd S (hb _) I h0 h.at_ λtk=>?_) hm));obtain rfl:u=bg b:=r;have I1:=I.tok tk;refine KW (knd:=nK X) (by show X.A.units+1+1<bo;omega) (M_ I1 h.ky) h.sm (Qx I1 h) (kq ?_);rw[h.pr];show ag _ _ (kt [] X.env) _ _ _;refine kQ ?_;have z:∀tk,Inv X π σ H { s with toks:=tk }:=λtk=>I.tok tk;refine lP (mo (?_:ag .(3) X.A (exec (.Return (X0 (.Subscript (.Attribute (.Name x p11) f p12) (.Name y p13) Y)) W) X.env) (SP X π D) X.xe _) λfl s1 q=>?_)
 .refine As (Z8 EB.lookup O0 (mz hN hv hd S (hb _) (z _) h0 h.at_ λJ=>JC T Z L O (z J) h1 λu r=>⟨(Qx (z J) h).typeIs,?_⟩));obtain rfl:u=bg b:=r;exact bG (F:=F) .(0) (z J) h.ky (Qx (z J) h) h.al h.pr λu N0 ru=>⟨.int (F ks),σ,H,z N0,ru,k⟩
 .cases fl with
  |next=>
   obtain⟨U,H2,I3,q⟩:=q;exact Kh (X:=X) π s1 U H2 D I3 q
  |ret v=>exact q
  |brk=>exact q
  |cont=>exact q
def fn_P{K:aI}{base:Heap}{f:Addr}{k:Nat}{J:Str}(F:Fun K x qual st f fd)(S:bc N ps (Ab st))(Y:ps.length=2)(U:∀(cdv:ac) (A:aE) (z:List Env) (s:ah) (H:Hp) (E:XK),Room k (A.deeper (gy qual (Ab st) s.heap.objs.size f cdv))->SV (Po CX0 P w K mg base N qual (Ab st) f cdv A z s H E).nox (Bf st) (tP P w K J)):
  kr P w K mg base CX0 (k+1) f fd ps (spP P w K J):=by
 refine F.ok S (λL H Q E h=>?_) (λcdv A z s H L Q E T h=>?_)
 .obtain⟨a,b,m,F,I,O,rfl,_⟩:=h;rw[Y];rfl
 .obtain⟨a,b,m,F,I,O,rfl,h,q⟩:=h;exact⟨_,U cdv A z s H E T,a,b,m,F,I,O,rfl,rfl,h,q⟩
def XZ(i:Nat)(f:Str)(j:Nat)(ft:FT)(c z:Str)(fr:FE):FS:=λρ=>match uF (jn f) (vF i) ρ,(vF j ρ).bind QN,ft ρ with
 |some (.mem F),X0 ps,X0 E2=>gq fr ρ
 |some (.mem F),X0 ps,X0 E3=>if F (Sb ps)=0/\(vF i ρ).map (Ej c z)=X0 E2 then X0 (.rt (.int 0) ρ) else W1
 |_,_,_=>W1
def X_{K:aI}{m:Addr}{o:HO}(I:∀u,H m=X0 u->¬ Tu u)(h:MX K H ks b):MX K (fk H m o) ks b:=by
 have T:∀{c:Addr}{xs:List V},NL K H c xs->NL K (fk H m o) c xs:=λ{c xs} z=>by
  rcases z with (z | ⟨u,z⟩) | z
  .exact .inl (.inl (by rw[Al (λe=>I (.tup xs) (by rw[<-e];exact z) trivial)];exact z))
  .exact .inl (.inr ⟨u,by rw[Al (λe=>I (.frz u (.tup xs)) (by rw[<-e];exact z) trivial)];exact z⟩)
  .exact .inr z
 obtain⟨bs,L,J⟩:=h;exact⟨bs,T L,Paired.mapP J λ_ _ z=>T z⟩
theorem YB{m:Addr}{o u:HO}(h:H m=X0 u):fk (fk H m o) m u=H:=by
 funext c;unfold fk;split
 .rename_i e;rw[e,h]
 .rfl
theorem m5{L:Str}{sf:Stmt}{Q2:List Str}{k0:Nat}{P1:Expr}{fr:FE}{q1 q2 q3 q4 q5:Pos}{jj:Nat}{pl:Sem Bool}{d:Mx X.K C L qual sf Q2}(hu:X.A.units+64<bo)(hG:G.K=X.K)(N3:∀c C,G.cl c=X0 C->On X.K C/\Bd X.K C f)(hc:G.cl c=X0 C)(hN:X.N[i]?=X0 x)(hv:UY X.env.scope x)(N1:X.N[j]?=X0 y)(O0:UY X.env.scope y)(ht:RS X G P1 ft)(F2:kr X.prog X.w X.K X.mg X.base CX0 k0 d.f d.fd Q2 (spP X.prog X.w X.K f))(hr:Room k0 X.A)(X2:Sl X G (.Return (X0 (.Call (.Attribute (.Name x q1) L q2) [.Name y q3] [] q4)) q5) (gq fr))(hs:eR (.Constant (.int 0) jj p9) (X0 (.Subscript (.Attribute (.Name x p5) f p6) (.Name y p7) p8)) p10.line X.env=pure E3:=by rfl)(hm:iq .NotIn (.Attribute (.Name x p2) f p3)=E3:=by rfl)(hd:.(8)=E3:=by decide)(T0:(x==("__classdict__":Str))=E3:=by decide)(S0:(y==("__debug__":Str))=E3:=by decide)(T:(y==("__classdict__":Str))=E3:=by decide)(hb:∀p,ff (.Name x p) f X.env (eval (.Name x p) X.env)=eval (.Name x p) X.env:=by intro _;rfl)(T2:ay [.Name y q3] X.env=(E3,eval (.Name y q3) X.env)::ay [] X.env:=by rfl)(P5:(dn q4 (ay [] X.env)).any (·.1)=E3:=by rfl)(S1:eval (.Call (.Attribute (.Name x q1) L q2) [.Name y q3] [] q4) X.env=(do
      let ov <-eval (.Name x q1) X.env
      pw q2.atName
      let (f,first) <-lS [ov] (ro ov L pl)
      rL q4 f first (dn q4 (ay [.Name y q3] X.env)) (jS q4 (i9 [] X.env))):=by rfl):
    Pv X G [.If (.BoolOp .And [.Compare (.Name y p1) [.NotIn] [.Attribute (.Name x p2) f p3] p4,.UnaryOp .Not P1 p11] p12) [.Assign [.Subscript (.Attribute (.Name x p5) f p6) (.Name y p7) p8] (.Constant (.int 0) jj p9) p10] [] p13,.Return (X0 (.Call (.Attribute (.Name x q1) L q2) [.Name y q3] [] q4)) q5] (XZ i f j ft c L fr):=by
  rintro A0 He Z s Y H D I ⟨ρ,o,⟨A,w⟩,e,k⟩
  unfold XZ at e;split at e
  . rename_i F ps ef ek et
    refine Ac (lR hu hG N3 hN hv N1 O0 ht hs hm hd T0 S0 T hb) (Af X2) (A0:=A0) He Z s Y H D I ⟨ρ,o,⟨A,w⟩,?_,k⟩;unfold bm memZ;rw[ef,ek,et];simp only[true_or,MH];exact e
  . rename_i F ps ef ek et
    split at e
    . rename_i hF
      obtain⟨hF,N0⟩:=hF;cases e;obtain⟨dk,f8,P7⟩:=zi.mp ek;obtain⟨m,fm⟩:=lO (X:=X) hG N3 w.ok ef;obtain⟨b,U1,mk,kin⟩:=Ma (X:=X) hG w.ok f8 P7;obtain⟨od,eo,N0⟩:=mv.mp N0;have Y2:∃a C' dx fs,Y[i]?=X0 (X0 (.ref a))/\H a=X0 (.ins C' dx fs)/\On X.K C'/\Bd X.K C' f/\fs.lookup f=X0 (.ref m)/\C'=C/\fs.lookup L=W1:=by
        have hz:ρ[i]?=X0 (.fz od):=by
          unfold vF at eo;split at eo
          . rename_i z hz;cases eo;exact hz
          . cases eo
        obtain⟨v,g1,g2⟩:=w.ok.fz i od hz;obtain⟨a,C',dx,fs,a1,a2,a3,a4,a5⟩:=fm.at_;cases od with
        |ob c' gs=>
          simp only[Ej,eP,XG,vj] at N0;obtain⟨rfl,hn⟩:=N0;cases g2 with
          | @ob a' C2 P9 _ N9 _ t1 t2 t3 t4=>
            rw[a1] at g1;cases g1;have Y1:=Am _ _ t2;rw[a2] at Y1;cases Y1;rw[hc] at t1;cases t1;exact⟨a,C,dx,fs,a1,a2,a3,a4,a5,rfl,Qv t3 hn⟩
        |_=>simp[Ej] at N0
      obtain⟨a,C',dx,fs,a1,a2,a3,a4,a5,rfl,a6⟩:=Y2;have hQ:∀(O:Hp) (s':ah) (J:List (List (List Key)×Addr×ac)),ab H O->Inv X Z Y O s'->s'.heap.DictOfH (nK X) m J->(∀q∈J,MX X.K O q.1 q.2.1/\TN q.1/\dm (.int (F q.1)) q.2.2)->(eA J (Sb ps)).isSome=E2 ->
          ag .(3) X.A (kt [.Return (X0 (.Call (.Attribute (.Name x q1) L q2) [.Name y q3] [] q4)) q5] X.env) (SP X Z D) X.xe s':=λO s' J S I' dd al pr=>by
        have U:O m=X0 (.mem F X.K):=S _ _ fm.mem;have S2:∀u,O m=X0 u->¬ Tu u:=λu e z=>by rw[U] at e;cases e;exact z
        obtain⟨U2,_⟩:=ZW I' U;obtain⟨o',es,ep,g,ex,dt,ee,is,nd⟩:=id dd;have ph:K4 X.prog X.w m J s'.heap:=⟨o',es,ep,g,ex,dt,ee,nd⟩;have W:Inv X Z Y (fk O m (.ext (K4 X.prog X.w m J))) s':=I'.write (x:=m) (e:=m) (o:=.ext (K4 X.prog X.w m J)) (h':=s'.heap) (t':=s'.toks) (by rw[U];exact trivial) (.inl rfl) (λ_ _ _ z=>z) ⟨o',g⟩
          ⟨ph,⟨o',g⟩,(by rintro h1 h2 ⟨o,es,ep,z1,z2⟩ kk;exact ⟨o,es,ep,kk _ z1,z2⟩)⟩
        have P3:fk O m (.ext (K4 X.prog X.w m J)) a=X0 (.ins C' dx fs):=by
          rw[Al (λe=>by have:=S _ _ a2;rw[e,U] at this;cases this)];exact S _ _ a2
        have P2:Pres X.prog X.w X.K f (fk O m (.ext (K4 X.prog X.w m J))) a b m F J (Sb ps):=⟨⟨C',dx,fs,P3,a3,a4,a5⟩,U2,Ah,λq hq=>⟨X_ S2 (al q hq).1,(al q hq).2⟩,X_ S2 (Iu S mk),pr⟩;have S4:=Z3 (pl:=pl) (Yn hN hv hd T0) a3 d.me F2 hr d.B .nil VB (Bt (Yn N1 O0 S0 T) De T2) T2 P5 S1 Z s' Y _ (λv H3=>v=.int 0/\H3=fk O m (.ext (K4 X.prog X.w m J))) W ⟨_,a1,a,dx,fs,rfl,P3,a6,_,U1,a,b,m,F,J,Sb ps,rfl,P2,by rw[hF],rfl⟩;have one:ag .(3) X.A (exec (.Return (X0 (.Call (.Attribute (.Name x q1) L q2) [.Name y q3] [] q4)) q5) X.env) (SP X Z D) X.xe s':=by
          refine As (mo S4 λu s1 q=>?_);obtain⟨v,H3,I3,ru,ev,eH⟩:=q;subst ev eH;obtain⟨⟨o4,r6,P6,z1,z2,z3,z4,z5⟩,_,_⟩:=(show BV X.prog X.w _ s1.heap m (.ext (K4 X.prog X.w m J)) from I3.hok m _ Ah);have I4:=I3.write (x:=m) (e:=m) (o:=.mem F X.K) (h':=s1.heap) (t':=s1.toks) (by rw[Ah];exact trivial) (.inl rfl) (λ_ _ _ z=>z) ⟨o4,z1⟩ (by
            rw[YB U];exact⟨U2,J,al,o4,r6,P6,z1,z2,z3,z4,z5⟩)
          rw[YB U] at I4;exact⟨.int 0,Y,O,I4,ru,k (.int 0) Y O A (w.mono S) (.int 0)⟩
        refine lP (mo one λfl s1 q=>?_);cases fl with
        |next=>
          obtain⟨S3,H2,W,q⟩:=q;exact Kh (X:=X) Z s1 S3 H2 D W q
        |ret v=>exact q
        |brk=>exact q
        |cont=>exact q
      have put:∀(O:Hp) (s':ah),ab H O->Inv X Z Y O s'->ag .(3) X.A (kt [.Assign [.Subscript (.Attribute (.Name x p5) f p6) (.Name y p7) p8] (.Constant (.int 0) jj p9) p10] X.env) (λfl s'=>fl=.next/\∃H2 J,ab H H2/\Inv X Z Y H2 s'/\s'.heap.DictOfH (nK X) m J/\(∀q∈J,MX X.K H2 q.1 q.2.1/\TN q.1/\dm (.int (F q.1)) q.2.2)/\(eA J (Sb ps)).isSome=E2) X.xe s':=λO s' S I'=>by
        refine lP (AN (CH ?_) hs);have W:=I'.tok (s'.toks+1);refine Og hN hv hd T0 (hb _) W (fm.mono S) λX1=>JC N1 O0 S0 T (W.tok X1) U1 λu r=>?_;obtain rfl:u=bg b:=r;refine UK (F:=F) .(0) (W.tok X1) (S _ _ fm.mem) (Iu S mk) kin (by rw[hF];exact⟨_,rfl⟩) λY3 s2 I3 u8 P8 P4=>?_;exact kQ ⟨rfl,O,Y3,S,I3,u8,P8,P4⟩
      refine lP (mo (Q:=λfl s'=>fl=.next/\∃H2 J,ab H H2/\Inv X Z Y H2 s'/\s'.heap.DictOfH (nK X) m J/\(∀q∈J,MX X.K H2 q.1 q.2.1/\TN q.1/\dm (.int (F q.1)) q.2.2)/\(eA J (Sb ps)).isSome=E2) (wx (t5 (xi (JC N1 O0 S0 T I U1 λu r=>Og hN hv hd T0 (hb _) I fm λtk=>?_) hm))) λfl s1 q=>?_)
      . obtain rfl:u=bg b:=r
        refine Qs (F:=F) .(0) (I.tok tk) fm.mem mk λJ N4 dd al=>kq ?_;have W:=(I.tok tk).tok N4;cases pr:(eA J (Sb ps)).isSome with
        |true=>
          show ag _ _ (kt [] X.env) _ _ _;exact kQ ⟨rfl,H,J,ab.refl H,W,dd,al,pr⟩
        |false=>
          show ag _ _ (pc _ _ _) _ _ _;refine t5 (CL (mo (@ht A Z _ Y H (λb H1=>ab H H1/\b=E3) W ⟨ρ,_,w.ok,et,λH1 s1=>⟨s1,rfl⟩⟩) λb s1 q0=>?_));obtain⟨H1,I1,S,eb⟩:=q0;subst eb;refine CI ?_;show ag _ _ (kt [_] X.env) _ _ _;exact put H1 s1 S I1
      . obtain⟨rfl,H2,J,S,W,dd,al,pr⟩:=q
        exact hQ H2 s1 J S W dd al pr
    . cases e
  . cases e
end
def gxL(K:aI)(l:List (Str×Addr)):Gx:={ K:=K,cl:=λc=>l.lookup c }
section
variable {K:aI}{a b:Str}{C1:Addr}{l:List (Str×Addr)}
def m6:(gxL K ((a,C)::l)).cl a=X0 C:=by
 show cb a ((a,C)::l)=X0 C;rw[ca,PH]
def yL(e:(b==a)=E3)(h:(gxL K l).cl b=X0 C):(gxL K ((a,C1)::l)).cl b=X0 C:=by
 show cb b ((a,C1)::l)=X0 C;rw[ca,e];exact h
def FlOk(K:aI)(l:List (Str×Addr))(x:Str):Prop:=∀c C,l.lookup c=X0 C->On K C/\Bd K C x
def fl_n:FlOk K [] x:=λ_ _ h=>by cases h
def fl_c(J:On K C)(n:gX K (.ref C) x=X0 W1)(h:FlOk K l x):FlOk K ((a,C)::l) x:=λc I e=>by
 rw[ca] at e;split at e
 .cases e;exact⟨J,n⟩
 .exact h _ _ e
def Oi(X:K.In h)(f:FlOk K l x):∀c I,(gxL K l).cl c=X0 I->On K I/\Bd K I x:=λc I h=>f c I h
def kxL{g:Addr}{n:Nat}{z:Array ac}{xs:List Str}(X:K.In h)(N:h.Ns gL mg)(a:BN K gL x=X0 (X0 (.ref g)))(I:K.lookup g=X0 ⟨.type "tuple",od,.seq z n,osl⟩)(hz:z.size<=sizeLine)(r:cx (xs.map V.str) z.toList):Kx (gxL K l) mg x (.tup (xs.map .str)):=⟨g,vT X N a,d9 I hz r⟩
end
theorem bh{f:Str×ke->Str×ke}(J:∀p,(f p).1=p.1/\((f p).2=.cell ∨(f p).2=p.2)){x:Str}:∀{names:List (Str×ke)},names.lookup x=X0 .cell ∨names.lookup x=X0 .free ->(names.map f).lookup x=X0 .cell ∨(names.map f).lookup x=X0 .free
 |[],h=>by rcases h with h | h<;>cases h
 | (n,k)::r,h=>by
  have O:=@bh f J x r;obtain⟨L,z⟩:=J (n,k);rw[bb];generalize f (n,k)=q at L z;obtain⟨q1,q2⟩:=q;cases L;cases I:x==n with
  |true=>
   simp only[ca,I] at h ⊢
   rcases z with z | z
   .cases z;exact .inl rfl
   .cases z;exact h
  |false=>
   simp only[ca,I] at h ⊢;exact O h
theorem cON{I:Cx}{z:kP}{L t:Str}{S:ah}(h:V4 N' z scope t=E2:=by decide +kernel):L_ { Km I z L S H2 fp with N:=N' } scope t:=by
 have c:=VG (X:={ Km I z L S H2 fp with N:=N',env:={ I.env with scope:=z } }) (N:=N') (sc:=z) rfl rfl h;exact⟨c.nocell,c.kind,c.names,c.tl,c.loc,λy J e=>bh (λp=>by dsimp only;split<;>simp) (c.fre y J e),c.emp,c.nd⟩
section
open PySem.MeetsSeq PySem.SeqAt
def yM(q:Addr)(vs:Array ac)(c:Nat)(u:ac)(f:Nat->Bool)(j:Nat)(L:j<vs.size)(I:f j=E2)(sz:vs.size<=sizeLine):∀k i:Nat,j-i=k->i<=j->(∀m,i<=m->m<j->f m=E3) ->
  Meets (fN.«list.remove.loop» ⟨[.ref q,u,eS i],[]⟩) (λA R s=>s.heap.get? q=X0 { cls:=.type "list",dict:=W1,data:=.seq vs c,slots:=#[] }/\(∀m (hm:m<vs.size),EqAt A.in1 s vs[m] u (f m)) ∧
   R (.ok (.ret .none)) { s with heap:=s.heap.update q (kg λxs=>xs.eraseIdxIfInBounds j) }):=by
 intro k
 induction k with
 |zero=>
  intro i h1 h2 S J w A R s hs;obtain⟨hp,gn,dr,tk,U⟩:=s;obtain⟨Y,z,O⟩:=hs;obtain rfl:i=j:=by omega
  wp_walk using C0 Y
  rw[show vs[((i:Nat):Int).toNat]?=X0 vs[i] by simp[L]];refine ae (z i L J w _ _ ?_);rw[I];have W:(vs.eraseIdxIfInBounds i).size<=sizeLine+1:=cw (size_erased vs _) (y0 sz)
  wp_walk using (om Y rfl (hz:=sz) (_hz':=W)),C0 Y
  simpa using O
 |succ k Z=>
  intro i h1 h2 S J w A R s hs;obtain⟨hp,gn,dr,tk,U⟩:=s;obtain⟨Y,z,O⟩:=hs;have T:i<vs.size:=by omega
  wp_walk using C0 Y
  rw[show vs[((i:Nat):Int).toNat]?=X0 vs[i] by simp[T]];refine ae (z i T J w _ _ ?_);rw[S i (aw _) .(0)]
  wp_walk
  rw[show ((i:Int)+1)=((i+1:Nat):Int) by push_cast;rfl];exact⟨ko plain_remove_loop _,hJ entry_remove_loop (by
   rw[kX plain_remove_loop _];exact Z (i+1) .(0) .(0) (λm a b=>S m .(0) b) J w A R _ ⟨Y,z,O⟩)⟩
def fP(q:Addr)(vs:Array ac)(c:Nat)(u:ac)(f:Nat->Bool)(j:Nat)(L:j<vs.size)(I:f j=E2)(z:∀m,m<j->f m=E3)(sz:vs.size<=sizeLine):
  Meets (fN.«list.remove» ⟨[.ref q,u],[]⟩) (λA R s=>s.heap.get? q=X0 { cls:=.type "list",dict:=W1,data:=.seq vs c,slots:=#[] }/\(∀m (W:m<vs.size),EqAt A.in1 s vs[m] u (f m)) ∧
   R (.ok (.ret .none)) { s with heap:=s.heap.update q (kg λxs=>xs.eraseIdxIfInBounds j) }):=by
 intro J w A R s hs;obtain⟨U,Z,dr,tk,T⟩:=s;obtain⟨Y,O,S⟩:=hs
 wp_walk using C0 Y
 exact⟨ko plain_remove_loop _,hJ entry_remove_loop (by
  rw[kX plain_remove_loop _];exact yM q vs c u f j L I sz _ 0 rfl (eW _) (λm _ b=>z m b) J w A R _ ⟨Y,O,S⟩)⟩
end
def UI(x:D):List D->Option (List D)
 |[]=>W1
 |d::r=>match MM 62 d x with | some E2=>X0 r | some E3=>(UI x r).map (d::·) | none=>W1
theorem Vh{x:D}:∀{ds es:List D},UI x ds=X0 es->∃j J,ds[j]?=X0 J/\MM 62 J x=X0 E2/\(∀m I,m<j->ds[m]?=X0 I->MM 62 I x=X0 E3)/\es=ds.eraseIdx j
 |[],es,h=>by cases h
 |d::r,es,h=>by
  unfold UI at h;split at h
  .rename_i e;cases h;exact⟨0,d,rfl,e,λm I z=>by omega,rfl⟩
  .rename_i e;cases q:UI x r with
   |none=>rw[q] at h;cases h
   |some fs=>
    rw[q] at h;cases h;obtain⟨j,J,T,O,S,rfl⟩:=Vh q;refine⟨j+1,J,T,O,λm I U L=>?_,rfl⟩;cases m with
    |zero=>cases L;exact e
    |succ m=>exact S m I .(0) L
  .cases h
def rRem(G:Gx):V->List V->Hp->VK->Prop:=λv vs H Q=>∃A l xs x ds dx j J,v=.ref l/\vs=[x]/\H l=X0 (.lst xs)/\be G (cc A H) xs ds/\il G (cc A H) x dx/\ds[j]?=X0 J/\MM 62 J dx=X0 E2/\(∀m I,m<j->ds[m]?=X0 I->MM 62 I dx=X0 E3)/\(∀d∈ds,(MM 62 d dx).isSome=E2)/\Q .non (fk H l (.lst (xs.eraseIdx j)))
section
def be.erase(r:be G H xs ds)(j:Nat):be G H (xs.eraseIdx j) (ds.eraseIdx j):=by
 rw[zv,zv];exact (r.take j).append (r.drop (j+1))
theorem yN(hG:G.K=X.K)(hu:X.A.units+64<bo):MtM X "list.remove" (rRem G):=by
 intro π s σ H x vs v us Q I rx rv h;obtain⟨A,l,U,y,L,dx,j,dj,rfl,rfl,hH,r,ry,Y,hy,hn,hk,q⟩:=h;cases rx;obtain⟨u,rfl,ru⟩:=rv.one;obtain⟨z,J,n,rr,hl,e⟩:=I.lstM hH;have lj:j<J.toArray.size:=by
  have:=(dP.mp Y).1;rw[ck,<-hl,r.1];exact this
 have Z:∀m (T:m<J.toArray.size),kU X.A.in1 s J.toArray[m] u (((L[m]?).bind λd=>MM 62 d dx).getD E3):=λm T=>by
  have S:m<J.length:=by simpa using T
  have W:m<U.length:=by rw[hl];exact S
  have O:m<L.length:=by rw[<-r.1];exact W
  obtain⟨y',h1,h2⟩:=rr.get (i:=m) (x:=U[m]) (by simp[W]);have ey:y'=J[m]:=by rw[bv S] at h1;exact (cS h1).symm
  subst ey;obtain⟨b,hb⟩:=AE.mp (hk L[m] (fA O));have:(((L[m]?).bind λd=>MM 62 d dx).getD E3)=b:=by rw[bv O];show (MM 62 L[m] dx).getD E3=b;rw[hb];rfl
  rw[this];exact N_ I hG 62 X.A.in1 (by show X.A.units+1+62<bo;omega) hb ((r.2 m _ _ (by simp[W]) (by simp[O])).mono Am) (ry.mono Am) h2 ru
 refine AL F.slot_list_remove ⟨_,e,rfl⟩ F.entry_list_remove (F.args_list_remove_2 _ _) (fP l J.toArray n u (λm=>((L[m]?).bind λd=>MM 62 d dx).getD E3) j lj (by show ((L[j]?).bind λd=>MM 62 d dx).getD E3=E2;rw[Y];show (MM 62 dj dx).getD E3=E2;rw[hy];rfl) (λm T=>?_) (by rw[ck];omega)) ⟨e,Z,?_⟩
 .have O:m<L.length:=by have:=(dP.mp Y).1;omega
  show ((L[m]?).bind λd=>MM 62 d dx).getD E3=E3;rw[bv O];show (MM 62 L[m] dx).getD E3=E3;rw[hn m _ T (bv O)];rfl
 .refine⟨.non,_,I.lset (its':=J.eraseIdx j) hH e ?_ (rr.eraseIdx j) ?_,rfl,q⟩
  .show J.toArray.eraseIdxIfInBounds j=(J.eraseIdx j).toArray;rw[ID]
  .have:=Qe U j;omega
def VX:D->List D->Option (D×D)
 |.lst ds,[x]=>if ds.all (λd=>(MM 62 d x).isSome)=E2 then (UI x ds).map λes=>(.non,.lst es) else W1
 |_,_=>W1
def m7:SndM G (rRem G) VX:=λA H l vs c ds v c' Q lv Y t r e k=>by
 unfold VX at e;split at e
 .rename_i z x;split at e
  .rename_i T;cases q:UI x z with
   |none=>rw[q] at e;cases e
   |some es=>
    rw[q] at e;cases e;obtain⟨J,Z,I⟩:=t;obtain⟨y,ys,rfl,O,L⟩:=r.uncons;have e0:=L.nil_inv;subst e0;obtain⟨j,dj,a1,a2,a3,rfl⟩:=Vh q;refine⟨A,l,J,y,z,x,j,dj,rfl,rfl,Z,I,O,a1,a2,a3,λd U=>eD.mp T d U,k _ _ (λb o S W=>by rw[Al S];exact W) ⟨_,Ah,?_⟩ .non⟩;rw[Bh Y];exact I.erase j
  .cases e
 .cases e
def WJ:D->List D->Option (D×D)
 |.lst ds,[x]=>if ds.length<sizeLine then X0 (.non,.lst (ds++[x])) else W1
 |_,_=>W1
def m8:SndM G Z7 WJ:=λA H l vs c ds v c' Q lv W t r e k=>by
 unfold WJ at e;split at e
 .rename_i Z x;split at e
  .rename_i S;cases e;obtain⟨I,U,z⟩:=t;obtain⟨y,ys,rfl,J,L⟩:=r.uncons;have Y:=L.nil_inv;subst Y;refine⟨l,I,y,rfl,rfl,U,by rw[z.1];exact S,k _ _ (λb o O T=>by rw[Al O];exact T) ⟨_,Ah,?_⟩ .non⟩;rw[Bh W];exact z.append (.cons J .nil)
  .cases e
 .cases e
def m9{l:Addr}(t:MS G A H l (.lst ds)):tyV X.K "list" (.ref l) H:=by
 obtain⟨z,h,_⟩:=t;exact .inl ⟨rfl,z,.of h⟩
def yO(A:List Addr)(H:Hp)(l:Addr)(c:D)(ds:List D)(z:D×D)(e:VX c ds=X0 z)(t:MS G A H l c):tyV X.K "list" (.ref l) H:=by
 unfold VX at e;split at e
 .exact m9 t
 .cases e
def yP(A:List Addr)(H:Hp)(l:Addr)(c:D)(ds:List D)(z:D×D)(e:WJ c ds=X0 z)(t:MS G A H l c):tyV X.K "list" (.ref l) H:=by
 unfold WJ at e;split at e
 .exact m9 t
 .cases e
end
def popD(x k:D):Option (D×D):=match x,k with
 |.lst ds,.int i=>if 0<=i/\i<ds.length then (ds[i.toNat]?).map λd=>(d,.lst (ds.eraseIdx i.toNat)) else W1
 |_,_=>W1
def popX(j:Nat)(f:FE):FZ:=λρ=>(f ρ).bind λk=>(Pd ρ j).bind λx=>(popD x k).map λr=>(r.1,ρ.set j (.ow r.2))
def lstQ:D->Option Unit
 |.lst _=>X0 ()
 |_=>W1
def appX(i:Nat)(h:FZ):FS:=λρ=>(h ρ).bind λr=>((Pd ρ i).bind lstQ).bind λ_=>(Pd r.2 i).bind λx=>(NX x r.1).map λy=>.nx (r.2.set i (.ow y))
section
variable {a:Expr}{fa:FE}{p:Pos}{h:FZ}
theorem m_(hv:PE X .(13) (OL j))(ha:PF X G a fa)(O:ff .(13) "pop" X.env (eval .(13) X.env)=eval .(13) X.env:=by rfl)(T:((dn pos (ay [a] X.env)).all (λx=>!x.1)&&(jS pos (i9 [] X.env)).all (λx=>x.1.isSome)&&decide ([a].length+([]:List ib).length+(if ([]:List ib).isEmpty then 0 else 1)<30))=E2:=by rfl)(L:(apos.endLine==pos.line)=E2:=by rfl)(hs:ay [a] X.env=[(E3,eval a X.env)]:=by rfl):
  PX X G (.Call (.Attribute .(13) "pop" apos) [a] [] pos) (popX j fa):=by
 rintro A0 He π s σ H Q I ⟨Y,d,N0,A,w,e,k⟩
 unfold popX at e;cases U:fa Y with
 |none=>simp[U] at e
 |some v=>
  cases W:Pd Y j with
  |none=>simp[U,W] at e
  |some x0=>
   cases J:popD x0 v with
   |none=>simp[U,W,J] at e
   |some r=>
    simp only[U,W,J,eB,gi] at e;cases e;have hi:=Ip W;refine Z6 yk PySem.F.slot_list_pop PySem.F.type_list_pop iG hv (Bt (@ha A) De hs) O T L hs rfl π s σ H Q I ?_;unfold popD at J;split at J
    .rename_i ds i;split at J
     .rename_i hz;obtain⟨q,h1,hA,Z,h2,rr⟩:=w.ok.ow j _ hi;refine⟨_,h1,.inl ⟨rfl,Z,.of h2⟩,Y,_,w.ok,U,λu H1 S r1=>?_⟩;cases r1;cases e4:ds[i.toNat]? with
      |none=>rw[e4] at J;cases J
      |some d0=>
       rw[e4] at J;cases J;obtain⟨y,y1,y2⟩:=rr.get e4;have hn:i.toNat<Z.length:=(dP.mp y1).1;have S0:ds.length<2^62:=by
        have:=rr.1;obtain⟨z,_⟩:=I.lstM h2;have O0:sizeLine<2^62:=by decide
        omega
       have w1:=w.mono S;have r2:=rr.mono (Az S);refine⟨q,Z,i,i.toNat,y,rfl,rfl,S _ _ h2,by omega,by omega,?_,y1,?_⟩
       .unfold AK;simp only[show ¬ i<0 by omega,NH];rw[SF (by have:=rr.1;simp;omega)]
       .refine k y _ A (w1.wr hi h1 ⟨_,Ah,?_⟩) ?_ ?_
        .rw[Bh hA];exact r2.erase _
        .rw[Bh hA];exact Az S
        .rw[Bh hA];exact y2.mono (Az S)
     .cases J
    .cases J
def tR(hv:PE X .(13) (OL i))(ha:PX X G a h)(L:ff .(13) "append" X.env (eval .(13) X.env)=eval .(13) X.env:=by rfl)(W:((dn pos (ay [a] X.env)).all (λx=>!x.1)&&(jS pos (i9 [] X.env)).all (λx=>x.1.isSome)&&decide ([a].length+([]:List ib).length+(if ([]:List ib).isEmpty then 0 else 1)<30))=E2:=by rfl)(J:(apos.endLine==pos.line)=E2:=by rfl)(hs:ay [a] X.env=[(E3,eval a X.env)]:=by rfl)(N0:eR (.Call (.Attribute .(13) "append" apos) [a] [] pos) W1 p2.line X.env=pure E3:=by rfl):
  Sl X G (.Expr (.Call (.Attribute .(13) "append" apos) [a] [] pos) p2) (appX i h):=by
 rintro A0 He π s σ H D I ⟨ρ,o,⟨A,w⟩,e,k⟩
 unfold appX at e;cases O:h ρ with
 |none=>simp[O] at e
 |some r=>
  cases S:Pd ρ i with
  |none=>simp[O,S] at e
  |some x0=>
   cases Y:lstQ x0 with
   |none=>simp[O,S,Y] at e
   |some uu=>
   cases e3:Pd r.2 i with
   |none=>simp[O,S,e3,Y] at e
   |some x1=>
    cases U:NX x1 r.1 with
    |none=>simp[O,S,e3,U,Y] at e
    |some y=>
     simp only[O,S,e3,U,Y,eB,gi] at e;cases e;have hi:=Ip S;have T:=Ip e3;refine Rh (Z6 yk Ee EA M6 hv (Bt (@ha A0 He) De hs) L W J hs rfl) N0 π s σ H D I ?_;obtain⟨q,h1,hA,t0⟩:=w.ok.ow i _ hi;unfold NX at U;split at U
     .rename_i ds;split at U
      .rename_i hz;cases U;have ty:tyV X.K "list" (.ref q) H:=by
        cases x0 with
        |lst z=>obtain⟨Z,hh,_⟩:=t0;exact .inl ⟨rfl,Z,.of hh⟩
        |_=>cases Y
       refine⟨_,h1,ty,ρ,r.1,r.2,A,w,O,λu H1 A1 w1 sm r1=>?_⟩;obtain⟨q',g1,gA,Z,g2,rr⟩:=w1.ok.ow i _ T;rw[h1] at g1;cases g1;refine⟨q,Z,u,rfl,rfl,g2,by rw[rr.1];exact hz,k _ _ ⟨A1,w1.wr T h1 ⟨Z++[u],Ah,?_⟩⟩⟩;rw[Bh gA];exact rr.append (.cons r1 .nil)
      .cases U
     .cases U
def AAi(te:TE):TE:=λI H Q=>te I H λx z=>∃d kvs,x=.ref d/\Rd z d (.dK kvs)/\∀r,z r=W1->Q (.ref r) (fk z r (.ext λh=>h.IsValuesView r d))
theorem fQ(ha:PE X a te)(O:ff a "values" X.env (eval a X.env)=eval a X.env:=by rfl)(L:(apos.endLine==cpos.line)=E2:=by rfl):
  PE X (.Call (.Attribute a "values" apos) [] [] cpos) (AAi te):=by
 intro Y s W H R I h;refine JI (T:="dict") (id:="dict.values") O rfl L JJ LS F.type_dict_values (mo (ha Y s W H _ I h) λv J q0=>?_);obtain⟨x,H1,S,r1,q1⟩:=q0;obtain⟨d,O0,e,hq,q⟩:=q1;subst e;cases r1;obtain⟨z,hd,vs,N0,Z⟩:=Jh S.hok hq;refine⟨Z.typeIs,Z.mapOf.noDict,?_⟩;show ag _ _ (rL cpos (.builtin "dict.values") [.ref d] [] []) _ _ J;refine method_meetsIn LS F.entry_dict_values rfl (JU ⟨rfl,Z.typeIs,F.args_dict_values_1 _,_,meets_dict_values (Av X.prog X.w) d hd,⟨vs,Z⟩,?_⟩);have U:(J.heap.push { cls:=.type "dict_values",data:=.fields #[.ref d] }).get? J.heap.objs.size=X0 { cls:=.type "dict_values",data:=.fields #[.ref d] }:=bS _ rfl;exact⟨.ref J.heap.objs.size,_,S.laid (a:=J.heap.objs.size) (t':=J.toks) (λb o e=>ba _ e) (aw _) (show BV X.prog X.w _ _ J.heap.objs.size (.ext λh=>h.IsValuesView J.heap.objs.size d) from⟨⟨_,U,rfl,rfl⟩,⟨_,U⟩,(by rintro h1 h2 ⟨o,e1,e2,e3⟩ kk;exact ⟨o,kk _ e1,e2,e3⟩)⟩),rfl,q _ (S.hok.fresh (aw _))⟩
theorem YC:∀{xs:List V}{us:List ac},us.length=xs.length->(∀(j:Nat) u,us[j]?=X0 u->∃x,xs[j]?=X0 x/\dm x u)->cx xs us
 |[],[],_,_=>.nil
 |[],_::_,h,_=>by simp at h
 |_::_,[],h,_=>by simp at h
 |x::xs,u::us,h,k=>by
  obtain⟨y,I,z⟩:=k 0 u rfl;cases I;exact .cons z (YC (by simpa using h) λj u S=>by simpa using k (j+1) u (by simpa using S))
theorem T5(hc:X.calm=E2):Di X (.type "list") (λxs H Q=>∃r p kvs,xs=[.ref r]/\H r=X0 (.ext λh=>h.IsValuesView r p)/\Rd H p (.dK kvs)/\∀l,H l=W1->Q (.ref l) (fk H l (.lst (kvs.map λq=>q.2)))):=by
 intro π s σ H xs us Q I rs h;obtain⟨r,p,kvs,rfl,er,e,q⟩:=h;obtain⟨u,rfl,ru⟩:=rs.one;cases ru;obtain⟨z,hd,O,J,Z⟩:=Jh I.hok e;obtain⟨ep,Z⟩:=Z.dictAt;have Y:kvs.length=O.length:=J.length;obtain⟨vw,_,_⟩:=(show BV X.prog X.w H s.heap r (.ext λh=>h.IsValuesView r p) from I.hok r _ er);refine ED (PySem.W.kdl_values (knd:=Av X.prog X.w) (kvs:=O) (ep:=ep)) (I.ok.hd hc) ⟨vw,Z⟩ .(0) λh' tk L c' kp hn S=>?_;have va:cx (kvs.map λq=>q.2) L.toList:=by
  refine YC (by rw[av,Y,i8];exact S.1) λj u hu=>?_;obtain⟨k,T⟩:=S.2 j u (by rw[<-xB];exact hu);have U:j<kvs.length:=by rw[Y];exact (dP.mp T).1
  exact⟨kvs[j].2,by rw[br,bv U];rfl,(Ie J (bv U) T).2⟩
 exact⟨.ref s.heap.objs.size,_,I.laid (t':=tk) kp (aw _) (show BV X.prog X.w _ h' _ (.lst (kvs.map λq=>q.2)) from⟨by rw[av];exact z,L.toList,c',va,by simpa using hn⟩),rfl,q _ (I.hok.fresh (aw _))⟩
def Vi:D->Option D
 |.dk z=>X0 (.lst (z.map (·.2)))
 |_=>W1
def bu(hc:X.calm=E2)(hg:Gl X "list")(hm:X.mg "list"=W1)(ha:PF X G a fa)(J:ff a "values" X.env (eval a X.env)=eval a X.env:=by rfl)(I:(apos.endLine==cpos.line)=E2:=by rfl)(Z:ay [Expr.Call (.Attribute a "values" apos) [] [] cpos] X.env=[(E3,eval (.Call (.Attribute a "values" apos) [] [] cpos) X.env)]:=by rfl):
  PF X G (.Call (.Name "list" p) [.Call (.Attribute a "values" apos) [] [] cpos] [] pos) (uF Vi fa):=λA=>CZ (HH (T5 hc) hg hm Rn (Bt (fQ (@ha A) J I) De Z) .(2) .(2) Z rfl)<|by
 rintro σ H Q ⟨ρ,d,o,e,k⟩
 obtain⟨x,e1,O⟩:=Kp e;unfold Vi at O;split at O
 .rename_i T;cases O;refine⟨ρ,_,o,e1,λv U W r1=>?_⟩;cases r1 with
  |dk h l r=>
   rename_i b ob z;refine⟨b,z,rfl,.inr ⟨_,Am _ _ h⟩,λw Y=>⟨w,b,z,rfl,Ah,.inr ⟨ob,?_⟩,λc L=>?_⟩⟩
   .rw[Al (Dd (Am _ _ h) Y)];exact Am _ _ h
   .have S:ab U (fk U w (.ext λh=>h.IsValuesView w b)):=Aj Y _;have rl:be G (cc A U) (z.map (·.2)) (T.map (·.2)):=⟨by have:=SG cy l;rwa [av,av] at this ⊢,r⟩;exact k _ _ (W.trans (S.trans (Aj L _))) (Cz ((o.mono W).mono S).live L (rl.mono (Az S)))
 .cases O
end
def bd2:D->Option (List D)
 |.tup [a,b]=>X0 [a,b]
 |_=>W1
def P0(src:FI)(z:FT)(fe:FE):FE:=Hw bd2 src z fe
section
variable {t u:Str}{elt iter:Expr}{ifs:List Expr}{pt:Pos}{k1:Nat}
def bnd2{N:Nat}:Bnd G N 2 bd2 (gTup G.K 2 (W3 (Ff N) (W3 (Ff (N+1)) gNil))):=λA I Y H x d es Q hl Z e r k=>by
 unfold bd2 at e;split at e
 .rename_i a b;cases e;cases r with
  |tup h l q=>
   rename_i c O;obtain⟨x,ys,rfl,W,U⟩:=(show be G (cc A H) O [a,b] from⟨l,q⟩).uncons;obtain⟨y,zs,rfl,T,S⟩:=U.uncons;have e0:=S.nil_inv;subst e0
   match Y,Z with
   |[L,J],_=>
   refine⟨c,[x,y],rfl,Dw Am h,rfl,x,[y],rfl,?_⟩;refine⟨y,[],rfl,rfl,?_⟩;have z:((I++[L,J]).set N (X0 x)).set (N+1) (X0 y)=I++[X0 x,X0 y]:=by
    rw[<-hl,E7 _ _ (aw _),xL];show (I++[X0 x,J]).set (I.length+1) (X0 y)=_;rw[E7 _ _ (kz _),show I.length+1-I.length=1 by omega];rfl
   show Q (((I++[L,J]).set N (X0 x)).set (N+1) (X0 y)) H;rw[z];exact k [x,y] rfl (.cons W (.cons T .nil))
 .cases e
theorem gTwo(W:G.K=X.K)(Y:Br [t,u] X.N++[t,u]=N')(c:nj X scope [t,u])(J:X.calm=E2)(S:ah)(L:Hp)(fp:List Addr):PG (Bg X scope N' S L fp) (.Tuple [.Name t p1,.Name u p2] k1 pt) (gTup G.K 2 (W3 (Ff X.N.length) (W3 (Ff (X.N.length+1)) gNil))):=by
 subst Y;rw[W];have at0:(Br [t,u] X.N++[t,u])[X.N.length]?=X0 t:=by unfold Br;rw[kS (by rw[av];exact aw _),av,xL];rfl
 have z:(Br [t,u] X.N++[t,u])[X.N.length+1]?=X0 u:=by unfold Br;rw[kS (by rw[av];exact kz _),av,Nat.add_sub_cancel_left];rfl
 have lt:=AR (env:=X.env) (c.tl t .(1));have I:=AR (env:=X.env) (c.tl u .(1));exact gK J (Sd (S7 (c.nd t .(1)) at0 (.inl lt) (.inr lt)) (Sd (S7 (c.nd u .(1)) z (.inl I) (.inr I)) Zv rfl) rfl) rfl rfl
def YD(z:List Str)(Y:Br [t,u] X.N++[t,u]=z)(c:nj X scope [t,u])(I:X.calm=E2)(W:G.K=X.K)(J:OQ X G E2 (.Tuple [.Name t p1,.Name u p2] k1 pt) iter src)(O:∀S H2 fp,WU (Bg X scope z S H2 fp) G ifs ga)(T:∀S H2 fp,PF (Bg X scope z S H2 fp) G elt fe)(hs:∀x,kR iter X.env x=pure x:=by intro _;rfl):PN X G (.ListComp elt [⟨.Tuple [.Name t p1,.Name u p2] k1 pt,iter,ifs,0⟩] scope pos) (P0 src ga fe):=
 λA=>TQ z Y c I J (gTwo W Y c I) bnd2 O T hs A
def tU(z:List Str)(Y:Dh t X.N++[t]=z)(c:L_ X scope t)(J:X.calm=E2)(I:OQ X G E2 (.Name t p1) iter src)(O:∀S H2 fp,WU { Km X scope t S H2 fp with N:=z } G ifs ga)(T:∀S H2 fp,PF { Km X scope t S H2 fp with N:=z } G elt fe)(hs:∀x,kR iter X.env x=pure x:=by intro _;rfl):PN X G (.ListComp elt [⟨.Name t p1,iter,ifs,0⟩] scope pos) (A_ src ga fe):=λA=>by
 rw[TJ];exact TQ z Y c J I (jH Y c) bnd1 O T hs A
def cO2{t u:Str}(I:X.N=N)(hs:X.env.scope=sc)(h:PJ N sc scope [t,u]=E2:=by decide +kernel):nj X scope [t,u]:=TV I hs h
def catD(x y:D):Option D:=match x,y with
 |.lst i,.lst j=>if i.length+j.length<=sizeLine then X0 (.lst (i++j)) else W1
 |_,_=>W1
def yQ{a b:Expr}{T O:FE}(ha:PU X G a T)(hb:PU X G b O)(W:G.K=X.K:=by rfl):PN X G (.BinOp a .Add b pos) (bF catD T O):=λA=>CZ (ue aA (@ha A) (@hb A))<|by
 rintro σ H Q ⟨L,d,o,e,k⟩
 obtain⟨x,y,e1,e2,z⟩:=O8 e;refine⟨L,x,o,e1,λv H1 J r1=>⟨L,y,o.mono J,e2,λu H2 S Z=>?_⟩⟩;unfold catD at z;split at z
 .rename_i is js;split at z
  .rename_i hz;cases z;obtain⟨l,Y,rfl,h1,q1⟩:=(r1.mono S).lst;obtain⟨l',U,rfl,h2,q2⟩:=Z.lst;refine⟨l,l',Y,U,rfl,rfl,by rw[<-W];exact h1,by rw[<-W];exact h2,by rw[q1.1,q2.1];exact hz,λp I=>k p _ (J.trans (S.trans (Aj I _))) (J.free (S.free I)) ⟨_,Ah,?_⟩⟩;exact (q1.append q2).mono (KD (Aj I _) I)
  .cases z
 .cases z
end
open Classical in
noncomputable def theD(g:GM)(P:List D->D->Prop):List D->Option D:=λds=>if h:∃d,g ds [] (λd' _=>d'=d)/\P ds d then X0 (choose h) else W1
def tV{g:GM}{P:List D->D->Prop}(h:theD g P ds=X0 d):g ds [] (λd' _=>d'=d):=by
 unfold theD at h;split at h
 .rename_i q;cases h;exact (FR q).1
 .cases h
def tW{g:GM}{P:List D->D->Prop}(h:g ds [] λd' _=>d'=d)(p:P ds d):∃e,theD g P ds=X0 e/\P ds e:=by
 have q:∃d,g ds [] (λd' _=>d'=d)/\P ds d:=⟨d,h,p⟩;exact⟨Classical.choose q,dif_pos q,(FR q).2⟩
section
variable {a:Expr}{es:List Expr}{fs:FA}{h:FXM}
theorem fM{k:Nat}{p:Pos}{d:Dx X.K X.mg x st ps}{g:GM}(F:kr X.prog X.w X.K X.mg X.base CX0 k d.f d.fd ps (spM G g))(L:Room k' X.A)(S:SR X G (a::es) fs)(I:k<=k':=by omega)(U:Gl X x:=by rfl)(J:.(8)=E3:=by decide)(O:ay (a::es) X.env=(E3,eval a X.env)::ay es X.env:=by rfl)(z:(dn pos (ay es X.env)).any (·.1)=E3:=by rfl):PMX X G (.Call (.Name x p) (a::es) [] pos) (calX g fs):=mZ F (L.mono I) U d.m d.F.kp d.B S J O z
def sXM(O:X.N.Nodup)(i:Nat){x:Str}{p:Pos}(L:PMX X G a h)(I:X.N[i]?=X0 x:=by rfl)(z:Loc X.env.scope x:=by first | exact dQ rfl | exact cq rfl)(hs:eR a (X0 (.Name x p)) pos.line X.env=pure E3:=by rfl)(J:X.fn x=E2∨X.env.scope.names.lookup x=X0 .local :=by first | exact .inl rfl | exact .inr rfl | assumption):PSM X G (.Assign [.Name x p] a pos) (mV i h):=mX (λ_ h=>Yo O I z h hs J) L
theorem mRem{k:Nat}(L:List Nat)(S:Room k X.A)(O:PE X .(13) (OL i))(T:SR X G [a] fs)(W:G.K=X.K:=by rfl)(I:ff .(13) "remove" X.env (eval .(13) X.env)=eval .(13) X.env:=by rfl)(J:((dn pos (ay [a] X.env)).all (λx=>!x.1)&&(jS pos (i9 [] X.env)).all (λx=>x.1.isSome)&&decide ([a].length+([]:List ib).length+(if ([]:List ib).isEmpty then 0 else 1)<30))=E2:=by rfl)(z:(apos.endLine==pos.line)=E2:=by rfl)(hs:ay [a] X.env=[(E3,eval a X.env)]:=by rfl):PMX X G (.Call (.Attribute .(13) "remove" apos) [a] [] pos) (XY i L VX fs):=
 bY L yk PySem.F.slot_list_remove PySem.F.type_list_remove (yN W S.units) m7 yO O T I J z hs rfl
def mApp(L:List Nat)(O:PE X .(13) (OL i))(S:SR X G [a] fs)(I:ff .(13) "append" X.env (eval .(13) X.env)=eval .(13) X.env:=by rfl)(J:((dn pos (ay [a] X.env)).all (λx=>!x.1)&&(jS pos (i9 [] X.env)).all (λx=>x.1.isSome)&&decide ([a].length+([]:List ib).length+(if ([]:List ib).isEmpty then 0 else 1)<30))=E2:=by rfl)(z:(apos.endLine==pos.line)=E2:=by rfl)(hs:ay [a] X.env=[(E3,eval a X.env)]:=by rfl):PMX X G (.Call (.Attribute .(13) "append" apos) [a] [] pos) (XY i L WJ fs):=
 bY L yk Ee EA M6 m8 yP O S I J z hs rfl
end
theorem fnM{base:Heap}{k:Nat}{b:FM}(d:Dx G.K mg x st ps)(S:bc N ps (Ab st))(I:∀(cdv:ac) (A:aE) (z:List Env) (s:ah) (H:Hp) (E:XK),Room k (A.deeper (gy x (Ab st) s.heap.objs.size d.f cdv))->SO (Po CX0 P w G.K mg base N x (Ab st) d.f cdv A z s H E).nox G (Bf st) b)(Y:ps.length<=N.length:=by decide):
  kr P w G.K mg base CX0 (k+1) d.f d.fd ps (spM G (VT N.length ps.length b)):=fn_M d.F S Y I
theorem fnDM{base:Heap}{k:Nat}{b:FM}{Pr:List D->D->Prop}(d:Dx G.K mg x st ps)(S:bc N ps (Ab st))(I:∀(cdv:ac) (A:aE) (z:List Env) (s:ah) (H:Hp) (E:XK),Room k (A.deeper (gy x (Ab st) s.heap.objs.size d.f cdv))->SO (Po CX0 P w G.K mg base N x (Ab st) d.f cdv A z s H E).nox G (Bf st) b)(Y:ps.length<=N.length:=by decide):
  kr P w G.K mg base CX0 (k+1) d.f d.fd ps (MU G (theD (VT N.length ps.length b) Pr)):=AAh d.F S Y I λJ L h=>tV h
open PySem.Calls
end PV
namespace K42
open PySem L2 PV
abbrev cs (x:Str):List Nat:=x.cps.toList
def Of:Str:="abcdefghijklmnopqrstuvwxyz"
def IsL(x:Str):Prop:=∀c∈cs x,c∈cs Of
def Sm:List Str:=["not","and","or","some","all"]
structure Wd (x:Str):Prop where
 lo:1<=x.length
 hi:x.length<=8
 isL:IsL x
 kept:x∉Sm
structure Wl where
 n:Nat
 ms:List (Str×List Nat)
 ts:List (Str×List (Nat×Nat))
abbrev iN (t:Nat):D:=.int (t:Int)
abbrev pN (q:Nat×Nat):D:=.tup [.int (q.1:Int),.int (q.2:Int)]
def lM(l:List Nat):D:=.lst (l.map iN)
def lT(l:List (Nat×Nat)):D:=.lst (l.map pN)
def eM(J:List (Str×List Nat)):List (Key×D):=J.map λp=>(.inr p.1,lM p.2)
def eT(z:List (Str×List (Nat×Nat))):List (Key×D):=z.map λp=>(.inr p.1,lT p.2)
def kM(l:List Nat):D:=.dk (l.map λ(t:Nat)=>((.inl (t:Int):Key),.bl E2))
def kT(l:List (Nat×Nat)):D:=.dt (l.map λq=>([(.inl (q.1:Int):Key),.inl (q.2:Int)],.bl E2))
def oM(J:List (Str×List Nat)):List (Key×D):=J.map λp=>(.inr p.1,kM p.2)
def oT(z:List (Str×List (Nat×Nat))):List (Key×D):=z.map λp=>(.inr p.1,kT p.2)
def fx(W:Wl):D:=.ob "World" [("size",.int W.n),("marked",.dk (oM W.ms)),("tied",.dk (oT W.ts))]
structure ll (W:Wl):Prop where
 n5:W.n<=5
 m3:W.ms.length<=3
 t3:W.ts.length<=3
 mw:∀p∈W.ms,Wd p.1
 tw:∀p∈W.ts,Wd p.1
 nd:(W.ms.map (·.1)++W.ts.map (·.1)).Nodup
 ml:∀p∈W.ms,p.2.Nodup/\p.2.length<=100/\∀t∈p.2,t<W.n
 tl:∀p∈W.ts,p.2.Nodup/\p.2.length<=100/\∀q∈p.2,q.1<W.n/\q.2<W.n
def wd(W:Wl):D:=.lst [.int (W.n:Int),.dk (eM W.ms),.dk (eT W.ts)]
def lN(z:List Nat):D:=.lst (z.map iN)
abbrev Pr:=Nat×Nat
def mk(W:Wl)(w:Str)(i:Nat):Bool:=match W.ms.find? (λp=>p.1=w) with | some p=>decide (i∈p.2) | none=>E3
def tk(W:Wl)(w:Str)(i j:Nat):Bool:=match W.ts.find? (λp=>p.1=w) with | some p=>decide ((i,j)∈p.2) | none=>E3
abbrev mw (W:Wl):List Str:=W.ms.map (·.1)
abbrev tw (W:Wl):List Str:=W.ts.map (·.1)
def T6(W V:Wl)(q:Pr):Bool:=(mw W).all λw=>mk W w q.1==mk V w q.2
def KJ(W V:Wl)(p q:Pr):Bool:=(tw W).all λw=>tk W w p.1 q.1==tk V w p.2 q.2
def Wp(W V:Wl)(p q:Pr):Bool:=(decide (p.1=q.1)==decide (p.2=q.2))&&(KJ W V p q&&KJ W V q p)
def TL(W V:Wl)(ps:List Pr)(q:Pr):Bool:=(T6 W V q&&KJ W V q q)&&ps.all λp=>Wp W V p q
def NS(n:Nat)(xs:List Nat):List Nat:=(aS n).filter λt=>decide (t∉xs)
def kc(W V:Wl):Nat:=max W.n V.n+1
def Nc(l:List Nat):Nat:=l.foldr max 0
def stp(W V:Wl)(R:List Pr->Nat)(ps:List Pr):Nat:=
 let fs:=NS W.n (ps.map (·.1))
 let Z:=NS V.n (ps.map (·.2))
 let rw:=λq:Pr=>if TL W V ps q then R (Ao (ps++[q])) else 0
 min (kc W V) (1+((fs.map λf=>Nc (Z.map λs=>rw (f,s)))++Z.map λs=>Nc (fs.map λf=>rw (f,s))).foldr min (kc W V))
def rkN(W V:Wl):Nat->List Pr->Nat
 |0,_=>0
 |n+1,ps=>stp W V (rkN W V n) ps
def Pc(W V:Wl)(ps:List Pr):Bool:=ps.all λp=>(T6 W V p&&KJ W V p p)&&ps.all (Wp W V p)
def OM(W V:Wl)(ps:List Pr):Nat:=if Pc W V ps then rkN W V 6 ps else 0
def ZO:List Key->Pr
 |[.inl i,.inl j]=>(i.toNat,j.toNat)
 |_=>(0,0)
def FW(W V:Wl)(ks:List (List Key)):Int:=(OM W V (ks.map ZO):Nat)
open Classical in
noncomputable def FF(a b:D):List (List Key)->Int:=if h:∃x:Wl×Wl,a=fx x.1/\b=fx x.2 then FW (choose h).1 (choose h).2 else λ_=>0
noncomputable def Phi(ρ:Rho):Option (List (List Key)->Int):=match vF 1 ρ,vF 2 ρ with
 |some a,X0 b=>X0 (FF a b)
 |_,_=>W1
def Os(z:List Nat)(W:Wl):Wl:=⟨W.n,(W.ms.map λp=>(p.1,p.2.map λt=>z.getD t 0)).reverse,(W.ts.map λp=>(p.1,p.2.map λq=>(z.getD q.1 0,z.getD q.2 0))).reverse⟩
structure Two (c8:Int) (m:Nat) (W V:Wl) (os:List Nat):Prop where
 w:ll W
 v:ll V
 wn:W.n<=m
 vn:V.n<=m
 mm:(V.ms.map (·.1)).Perm (W.ms.map (·.1))
 tt:(V.ts.map (·.1)).Perm (W.ts.map (·.1))
 pm:os.Perm (aS W.n)
 al:c8%4=1∨c8%4=2->V=Os os W
def Good(ds:List D)(d:D):Prop:=∃(L:List Int) (m:Nat) (W V:Wl) (z:List Nat),ds=[.lst (L.map .int),.int (m:Int)]/\d=.lst [wd W,wd V,lN z]/\Two (L.getD 8 0) m W V z
open PySem.Spec EX
open PyProof.Rows hiding St
noncomputable section
def RF:D:=(.tup ((["not","and","or","some","all"]:List Str).map .str))
def HN:FT:=tu (bF ltD (vF 5) (vF 1))
def HQ:FE:=vF 5
def Ey:FS:=putF 2 (vF 4) (A_ (hW (bF dq (bF dq (vF 0) (kF (.int 1))) (vF 4))) (HN) (HQ))
def Ez:FT:=Tl (tu (bF ltD (bF dq (vF 5) .(10)) (vF 1))) (tu (bF ltD (bF dq (vF 5) (kF (.int 1))) (vF 1)))
def HR:FE:=vF 5
def E_:FS:=putF 3 (vF 4) (A_ (hW (bF dq (bF dq (vF 0) (kF (.int 2))) (vF 4))) (Ez) (HR))
def Gh:FS:=bm (Pm (tu (bF leD (bF dq (vF 0) .(10)) (vF 1))) (gq (vF 0)) (RY)) (bm (setW 2 (kF (.dk []))) (bm (setW 3 (kF (.dk []))) (bm (Cs (hW (bF dq (vF 0) (kF (.int 1)))) (Ax 4) (Ey)) (bm (Cs (hW (bF dq (vF 0) (kF (.int 2)))) (Ax 4) (E_)) (XI [2,3] (gq (Mo (Aa (vF 1) (Aa (vF 2) (Aa (vF 3) (af)))))))))))
def CJ:List D->Option D:=li 5 2 Gh
def Jp:FS:=bm (Pm (tu (bF ltD (vF 1) (uF Pi (vF 0)))) (gq (bF ixD (vF 0) (vF 1))) (RY)) (gq .(10))
def Ar:List D->Option D:=li 2 2 Jp
def Bj:FT:=tu (bF (Nd E2) (vU 2) (Mo (af)))
def CK:FS:=bm (appX 3 (popX 2 (bF oo (vF 0) (uF Pi (vU 2))))) (im 0 (bF Ec (vF 0) (bF sq (uF Pi (vU 2)) (kF (.int 1)))))
def K5:FS:=bm (setW 2 (uF bO (vF 1))) (bm (setW 3 (Mo (af))) (bm (HJ (Bj) (CK) 60) (XI [3] (gq (vF 3)))))
def Ih:List D->Option D:=li 4 2 K5
def Ft:FE:=bF dq (vF 1) (vF 5)
def Fv:FM:=X7 2 (vF 4) (newX (A_ (hW (bF dq (bF dq (vF 0) (kF (.int 1))) (vF 4))) (nq) (Ft)))
def Fw:FE:=Pt (Aa (bF dq (vF 1) (vF 5)) (Aa (bF dq (vF 1) (vF 6)) (af)))
def Fx:FM:=X7 3 (vF 4) (newX (P0 (hW (bF dq (bF dq (vF 0) (kF (.int 2))) (vF 4))) (nq) (Fw)))
def Hi:FM:=PY (puM (setW 2 (kF (.dk [])))) (PY (puM (setW 3 (kF (.dk [])))) (PY (forM (VU (uF TX (bF dq (vF 0) (kF (.int 1))))) (Ax 4) (Fv)) (PY (forM (VU (uF TX (bF dq (vF 0) (kF (.int 2))))) (Ax 4) (Fx)) (puM (XI [2,3] (gq (Mo (Aa (bF dq (vF 0) .(10)) (Aa (vF 2) (Aa (vF 3) (af)))))))))))
def J1:GM:=VT 5 2 Hi
def Ek:FS:=bm (im 10 (bF sq (bF sq (bF Ec (vF 3) (bF sq (vF 9) (kF (.int 3)))) (bF NO (vF 9) (vF 9))) (bF NO (uF intD (bF (Nd E3) (vF 9) (vF 5))) (vF 7)))) (im 8 (bF sq (vF 8) (bF dq (vF 2) (bF oo (vF 10) (kF (.int 26))))))
def El:FS:=bm (im 8 (kF (.str ""))) (bm (Cs (vb (vF 4)) (Ax 9) (Ek)) (bm (Pm (tu (bF (Oy E3) (vF 8) (Mo (Aa (kF (.str "not")) (Aa (kF (.str "and")) (Aa (kF (.str "or")) (Aa (kF (.str "some")) (Aa (kF (.str "all")) (af))))))))) (im 8 (bF sq (vF 8) (kF (.str "x")))) (RY)) (Sa NX 6 (vF 8))))
def K6:FS:=bm (im 2 (kF (.str "abcdefghijklmnopqrstuvwxyz"))) (bm (im 3 (bF oo (vF 0) (kF (.int 2147483629)))) (bm (im 4 (bF sq (kF (.int 1)) (bF oo (vF 3) (kF (.int 8))))) (bm (im 5 (bF oo (bF Ec (vF 3) (kF (.int 8))) (vF 4))) (bm (setW 6 (Mo (af))) (bm (Cs (vb (vF 1)) (Ax 7) (El)) (XI [6] (gq (vF 6))))))))
def Ii:List D->Option D:=li 11 2 K6
def EY:FS:=Pm (tu (bF (Nd E3) (bF oo (vF 0) (kF (.int 3))) .(10))) (Sa NX 2 (bF (Nd E3) (bF oo (bF Ec (bF Ec (vF 0) (kF (.int 3))) (bF shlD (kF (.int 1)) (vF 4))) (kF (.int 2))) (kF (.int 1)))) (bm (im 3 (bF oo (bF sq (bF sq (bF sq (bF NO (vF 3) (vF 3)) (bF NO (kF (.int 48271)) (vF 3))) (vF 4)) (kF (.int 1))) (kF (.int 2147483629)))) (Sa NX 2 (bF (Nd E3) (bF oo (bF Ec (vF 3) (kF (.int 7))) (bF NO (kF (.int 2)) (bF oo (vF 0) (kF (.int 3))))) .(10))))
def Mi:FS:=bm (setW 2 (Mo (af))) (bm (im 3 (bF oo (bF Ec (vF 0) (kF (.int 3))) (kF (.int 2147483629)))) (bm (Cs (vb (vF 1)) (Ax 4) (EY)) (XI [2] (gq (vF 2)))))
def Em:List D->Option D:=li 5 2 Mi
def JF:FT:=TH (bF dq (vF 9) (vF 10))
def Mj:FE:=vF 10
def JG:FT:=TH (bF dq (vF 9) (vF 10))
def JH:FE:=Pt (Aa (bF Ec (vF 10) (vF 3)) (Aa (bF oo (vF 10) (vF 3)) (af)))
def Ce:FS:=Pm (tu (bF ltD (vF 8) (vF 4))) (bm (im 9 (An (Em) (Aa (An (Ar) (Aa (vF 0) (Aa (bF sq (bF sq (vF 1) (kF (.int 2))) (vF 8)) (af)))) (Aa (vF 3) (af))))) (putF 6 (bF dq (vF 5) (vF 8)) (A_ (vb (vF 3)) (JF) (Mj)))) (bm (im 9 (An (Em) (Aa (An (Ar) (Aa (vF 0) (Aa (bF ZU (bF sq (bF sq (vF 1) (kF (.int 5))) (vF 8)) (vF 4)) (af)))) (Aa (bF NO (vF 3) (vF 3)) (af))))) (putF 7 (bF dq (vF 5) (vF 8)) (A_ (vb (bF NO (vF 3) (vF 3))) (JG) (JH))))
def K7:FS:=bm (im 2 (An (Ar) (Aa (vF 0) (Aa (vF 1) (af))))) (bm (im 3 (bF dq (Mo (Aa (bF oo (bF Ec (vF 2) (kF (.int 9))) (kF (.int 5))) (Aa (kF (.int 5)) (af)))) (uF intD (bF (Nd E3) (bF oo (bF Ec (vF 2) (kF (.int 45))) (kF (.int 12))) (kF (.int 11)))))) (bm (im 4 (bF oo (vF 2) (kF (.int 4)))) (bm (im 5 (An (Ii) (Aa (An (Ar) (Aa (vF 0) (Aa (bF sq (vF 1) (kF (.int 1))) (af)))) (Aa (bF sq (vF 4) (bF oo (bF Ec (vF 2) (kF (.int 4))) (kF (.int 4)))) (af))))) (bm (setW 6 (kF (.dk []))) (bm (setW 7 (kF (.dk []))) (bm (Cs (vb (uF NI (vF 5))) (Ax 8) (Ce)) (XI [6,7] (gq (Mo (Aa (vF 3) (Aa (vF 6) (Aa (vF 7) (af)))))))))))))
def Gi:List D->Option D:=li 10 2 K7
def Hj:FM:=PY (puM (im 2 (uF Vi (bF dq (vF 0) (kF (.int 1)))))) (PY (puM (Pm (Tl (tu (bF (XO E2) (vF 2) (Mo (af)))) (Tl (tu (bF gtD (bF dq (vF 0) .(10)) .(10))) (orT (tu (bF (XO E3) (bF oo (vF 1) (kF (.int 2))) .(10))) (tu (bF (XO E3) (bF dq (vF 0) (kF (.int 2))) (kF (.dk []))))))) (bm (im 3 (bF oo (bF Ec (vF 1) (kF (.int 2))) (bF dq (vF 0) .(10)))) (im 4 (bF dq (vF 2) (bF oo (bF Ec (vF 1) (kF (.int 10))) (uF NI (vF 2)))))) (Pm (Tl (tu (bF (XO E2) (bF dq (vF 0) (kF (.int 2))) (kF (.dk [])))) (tu (bF gtD (bF dq (vF 0) .(10)) .(10)))) (bm (im 2 (uF Vi (bF dq (vF 0) (kF (.int 2))))) (bm (im 3 (Pt (Aa (bF oo (bF Ec (vF 1) (kF (.int 2))) (bF dq (vF 0) .(10))) (Aa (bF oo (bF Ec (vF 1) (kF (.int 10))) (bF dq (vF 0) .(10))) (af))))) (im 4 (bF dq (vF 2) (bF oo (bF Ec (vF 1) (kF (.int 50))) (uF NI (vF 2))))))) (retN)))) (ifM [4] (tu (bF (Oy E3) (vF 3) (vU 4))) (Vf (XY 4 [] VX (Aa (vF 3) (af)))) (Vf (XY 4 [] WJ (Aa (vF 3) (af))))))
def J2:GM:=VT 5 2 Hj
def JK:FT:=TH (bF dq (vF 9) (vF 10))
def Ml:FE:=vF 10
def Gj:FS:=bm (im 7 (bF sq (vF 7) (kF (.int 1)))) (bm (im 9 (An (Em) (Aa (An (Ar) (Aa (vF 0) (Aa (vF 7) (af)))) (Aa (vF 4) (af))))) (putF 5 (vF 8) (A_ (vb (vF 4)) (JK) (Ml))))
def JL:FT:=TH (bF dq (vF 9) (vF 10))
def JM:FE:=Pt (Aa (bF Ec (vF 10) (vF 4)) (Aa (bF oo (vF 10) (vF 4)) (af)))
def Gk:FS:=bm (im 7 (bF sq (vF 7) (kF (.int 1)))) (bm (im 9 (An (Em) (Aa (An (Ar) (Aa (vF 0) (Aa (vF 7) (af)))) (Aa (bF NO (vF 4) (vF 4)) (af))))) (putF 6 (vF 8) (A_ (vb (bF NO (vF 4) (vF 4))) (JL) (JM))))
def K8:FS:=bm (im 4 (bF dq (Mo (Aa (bF dq (vF 2) .(10)) (Aa (bF oo (bF Ec (An (Ar) (Aa (vF 0) (Aa (vF 1) (af)))) (kF (.int 8))) (bF sq (vF 3) (kF (.int 1)))) (af)))) (bF oo (bF Ec (An (Ar) (Aa (vF 0) (Aa (vF 1) (af)))) (kF (.int 4))) (kF (.int 2))))) (bm (setW 5 (kF (.dk []))) (bm (setW 6 (kF (.dk []))) (bm (im 7 (vF 1)) (bm (Cs (hW (bF dq (vF 2) (kF (.int 1)))) (Ax 8) (Gj)) (bm (Cs (hW (bF dq (vF 2) (kF (.int 2)))) (Ax 8) (Gk)) (XI [5,6] (gq (Mo (Aa (vF 4) (Aa (vF 5) (Aa (vF 6) (af))))))))))))
def Gm:List D->Option D:=li 10 4 K8
def Dt:FM:=PY (puM (im 2 (An (CJ) (Aa (An (Gi) (Aa (vF 0) (Aa .(10) (af)))) (Aa (vF 1) (af)))))) (PY (puM (im 3 (An (Ar) (Aa (vF 0) (Aa (kF (.int 8)) (af)))))) (PY (puM (im 4 (An (Ih) (Aa (An (Ar) (Aa (vF 0) (Aa (kF (.int 15)) (af)))) (Aa (bF dq (vF 2) .(10)) (af)))))) (PY (puM (Pm (tu (bF (Nd E3) (bF oo (vF 3) (kF (.int 4))) .(10))) (gq (Mo (Aa (vF 2) (Aa (An (Gm) (Aa (vF 0) (Aa (kF (.int 8)) (Aa (vF 2) (Aa (vF 1) (af)))))) (Aa (vF 4) (af)))))) (RY))) (PY (mV 5 (calX (J1) (Aa (vF 2) (Aa (vF 4) (af))))) (PY (ifM [] (tu (bF (Nd E3) (bF oo (vF 3) (kF (.int 4))) (kF (.int 3)))) (Vf (calX (J2) (Aa (vF 5) (Aa (An (Ar) (Aa (vF 0) (Aa (kF (.int 16)) (af)))) (af))))) (nxM)) (frzM 3 (puM (gq (Mo (Aa (vF 2) (Aa (vF 5) (Aa (vF 4) (af)))))))))))))
def JN:List D->Option D:=theD (VT 6 2 Dt) Good
def JP:FS:=Pm (tu (bF gtD (vF 0) (vF 1))) (badF) (RY)
def Bk:List D->Option D:=li 2 2 JP
def Gn:FS:=Pm (orT (tu (bF ltD (vF 1) .(10))) (tu (bF geD (vF 1) (vF 0)))) (badF) (RY)
def BR:List D->Option D:=li 2 2 Gn
def Fy:FS:=bm (HD (An (BR) (Aa (vF 0) (Aa (vF 3) (af))))) (putF 2 (vF 3) (kF (.bl E2)))
def J3:FS:=bm (setW 2 (kF (.dk []))) (bm (Cs (hW (vF 1)) (Ax 3) (Fy)) (XI [2] (gq (vF 2))))
def Ea:List D->Option D:=li 4 2 J3
def Gp:FS:=bm (HD (An (BR) (Aa (vF 0) (Aa (vF 3) (af))))) (bm (HD (An (BR) (Aa (vF 0) (Aa (vF 4) (af))))) (Xc 2 (Aa (vF 3) (Aa (vF 4) (af))) (kF (.bl E2))))
def K9:FS:=bm (setW 2 (kF (.dt []))) (bm (Cs (hW (vF 1)) (NU 2 (Bw 3 (Bw 4 (NV)))) (Gp)) (XI [2] (gq (vF 2))))
def FJ:List D->Option D:=li 5 2 K9
def Hs:FE:=bF (Oy E3) (vF 1) (kF (.str "abcdefghijklmnopqrstuvwxyz"))
def Qy:FS:=bm (Pm (orT (tu (bF (Oy E3) (vF 0) (kF RF))) (orT (tu (bF (Nd E3) (uF NI (vF 0)) .(10))) (tu (bF gtD (uF NI (vF 0)) (kF (.int 8)))))) (gq (kF (.bl E3))) (RY)) (gq (uF YV (A_ (hW (vF 0)) (nq) (Hs))))
def FN:List D->Option D:=li 1 1 Qy
def Cg:Ps:=Ge (ifE (Td (Pe (TH (An (FN) (Aa (vF 4) (af))))))) (RN "marked" (vF 4) (An (Ea) (Aa (vF 1) (Aa (vF 5) (af)))))
def Ci:Ps:=Ge (ifE (orTE (Td (Pe (TH (An (FN) (Aa (vF 4) (af)))))) (YI "marked" (vF 4)))) (RN "tied" (vF 4) (An (FJ) (Aa (vF 1) (Aa (vF 6) (af)))))
def HS:Ps:=Ge (OZ (HD (An (Bk) (Aa (vF 1) (Aa (kF (.int 5)) (af)))))) (Ge (OZ (HD (An (Bk) (Aa (uF NI (vF 2)) (Aa (kF (.int 3)) (af)))))) (Ge (OZ (HD (An (Bk) (Aa (uF NI (vF 3)) (Aa (kF (.int 3)) (af)))))) (Ge (JB "size" (vF 1)) (Ge (RM "marked" (kF (.dk []))) (Ge (RM "tied" (kF (.dk []))) (Ge (YO (Ql (vF 2)) (NU 2 (Bw 4 (Bw 5 (NV)))) (Cg)) (Ge (YO (Ql (vF 3)) (NU 2 (Bw 4 (Bw 6 (NV)))) (Ci)) (nilE))))))))
def Ca:Addr->List D->Option Ef:=XU 7 4 HS
def BL:FS:=Pm (Tl (tu (bF gtD (bF dq (vF 1) .(10)) .(10))) (tu (bF gtD (bF dq (vF 2) .(10)) .(10)))) (bm (im 6 (bF oo (bF Ec (vF 5) (kF (.int 2))) (bF dq (vF 1) .(10)))) (bm (im 7 (bF oo (bF Ec (vF 5) (kF (.int 10))) (bF dq (vF 2) .(10)))) (bm (Pm (Tl (tu (bF (Nd E3) (bF oo (vF 5) (kF (.int 2))) (kF (.int 1)))) (tu (bF (Nd E3) (bF dq (vF 1) .(10)) (bF dq (vF 2) .(10))))) (im 7 (bF dq (vF 3) (vF 6))) (RY)) (Sa NX 4 (Pt (Aa (vF 6) (Aa (vF 7) (af)))))))) (RY)
def K_:FS:=bm (setW 4 (Mo (af))) (bm (Cs (hW (vF 0)) (Ax 5) (BL)) (XI [4] (gq (vF 4))))
def Gq:List D->Option D:=li 8 4 K_
def GJ:FS:=gq (uF ZY (uF (jn "marked") (vF 0)))
def Cj:List D->Option D:=li 1 1 GJ
def Gr:FS:=gq (uF ZY (uF (jn "tied") (vF 0)))
def DP:List D->Option D:=li 1 1 Gr
def H_:FS:=Pm (orT (tu (bF (Nd E2) (Gg "World" "mark_words" (Cj) (vF 0) af) (Gg "World" "mark_words" (Cj) (vF 1) af))) (tu (bF (Nd E2) (Gg "World" "tie_words" (DP) (vF 0) af) (Gg "World" "tie_words" (DP) (vF 1) af)))) (badF) (RY)
def Fz:List D->Option D:=li 2 2 H_
def B_:FS:=bm (HD (An (BR) (Aa (uF (jn "size") (vF 0)) (Aa (vF 3) (af))))) (HD (An (BR) (Aa (uF (jn "size") (vF 1)) (Aa (vF 4) (af)))))
def Du:FS:=bm (HD (An (Fz) (Aa (vF 0) (Aa (vF 1) (af))))) (Cs (hW (vF 2)) (NU 2 (Bw 3 (Bw 4 (NV)))) (B_))
def CV:List D->Option D:=li 5 3 Du
def LC:FT:=tu (bF (Oy E2) (vF 2) (vF 1))
def LK:FE:=vF 2
def Oj:FS:=gq (A_ (vb (vF 0)) (LC) (LK))
def JQ:List D->Option D:=li 2 2 Oj
def Gs:FS:=Pm (tu (bF (Nd E2) (bF (Oy E3) (bF dq (vF 2) .(10)) (bF dq (uF (jn "marked") (vF 0)) (vF 3))) (bF (Oy E3) (bF dq (vF 2) (kF (.int 1))) (bF dq (uF (jn "marked") (vF 1)) (vF 3))))) (gq (kF (.bl E3))) (RY)
def IK:FS:=bm (Cs (hW (uF (jn "marked") (vF 0))) (Ax 3) (Gs)) (gq (kF (.bl E2)))
def F_:List D->Option D:=li 4 3 IK
def Gu:FS:=Pm (tu (bF (Nd E2) (inTF (Aa (bF dq (vF 2) .(10)) (Aa (bF dq (vF 3) .(10)) (af))) (bF dq (uF (jn "tied") (vF 0)) (vF 4))) (inTF (Aa (bF dq (vF 2) (kF (.int 1))) (Aa (bF dq (vF 3) (kF (.int 1))) (af))) (bF dq (uF (jn "tied") (vF 1)) (vF 4))))) (gq (kF (.bl E3))) (RY)
def IV:FS:=bm (Cs (hW (uF (jn "tied") (vF 0))) (Ax 4) (Gu)) (gq (kF (.bl E2)))
def Cw:List D->Option D:=li 5 4 IV
def J4:FS:=bm (Pm (tu (bF (Nd E2) (bF (Nd E3) (bF dq (vF 2) .(10)) (bF dq (vF 3) .(10))) (bF (Nd E3) (bF dq (vF 2) (kF (.int 1))) (bF dq (vF 3) (kF (.int 1)))))) (gq (kF (.bl E3))) (RY)) (gq (andF (An (Cw) (Aa (vF 0) (Aa (vF 1) (Aa (vF 2) (Aa (vF 3) (af)))))) (An (Cw) (Aa (vF 0) (Aa (vF 1) (Aa (vF 3) (Aa (vF 2) (af))))))))
def Hk:List D->Option D:=li 4 4 J4
def J5:FE:=An (Hk) (Aa (vF 0) (Aa (vF 1) (Aa (vF 4) (Aa (vF 3) (af)))))
def Mm:FS:=bm (Pm (orT (Pe (TH (An (F_) (Aa (vF 0) (Aa (vF 1) (Aa (vF 3) (af))))))) (Pe (TH (An (Cw) (Aa (vF 0) (Aa (vF 1) (Aa (vF 3) (Aa (vF 3) (af))))))))) (gq (kF (.bl E3))) (RY)) (gq (uF YV (A_ (hW (vF 2)) (nq) (J5))))
def Ht:List D->Option D:=li 4 4 Mm
def Gv(z:List D->Option D):FS:=bm (Pm (Pe (TH (An (Ht) (Aa (uF (jn "one") (vF 0)) (Aa (uF (jn "other") (vF 0)) (Aa (vF 1) (Aa (vF 2) (af)))))))) (gq .(10)) (RY)) (gq (Gg "Ranks" "rank_of_fitting" (z) (vF 0) (Aa (uF tslD (bF catU (vF 1) (Pt (Aa (vF 2) (af))))) (af))))
def Bl(z:List D->Option D):List D->Option D:=li 3 3 (Gv z)
def Fe(z:List D->Option D):FE:=Gg "Ranks" "rank_with" (Bl z) (vF 0) (Aa (vF 1) (Aa (vF 3) (af)))
def Gw(z:List D->Option D):FS:=gq (bF XD (A_ (hW (vF 2)) (nq) ((Fe z))) .(10))
def Ay(z:List D->Option D):List D->Option D:=li 3 3 (Gw z)
def En(z:List D->Option D):FE:=bF dq (vF 7) .(10)
def Eo(z:List D->Option D):FE:=bF dq (vF 7) (kF (.int 1))
def Ep(z:List D->Option D):FE:=Pt (Aa (vF 5) (Aa (vF 7) (af)))
def DQ(z:List D->Option D):FS:=Sa NX 4 (Gg "Ranks" "best_rank" (Ay z) (vF 0) (Aa (vF 1) (Aa (A_ (hW (vF 3)) (nq) ((Ep z))) (af))))
def Er(z:List D->Option D):FE:=Pt (Aa (vF 7) (Aa (vF 6) (af)))
def DR(z:List D->Option D):FS:=Sa NX 4 (Gg "Ranks" "best_rank" (Ay z) (vF 0) (Aa (vF 1) (Aa (A_ (hW (vF 2)) (nq) ((Er z))) (af))))
def GK(z:List D->Option D):FS:=bm (im 2 (An (JQ) (Aa (uF (jn "size") (uF (jn "one") (vF 0))) (Aa (A_ (hW (vF 1)) (nq) ((En z))) (af))))) (bm (im 3 (An (JQ) (Aa (uF (jn "size") (uF (jn "other") (vF 0))) (Aa (A_ (hW (vF 1)) (nq) ((Eo z))) (af))))) (bm (setW 4 (Mo (af))) (bm (Cs (hW (vF 2)) (Ax 5) ((DQ z))) (bm (Cs (hW (vF 3)) (Ax 6) ((DR z))) (gq (bF minD (uF (jn "endless") (vF 0)) (bF sq (kF (.int 1)) (bF X5 (vU 4) (uF (jn "endless") (vF 0))))))))))
def Ck(z:List D->Option D):List D->Option D:=li 7 2 (GK z)
def Bc(z:List D->Option D):FS:=memR 0 "reckoned" 1 (Gg "Ranks" "least_rank" (Ck z) (vF 0) (Aa (vF 1) (af)))
def Ag:Nat->List D->Option D
 |0=>λ_=>W1
 |n+1=>li 2 2 (Bc (Ag n))
def Mp:FE:=An (Ht) (Aa (vF 0) (Aa (vF 1) (Aa (slF (vF 2) (noO) (Re (vF 3))) (Aa (vF 4) (af)))))
def Qz:FS:=gq (uF YV (P0 (enIT (vF 2)) (nq) (Mp)))
def Iv:List D->Option D:=li 3 3 Qz
def GC:FS:=bm (im 2 (uF tssD (vF 1))) (XZ 0 "reckoned" 2 (TH (An (Iv) (Aa (uF (jn "one") (vF 0)) (Aa (uF (jn "other") (vF 0)) (Aa (vF 2) (af)))))) "Ranks" "rank_of_fitting" (Gg "Ranks" "rank_of_fitting" (Ag 8) (vF 0) (Aa (vF 2) (af))))
def Cy:List D->Option D:=li 3 2 GC
def Ij:FS:=bm (im 3 (Gg "Ranks" "rank_of" (Cy) (vF 0) (Aa (vF 1) (af)))) (gq (orF (bF (Nd E3) (vF 3) (uF (jn "endless") (vF 0))) (bF ltD (vF 2) (vF 3))))
def Fb:List D->Option D:=li 4 3 Ij
def HW:Ps:=Ge (JB "one" (vF 1)) (Ge (JB "other" (vF 2)) (Ge (JB "reckoned" (memE Phi)) (Ge (JB "endless" (bF sq (bF maxD (uF (jn "size") (vF 1)) (uF (jn "size") (vF 2))) (kF (.int 1)))) (nilE))))
def Dk:Addr->List D->Option Ef:=XU 3 3 HW
def We:FS:=bm (HD (An (CV) (Aa (vF 0) (Aa (vF 1) (Aa (vF 2) (af)))))) (gq (Gg "Ranks" "last" (Fb) (mkI "Ranks" (Dk) (Aa (vF 0) (Aa (vF 1) (af)))) (Aa (vF 2) (Aa (vF 3) (af)))))
def R1:List D->Option D:=li 4 4 We
def Es:FS:=Sa NX 3 (bF (Oy E3) (vF 1) (bF dq (bF dq (vF 0) (kF (.int 1))) (vF 4)))
def Gy:FS:=setW 3 (bF catD (vU 3) (Mo (Aa (bF (Oy E3) (Pt (Aa (vF 1) (Aa (vF 2) (af)))) (bF dq (bF dq (vF 0) (kF (.int 2))) (vF 4))) (Aa (bF (Oy E3) (Pt (Aa (vF 2) (Aa (vF 1) (af)))) (bF dq (bF dq (vF 0) (kF (.int 2))) (vF 4))) (af)))))
def LQ:FS:=bm (setW 3 (Mo (Aa (bF (Nd E3) (vF 1) (vF 2)) (af)))) (bm (Cs (hW (uF ZY (bF dq (vF 0) (kF (.int 1))))) (Ax 4) (Es)) (bm (Cs (hW (uF ZY (bF dq (vF 0) (kF (.int 2))))) (Ax 4) (Gy)) (XI [3] (gq (vF 3)))))
def Gz:List D->Option D:=li 5 3 LQ
def J6:FS:=Pm (tu (bF (Nd E2) (An (Gz) (Aa (vF 0) (Aa (bF dq (bF dq (vF 2) (vF 3)) .(10)) (Aa (bF dq (bF dq (vF 2) (vF 4)) .(10)) (af))))) (An (Gz) (Aa (vF 1) (Aa (bF dq (bF dq (vF 2) (vF 3)) (kF (.int 1))) (Aa (bF dq (bF dq (vF 2) (vF 4)) (kF (.int 1))) (af))))))) (gq (kF (.bl E3))) (RY)
def Hl:FS:=Cs (vb (bF sq (vF 3) (kF (.int 1)))) (Ax 4) (J6)
def Mq:FS:=bm (Cs (vb (uF NI (vF 2))) (Ax 3) (Hl)) (gq (kF (.bl E2)))
def Jq:List D->Option D:=li 5 3 Mq
def JR(z:List D->Option D):FE:=bF dq (vF 11) .(10)
def JS(z:List D->Option D):FT:=tu (bF (Oy E2) (vF 10) (A_ (hW (vF 2)) (nq) ((JR z))))
def JT(z:List D->Option D):FE:=vF 10
def JV(z:List D->Option D):FE:=bF dq (vF 11) (kF (.int 1))
def JW(z:List D->Option D):FT:=tu (bF (Oy E2) (vF 10) (A_ (hW (vF 2)) (nq) ((JV z))))
def JX(z:List D->Option D):FE:=vF 10
def JZ(z:List D->Option D):FE:=An (z) (Aa (vF 0) (Aa (vF 1) (Aa (bF sq (vF 2) (Mo (Aa (Pt (Aa (vF 7) (Aa (vF 10) (af)))) (af)))) (Aa (bF ZU (vF 3) (kF (.int 1))) (af)))))
def G3(z:List D->Option D):FS:=Sa NX 6 (A_ (hW (vF 5)) (nq) ((JZ z)))
def G4(z:List D->Option D):FS:=Pm (Pe (TH (uF anyD (vF 8)))) (gq (kF (.bl E3))) (RY)
def IW(z:List D->Option D):FE:=bF dq (vF 10) (vF 9)
def GD(z:List D->Option D):FS:=Pm (Pe (TH (uF anyD (A_ (VS (vU 6)) (nq) ((IW z)))))) (gq (kF (.bl E3))) (RY)
def CG(z:List D->Option D):FS:=bm (Pm (Pe (TH (An (Jq) (Aa (vF 0) (Aa (vF 1) (Aa (vF 2) (af))))))) (gq (kF (.bl E3))) (RY)) (bm (Pm (tu (bF (Nd E3) (vF 3) .(10))) (gq (kF (.bl E2))) (RY)) (bm (im 4 (A_ (vb (bF dq (vF 0) .(10))) ((JS z)) ((JT z)))) (bm (im 5 (A_ (vb (bF dq (vF 1) .(10))) ((JW z)) ((JX z)))) (bm (setW 6 (Mo (af))) (bm (Cs (hW (vF 4)) (Ax 7) ((G3 z))) (bm (XI [6] (Cs (hW (vF 6)) (Ax 8) ((G4 z)))) (bm (Cs (vb (uF NI (vF 5))) (Ax 9) ((GD z))) (gq (kF (.bl E2))))))))))
def Bb:Nat->List D->Option D
 |0=>λ_=>W1
 |n+1=>li 10 4 (CG (Bb n))
def R3:FS:=Pm (tu (bF (Nd E2) (An (R1) (Aa (vF 4) (Aa (vF 5) (Aa (vF 6) (Aa (vF 7) (af)))))) (An (Bb 8) (Aa (vF 1) (Aa (vF 2) (Aa (vF 6) (Aa (vF 7) (af)))))))) (gq (kF (.bl E3))) (RY)
def R4:FS:=Cs (vb (kF (.int 5))) (Ax 7) (R3)
def bw:FS:=bm (asgF (An (JN) (Aa (vF 0) (Aa (kF (.int 3)) (af)))) (NU 3 (Bw 1 (Bw 2 (Bw 3 (NV)))))) (bm (im 4 (mkI "World" (Ca) (Aa (bF dq (vF 1) .(10)) (Aa (bF dq (vF 1) (kF (.int 1))) (Aa (bF dq (vF 1) (kF (.int 2))) (af)))))) (bm (im 5 (mkI "World" (Ca) (Aa (bF dq (vF 2) .(10)) (Aa (bF dq (vF 2) (kF (.int 1))) (Aa (bF dq (vF 2) (kF (.int 2))) (af)))))) (bm (Cs (hW (Mo (Aa (Mo (af)) (Aa (An (Gq) (Aa (slF (vF 0) (Re (kF (.int 17))) (Re (kF (.int 18)))) (Aa (vF 1) (Aa (vF 2) (Aa (vF 3) (af)))))) (Aa (An (Gq) (Aa (slF (vF 0) (Re (kF (.int 17))) (Re (kF (.int 19)))) (Aa (vF 1) (Aa (vF 2) (Aa (vF 3) (af)))))) (af)))))) (Ax 6) (R4)) (gq (kF (.bl E2))))))
def bx:List D->Option D:=li 8 1 bw
end
def top(i:Nat):Stmt:=PySem.Challenge.pw_twinrounds_k42_rounds_gone_through.main.body.getD i (.Pass ⟨0,0,0,0⟩)
abbrev G5:Stmt:=top 39
abbrev RQ:Stmt:=top 32
abbrev P_:Stmt:=top 36
abbrev Hm:Stmt:=top 37
abbrev QB:Stmt:=top 34
abbrev RT:Stmt:=top 33
abbrev Ik:Stmt:=top 35
abbrev Nj:Stmt:=top 40
abbrev Il:Stmt:=top 38
abbrev T7:Stmt:=top 41
abbrev Mr:Stmt:=top 14
abbrev Jr:Stmt:=top 15
abbrev Nk:Stmt:=top 16
abbrev QC:Stmt:=top 17
abbrev Q0:Stmt:=top 13
abbrev KN:Stmt:=ML (top 18) 0
abbrev QD:Stmt:=top 44
abbrev Ja:Stmt:=ML (top 18) 3
abbrev Js:Stmt:=ML (top 18) 4
abbrev Li:Stmt:=top 20
abbrev G6:Stmt:=top 21
abbrev Ol:Stmt:=top 28
abbrev Lj:Stmt:=top 22
abbrev Lk:Stmt:=top 23
abbrev Nm:Stmt:=top 24
abbrev Ms:Stmt:=top 25
abbrev Jt:Stmt:=ML (top 29) 3
abbrev G7:Stmt:=ML (top 29) 4
abbrev Bv:Stmt:=ML (top 29) 5
abbrev GX:Stmt:=ML (top 29) 2
abbrev Q3:Stmt:=top 26
abbrev Ln:Stmt:=ML (top 29) 1
abbrev QF:Stmt:=ML (top 29) 7
abbrev KQ:Stmt:=ML (top 29) 0
abbrev bz:Stmt:=top 30
abbrev QG:Stmt:=top 42
abbrev RV:Stmt:=top 43
abbrev Fd:Stmt:=top 45
abbrev vX:Stmt:=top 46
set_option genInjectivity false in
structure Tx (G:Gx) (mg:Str->Option ac) where
 c_:Addr
 f_:G.cl "World"=X0 c_
 r_:On G.K c_
 s_:mg "World"=X0 (.ref c_)
 w_:Addr
 q0:G.cl "Ranks"=X0 w_
 r0:On G.K w_
 z0:mg "Ranks"=X0 (.ref w_)
 y3:Dx G.K mg "_law_trimmed" G5 ["_law_world_here","_law_most"]
 x4:Dx G.K mg "_law_cell" RQ ["_law_script","_law_k"]
 y4:Dx G.K mg "_law_order" P_ ["_law_cell_here","_law_size"]
 w5:Dx G.K mg "_law_copied" Hm ["_law_one","_law_order_here"]
 x5:Dx G.K mg "_law_words" QB ["_law_cell_here","_law_many"]
 x6:Dx G.K mg "_law_bits" RT ["_law_cell_here","_law_many"]
 h7:Dx G.K mg "_law_world" Ik ["_law_script","_law_start"]
 z7:Dx G.K mg "_law_turned" Nj ["_law_world_here","_law_cell_here"]
 h8:Dx G.K mg "_law_other" Il ["_law_script","_law_start","_law_one","_law_most"]
 t8:Dx G.K mg "_law_two" T7 ["_law_script","_law_most"]
 h9:Dx G.K mg "refuse_above" Mr ["number","most"]
 r9:Dx G.K mg "refuse_no_thing" Jr ["size","thing"]
 MA:Dx G.K mg "kept_things" Nk ["size","things"]
 NA:Dx G.K mg "kept_pairs" QC ["size","pairs"]
 OA:Dx G.K mg "is_word" Q0 ["text"]
 QA:Ix G.K c_ "World.__init__" KN ["self","size","marks","ties"]
 RA:Dx G.K mg "_law_pairs" QD ["_law_cells","_law_one","_law_other_here","_law_order_here"]
 SA:Mx G.K c_ "mark_words" "World.mark_words" Ja ["self"]
 UA:Mx G.K c_ "tie_words" "World.tie_words" Js ["self"]
 VA:Dx G.K mg "refuse_unlike" Li ["one","other"]
 WA:Dx G.K mg "refuse_strange_pairs" G6 ["one","other","pairs"]
 XA:Dx G.K mg "unpaired" Ol ["size","paired"]
 YA:Dx G.K mg "bear_the_same" Lj ["one","other","pair"]
 ZA:Dx G.K mg "lead_the_same" Lk ["one","other","pair","further"]
 lB:Dx G.K mg "go_together" Nm ["one","other","pair","further"]
 MB:Dx G.K mg "fits_with" Ms ["one","other","pairs","further"]
 OB:Mx G.K w_ "rank_with" "Ranks.rank_with" Jt ["self","pairs","further"]
 SB:Mx G.K w_ "best_rank" "Ranks.best_rank" G7 ["self","pairs","choices"]
 TB:Mx G.K w_ "least_rank" "Ranks.least_rank" Bv ["self","pairs"]
 UB:Mx G.K w_ "rank_of_fitting" "Ranks.rank_of_fitting" GX ["self","pairs"]
 WB:Dx G.K mg "all_fit" Q3 ["one","other","pairs"]
 XB:Mx G.K w_ "rank_of" "Ranks.rank_of" Ln ["self","pairs"]
 ZB:Mx G.K w_ "last" "Ranks.last" QF ["self","pairs","count"]
 MC:Ix G.K w_ "Ranks.__init__" KQ ["self","one","other"]
 NC:Dx G.K mg "lasts" bz ["one","other","pairs","count"]
 OC:Dx G.K mg "_law_facts" QG ["_law_world_here","_law_here","_law_there"]
 PC:Dx G.K mg "_law_fits" RV ["_law_one","_law_other_here","_law_pairs_here"]
 SC:Dx G.K mg "_law_lasts" Fd ["_law_one","_law_other_here","_law_rows","_law_count"]
 TC:Dx G.K mg "law" vX ["_law_script"]
 UC:mg "all"=W1
 VC:mg "any"=W1
 WC:mg "enumerate"=W1
 MD:mg "int"=W1
 ND:mg "len"=W1
 PD:mg "list"=W1
 SD:mg "max"=W1
 TD:mg "min"=W1
 UD:mg "range"=W1
 wE:mg "reversed"=W1
 ME:mg "set"=W1
 NE:mg "sorted"=W1
 OE:mg "tuple"=W1
 QE:Sx mg "MOST_LETTERS" (.int 8)
 RE:Sx mg "LETTERS" (.str "abcdefghijklmnopqrstuvwxyz")
 SE:Sx mg "MOST_THINGS" (.int 5)
 UE:Sx mg "MOST_WORDS" (.int 3)
 VE:∀c C,G.cl c=X0 C->On G.K C/\Bd G.K C "size"
 WE:∀c C,G.cl c=X0 C->On G.K C/\Bd G.K C "marked"
 XE:∀c C,G.cl c=X0 C->On G.K C/\Bd G.K C "tied"
 YE:∀c C,G.cl c=X0 C->On G.K C/\Bd G.K C "other"
 ZE:∀c C,G.cl c=X0 C->On G.K C/\Bd G.K C "one"
 NF:∀c C,G.cl c=X0 C->On G.K C/\Bd G.K C "endless"
 OF:∀c C,G.cl c=X0 C->On G.K C/\Bd G.K C "reckoned"
 RF:Kx G mg "KEPT_TEXTS" K42.RF
section
variable {base:Heap}
abbrev CN:List Str:=["_law_world_here","_law_most","_law_marks","_law_ties","_law_word"]
def D_:bc CN ["_law_world_here","_law_most"] (Ab G5):=NN
theorem Rf(T:Tx G mg):PM P w base T.y3 1 (MU G CJ):=
 RH (k:=0) (N:=CN) (b:=Gh) T.y3 D_ λ_ _ _ _ _ _ z=>Ac (CP (tLe (pU (iX z (vp 0) (iP))) (vp 1)) (Af (Ai (vr 0))) (Bx)) (Ac (sW D_.nd 2 (Lg)) (Ac (sW D_.nd 3 (Lg)) (Ac (Ba dc rfl (Aw rfl (iX z (vp 0) (iP))) (BJ (gN D_.nd 4)) (Af (Kq (HB z) (pv 2) (vr 4) (Cq (nT CN "_law_thing") (by show Dh "_law_thing" CN++(["_law_thing"]:List Str)=_;decide +kernel) (cO (N:=CN) (sc:=Ab G5) rfl rfl) rfl (OQ.top (Aw rfl (iX z (pU (iX z (vp 0) (iP))) (vp 4)))) (λ_ _ _=>Ga (tLt (vp 5) (vp 1))) (λ_ _ _=>vr 5))))) (Ac (Ba dc rfl (Aw rfl (iX z (vp 0) (iP))) (BJ (gN D_.nd 4)) (Af (Kq (HB z) (pv 3) (vr 4) (Cq (nT CN "_law_row") (by show Dh "_law_row" CN++(["_law_row"]:List Str)=_;decide +kernel) (cO (N:=CN) (sc:=Ab G5) rfl rfl) rfl (OQ.top (Aw rfl (iX z (pU (iX z (vp 0) (iP))) (vp 4)))) (λ_ _ _=>Ga (VQ.pt (M7 (tLt (pU (iX z (vp 5) (iP))) (vp 1)) (Iz (tLt (pU (iX z (vp 5) (iP))) (vp 1)))))) (λ_ _ _=>vr 5))))) (Af (Hy [2,3] (Ai (GF (fc 1 (fc 2 (fc 3 (Ad))))))))))))
abbrev RW:List Str:=["_law_script","_law_k"]
def Wf:bc RW ["_law_script","_law_k"] (Ab RQ):=NN
theorem Bm(T:Tx G mg):PM P w base T.x4 1 (MU G Ar):=
 RH (k:=0) (N:=RW) (b:=Jp) T.x4 Wf λ_ _ _ _ _ _ z=>Ac (CP (tLt (vp 1) (pU (BX (Cv rfl) Rm rfl T.ND Hx (vp 0)))) (Af (Ai (iD (vp 0) (vp 1)))) (Bx)) (Af (Ai (S8)))
abbrev QH:List Str:=["_law_cell_here","_law_size","_law_things","_law_found"]
def Hn:bc QH ["_law_cell_here","_law_size"] (Ab P_):=NN
theorem Uv(T:Tx G mg):PM P w base T.y4 1 (MU G Ih):=
 RH (k:=0) (N:=QH) (b:=K5) T.y4 Hn λ_ _ _ _ _ _ z=>Ac (sW Hn.nd 2 (sV rfl T.PD rfl T.UD (vp 1))) (Ac (sW Hn.nd 3 (Oa (Ad))) (Ac (dw 60 dc (tNe z (vq 2) (pU (GF (Ad)))) (Ac (tR (pv 3) (m_ (pv 2) (ui (vp 0) (pU (BX (Cv rfl) Rm rfl T.ND Hx (vq 2)))))) (Af (sF Hn.nd 0 (Nw (vp 0) (pU (MW (pU (BX (Cv rfl) Rm rfl T.ND Hx (vq 2))) (iP)))))))) (Af (Hy [3] (Ai (vr 3))))))
abbrev Df:List Str:=["_law_one","_law_order_here","_law_marks","_law_ties","_law_word"]
def Et:bc Df ["_law_one","_law_order_here"] (Ab Hm):=NN
theorem T8(T:Tx G mg):PM P w base T.w5 1 (spM G J1):=
 fnM (k:=0) (N:=Df) (b:=Hi) T.w5 Et λ_ _ _ _ _ _ z=>Dz (Fj (sW Et.nd 2 (Lg))) (Dz (Fj (sW Et.nd 3 (Lg))) (Dz (bV dc rfl (bZ rfl rfl T.wE (M8 ((O4.or (PP rfl)).or (Pa rfl)) VJ rfl T.PD Rn (pU (iX z (vp 0) (iP))))) (BJ (gN Et.nd 4)) (Jo (X8 (HB z) (pv 2) (vr 4) (bW (tU (nT Df "_law_thing") (by show Dh "_law_thing" Df++(["_law_thing"]:List Str)=_;decide +kernel) (cO (N:=Df) (sc:=Ab Hm) rfl rfl) rfl (OQ.top (Aw rfl (iX z (pU (iX z (vp 0) (iP))) (vp 4)))) (λ_ _ _=>C_) (λ_ _ _=>iX z (vp 1) (vp 5))))))) (Dz (bV dc rfl (bZ rfl rfl T.wE (M8 ((O4.or (PP rfl)).or (Pa rfl)) VJ rfl T.PD Rn (pU (iX z (vp 0) (iP))))) (BJ (gN Et.nd 4)) (Jo (X8 (HB z) (pv 3) (vr 4) (bW (YD ["_law_one","_law_order_here","_law_marks","_law_ties","_law_word","_law_here","_law_there"] (by show Br ["_law_here","_law_there"] Df++(["_law_here","_law_there"]:List Str)=_;decide +kernel) (cO2 (N:=Df) (sc:=Ab Hm) rfl rfl) rfl rfl (OQ.top (Aw rfl (iX z (pU (iX z (vp 0) (iP))) (vp 4)))) (λ_ _ _=>C_) (λ_ _ _=>I_ (Ae (iX z (vp 1) (vp 5)) (Ae (iX z (vp 1) (vp 6)) (Ad) Ak) Ak))))))) (Jo (Fj (Hy [2,3] (Ai (GF (Ae (iX z (vp 0) (iP)) (fc 2 (fc 3 (Ad))) Ak)))))))))
abbrev QJ:List Str:=["_law_cell_here","_law_many","_law_letters","_law_number","_law_long","_law_at","_law_found","_law_k","_law_word","_law_j","_law_place"]
def BP:bc QJ ["_law_cell_here","_law_many"] (Ab QB):=NN
theorem Uw(T:Tx G mg):PM P w base T.x5 1 (MU G Ii):=
 RH (k:=0) (N:=QJ) (b:=K6) T.x5 BP λ_ _ _ _ _ _ z=>Ac (sF BP.nd 2 (Vx)) (Ac (sF BP.nd 3 (ui (vp 0) (iP))) (Ac (sF BP.nd 4 (MW (iP) (pU (ui (vp 3) (iP))))) (Ac (sF BP.nd 5 (ui (pU (Nw (vp 3) (iP))) (vp 4))) (Ac (sW BP.nd 6 (Oa (Ad))) (Ac (Ba dc rfl (Dp rfl T.UD (vp 1)) (BJ (gN BP.nd 7)) (Ac (sF BP.nd 8 (Vx)) (Ac (Ba dc rfl (Dp rfl T.UD (vp 4)) (BJ (gN BP.nd 9)) (Ac (sF BP.nd 10 (MW (pU (MW (pU (Nw (vp 3) (pU (MW (vp 9) (iP))))) (pU (UX (vp 9) (vp 9))))) (pU (UX (pU (M8 U5 aC rfl T.MD jM (pU (cEq z (vp 9) (vp 5))))) (vp 7))))) (Af (sF BP.nd 8 (MW (vp 8) (pU (iX z (vp 2) (pU (ui (vp 10) (iP)))))))))) (Ac (CP (tIn z (vp 8) (pU (GF (iS (iS (iS (iS (iS (Ad))))))))) (Af (sF BP.nd 8 (MW (vp 8) (sP)))) (Bx)) (Af (Jj (pv 6) (vr 8))))))) (Af (Hy [6] (Ai (vr 6)))))))))
abbrev RX:List Str:=["_law_cell_here","_law_many","_law_found","_law_number","_law_k"]
def G8:bc RX ["_law_cell_here","_law_many"] (Ab RT):=NN
theorem Im(T:Tx G mg):PM P w base T.x6 1 (MU G Em):=
 RH (k:=0) (N:=RX) (b:=Mi) T.x6 G8 λ_ _ _ _ _ _ z=>Ac (sW G8.nd 2 (Oa (Ad))) (Ac (sF G8.nd 3 (ui (pU (Nw (vp 0) (iP))) (iP))) (Ac (Ba dc rfl (Dp rfl T.UD (vp 1)) (BJ (gN G8.nd 4)) (Af (CP (tEq z (pU (ui (vp 0) (iP))) (iP)) (Af (Jj (pv 2) (cEq z (pU (ui (pU (Nw (pU (Nw (vp 0) (iP))) (pU (N8 qb qi (iP) (vp 4))))) (iP))) (iP)))) (Ac (sF G8.nd 3 (ui (pU (MW (pU (MW (pU (MW (pU (UX (vp 3) (vp 3))) (pU (UX (iP) (vp 3))))) (vp 4))) (iP))) (iP))) (Af (Jj (pv 2) (cEq z (pU (ui (pU (Nw (vp 3) (iP))) (pU (UX (iP) (pU (ui (vp 0) (iP))))))) (iP)))))))) (Af (Hy [2] (Ai (vr 2))))))
abbrev DW:List Str:=["_law_script","_law_start","_law_cell_here","_law_size","_law_many","_law_words_here","_law_marks","_law_ties","_law_k","_law_bits_here"]
def Be:bc DW ["_law_script","_law_start"] (Ab Ik):=NN
theorem Ux(T:Tx G mg):PM P w base T.h7 2 (MU G Gi):=
 RH (k:=1) (N:=DW) (b:=K7) T.h7 Be λ_ _ _ _ _ _ z=>Ac (sF Be.nd 2 (fX (Bm T) z (fc 0 (fc 1 (Ad))))) (Ac (sF Be.nd 3 (iX z (pU (GF (Ae (ui (pU (Nw (vp 2) (iP))) (iP)) (iI (Ad)) CT))) (pU (M8 U5 aC rfl T.MD jM (pU (cEq z (pU (ui (pU (Nw (vp 2) (iP))) (iP))) (iP))))))) (Ac (sF Be.nd 4 (ui (vp 2) (iP))) (Ac (sF Be.nd 5 (fX (Uw T) z (Ae (fX (Bm T) z (fc 0 (Ae (MW (vp 1) (iP)) (Ad) CT))) (Ae (MW (vp 4) (pU (ui (pU (Nw (vp 2) (iP))) (iP)))) (Ad) CT) Ei))) (Ac (sW Be.nd 6 (Lg)) (Ac (sW Be.nd 7 (Lg)) (Ac (Ba dc rfl (Dp rfl T.UD (pU (BX ((Cv rfl).or Dr) Gb rfl T.ND Hx (vp 5)))) (BJ (gN Be.nd 8)) (Af (CP (tLt (vp 8) (vp 4)) (Ac (sF Be.nd 9 (fX (Im T) z (Ae (fX (Bm T) z (fc 0 (Ae (MW (pU (MW (vp 1) (iP))) (vp 8)) (Ad) CT))) (fc 3 (Ad)) Ei))) (Af (Kq (HB z) (pv 6) (iX z (vp 5) (vp 8)) (Cq (nT DW "_law_thing") (by show Dh "_law_thing" DW++(["_law_thing"]:List Str)=_;decide +kernel) (cO (N:=DW) (sc:=Ab Ik) rfl rfl) rfl (Dp rfl T.UD (vp 3)) (λ_ _ _=>Ga (Ew (pU (iX z (vp 9) (vp 10))) rfl)) (λ_ _ _=>vr 10))))) (Ac (sF Be.nd 9 (fX (Im T) z (Ae (fX (Bm T) z (fc 0 (Ae (bSub (pU (MW (pU (MW (vp 1) (iP))) (vp 8))) (vp 4)) (Ad) CT))) (Ae (UX (vp 3) (vp 3)) (Ad) CT) Ei))) (Af (Kq (HB z) (pv 7) (iX z (vp 5) (vp 8)) (Cq (nT DW "_law_at") (by show Dh "_law_at" DW++(["_law_at"]:List Str)=_;decide +kernel) (cO (N:=DW) (sc:=Ab Ik) rfl rfl) rfl (Dp rfl T.UD (pU (UX (vp 3) (vp 3)))) (λ_ _ _=>Ga (Ew (pU (iX z (vp 9) (vp 10))) rfl)) (λ_ _ _=>I_ (Ae (Nw (vp 10) (vp 3)) (Ae (ui (vp 10) (vp 3)) (Ad) CT) CT))))))))) (Af (Hy [6,7] (Ai (GF (fc 3 (fc 6 (fc 7 (Ad))))))))))))))
abbrev Np:List Str:=["_law_world_here","_law_cell_here","_law_rows","_law_thing","_law_row"]
def Cm:bc Np ["_law_world_here","_law_cell_here"] (Ab Nj):=NN
theorem T9(T:Tx G mg):PM P w base T.z7 1 (spM G J2):=
 fnM (k:=0) (N:=Np) (b:=Hj) T.z7 Cm λ_ _ _ _ _ _ z=>Dz (Fj (sF Cm.nd 2 (bu rfl rfl T.PD (iX z (vp 0) (iP))))) (Dz (Fj (CP (VQ.pt (M7 (tNeF z (vp 2) (pU (GF (Ad)))) (M7 (tGt (pU (iX z (vp 0) (iP))) (iP)) (Iz (VQ.pt (Qh (tEqF z (pU (ui (vp 1) (iP))) (iP)) (J9 (tEqF z (pU (iX z (vp 0) (iP))) (pU (uw)))))))))) (Ac (sF Cm.nd 3 (ui (pU (Nw (vp 1) (iP))) (pU (iX z (vp 0) (iP))))) (Af (sF Cm.nd 4 (iX z (vp 2) (pU (ui (pU (Nw (vp 1) (iP))) (pU (BX ((Cv rfl).or Dr) Gb rfl T.ND Hx (vp 2))))))))) (Af (CP (VQ.pt (M7 (tNeF z (pU (iX z (vp 0) (iP))) (pU (uw))) (Iz (tGt (pU (iX z (vp 0) (iP))) (iP))))) (Ac (sF Cm.nd 2 (bu rfl rfl T.PD (iX z (vp 0) (iP)))) (Ac (sF Cm.nd 3 (I_ (Ae (ui (pU (Nw (vp 1) (iP))) (pU (iX z (vp 0) (iP)))) (Ae (ui (pU (Nw (vp 1) (iP))) (pU (iX z (vp 0) (iP)))) (Ad) CT) CT))) (Af (sF Cm.nd 4 (iX z (vp 2) (pU (ui (pU (Nw (vp 1) (iP))) (pU (BX ((Cv rfl).or Dr) Gb rfl T.ND Hx (vp 2)))))))))) (Af (jF)))))) (Jo (mW [4] (tIn z (vp 3) (vq 4)) (Jo (T4 (mRem [] z (pv 4) (fc 3 (Ad))))) (Jo (T4 (mApp [] (pv 4) (fc 3 (Ad))))))))
abbrev DX:List Str:=["_law_script","_law_start","_law_one","_law_most","_law_size","_law_marks","_law_ties","_law_k","_law_word","_law_bits_here"]
def BZ:bc DX ["_law_script","_law_start","_law_one","_law_most"] (Ab Il):=NN
theorem Uy(T:Tx G mg):PM P w base T.h8 2 (MU G Gm):=
 RH (k:=1) (N:=DX) (b:=K8) T.h8 BZ λ_ _ _ _ _ _ z=>Ac (sF BZ.nd 4 (iX z (pU (GF (Ae (iX z (vp 2) (iP)) (Ae (ui (pU (Nw (pU (fX (Bm T) z (fc 0 (fc 1 (Ad))))) (iP))) (pU (MW (vp 3) (iP)))) (Ad) CT) Ak))) (pU (ui (pU (Nw (pU (fX (Bm T) z (fc 0 (fc 1 (Ad))))) (iP))) (iP))))) (Ac (sW BZ.nd 5 (Lg)) (Ac (sW BZ.nd 6 (Lg)) (Ac (sF BZ.nd 7 (vr 1)) (Ac (Ba dc rfl (Aw rfl (iX z (vp 2) (iP))) (BJ (gN BZ.nd 8)) (Ac (sF BZ.nd 7 (MW (vp 7) (iP))) (Ac (sF BZ.nd 9 (fX (Im T) z (Ae (fX (Bm T) z (fc 0 (fc 7 (Ad)))) (fc 4 (Ad)) Ei))) (Af (Kq (HB z) (pv 5) (vr 8) (Cq (nT DX "_law_thing") (by show Dh "_law_thing" DX++(["_law_thing"]:List Str)=_;decide +kernel) (cO (N:=DX) (sc:=Ab Il) rfl rfl) rfl (Dp rfl T.UD (vp 4)) (λ_ _ _=>Ga (Ew (pU (iX z (vp 9) (vp 10))) rfl)) (λ_ _ _=>vr 10))))))) (Ac (Ba dc rfl (Aw rfl (iX z (vp 2) (iP))) (BJ (gN BZ.nd 8)) (Ac (sF BZ.nd 7 (MW (vp 7) (iP))) (Ac (sF BZ.nd 9 (fX (Im T) z (Ae (fX (Bm T) z (fc 0 (fc 7 (Ad)))) (Ae (UX (vp 4) (vp 4)) (Ad) CT) Ei))) (Af (Kq (HB z) (pv 6) (vr 8) (Cq (nT DX "_law_at") (by show Dh "_law_at" DX++(["_law_at"]:List Str)=_;decide +kernel) (cO (N:=DX) (sc:=Ab Il) rfl rfl) rfl (Dp rfl T.UD (pU (UX (vp 4) (vp 4)))) (λ_ _ _=>Ga (Ew (pU (iX z (vp 9) (vp 10))) rfl)) (λ_ _ _=>I_ (Ae (Nw (vp 10) (vp 4)) (Ae (ui (vp 10) (vp 4)) (Ad) CT) CT)))))))) (Af (Hy [5,6] (Ai (GF (fc 4 (fc 5 (fc 6 (Ad)))))))))))))
abbrev T_:List Str:=["_law_script","_law_most","_law_one","_law_cell_here","_law_order_here","_law_other_here"]
def Hu:bc T_ ["_law_script","_law_most"] (Ab T7):=NN
theorem YF(T:Tx G mg):PM P w base T.t8 3 (MU G JN):=
 fnDM (k:=2) (N:=T_) (b:=Dt) T.t8 Hu λ_ _ _ _ _ _ z=>Dz (Fj (sF Hu.nd 2 (fX (Rf T) z (Ae (fX (Ux T) z (fc 0 (iI (Ad)))) (fc 1 (Ad)) Ei)))) (Dz (Fj (sF Hu.nd 3 (fX (Bm T) z (fc 0 (iI (Ad)))))) (Dz (Fj (sF Hu.nd 4 (fX (Uv T) z (Ae (fX (Bm T) z (fc 0 (iI (Ad)))) (Ae (iX z (vp 2) (iP)) (Ad) Ak) Ei)))) (Dz (Fj (CP (tEq z (pU (ui (vp 3) (iP))) (iP)) (Af (Ai (GF (fc 2 (Ae (fX (Uy T) z (fc 0 (iI (fc 2 (fc 1 (Ad)))))) (fc 4 (Ad)) Ei))))) (Bx))) (Dz (sXM Hu.nd 5 (fM (T8 T) z (fc 2 (fc 4 (Ad))))) (Dz (mW [] (tEq z (pU (ui (vp 3) (iP))) (iP)) (Jo (T4 (fM (T9 T) z (fc 5 (Ae (fX (Bm T) z (fc 0 (iI (Ad)))) (Ad) Ei))))) (tH)) (Jo (tK 3 (Fj (Ai (GF (fc 2 (fc 5 (fc 4 (Ad))))))))))))))
abbrev Mt:List Str:=["number","most"]
def Rg:bc Mt ["number","most"] (Ab Mr):=NN
theorem Ia(T:Tx G mg):PM P w base T.h9 1 (MU G Bk):=
 RH (k:=0) (N:=Mt) (b:=JP) T.h9 Rg λ_ _ _ _ _ _ z=>Af (CP (tGt (vp 0) (vp 1)) (Af (KC)) (Bx))
abbrev Ju:List Str:=["size","thing"]
def Om:bc Ju ["size","thing"] (Ab Jr):=NN
theorem Cp(T:Tx G mg):PM P w base T.r9 1 (MU G BR):=
 RH (k:=0) (N:=Ju) (b:=Gn) T.r9 Om λ_ _ _ _ _ _ z=>Af (CP (VQ.pt (Qh (tLt (vp 1) (iP)) (J9 (tGe (vp 1) (vp 0))))) (Af (KC)) (Bx))
abbrev Nq:List Str:=["size","things","kept","thing"]
def Jb:bc Nq ["size","things"] (Ab Nk):=NN
theorem UG(T:Tx G mg):PM P w base T.MA 2 (MU G Ea):=
 RH (k:=1) (N:=Nq) (b:=J3) T.MA Jb λ_ _ _ _ _ _ z=>Ac (sW Jb.nd 2 (Lg)) (Ac (Ba dc rfl (Aw rfl (vr 1)) (BJ (gN Jb.nd 3)) (Ac (Fi (fX (Cp T) z (fc 0 (fc 3 (Ad))))) (Af (Kq (HB z) (pv 2) (vr 3) (HF))))) (Af (Hy [2] (Ai (vr 2)))))
abbrev QK:List Str:=["size","pairs","kept","one","other"]
def Ho:bc QK ["size","pairs"] (Ab QC):=NN
theorem Uz(T:Tx G mg):PM P w base T.NA 2 (MU G FJ):=
 RH (k:=1) (N:=QK) (b:=K9) T.NA Ho λ_ _ _ _ _ _ z=>Ac (sW Ho.nd 2 (AAH)) (Ac (Ba dc rfl (Aw rfl (vr 1)) (PL rfl rfl (Dj (gN Ho.nd 3) (Dj (gN Ho.nd 4) (MK)))) (Ac (Fi (fX (Cp T) z (fc 0 (fc 3 (Ad))))) (Ac (Fi (fX (Cp T) z (fc 0 (fc 4 (Ad))))) (Af (jU (HB z) (pv 2) (fc 3 (fc 4 (Ad))) (HF)))))) (Af (Hy [2] (Ai (vr 2)))))
abbrev KR:List Str:=["text"]
def Zf:bc KR ["text"] (Ab Q0):=NN
theorem UJ(T:Tx G mg):PM P w base T.OA 1 (MU G FN):=
 RH (k:=0) (N:=KR) (b:=Qy) T.OA Zf λ_ _ _ _ _ _ z=>Ac (CP (VQ.pt (Qh (tIn z (vp 0) (pU (Ko (M5 (v:=.ref T.RF.a) rfl T.RF.m rfl) T.RF.r))) (Qh (tEq z (pU (BX ((Cv rfl).or Dr) Gb rfl T.ND Hx (vp 0))) (iP)) (J9 (tGt (pU (BX ((Cv rfl).or Dr) Gb rfl T.ND Hx (vp 0))) (pU (Ko (M5 (v:=(.int 8)) rfl T.QE.m ⟨_,rfl⟩) (.int _)))))))) (Af (Ai (HF))) (Bx)) (Af (Ai (BX (Qn rfl) V7 rfl T.UC ZG (pU (Cq (nT KR "letter") (by show Dh "letter" KR++(["letter"]:List Str)=_;decide +kernel) (cO (N:=KR) (sc:=Ab Q0) rfl rfl) rfl (OQ.top (Aw rfl (vr 0))) (λ_ _ _=>C_) (λ_ _ _=>cIn z (vp 1) (pU (Ko (M5 (v:=(.str "abcdefghijklmnopqrstuvwxyz")) rfl T.RE.m ⟨_,rfl⟩) (.str _)))))))))
abbrev KY:List Str:=["self","size","marks","ties","word","things","pairs"]
def DY:bc KY ["self","size","marks","ties"] (Ab KN):=NN
theorem Jv(T:Tx G mg):kr P w G.K mg base CX0 3 T.QA.f T.QA.fd ["self","size","marks","ties"] (spI G "World" Ca):=
 fn_I (c:="World") (k:=2) (N:=KY) (b:=HS) T.QA.F DY .(2) λJ A I s H E z=>Dy (Tf (Fi (fX (Ia T) z (fc 1 (Ae (Ko (M5 (v:=(.int 5)) rfl T.SE.m ⟨_,rfl⟩) (.int _)) (Ad) Ry)))) WF) (Dy (Tf (Fi (fX (Ia T) z (Ae (BX ((Cv rfl).or Dr) Gb rfl T.ND Hx (vp 2)) (Ae (Ko (M5 (v:=(.int 3)) rfl T.UE.m ⟨_,rfl⟩) (.int _)) (Ad) Ry) Ei))) WF) (Dy (Tf (Fi (fX (Ia T) z (Ae (BX ((Cv rfl).or Dr) Gb rfl T.ND Hx (vp 3)) (Ae (Ko (M5 (v:=(.int 3)) rfl T.UE.m ⟨_,rfl⟩) (.int _)) (Ad) Ry) Ei))) WF) (Dy (MT T.VE (pv 0) (vr 1)) (Dy (Xm T.WE (pv 0) Lg) (Dy (Xm T.XE (pv 0) Lg) (Dy (ak dc rfl (VH (top:=E3) (vr 2)) (PL rfl rfl (Dj (gN DY.nd 4) (Dj (gN DY.nd 5) (MK)))) (km (Rr .(2) (Rr .(2) (kh)))) (Xk (kZ (Xl (Ji (Ew (pU (fX (UJ T) z (fc 4 (Ad)))) rfl))) (Af KC)) (aj (Xn (HB z) T.WE (pv 0) (vr 4) (fX (UG T) z (fc 1 (fc 5 (Ad)))))))) (Dy (ak dc rfl (VH (top:=E3) (vr 3)) (PL rfl rfl (Dj (gN DY.nd 4) (Dj (gN DY.nd 6) (MK)))) (km (Rr .(2) (Rr .(2) (kh)))) (Xk (kZ (PWE.pt (xX (Xl (Ji (Ew (pU (fX (UJ T) z (fc 4 (Ad)))) rfl))) (rK (xZ (HB z) T.WE (pv 0) (vr 4))))) (Af KC)) (aj (Xn (HB z) T.XE (pv 0) (vr 4) (fX (Uz T) z (fc 1 (fc 6 (Ad)))))))) (aq))))))))
abbrev QL:List Str:=["_law_cells","_law_one","_law_other_here","_law_order_here","_law_found","_law_cell_here","_law_here","_law_there"]
def Eb:bc QL ["_law_cells","_law_one","_law_other_here","_law_order_here"] (Ab QD):=NN
theorem Nr(T:Tx G mg):PM P w base T.RA 1 (MU G Gq):=
 RH (k:=0) (N:=QL) (b:=K_) T.RA Eb λ_ _ _ _ _ _ z=>Ac (sW Eb.nd 4 (Oa (Ad))) (Ac (Ba dc rfl (Aw rfl (vr 0)) (BJ (gN Eb.nd 5)) (Af (CP (VQ.pt (M7 (tGt (pU (iX z (vp 1) (iP))) (iP)) (Iz (tGt (pU (iX z (vp 2) (iP))) (iP))))) (Ac (sF Eb.nd 6 (ui (pU (Nw (vp 5) (iP))) (pU (iX z (vp 1) (iP))))) (Ac (sF Eb.nd 7 (ui (pU (Nw (vp 5) (iP))) (pU (iX z (vp 2) (iP))))) (Ac (CP (VQ.pt (M7 (tEq z (pU (ui (vp 5) (iP))) (iP)) (Iz (tEq z (pU (iX z (vp 1) (iP))) (pU (iX z (vp 2) (iP))))))) (Af (sF Eb.nd 7 (iX z (vp 3) (vp 6)))) (Bx)) (Af (Jj (pv 4) (I_ (fc 6 (fc 7 (Ad))))))))) (Bx)))) (Af (Hy [4] (Ai (vr 4)))))
abbrev Jc:List Str:=["self"]
def NT:bc Jc ["self"] (Ab Ja):=NN
theorem Ib(T:Tx G mg):kr P w G.K mg base CX0 1 T.SA.f T.SA.fd ["self"] (MU G Cj):=
 WH (k:=0) (N:=Jc) (b:=GJ) T.SA.F NT .(2) λ_ _ _ _ _ _ z=>Af (Ai (BX (Hh rfl) Rw rfl T.NE Io (pU (Cd T.WE (vp 0)))))
abbrev Jw:List Str:=["self"]
def Oo:bc Jw ["self"] (Ab Js):=NN
theorem Jd(T:Tx G mg):kr P w G.K mg base CX0 1 T.UA.f T.UA.fd ["self"] (MU G DP):=
 WH (k:=0) (N:=Jw) (b:=Gr) T.UA.F Oo .(2) λ_ _ _ _ _ _ z=>Af (Ai (BX (Hh rfl) Rw rfl T.NE Io (pU (Cd T.XE (vp 0)))))
abbrev Lp:List Str:=["one","other"]
def Q4:bc Lp ["one","other"] (Ab Li):=NN
theorem Q5(T:Tx G mg):PM P w base T.VA 2 (MU G Fz):=
 RH (k:=1) (N:=Lp) (b:=H_) T.VA Q4 λ_ _ _ _ _ _ z=>Af (CP (VQ.pt (Qh (tNe z (pU (mO T.f_ T.r_ (Ib T) z (vr 0))) (pU (mO T.f_ T.r_ (Ib T) z (vr 1)))) (J9 (tNe z (pU (mO T.f_ T.r_ (Jd T) z (vr 0))) (pU (mO T.f_ T.r_ (Jd T) z (vr 1))))))) (Af (KC)) (Bx))
abbrev G9:List Str:=["one","other","pairs","first","second"]
def Dl:bc G9 ["one","other","pairs"] (Ab G6):=NN
theorem KZ(T:Tx G mg):PM P w base T.WA 3 (MU G CV):=
 RH (k:=2) (N:=G9) (b:=Du) T.WA Dl λ_ _ _ _ _ _ z=>Ac (Fi (fX (Q5 T) z (fc 0 (fc 1 (Ad))))) (Af (Ba dc rfl (Aw rfl (vr 2)) (PL rfl rfl (Dj (gN Dl.nd 3) (Dj (gN Dl.nd 4) (MK)))) (Ac (Fi (fX (Cp T) z (Ae (Cd T.VE (vp 0)) (fc 3 (Ad)) DN))) (Af (Fi (fX (Cp T) z (Ae (Cd T.VE (vp 1)) (fc 4 (Ad)) DN)))))))
abbrev Je:List Str:=["size","paired"]
def YG:bc Je ["size","paired"] (Ab Ol):=NN
theorem RZ(T:Tx G mg):PM P w base T.XA 1 (MU G JQ):=
 RH (k:=0) (N:=Je) (b:=Oj) T.XA YG λ_ _ _ _ _ _ z=>Af (Ai (Cq (nT Je "thing") (by show Dh "thing" Je++(["thing"]:List Str)=_;decide +kernel) (cO (N:=Je) (sc:=Ab Ol) rfl rfl) rfl (Dp rfl T.UD (vp 0)) (λ_ _ _=>Ga (tNi z (vp 2) (vp 1))) (λ_ _ _=>vr 2)))
abbrev Lq:List Str:=["one","other","pair","word"]
def Ka:bc Lq ["one","other","pair"] (Ab Lj):=NN
theorem Q6(T:Tx G mg):PM P w base T.YA 1 (MU G F_):=
 RH (k:=0) (N:=Lq) (b:=IK) T.YA Ka λ_ _ _ _ _ _ z=>Ac (Ba dc rfl (Aw rfl (Cd T.WE (vp 0))) (BJ (gN Ka.nd 3)) (Af (CP (tNe z (pU (cIn z (pU (iX z (vp 2) (iP))) (pU (iX z (pU (Cd T.WE (vp 0))) (vp 3))))) (pU (cIn z (pU (iX z (vp 2) (iP))) (pU (iX z (pU (Cd T.WE (vp 1))) (vp 3)))))) (Af (Ai (HF))) (Bx)))) (Af (Ai (HF)))
abbrev Lr:List Str:=["one","other","pair","further","word"]
def Kc:bc Lr ["one","other","pair","further"] (Ab Lk):=NN
theorem HX(T:Tx G mg):PM P w base T.ZA 1 (MU G Cw):=
 RH (k:=0) (N:=Lr) (b:=IV) T.ZA Kc λ_ _ _ _ _ _ z=>Ac (Ba dc rfl (Aw rfl (Cd T.XE (vp 0))) (BJ (gN Kc.nd 4)) (Af (CP (tNe z (pU (mL z (Ae (iX z (vp 2) (iP)) (Ae (iX z (vp 3) (iP)) (Ad) Ak) Ak) (pU (iX z (pU (Cd T.XE (vp 0))) (vp 4))))) (pU (mL z (Ae (iX z (vp 2) (iP)) (Ae (iX z (vp 3) (iP)) (Ad) Ak) Ak) (pU (iX z (pU (Cd T.XE (vp 1))) (vp 4)))))) (Af (Ai (HF))) (Bx)))) (Af (Ai (HF)))
abbrev Nu:List Str:=["one","other","pair","further"]
def UL:bc Nu ["one","other","pair","further"] (Ab Nm):=NN
theorem UT(T:Tx G mg):PM P w base T.lB 2 (MU G Hk):=
 RH (k:=1) (N:=Nu) (b:=J4) T.lB UL λ_ _ _ _ _ _ z=>Ac (CP (tNe z (pU (cEq z (pU (iX z (vp 2) (iP))) (pU (iX z (vp 3) (iP))))) (pU (cEq z (pU (iX z (vp 2) (iP))) (pU (iX z (vp 3) (iP)))))) (Af (Ai (HF))) (Bx)) (Af (Ai (xH (fX (HX T) z (fc 0 (fc 1 (fc 2 (fc 3 (Ad)))))) (ig (fX (HX T) z (fc 0 (fc 1 (fc 3 (fc 2 (Ad))))))))))
abbrev Hv:List Str:=["one","other","pairs","further"]
def Wg:bc Hv ["one","other","pairs","further"] (Ab Ms):=NN
theorem QM(T:Tx G mg):PM P w base T.MB 3 (MU G Ht):=
 RH (k:=2) (N:=Hv) (b:=Mm) T.MB Wg λ_ _ _ _ _ _ z=>Ac (CP (VQ.pt (Qh (Ji (Ew (pU (fX (Q6 T) z (fc 0 (fc 1 (fc 3 (Ad)))))) rfl)) (J9 (Ji (Ew (pU (fX (HX T) z (fc 0 (fc 1 (fc 3 (fc 3 (Ad))))))) rfl))))) (Af (Ai (HF))) (Bx)) (Af (Ai (BX (Qn rfl) V7 rfl T.UC ZG (pU (Cq (nT Hv "pair") (by show Dh "pair" Hv++(["pair"]:List Str)=_;decide +kernel) (cO (N:=Hv) (sc:=Ab Ms) rfl rfl) rfl (OQ.top (Aw rfl (vr 2))) (λ_ _ _=>C_) (λ_ _ _=>fX (UT T) z (fc 0 (fc 1 (fc 4 (fc 3 (Ad)))))))))))
abbrev Jx:List Str:=["self","pairs","further"]
def Oq:bc Jx ["self","pairs","further"] (Ab Jt):=NN
theorem Ot(T:Tx G mg){m:Nat}{z:List D->Option D}(L:3<=m)(I:kr P w G.K mg base CX0 m T.UB.f T.UB.fd ["self","pairs"] (MU G z)):kr P w G.K mg base CX0 (m+1) T.OB.f T.OB.fd ["self","pairs","further"] (MU G (Bl z)):=
 WH (k:=m+0) (N:=Jx) (b:=Gv z) T.OB.F Oq .(2) λ_ _ _ _ _ _ J=>Ac (CP (Ji (Ew (pU (fX (QM T) J (Ae (Cd T.ZE (vp 0)) (Ae (Cd T.YE (vp 0)) (fc 1 (fc 2 (Ad))) DN) DN))) rfl)) (Af (Ai (S8))) (Bx)) (Af (Ai (mA T.q0 T.r0 (I) J (vr 0) (Ae (yG rfl rfl rfl T.OE Xj rfl T.NE Io (pU (N8 tG mU (vp 1) (pU (I_ (fc 2 (Ad))))))) (Ad) Ei))))
abbrev Dc:List Str:=["self","pairs","choices"]
def Ou:bc Dc ["self","pairs","choices"] (Ab G7):=NN
theorem Jf(T:Tx G mg){m:Nat}{z:List D->Option D}(L:3<=m)(I:kr P w G.K mg base CX0 m T.UB.f T.UB.fd ["self","pairs"] (MU G z)):kr P w G.K mg base CX0 (m+2) T.SB.f T.SB.fd ["self","pairs","choices"] (MU G (Ay z)):=
 WH (k:=m+1) (N:=Dc) (b:=Gw z) T.SB.F Ou .(2) λ_ _ _ _ _ _ J=>Af (Ai (q8 rfl rfl rfl T.SD jK (pU (Cq (nT Dc "further") (by show Dh "further" Dc++(["further"]:List Str)=_;decide +kernel) (cO (N:=Dc) (sc:=Ab G7) rfl rfl) rfl (OQ.top (Aw rfl (vr 2))) (λ_ _ _=>C_) (λ_ _ _=>mA T.q0 T.r0 (Ot T .(0) (I)) J (vr 0) (fc 1 (fc 3 (Ad)))))) (S8)))
abbrev Aq:List Str:=["self","pairs","firsts","seconds","reached","first","second"]
def Bp:bc Aq ["self","pairs"] (Ab Bv):=NN
theorem NZ(T:Tx G mg){m:Nat}{z:List D->Option D}(L:3<=m)(I:kr P w G.K mg base CX0 m T.UB.f T.UB.fd ["self","pairs"] (MU G z)):kr P w G.K mg base CX0 (m+3) T.TB.f T.TB.fd ["self","pairs"] (MU G (Ck z)):=
 WH (k:=m+2) (N:=Aq) (b:=GK z) T.TB.F Bp .(2) λ_ _ _ _ _ _ J=>Ac (sF Bp.nd 2 (fX (RZ T) J (Ae (Cd T.VE (pU (Cd T.ZE (vp 0)))) (Ae (Cq (nT Aq "pair") (by show Dh "pair" Aq++(["pair"]:List Str)=_;decide +kernel) (cO (N:=Aq) (sc:=Ab Bv) rfl rfl) rfl (OQ.top (Aw rfl (vr 1))) (λ_ _ _=>C_) (λ_ _ _=>iX J (vp 7) (iP))) (Ad) Jm) DN))) (Ac (sF Bp.nd 3 (fX (RZ T) J (Ae (Cd T.VE (pU (Cd T.YE (vp 0)))) (Ae (Cq (nT Aq "pair") (by show Dh "pair" Aq++(["pair"]:List Str)=_;decide +kernel) (cO (N:=Aq) (sc:=Ab Bv) rfl rfl) rfl (OQ.top (Aw rfl (vr 1))) (λ_ _ _=>C_) (λ_ _ _=>iX J (vp 7) (iP))) (Ad) Jm) DN))) (Ac (sW Bp.nd 4 (Oa (Ad))) (Ac (Ba dc rfl (Aw rfl (vr 2)) (BJ (gN Bp.nd 5)) (Af (Jj (pv 4) (mA T.q0 T.r0 (Jf T .(0) (I)) J (vr 0) (fc 1 (Ae (Cq ["self","pairs","firsts","seconds","reached","first","","second"] (by show Dh "second" Aq++(["second"]:List Str)=_;decide +kernel) (cO (N:=Aq) (sc:=Ab Bv) rfl rfl) rfl (OQ.top (Aw rfl (vr 3))) (λ_ _ _=>C_) (λ_ _ _=>I_ (fc 5 (fc 7 (Ad))))) (Ad) Jm)))))) (Ac (Ba dc rfl (Aw rfl (vr 3)) (BJ (gN Bp.nd 6)) (Af (Jj (pv 4) (mA T.q0 T.r0 (Jf T .(0) (I)) J (vr 0) (fc 1 (Ae (Cq ["self","pairs","firsts","seconds","reached","","second","first"] (by show Dh "first" Aq++(["first"]:List Str)=_;decide +kernel) (cO (N:=Aq) (sc:=Ab Bv) rfl rfl) rfl (OQ.top (Aw rfl (vr 2))) (λ_ _ _=>C_) (λ_ _ _=>I_ (fc 7 (fc 6 (Ad))))) (Ad) Jm)))))) (Af (Ai (XM (dR rfl) jB rfl T.TD jL (pU (Cd T.NF (vp 0))) (pU (MW (iP) (pU (tD rfl rfl rfl T.TD jL (vq 4) (Cd T.NF (vp 0)))))))))))))
abbrev Dm:List Str:=["self","pairs"]
def Fl:bc Dm ["self","pairs"] (Ab GX):=NN
theorem Fo(T:Tx G mg):∀n:Nat,kr P w G.K mg base CX0 (n*4+3) T.UB.f T.UB.fd ["self","pairs"] (MU G (Ag n))
 |0=>aG
 |n+1=>(WH (k:=n*4+6) (N:=Dm) (b:=Bc (Ag n)) T.UB.F Fl .(2) λ_ _ _ _ _ _ z=>lQ z.units rfl T.OF rfl (by first | exact dQ rfl | exact cq (dQ rfl) | exact cq (cq rfl)) rfl (by first | exact dQ rfl | exact cq (dQ rfl) | exact cq (cq rfl)) (mA T.q0 T.r0 (NZ T .(0) (Fo T n)) z (vr 0) (fc 1 (Ad)))).mono .(0)
theorem Jg(T:Tx G mg):kr P w G.K mg base CX0 1 T.UB.f T.UB.fd ["self","pairs"] (spP P w G.K "reckoned"):=
 fn_P (k:=0) (N:=Dm) T.UB.F Fl rfl λ_ _ _ _ _ _ z=>tQ z.units rfl (by first | exact dQ rfl | exact cq (dQ rfl) | exact cq (cq rfl)) rfl (by first | exact dQ rfl | exact cq (dQ rfl) | exact cq (cq rfl))
abbrev NK:List Str:=["one","other","pairs"]
def Zg:bc NK ["one","other","pairs"] (Ab Q3):=NN
theorem Zh(T:Tx G mg):PM P w base T.WB 4 (MU G Iv):=
 RH (k:=3) (N:=NK) (b:=Qz) T.WB Zg λ_ _ _ _ _ _ z=>Af (Ai (BX (Qn rfl) V7 rfl T.UC ZG (pU (PN.pf (YD ["one","other","pairs","at","pair"] (by show Br ["at","pair"] NK++(["at","pair"]:List Str)=_;decide +kernel) (cO2 (N:=NK) (sc:=Ab Q3) rfl rfl) rfl rfl (OQ.top (fO rfl rfl T.WC (vr 2))) (λ_ _ _=>C_) (λ_ _ _=>fX (QM T) z (fc 0 (fc 1 (Ae (S_ rfl (vp 2) (ir) (MF (vp 3))) (fc 4 (Ad)) Ak)))))))))
abbrev Ls:List Str:=["self","pairs","known"]
def Kd:bc Ls ["self","pairs"] (Ab Ln):=NN
theorem Q7(T:Tx G mg):kr P w G.K mg base CX0 36 T.XB.f T.XB.fd ["self","pairs"] (MU G Cy):=
 WH (k:=35) (N:=Ls) (b:=GC) T.XB.F Kd .(2) λ_ _ _ _ _ _ z=>Ac (sF Kd.nd 2 (yF z.units rfl rfl rfl T.OE Xj rfl T.NE Io rfl T.ME xP (vp 1))) (m5 (d:=T.UB) z.units rfl T.OF T.q0 rfl (by first | exact dQ rfl | exact cq (dQ rfl) | exact cq (cq rfl)) rfl (by first | exact dQ rfl | exact cq (dQ rfl) | exact cq (cq rfl)) (Ew (pU (fX (Zh T) z (Ae (Cd T.ZE (vp 0)) (Ae (Cd T.YE (vp 0)) (fc 2 (Ad)) DN) DN))) rfl) (Jg T) (z.mono .(0)) (Ai (mA T.q0 T.r0 (Fo T 8) z (vr 0) (fc 2 (Ad)))))
abbrev QQ:List Str:=["self","pairs","count","reached"]
def Nv:bc QQ ["self","pairs","count"] (Ab QF):=NN
theorem U0(T:Tx G mg):kr P w G.K mg base CX0 37 T.ZB.f T.ZB.fd ["self","pairs","count"] (MU G Fb):=
 WH (k:=36) (N:=QQ) (b:=Ij) T.ZB.F Nv .(2) λ_ _ _ _ _ _ z=>Ac (sF Nv.nd 3 (mA T.q0 T.r0 (Q7 T) z (vr 0) (fc 1 (Ad)))) (Af (Ai (zy (cEq z (vp 3) (pU (Cd T.NF (vp 0)))) (ig (Y8 uf ie (vp 2) (vp 3) (Jy _))))))
abbrev Ke:List Str:=["self","one","other"]
def QR:bc Ke ["self","one","other"] (Ab KQ):=NN
theorem QS(T:Tx G mg):kr P w G.K mg base CX0 1 T.MC.f T.MC.fd ["self","one","other"] (spI G "Ranks" Dk):=
 fn_I (c:="Ranks") (k:=0) (N:=Ke) (b:=HW) T.MC.F QR .(2) λJ A z s H E I=>Dy (MT T.ZE (pv 0) (vr 1)) (Dy (MT T.YE (pv 0) (vr 2)) (Dy (MT T.OF (pv 0) (yC rfl)) (Dy (MT T.NF (pv 0) (MW (pU (XM (dO rfl) jA rfl T.SD jK (pU (Cd T.VE (vp 1))) (pU (Cd T.VE (vp 2))))) (iP))) (aq))))
abbrev b_:List Str:=["one","other","pairs","count"]
def nC:bc b_ ["one","other","pairs","count"] (Ab bz):=NN
theorem nD(T:Tx G mg):PM P w base T.NC 38 (MU G R1):=
 RH (k:=37) (N:=b_) (b:=We) T.NC nC λ_ _ _ _ _ _ z=>Ac (Fi (fX (KZ T) z (fc 0 (fc 1 (fc 2 (Ad)))))) (Af (Ai (mA T.q0 T.r0 (U0 T) z (ZQ T.q0 T.MC.mM (QS T) (z.mono .(0)) rfl T.z0 T.MC.B (fc 0 (fc 1 (Ad)))) (fc 2 (fc 3 (Ad))))))
abbrev QT:List Str:=["_law_world_here","_law_here","_law_there","_law_found","_law_word"]
def Fp:bc QT ["_law_world_here","_law_here","_law_there"] (Ab QG):=NN
theorem Nx(T:Tx G mg):PM P w base T.OC 1 (MU G Gz):=
 RH (k:=0) (N:=QT) (b:=LQ) T.OC Fp λ_ _ _ _ _ _ z=>Ac (sW Fp.nd 3 (Oa (Ae (cEq z (vp 1) (vp 2)) (Ad) Oh))) (Ac (Ba dc rfl (Aw rfl (BX (Hh rfl) Rw rfl T.NE Io (pU (iX z (vp 0) (iP))))) (BJ (gN Fp.nd 4)) (Af (Jj (pv 3) (cIn z (vp 1) (pU (iX z (pU (iX z (vp 0) (iP))) (vp 4))))))) (Ac (Ba dc rfl (Aw rfl (BX (Hh rfl) Rw rfl T.NE Io (pU (iX z (vp 0) (iP))))) (BJ (gN Fp.nd 4)) (Af (sW Fp.nd 3 (yQ (vq 3) (pU (GF (Ae (cIn z (pU (I_ (fc 1 (fc 2 (Ad))))) (pU (iX z (pU (iX z (vp 0) (iP))) (vp 4)))) (Ae (cIn z (pU (I_ (fc 2 (fc 1 (Ad))))) (pU (iX z (pU (iX z (vp 0) (iP))) (vp 4)))) (Ad) Oh) Oh))))))) (Af (Hy [3] (Ai (vr 3))))))
abbrev Ra:List Str:=["_law_one","_law_other_here","_law_pairs_here","_law_k","_law_j"]
def LR:bc Ra ["_law_one","_law_other_here","_law_pairs_here"] (Ab RV):=NN
theorem Wh(T:Tx G mg):PM P w base T.PC 2 (MU G Jq):=
 RH (k:=1) (N:=Ra) (b:=Mq) T.PC LR λ_ _ _ _ _ _ z=>Ac (Ba dc rfl (Dp rfl T.UD (pU (BX ((Cv rfl).or Dr) Gb rfl T.ND Hx (vp 2)))) (BJ (gN LR.nd 3)) (Af (Ba dc rfl (Dp rfl T.UD (pU (MW (vp 3) (iP)))) (BJ (gN LR.nd 4)) (Af (CP (tNe z (pU (fX (Nx T) z (fc 0 (Ae (iX z (pU (iX z (vp 2) (vp 3))) (iP)) (Ae (iX z (pU (iX z (vp 2) (vp 4))) (iP)) (Ad) Ak) Ak)))) (pU (fX (Nx T) z (fc 1 (Ae (iX z (pU (iX z (vp 2) (vp 3))) (iP)) (Ae (iX z (pU (iX z (vp 2) (vp 4))) (iP)) (Ad) Ak) Ak))))) (Af (Ai (HF))) (Bx)))))) (Af (Ai (HF)))
abbrev Bo:List Str:=["_law_one","_law_other_here","_law_rows","_law_count","_law_here","_law_there","_law_table","_law_thing","_law_row","_law_k"]
def Dg:bc Bo ["_law_one","_law_other_here","_law_rows","_law_count"] (Ab Fd):=NN
theorem Ny(T:Tx G mg):∀n:Nat,PM P w base T.SC (n*1+2) (MU G (Bb n))
 |0=>aG
 |n+1=>(RH (k:=n*1+2) (N:=Bo) (b:=CG (Bb n)) T.SC Dg λ_ _ _ _ _ _ z=>Ac (CP (Ji (Ew (pU (fX (Wh T) z (fc 0 (fc 1 (fc 2 (Ad)))))) rfl)) (Af (Ai (HF))) (Bx)) (Ac (CP (tEq z (vp 3) (iP)) (Af (Ai (HF))) (Bx)) (Ac (XR (i:=4) ["_law_one","_law_other_here","_law_rows","_law_count","_law_here","_law_there","_law_table","","_law_row","_law_k","_law_thing"] (by show Dh "_law_thing" Bo++(["_law_thing"]:List Str)=_;decide +kernel) (cO (N:=Bo) (sc:=Ab Fd) rfl rfl) rfl Dg.nd rfl (by first | exact dQ rfl | exact cq rfl) (Dp rfl T.UD (pU (iX z (vp 0) (iP)))) (λ_ _ _=>Ga (tNi z (vp 10) (pU (Cq ["_law_one","_law_other_here","_law_rows","_law_count","_law_here","_law_there","_law_table","","","_law_k","_law_thing","_law_row"] (by show Dh "_law_row" ["_law_one","_law_other_here","_law_rows","_law_count","_law_here","_law_there","_law_table","","_law_row","_law_k","_law_thing"]++(["_law_row"]:List Str)=_;decide +kernel) cON rfl (OQ.top (Aw rfl (vr 2))) (λ_ _ _=>C_) (λ_ _ _=>iX z (vp 11) (iP)))))) (λ_ _ _=>vr 10)) (Ac (XR (i:=5) ["_law_one","_law_other_here","_law_rows","_law_count","_law_here","_law_there","_law_table","","_law_row","_law_k","_law_thing"] (by show Dh "_law_thing" Bo++(["_law_thing"]:List Str)=_;decide +kernel) (cO (N:=Bo) (sc:=Ab Fd) rfl rfl) rfl Dg.nd rfl (by first | exact dQ rfl | exact cq rfl) (Dp rfl T.UD (pU (iX z (vp 1) (iP)))) (λ_ _ _=>Ga (tNi z (vp 10) (pU (Cq ["_law_one","_law_other_here","_law_rows","_law_count","_law_here","_law_there","_law_table","","","_law_k","_law_thing","_law_row"] (by show Dh "_law_row" ["_law_one","_law_other_here","_law_rows","_law_count","_law_here","_law_there","_law_table","","_law_row","_law_k","_law_thing"]++(["_law_row"]:List Str)=_;decide +kernel) cON rfl (OQ.top (Aw rfl (vr 2))) (λ_ _ _=>C_) (λ_ _ _=>iX z (vp 11) (iP)))))) (λ_ _ _=>vr 10)) (Ac (sW Dg.nd 6 (Oa (Ad))) (Ac (Ba dc rfl (Aw rfl (vr 4)) (BJ (gN Dg.nd 7)) (Af (Jj (pv 6) (Cq (nT Bo "_law_beside") (by show Dh "_law_beside" Bo++(["_law_beside"]:List Str)=_;decide +kernel) (cO (N:=Bo) (sc:=Ab Fd) rfl rfl) rfl (OQ.top (Aw rfl (vr 5))) (λ_ _ _=>C_) (λ_ _ _=>fX (Ny T n) z (fc 0 (fc 1 (Ae (MW (vp 2) (pU (GF (Ae (I_ (fc 7 (fc 10 (Ad)))) (Ad) mQ)))) (Ae (bSub (vp 3) (iP)) (Ad) CT) CT)))))))) (Ac (Hy [6] (Ba dc rfl (Aw rfl (vr 6)) (BJ (gN Dg.nd 8)) (Af (CP (Ji (Ew (pU (BX (Vb rfl) bQ rfl T.VC mJ (vp 8))) rfl)) (Af (Ai (HF))) (Bx))))) (Ac (Ba dc rfl (Dp rfl T.UD (pU (BX ((Cv rfl).or Dr) Gb rfl T.ND Hx (vp 5)))) (BJ (gN Dg.nd 9)) (Af (CP (Ji (Ew (pU (BX (Vb rfl) bQ rfl T.VC mJ (pU (Cq ["_law_one","_law_other_here","_law_rows","_law_count","_law_here","_law_there","_law_table","_law_thing","","_law_k","_law_row"] (by show Dh "_law_row" Bo++(["_law_row"]:List Str)=_;decide +kernel) (cO (N:=Bo) (sc:=Ab Fd) rfl rfl) rfl (qu rfl (vq 6)) (λ_ _ _=>C_) (λ_ _ _=>iX z (vp 10) (vp 9)))))) rfl)) (Af (Ai (HF))) (Bx)))) (Af (Ai (HF))))))))))).mono .(0)
abbrev vY:List Str:=["_law_script","_law_one","_law_other_here","_law_order_here","_law_left","_law_right","_law_rows","_law_count"]
def Mv:bc vY ["_law_script"] (Ab vX):=NN
theorem yR(T:Tx G mg):PM P w base T.TC 39 (MU G bx):=
 RH (k:=38) (N:=vY) (b:=bw) T.TC Mv λ_ _ _ _ _ _ z=>Ac (rF (PL rfl rfl (Dj (gN Mv.nd 1) (Dj (gN Mv.nd 2) (Dj (gN Mv.nd 3) (MK))))) (fX (YF T) z (fc 0 (iI (Ad))))) (Ac (sF Mv.nd 4 (ZQ T.f_ T.QA.mM (Jv T) (z.mono .(0)) rfl T.s_ T.QA.B (Ae (iX z (vp 1) (iP)) (Ae (iX z (vp 1) (iP)) (Ae (iX z (vp 1) (iP)) (Ad) Ak) Ak) Ak))) (Ac (sF Mv.nd 5 (ZQ T.f_ T.QA.mM (Jv T) (z.mono .(0)) rfl T.s_ T.QA.B (Ae (iX z (vp 2) (iP)) (Ae (iX z (vp 2) (iP)) (Ae (iX z (vp 2) (iP)) (Ad) Ak) Ak) Ak))) (Ac (Ba dc rfl (Aw rfl (GF (Ae (GF (Ad)) (Ae (fX (Nr T) z (Ae (S_ rfl (vp 0) (MF (iP)) (MF (iP))) (fc 1 (fc 2 (fc 3 (Ad)))) Ak)) (Ae (fX (Nr T) z (Ae (S_ rfl (vp 0) (MF (iP)) (MF (iP))) (fc 1 (fc 2 (fc 3 (Ad)))) Ak)) (Ad) Ei) Ei) sY))) (BJ (gN Mv.nd 6)) (Af (Ba dc rfl (Dp rfl T.UD (iP)) (BJ (gN Mv.nd 7)) (Af (CP (tNe z (pU (fX (nD T) z (fc 4 (fc 5 (fc 6 (fc 7 (Ad))))))) (pU (fX (Ny T 8) z (fc 1 (fc 2 (fc 6 (fc 7 (Ad)))))))) (Af (Ai (HF))) (Bx)))))) (Af (Ai (HF))))))
end
abbrev gx (K:aI) (c_ w_:Addr):Gx:=gxL K [("World",c_),("Ranks",w_)]
def vZ(K:aI):Sp:=λvs H Q _=>∃(a:Addr) (L:List Int),vs=[.ref a]/\MO K H a (L.map V.int)/\L.length<=63/\∀z,Q (.bl E2) z
theorem yS(U:∀L:List Int,L.length<=63->bx [.lst (L.map .int)]=X0 (.bl E2)){K:aI}{I J:Addr}(vs:List V)(H:Hp)(Q:VK)(E:XK)(h:vZ K vs H Q E):MU (gx K I J) bx vs H Q E:=by
 obtain⟨a,L,rfl,hs,Y,k⟩:=h;refine⟨[],[.lst (L.map .int)],.bl E2,(λ_ z=>nomatch z),be.cons ?_ be.nil,U L Y,λv W _ r=>?_⟩
 .have e:cc [] H=H:=by funext b;exact BK (λz=>nomatch z)
  rw[e];refine .lst hs .(1) λi x d O S=>?_;rw[br] at O S;cases T:L[i]? with
  |none=>rw[T] at O;cases O
  |some z=>rw[T] at O S;cases O;cases S;exact .int z
 .cases r;exact k W
end K42
namespace K42
open PySem L2 PV
def La(L:List Int)(k:Nat):Ar [.lst (L.map .int),.int (k:Int)]=X0 (.int (L.getD k 0)):=by
 by_cases h:k<L.length
 .have z:L.getD k 0=L[k]:=by simp[h]
  rw[z];have e:atI (L.map D.int) (k:Int)=X0 (.int L[k]):=by
   rw[jY .(0) (by simpa using h)];simp[h]
  simp[Ar,li,Jp,bm,Pm,tu,bF,vF,uF,Cu,Pi,VL,h,gq,ixD,e]
 .have z:L.getD k 0=0:=by simp[kD.mp h]
  rw[z];simp[Ar,li,Jp,bm,Pm,tu,bF,vF,uF,Cu,Pi,VL,h,gq,RY,kF]
def R5(L:List Int)(k:Nat):∃i,Ar [.lst (L.map .int),.int (k:Int)]=X0 (.int i):=⟨_,La L k⟩
def Wi(x y:Str):cs (x++y)=cs x++cs y:=by show (x.cps++y.cps).toList=_;simp[cs]
def Zi(x:Str):(cs x).length=x.length:=by simp[cs,oa]
def nF(h:cs x=cs y):x=y:=by
 cases x with | mk a=>cases y with | mk b=>simp[cs] at h;rw[h]
def Wj:Of.length=26:=by decide +kernel
def cA(h:IsL x)(k:IsL y):IsL (x++y):=λc I=>by
 rw[Wi] at I
 rcases eJ.mp I with q | q
 .exact h c q
 .exact k c q
def fU:IsL "":=by
 have e:cs ("":Str)=[]:=by decide +kernel
 intro c I;rw[e] at I;cases I
def AAj(i:Int)(J:0<=i)(h1:i<26):∃c,(cs Of)[i.toNat]?=X0 c/\c∈cs Of/\ixD (.str Of) (.int i)=X0 (.str ⟨#[c]⟩):=by
 have Y:(cs Of).length=26:=by rw[Zi];exact Wj
 have z:i.toNat<(cs Of).length:=by omega
 refine⟨(cs Of)[i.toNat],by simp[z],fA z,?_⟩;show (if Of.length<=sizeLine then (atI (cs Of) i).map (λc=>D.str ⟨#[c]⟩) else W1)=_;rw[SF (Ig (by rw[Wj];decide)),jY J (by rw[Y];omega)];simp[z]
def plc(n z:Int)(k j:Nat):Int:=n/((j:Int)+3)+(j:Int)*j+(if (j:Int)=z then 1 else 0)*(k:Int)
def chr(n z:Int)(k j:Nat):Nat:=(cs Of).getD (plc n z k j%26).toNat 0
def SW(n z:Int)(k:Nat)(m:Nat):Str:=⟨((aS m).map (chr n z k)).toArray⟩
def YH(n z:Int)(k m:Nat):SW n z k (m+1)=SW n z k m++⟨#[chr n z k m]⟩:=by
 apply nF;rw[Wi];simp[SW,cs,xS]
def NP(n z:Int)(k m:Nat):(SW n z k m).length=m:=by simp[SW,oa]
def YJ(n z:Int)(k j:Nat):chr n z k j∈cs Of/\ixD (.str Of) (.int (plc n z k j%26))=X0 (.str ⟨#[chr n z k j]⟩):=by
 obtain⟨c,J,I,S⟩:=AAj (plc n z k j%26) (kK _ .(2)) (nl _ .(2));have e:chr n z k j=c:=by unfold chr;rw[gv,J];rfl
 rw[e];exact⟨I,S⟩
theorem cB(n z:Int)(k:Nat):∀m,IsL (SW n z k m)
 |0=>fU
 |m+1=>by
  rw[YH];refine cA (cB n z k m) λc I=>?_;simp[cs] at I;subst I;exact (YJ n z k m).1
def yU:(cs Of).Nodup:=by decide +kernel
def yV(n:Int)(at_:Nat){k I:Nat}(U:k<7)(O:I<7)(h:k≠I):chr n at_ k at_≠chr n at_ I at_:=by
 have Y:(cs Of).length=26:=by rw[Zi];exact Wj
 intro e;have b:∀k:Nat,(plc n at_ k at_%26).toNat<(cs Of).length:=λk=>by
  have T:0<=plc n at_ k at_%26:=kK _ .(2);have W:plc n at_ k at_%26<26:=nl _ .(2);rw[Y];omega
 have L:∀k:Nat,chr n at_ k at_=(cs Of)[(plc n at_ k at_%26).toNat]'(b k):=λk=>by
  unfold chr;rw[gv,bv (b k)];rfl
 rw[L,L] at e;have J:=(GU yU).mp e;have p:∀k:Nat,plc n at_ k at_=n/((at_:Int)+3)+(at_:Int)*at_+k:=λk=>by unfold plc;rw[SF rfl,Int.one_mul]
 rw[p,p] at J;generalize n/((at_:Int)+3)+(at_:Int)*at_=z at J;have T:0<=(z+(k:Int))%26:=kK _ .(2);have S:0<=(z+(I:Int))%26:=kK _ .(2);omega
def yW(n:Int)(z m:Nat)(T:z<m){k I:Nat}(S:k<7)(J:I<7)(h:k≠I):SW n z k m≠SW n z I m:=by
 intro e;have O:cs (SW n z k m)=cs (SW n z I m):=by rw[e]
 simp only[SW,cs] at O;have L:=SG (λl=>l[z]?) O;simp[T] at L;exact yV n z S J h L
def fix(x:Str):Str:=if x∈Sm then x++"x" else x
def rz(n z:Int)(m:Nat)(k:Nat):Str:=fix (SW n z k m)
def yX:∀y∈Sm,(y++("x":Str)).length<=5/\(y++("x":Str))∉Sm/\y.length<=4:=by decide +kernel
def yZ(h1:1<=x.length)(L:x.length<=8)(z:IsL x):Wd (fix x):=by
 unfold fix;split
 .rename_i h;obtain⟨O,J,_⟩:=yX x h;refine⟨by rw[Ob];omega,by omega,cA z ?_,J⟩;intro c I;have e:cs ("x":Str)=[120]:=by decide +kernel
  rw[e] at I;simp at I;subst I;decide +kernel
 .rename_i h;exact⟨h1,L,z,h⟩
def tY(Y:x.length=y.length)(h:fix x=fix y):x=y:=by
 have Z:oa "x"=1:=by decide +kernel
 unfold fix at h;split at h<;>split at h
 .have:=SG cs h;rw[Wi,Wi] at this;exact nF (List.append_cancel_right this)
 .have:=SG oa h;rw[Ob] at this;omega
 .have:=SG oa h;rw[Ob] at this;omega
 .exact h
def tZ(x:Str):Oy E3 (.str x) (.lst [.str "not",.str "and",.str "or",.str "some",.str "all"])=X0 (.bl (decide (x∈Sm))):=by
 have e:=aZ x Sm;have:(Sm.any λy=>y==x)=decide (x∈Sm):=by
  rw[g9];simp only[oB,XG,OH];exact⟨(by rintro ⟨y,I,z⟩;exact z▸I),λh=>⟨x,h,rfl⟩⟩
 rw[this] at e;exact e
end K42
section
open PySem L2 PV
local macro_rules | `(tactic| w_up) => `(tactic| (rw [List.map_cons, GR, Sf, Ku, Lh]; simp only [List.set_cons_zero, List.set_cons_succ]))
local macro_rules | `(tactic| simp only [cK, $ls,*] $[$l:location]?) => `(tactic| simp only [MP, Si, e_rt, ux, e_if, uy, uz, aN, V_, u0, jd, je, jf, aO, e_b, e_bs, e_u, e_us, jg, aP, jh, aQ, vA, vB, vC, ji, jk, jl, jo, jq, jr, jt, e_bl, vD, ju, aR, aU, vG, jw, ZL, jz, j5, aV, vH, j6, j7, e_sl, vI, vJ, aW, Xh, e_v, SZ, e_vU, vK, e_k, ZM, aX, WD, j8, j_, kE, Xi, kI, Tc, j9, e_tr, kJ, aa, kO, ZP, Ks, GR, By, Ku, Sf, Lh, List.length_cons, List.length_nil, List.map_cons, List.map_nil, List.cons_append, List.nil_append, List.replicate_succ, List.replicate_zero, List.getElem?_cons_zero, List.getElem?_cons_succ, List.set_cons_zero, List.set_cons_succ, Nat.reduceAdd, Nat.reduceSub, Nat.reduceEqDiff, Nat.zero_add, truB, Bool.not_true, Bool.not_false, decide_true, decide_false, List.append_nil, Int.reduceLT, Int.reduceLE, Int.reduceNeg, Int.reduceEq, Int.reduceToNat, Nat.reduceLeDiff, $ls,*] $[$l:location]?)
local macro_rules | `(tactic| simp only [cK]) => `(tactic| simp only [cK, Si])
local macro_rules | `(tactic| simp only [kC, $ls,*] $[$l:location]?) => `(tactic| simp only [$ls,*, MP, Si, e_rt, ux, e_if, uy, uz, aN, V_, u0, jd, je, jf, aO, e_b, e_bs, e_u, e_us, jg, aP, jh, aQ, vA, vB, vC, ji, jk, jl, jo, jq, jr, jt, e_bl, vD, ju, aR, aU, vG, jw, ZL, jz, j5, aV, vH, j6, j7, e_sl, vI, vJ, aW, Xh, e_v, SZ, e_vU, vK, e_k, ZM, aX, WD, j8, j_, kE, Xi, kI, Tc, j9, e_tr, kJ, aa, kO, ZP, Ks, GR, By, Ku, Sf, Lh, List.length_cons, List.length_nil, List.map_cons, List.map_nil, List.cons_append, List.nil_append, List.replicate_succ, List.replicate_zero, List.getElem?_cons_zero, List.getElem?_cons_succ, List.set_cons_zero, List.set_cons_succ, Nat.reduceAdd, Nat.reduceSub, Nat.reduceEqDiff, Nat.zero_add, truB, Bool.not_true, Bool.not_false, decide_true, decide_false, List.append_nil, Int.reduceLT, Int.reduceLE, Int.reduceNeg, Int.reduceEq, Int.reduceToNat, Nat.reduceLeDiff] $[$l:location]?)
local macro_rules | `(tactic| simp only [kiC, $ls,*] $[$l:location]?) => `(tactic| simp only [kC, $ls,*, Hz, Ha, TY, V9, VL, aL, aM, jZ, Xg] $[$l:location]?)
local macro_rules | `(tactic| simp only [dK, $ls,*] $[$l:location]?) => `(tactic| simp only [cK, xg, Kv, rQ, a_, Bs, Cr, Rt, Kw, Tg, Oe, xj, rT, Ph, Pj, Ky, Pk, Th, $ls,*] $[$l:location]?)
local macro_rules | `(tactic| simp only [ciK, $ls,*] $[$l:location]?) => `(tactic| simp only [cK, Hz, Ha, TY, V9, VL, aL, aM, jZ, Xg, $ls,*] $[$l:location]?)
local macro_rules | `(tactic| simp only [diK, $ls,*] $[$l:location]?) => `(tactic| simp only [dK, Hz, Ha, TY, V9, VL, aL, aM, jZ, Xg, $ls,*] $[$l:location]?)
namespace K42
open PySem L2 PV
def vd(b:Bool):intD (.bl b)=X0 (.int (if b then 1 else 0)):=fy _
def sml(h:j<8):(j:Int)<8/\0<=(j:Int):=by omega
theorem t6(i S n l z:Int)(O:Slot)(k m:Nat)(hk:k<7)(hm:m<=8)(U J:Slot):∃L I:Slot,
  ot (OY (Ax 9) Ek) (tx m) [.fz (.int i),.fz (.int S),.fz (.str Of),.fz (.int n),.fz (.int l),.fz (.int z),O,.fz (.int (k:Int)),.fz (.str ""),U,J]
   = X0 (.nx [.fz (.int i),.fz (.int S),.fz (.str Of),.fz (.int n),.fz (.int l),.fz (.int z),O,.fz (.int (k:Int)),.fz (.str (SW n z k m)),L,I]):=by
 obtain⟨Z,e,L,I,rfl⟩:=MN (b:=OY (Ax 9) Ek) (ds:=tx m) (ρ:=[.fz (.int i),.fz (.int S),.fz (.str Of),.fz (.int n),.fz (.int l),.fz (.int z),O,.fz (.int (k:Int)),.fz (.str ""),U,J])
  (P:=λj T=>∃L I:Slot,T=[.fz (.int i),.fz (.int S),.fz (.str Of),.fz (.int n),.fz (.int l),.fz (.int z),O,.fz (.int (k:Int)),.fz (.str (SW n z k j)),L,I]) 0 ⟨U,J,rfl⟩ (by
   rintro j d T W ⟨L,I,rfl⟩;have hj:j<m:=by
    have:=(dP.mp W).1;rw[Gd] at this;exact this
   have ed:d=.int (j:Int):=by
    have:=W;simp[tx,hj] at this;exact this.symm
   subst ed;have N0:=sml (show j<8 by omega);have e1:=Ha n ((j:Int)+3) .(0) .(0);have e2:=Pb (j:Int) (j:Int) .(0);have e3:=Pb (if decide ((j:Int)=z) then (1:Int) else 0) (k:Int) .(0);have pe:n/((j:Int)+3)+(j:Int)*j+(if decide ((j:Int)=z)=E2 then (1:Int) else 0)*(k:Int)=plc n z k j:=by unfold plc;simp
   have ex:=(YJ n z k j).2;have Y:=jb (i:=SW n z k j) (j:=⟨#[chr n z k j]⟩) (by rw[NP];show j+1<=_;omega);rw[<-YH] at Y;refine⟨_,?_,.fz (.int (j:Int)),.fz (.int (plc n z k j)),by rw[lc]⟩;rw[lc];show Ek [.fz (.int i),.fz (.int S),.fz (.str Of),.fz (.int n),.fz (.int l),.fz (.int z),O,.fz (.int (k:Int)),.fz (.str (SW n z k j)),.fz (.int (j:Int)),I]=_;simp only[diK,Ek,vd,e1,e2,e3,pe,ex,Y])
 rw[Gd,lc] at *;exact⟨L,I,e⟩
def AAk:oa "x"=1:=by decide +kernel
def Nz(L:List D)(x:D)(h:L.length<=1000):NX (.lst L) x=X0 (.lst (L++[x])):=by
 unfold NX;show (if L.length<sizeLine then X0 (D.lst (L++[x])) else W1)=_;rw[SF (si h .(2))]
theorem nG(i S n:Int)(l z k:Nat)(hk:k<7)(O:l<=8)(fs:List D)(hf:fs.length<=1000)(z8 Z I:Slot):∃U J:Slot,El [.fz (.int i),.fz (.int S),.fz (.str Of),.fz (.int n),.fz (.int (l:Int)),.fz (.int (z:Int)),.ow (.lst fs),.fz (.int (k:Int)),z8,Z,I]
  = X0 (.nx [.fz (.int i),.fz (.int S),.fz (.str Of),.fz (.int n),.fz (.int (l:Int)),.fz (.int (z:Int)),.ow (.lst (fs++[.str (rz n z l k)])),.fz (.int (k:Int)),.fz (.str (rz n z l k)),U,J]):=by
 obtain⟨U,J,Y⟩:=t6 i S n l z (.ow (.lst fs)) k l hk O Z I;have e2:=Jz (l:Int) .(0);have L:=tZ (SW n z k l);have e4:=jb (i:=SW n z k l) (j:="x") (by rw[NP,AAk];omega);have e5:=Nz fs (.str (rz n z l k)) hf;refine⟨U,J,?_⟩
 by_cases T:SW n z k l∈Sm
 .have W:SW n z k l++"x"=rz n z l k:=by unfold rz fix;rw[SF T]
  rw[OG T] at L;rw[W] at e4;simp only[diK,El,e2,eC,Y,L,e4,e5]
 .have W:SW n z k l=rz n z l k:=by unfold rz fix;rw[UF T]
  rw[NG T] at L;rw[W] at Y L;simp only[diK,El,e2,eC,Y,L,e5]
theorem nH(i:Int)(mm:Nat)(hm:mm<=6):∃T:List Str,Ii [.int i,.int (mm:Int)]=X0 (.lst (T.map .str))/\T.length=mm/\(∀x∈T,Wd x)/\T.Nodup:=by
 have n0:0<=i%2147483629:=kK _ .(2);generalize en:i%2147483629=n at n0;have l0:0<=n%8:=kK _ .(2);have l8:n%8<8:=nl _ .(2);obtain⟨l,el⟩:∃l:Nat,(l:Int)=1+n%8:=⟨(1+n%8).toNat,by omega⟩;have Z:1<=l:=by omega
 have O:l<=8:=by omega
 have a0:0<=n/8%(l:Int):=kK _ .(0);have al:n/8%(l:Int)<l:=nl _ .(0);obtain⟨I,ea⟩:∃a:Nat,(a:Int)=n/8%(l:Int):=⟨(n/8%(l:Int)).toNat,by omega⟩;have N0:I<l:=by omega
 refine⟨(aS mm).map (rz n I l),?_,by simp,λx hx=>?_,?_⟩
 .have hL:(dA "abcdefghijklmnopqrstuvwxyz")=Of:=rfl;obtain⟨O0,e,W,S,L,J,rfl⟩:=MN (b:=OY (Ax 7) El) (ds:=tx mm) (ρ:=[.fz (.int i),.fz (.int (mm:Int)),.fz (.str Of),.fz (.int n),.fz (.int (l:Int)),.fz (.int (I:Int)),.ow (.lst []),.un,.un,.un,.un])
   (P:=λk U=>∃W S L J:Slot,U=[.fz (.int i),.fz (.int (mm:Int)),.fz (.str Of),.fz (.int n),.fz (.int (l:Int)),.fz (.int (I:Int)),.ow (.lst (((aS k).map (rz n I l)).map .str)),W,S,L,J]) 0 ⟨.un,.un,.un,.un,rfl⟩ (by
    rintro k d U hd ⟨W,S,L,J,rfl⟩;have hk:k<mm:=by
     have:=(dP.mp hd).1;rw[Gd] at this;exact this
    have ed:d=.int (k:Int):=by
     have:=hd;simp[tx,hk] at this;exact this.symm
    subst ed;obtain⟨y9,Y,st⟩:=nG i mm n l I k .(0) O (((aS k).map (rz n I l)).map .str) (by simp;omega) S L J;rw[lc];have er:((aS k).map (rz n I l)).map D.str++[.str (rz n I l k)]=((aS (k+1)).map (rz n I l)).map .str:=by simp[xS]
    rw[er] at st;refine⟨_,?_,.fz (.int (k:Int)),.fz (.str (rz n I l k)),y9,Y,rfl⟩;rw[Sf,Ku,Lh];exact st)
  rw[Gd,lc] at *;have e6:=Jz (mm:Int) .(0);have e7:(1:Int)+n%8=(l:Int):=el.symm;have e8:=Ha n 8 .(2) .(2);have e9:=Hz (n/8) (l:Int) .(0);rw[<-ea] at e9;simp only[diK,Ii,K6,hL,en,e7,e8,e9,e6,eC,e,w9,Int.reduceMod]
 .obtain⟨k,hk,rfl⟩:=aT.mp hx;exact yZ (by rw[NP];exact Z) (by rw[NP];exact O) (cB _ _ _ _)
 .rw[List.nodup_iff_pairwise_ne,kH];refine sB (R:=λa b=>a≠b) (λ{a b} ha hb h=>?_) yT;have ha:=cE.mp ha;have hb:=cE.mp hb;intro z;exact yW n I l N0 .(0) .(0) h (tY (by rw[NP,NP]) z)
def Mw(n:Nat)(t:Nat)(h:t<n):BR [.int (n:Int),.int (t:Int)]=X0 .non:=by
 have z:¬ ((t:Int)<0):=by omega
 have U:¬ ((n:Int)<=t):=by omega
 simp only[ciK,BR,Gn,z,U]
def nJ{t:Nat}(h:t∉l):(.inl (t:Int):Key)∉(l.map λ(t:Nat)=>((.inl (t:Int):Key),D.bl E2)).map (·.1):=by
 intro z;rw[bE] at z;obtain⟨u,S,e⟩:=aT.mp z;simp at e;have O:u=t:=by omega
 exact h (O▸S)
theorem Vj(n:Nat)(x L:Slot):∀(r p:List Nat) (z:Slot),(p++r).Nodup->(∀t∈r,t<n)->(p++r).length<=100 ->
  ∃S,ot (OY (Ax 3) Fy) (r.map iN) [.fz .(5),x,.ow (kM p),z]=X0 (.nx [.fz .(5),x,.ow (kM (p++r)),S])
 |[],p,z,_,_,_=>⟨z,by rw[f6];rfl⟩
 |t::r,p,z,J,Y,I=>by
  have O:t∉p:=by
   intro q;rw[eI] at J;exact J.2.2 t q t .(1) rfl
  have Z:=Mw n t (Y t .(1));have W:DG (kM p) (.int (t:Int)) (.bl E2)=X0 (kM (p++[t])):=by
   show DG (.dk _) _ _=_;rw[xm _ _ _ (by simp at I ⊢;omega),qd (nJ O)];simp[kM]
  have b:Fy [.fz .(5),x,.ow (kM p),.fz (iN t)]=X0 (.nx [.fz .(5),x,.ow (kM (p++[t])),.fz (iN t)]):=by
   simp only[dK,Fy,Z,W]
  obtain⟨S,T⟩:=Vj n x L r (p++[t]) (.fz (iN t)) (by simpa using J) (λu U=>Y u (by simp[U])) (by simpa using I);refine⟨S,?_⟩
  w_up
  rw[b,By,T];simp
def t_(n:Nat)(l:List Nat)(I:l.Nodup)(Y:∀t∈l,t<n)(z:l.length<=100):Ea [.int (n:Int),lM l]=X0 (kM l):=by
 obtain⟨S,e⟩:=Vj n (.fz (lM l)) .un l [] .un (by simpa using I) Y (by simpa using z);rw[ip] at e;have J:(D.dk [])=kM []:=rfl;simp only[dK,Ea,J3,J,lM,e] at e ⊢
def nM{t:Nat×Nat}{l:List (Nat×Nat)}(h:t∉l):[(.inl (t.1:Int):Key),.inl (t.2:Int)]∉(l.map λ(q:Nat×Nat)=>([(.inl (q.1:Int):Key),.inl (q.2:Int)],D.bl E2)).map (·.1):=by
 intro z;rw[bE] at z;obtain⟨u,S,e⟩:=aT.mp z;simp at e;have O:u=t:=by
  obtain⟨a,b⟩:=u;obtain⟨c,d⟩:=t;simp at e ⊢;omega
 exact h (O▸S)
theorem UV(n:Nat)(x:Slot):∀(r p:List (Nat×Nat)) (z Y:Slot),(p++r).Nodup->(∀t∈r,t.1<n/\t.2<n)->(p++r).length<=100 ->
  ∃S J,ot (OY (NU 2 (Bw 3 (Bw 4 NV))) Gp) (r.map pN) [.fz .(5),x,.ow (kT p),z,Y]=X0 (.nx [.fz .(5),x,.ow (kT (p++r)),S,J])
 |[],p,z,Y,_,_,_=>⟨z,Y,by rw[f6];rfl⟩
 |t::r,p,z,Y,L,O,I=>by
  have U:t∉p:=by
   intro q;rw[eI] at L;exact L.2.2 t q t .(1) rfl
  have e1:=Mw n t.1 (O t .(1)).1;have T:=Mw n t.2 (O t .(1)).2;have e2:PQ (kT p) [.int (t.1:Int),.int (t.2:Int)] (.bl E2)=X0 (kT (p++[t])):=by
   show PQ (.dt _) _ _=_;rw[xn _ _ _ _ (by simp at I ⊢;omega),qd (nM U)];simp[kT]
  have b:Gp [.fz .(5),x,.ow (kT p),.fz (.int (t.1:Int)),.fz (.int (t.2:Int))]=X0 (.nx [.fz .(5),x,.ow (kT (p++[t])),.fz (.int (t.1:Int)),.fz (.int (t.2:Int))]):=by
   simp only[dK,Gp,e1,T,e2]
  obtain⟨S,J,W⟩:=UV n x r (p++[t]) (.fz (.int (t.1:Int))) (.fz (.int (t.2:Int))) (by simpa using L) (λu Z=>O u (by simp[Z])) (by simpa using I);refine⟨S,J,?_⟩;rw[bb,GR,Sf,Pk,Lh];simp only[oP,oQ];rw[b,By,W];simp
def nO(n:Nat)(l:List (Nat×Nat))(I:l.Nodup)(Y:∀t∈l,t.1<n/\t.2<n)(z:l.length<=100):FJ [.int (n:Int),lT l]=X0 (kT l):=by
 obtain⟨S,J,e⟩:=UV n (.fz (lT l)) l [] .un .un (by simpa using I) Y (by simpa using z);rw[ip] at e;have L:(D.dt [])=kT []:=rfl;simp only[dK,FJ,K9,L,lT,e] at e ⊢
def yc(c:Nat):inD E3 (.str ⟨#[c]⟩) (.str Of)=X0 (.bl (!(pj Of ⟨#[c]⟩ 0 Of.length 1).isEmpty)):=fy _
def ye:∀c∈cs Of,(!(pj Of ⟨#[c]⟩ 0 Of.length 1).isEmpty)=E2:=by decide +kernel
def uA(h:x∉Sm):Oy E3 (.str x) RF=X0 (.bl E3):=by
 have e:Oy E3 (.str x) RF=inD E3 (.str x) (.lst (Sm.map .str)):=rfl;rw[e,aZ];have:(Sm.any λy=>y==x)=E3:=by
  rw[HI];intro y z O;have:=beq_iff_eq.mp O;exact h (this▸z)
 rw[this]
def yf(x:Str)(h:x.length<=10000000):NI (.str x)=X0 (.int x.length):=AAV x h
theorem cC(h:Wd x):FN [.str x]=X0 (.bl E2):=by
 have k:=uA h.kept;have Z:=h.lo;have W:=h.hi;have l:=yf x .(0);have T:¬ ((x.length:Int)=0):=by omega
 have O:¬ ((8:Int)<x.length):=by omega
 have L:∀l:List Nat,(∀c∈l,c∈cs Of)->J7 [.fz (.str x)] nq Hs (l.map λc=>.str ⟨#[c]⟩)=X0 (l.map λ_=>.bl E2):=by
  intro l
  induction l with
  |nil=>intro _;rfl
  |cons c r z=>
   intro Y;have v:Hs ([.fz (.str x)]++[.fz (.str ⟨#[c]⟩)])=X0 (.bl E2):=by
    have e:Oy E3 (.str ⟨#[c]⟩) (.str Of)=X0 (.bl E2):=by
     show inD E3 (.str ⟨#[c]⟩) (.str Of)=_;rw[yc,ye c (Y c .(1))]
    have J:(dA "abcdefghijklmnopqrstuvwxyz")=Of:=rfl;simp only[cK,Hs,J,e]
   rw[bb,Kr,j8,v,z λd I=>Y d (by simp[I])];rfl
 have S:A_ (hW (vF 0)) nq Hs [.fz (.str x)]=X0 (.lst ((cs x).map λ_=>.bl E2)):=by
  refine Rq (ds:=(cs x).map λc=>.str ⟨#[c]⟩) (by rfl) (by rw[av,Zi];omega) (L (cs x) h.isL)
 have U:∀l:List Nat,YV (.lst (l.map λ_=>.bl E2))=X0 (.bl E2):=by
  intro l;have q:∀l:List Nat,OU (l.map λ_=>D.bl E2)=X0 (l.map λ_=>E2):=by
   intro l
   induction l with
   |nil=>rfl
   |cons c r z=>simp[OU,z]
  show (OU (l.map λ_=>D.bl E2)).map _=_;rw[q];simp
 simp only[ciK,FN,Qy,k,l,T,O,S,U]
def UW(i j:Int)(h:i<=j):Bk [.int i,.int j]=X0 .non:=by
 have c:¬ (j<i):=by omega
 simp only[ciK,Bk,JP,c]
abbrev fS (n:Nat):Str×Bool×D:=("size",E3,.int (n:Int))
abbrev fM (ms:List (Str×List Nat)):Str×Bool×D:=("marked",E2,.dk (oM ms))
abbrev fT (ts:List (Str×List (Nat×Nat))):Str×Bool×D:=("tied",E2,.dk (oT ts))
def q1:(("marked":Str)=="size")=E3:=by decide +kernel
def q2:(("tied":Str)=="size")=E3:=by decide +kernel
def q3:(("tied":Str)=="marked")=E3:=by decide +kernel
def n1:¬ (("size":Str)="marked"):=by decide +kernel
def n2:¬ (("size":Str)="tied"):=by decide +kernel
def n3:¬ (("marked":Str)="tied"):=by decide +kernel
def lkM(n:Nat)(d e:D):cb ("marked":Str) [fS n,("marked",E2,d),("tied",E2,e)]=X0 (E2,d):=by
 rw[ca,q1];show cb ("marked":Str) [("marked",E2,d),("tied",E2,e)]=_;rw[ca,show (("marked":Str)=="marked")=E2 by decide +kernel]
def lkT(n:Nat)(d e:D):cb ("tied":Str) [fS n,("marked",E2,d),("tied",E2,e)]=X0 (E2,e):=by
 rw[ca,q2];show cb ("tied":Str) [("marked",E2,d),("tied",E2,e)]=_;rw[ca,q3];show cb ("tied":Str) [("tied",E2,e)]=_;rw[ca,show (("tied":Str)=="tied")=E2 by decide +kernel]
def rpM(n:Nat)(d e d':D):ON "marked" d' [fS n,("marked",E2,d),("tied",E2,e)]=[fS n,("marked",E2,d'),("tied",E2,e)]:=by
 unfold ON ON;rw[UF n1,SF rfl]
def rpT(n:Nat)(d e O:D):ON "tied" O [fS n,("marked",E2,d),("tied",E2,e)]=[fS n,("marked",E2,d),("tied",E2,O)]:=by
 unfold ON ON ON;rw[UF n2,UF n3,SF rfl]
def Fq{I:Type}{w:Str}(f:I->D){l:List (Str×I)}(h:w∉l.map (·.1)):(.inr w:Key)∉(l.map λp=>((.inr p.1:Key),f p.2)).map (·.1):=by
 intro z;rw[bE] at z;obtain⟨u,S,e⟩:=aT.mp z;simp at e;exact h (aT.mpr ⟨u,S,e⟩)
theorem Ua(n:Nat)(hn:n<=5)(x:Addr)(a b:D)(e:D)(z:Slot):∀(r p:List (Str×List Nat)) (S O:Slot),((p++r).map (·.1)).Nodup->(∀q∈r,Wd q.1/\q.2.Nodup/\q.2.length<=100/\∀t∈q.2,t<n)->(p++r).length<=3->(∀d,S≠.ow d)->(∀d,O≠.ow d)->(∀d,z≠.ow d) ->
  ∃J I,(∀d,J≠.ow d)/\(∀d,I≠.ow d)/\Jk (NU 2 (Bw 4 (Bw 5 NV))) Cg (r.map λq=>.tup [.str q.1,lM q.2]) [.fz (.adr x),.fz .(5),.fz a,.fz b,S,O,z] [fS n,fM p,("tied",E2,e)]=X0 ([.fz (.adr x),.fz .(5),.fz a,.fz b,J,I,z],[fS n,fM (p++r),("tied",E2,e)])
 |[],p,S,O,_,_,_,Z,W,_=>⟨S,O,Z,W,by rw[f6];rfl⟩
 |t::r,p,S,O,T,Y,L,Z,W,U=>by
  obtain⟨w,l⟩:=t;obtain⟨hw,l1,l2,l3⟩:=Y (w,l) .(1);have nt:w∉p.map (·.1):=by
   intro q;rw[dS,eI] at T;exact T.2.2 w q w .(1) rfl
  have e1:=cC hw;have e2:=t_ n l l1 l3 l2;have e3:DG (.dk (oM p)) (.str w) (kM l)=X0 (.dk (oM (p++[(w,l)]))):=by
   rw[Kz _ _ _ (by simp[oM] at L ⊢;omega)];have:(.inr w:Key)∉(oM p).map (·.1):=Fq kM nt;rw[qd this];simp[oM]
  have b0:Cg [.fz (.adr x),.fz .(5),.fz a,.fz b,.fz (.str w),.fz (lM l),z] [fS n,fM p,("tied",E2,e)]=X0 ([.fz (.adr x),.fz .(5),.fz a,.fz b,.fz (.str w),.fz (lM l),z],[fS n,fM (p++[(w,l)]),("tied",E2,e)]):=by
   have t0:ifE (Td (Pe (TH (An (FN) (Aa (vF 4) (af)))))) [.fz (.adr x),.fz .(5),.fz a,.fz b,.fz (.str w),.fz (lM l),z] [fS n,fM p,("tied",E2,e)]=X0 ([.fz (.adr x),.fz .(5),.fz a,.fz b,.fz (.str w),.fz (lM l),z],[fS n,fM p,("tied",E2,e)]):=by
    have:Pe (TH (An (FN) (Aa (vF 4) (af)))) [.fz (.adr x),.fz .(5),.fz a,.fz b,.fz (.str w),.fz (lM l),z]=X0 E3:=by simp only[cK,e1]
    unfold ifE Td;rw[this]
   have t1:RN "marked" (vF 4) (An (Ea) (Aa (vF 1) (Aa (vF 5) (af)))) [.fz (.adr x),.fz .(5),.fz a,.fz b,.fz (.str w),.fz (lM l),z] [fS n,fM p,("tied",E2,e)]=X0 ([.fz (.adr x),.fz .(5),.fz a,.fz b,.fz (.str w),.fz (lM l),z],[fS n,fM (p++[(w,l)]),("tied",E2,e)]):=by
    have v1:An (Ea) (Aa (vF 1) (Aa (vF 5) (af))) [.fz (.adr x),.fz .(5),.fz a,.fz b,.fz (.str w),.fz (lM l),z]=X0 (kM l):=by simp only[cK,e2]
    have v2:vF 4 [.fz (.adr x),.fz .(5),.fz a,.fz b,.fz (.str w),.fz (lM l),z]=X0 (.str w):=rfl;unfold RN;rw[v1,v2];show (match cb ("marked":Str) [fS n,fM p,("tied",E2,e)] with | some (E2,d)=>(DG d (.str w) (kM l)).map λd'=>(_,ON "marked" d' [fS n,fM p,("tied",E2,e)]) | _=>W1)=_;rw[lkM];show (DG (.dk (oM p)) (.str w) (kM l)).map _=_;rw[e3];show X0 (_,ON "marked" _ [fS n,fM p,("tied",E2,e)])=_;rw[rpM]
   unfold Cg;rw[Gf,t0,Eh,t1]
  obtain⟨J,I,g4,g5,ih⟩:=Ua n hn x a b e z r (p++[(w,l)]) (.fz (.str w)) (.fz (lM l)) (by simpa using T) (λu hu=>Y u (by simp[hu])) (by simpa using L) (λd=>by simp) (λd=>by simp) U;refine⟨J,I,g4,g5,?_⟩;rw[bb];unfold Jk;rw[Pk];have no:OO [.fz (.adr x),.fz .(5),.fz a,.fz b,.fz (.str w),.fz (lM l),z]=E2:=by
   unfold OO;cases z with
   |ow d=>exact MG rfl (U d)
   |un=>rfl
   |fz d=>rfl
  show (if OO [.fz (.adr x),.fz .(5),.fz a,.fz b,.fz (.str w),.fz (lM l),z]=E2 then (Cg [.fz (.adr x),.fz .(5),.fz a,.fz b,.fz (.str w),.fz (lM l),z] _).bind _ else W1)=_;rw[SF no,b0];show Jk _ _ _ _ _=_;rw[ih];simp
theorem Vk(n:Nat)(hn:n<=5)(x:Addr)(a b:D)(J:List (Str×List Nat))(O:Slot)(h5:∀d,O≠.ow d):∀(r p:List (Str×List (Nat×Nat))) (T S:Slot),((p++r).map (·.1)).Nodup->(∀q∈r,Wd q.1/\q.1∉J.map (·.1)/\q.2.Nodup/\q.2.length<=100/\∀t∈q.2,t.1<n/\t.2<n)->(p++r).length<=3->(∀d,T≠.ow d)->(∀d,S≠.ow d) ->
  ∃L I,Jk (NU 2 (Bw 4 (Bw 6 NV))) Ci (r.map λq=>.tup [.str q.1,lT q.2]) [.fz (.adr x),.fz .(5),.fz a,.fz b,T,O,S] [fS n,fM J,fT p]=X0 ([.fz (.adr x),.fz .(5),.fz a,.fz b,L,O,I],[fS n,fM J,fT (p++r)])
 |[],p,T,S,_,_,_,h4,h6=>⟨T,S,by rw[f6];rfl⟩
 |t::r,p,T,S,W,Z,z,h4,h6=>by
  obtain⟨w,l⟩:=t;obtain⟨hw,nm,l1,l2,l3⟩:=Z (w,l) .(1);have nt:w∉p.map (·.1):=by
   intro q;rw[dS,eI] at W;exact W.2.2 w q w .(1) rfl
  have e1:=cC hw;have e2:=nO n l l1 l3 l2;have e3:DG (.dk (oT p)) (.str w) (kT l)=X0 (.dk (oT (p++[(w,l)]))):=by
   rw[Kz _ _ _ (by simp[oT] at z ⊢;omega)];have:(.inr w:Key)∉(oT p).map (·.1):=Fq kT nt;rw[qd this];simp[oT]
  have e4:wh (.inr w:Key) (oM J)=W1:=Qq (Fq kM nm);have b0:Ci [.fz (.adr x),.fz .(5),.fz a,.fz b,.fz (.str w),O,.fz (lT l)] [fS n,fM J,fT p]=X0 ([.fz (.adr x),.fz .(5),.fz a,.fz b,.fz (.str w),O,.fz (lT l)],[fS n,fM J,fT (p++[(w,l)])]):=by
   have t0:ifE (orTE (Td (Pe (TH (An (FN) (Aa (vF 4) (af)))))) (YI "marked" (vF 4))) [.fz (.adr x),.fz .(5),.fz a,.fz b,.fz (.str w),O,.fz (lT l)] [fS n,fM J,fT p]=X0 ([.fz (.adr x),.fz .(5),.fz a,.fz b,.fz (.str w),O,.fz (lT l)],[fS n,fM J,fT p]):=by
    have u1:Pe (TH (An (FN) (Aa (vF 4) (af)))) [.fz (.adr x),.fz .(5),.fz a,.fz b,.fz (.str w),O,.fz (lT l)]=X0 E3:=by simp only[cK,e1]
    have U:vF 4 [.fz (.adr x),.fz .(5),.fz a,.fz b,.fz (.str w),O,.fz (lT l)]=X0 (.str w):=rfl;have u2:YI "marked" (vF 4) [.fz (.adr x),.fz .(5),.fz a,.fz b,.fz (.str w),O,.fz (lT l)] [fS n,fM J,fT p]=X0 E3:=by
     unfold YI;rw[U];show (match cb ("marked":Str) [fS n,fM J,fT p] with | some (E2,.dk Y)=>(Pl (.str w)).map λq=>(wh q Y).isSome | _=>W1)=_;rw[lkM];show X0 ((wh (.inr w:Key) (oM J)).isSome)=_;rw[e4];rfl
    unfold ifE orTE Td;rw[u1];show (match YI "marked" (vF 4) _ _ with | some E3=>X0 _ | _=>W1)=_;rw[u2]
   have t1:RN "tied" (vF 4) (An (FJ) (Aa (vF 1) (Aa (vF 6) (af)))) [.fz (.adr x),.fz .(5),.fz a,.fz b,.fz (.str w),O,.fz (lT l)] [fS n,fM J,fT p]=X0 ([.fz (.adr x),.fz .(5),.fz a,.fz b,.fz (.str w),O,.fz (lT l)],[fS n,fM J,fT (p++[(w,l)])]):=by
    have v1:An (FJ) (Aa (vF 1) (Aa (vF 6) (af))) [.fz (.adr x),.fz .(5),.fz a,.fz b,.fz (.str w),O,.fz (lT l)]=X0 (kT l):=by simp only[cK,e2]
    have U:vF 4 [.fz (.adr x),.fz .(5),.fz a,.fz b,.fz (.str w),O,.fz (lT l)]=X0 (.str w):=rfl;unfold RN;rw[v1,U];show (match cb ("tied":Str) [fS n,fM J,fT p] with | some (E2,d)=>(DG d (.str w) (kT l)).map λd'=>(_,ON "tied" d' [fS n,fM J,fT p]) | _=>W1)=_;rw[lkT];show (DG (.dk (oT p)) (.str w) (kT l)).map _=_;rw[e3];show X0 (_,ON "tied" _ [fS n,fM J,fT p])=_;rw[rpT]
   unfold Ci;rw[Gf,t0,Eh,t1]
  obtain⟨L,I,ih⟩:=Vk n hn x a b J O h5 r (p++[(w,l)]) (.fz (.str w)) (.fz (lT l)) (by simpa using W) (λu hu=>Z u (by simp[hu])) (by simpa using z) (λd=>by simp) (λd=>by simp);refine⟨L,I,?_⟩;rw[bb];unfold Jk;have tg:NU 2 (Bw 4 (Bw 6 NV)) (.tup [.str w,lT l]) [.fz (.adr x),.fz .(5),.fz a,.fz b,T,O,S]=X0 [.fz (.adr x),.fz .(5),.fz a,.fz b,.fz (.str w),O,.fz (lT l)]:=by rw[Pk];rfl
  rw[tg];have no:OO [.fz (.adr x),.fz .(5),.fz a,.fz b,.fz (.str w),O,.fz (lT l)]=E2:=by
   unfold OO;cases O with
   |ow d=>exact MG rfl (h5 d)
   |un=>rfl
   |fz d=>rfl
  show (if OO [.fz (.adr x),.fz .(5),.fz a,.fz b,.fz (.str w),O,.fz (lT l)]=E2 then (Ci [.fz (.adr x),.fz .(5),.fz a,.fz b,.fz (.str w),O,.fz (lT l)] _).bind _ else W1)=_;rw[SF no,b0];show Jk _ _ _ _ _=_;rw[ih];simp
def cD(W:Wl)(h:ll W)(x:Addr):Ca x [.int (W.n:Int),.dk (eM W.ms),.dk (eT W.ts)]=X0 [fS W.n,fM W.ms,fT W.ts]:=by
 have L:(W.ms.map (·.1)).Nodup:=(eI.mp h.nd).1;have J:(W.ts.map (·.1)).Nodup:=(eI.mp h.nd).2.1;obtain⟨S,O,g4,g5,m⟩:=Ua W.n h.n5 x (.dk (eM W.ms)) (.dk (eT W.ts)) (.dk []) .un W.ms [] .un .un (by simpa using L) (λq T=>⟨h.mw q T,h.ml q T⟩) (by simpa using h.m3) (λd=>by simp) (λd=>by simp) (λd=>by simp);obtain⟨Y,U,t⟩:=Vk W.n h.n5 x (.dk (eM W.ms)) (.dk (eT W.ts)) W.ms O g5 W.ts [] S .un (by simpa using J) (λq T=>⟨h.tw q T,λz=>(eI.mp h.nd).2.2 q.1 z q.1 (aT.mpr ⟨q,T,rfl⟩) rfl,h.tl q T⟩) (by simpa using h.t3) g4 (λd=>by simp);rw[ip] at m t;change Jk _ _ _ _ [fS W.n,fM [],fT []]=X0 (_,[fS W.n,fM W.ms,fT []]) at m;have r1:=UW (W.n:Int) 5 (by have:=h.n5;omega);have r2:=UW ((eM W.ms).length:Int) 3 (by have:=h.m3;simp[eM];omega);have r3:=UW ((eT W.ts).length:Int) 3 (by have:=h.t3;simp[eT];omega);have I:OO [.fz (.adr x),.fz (.int (W.n:Int)),.fz (.dk (eM W.ms)),.fz (.dk (eT W.ts)),.un,.un,.un]=E2:=rfl;have p1:OZ (HD (An (Bk) (Aa (vF 1) (Aa (kF (.int 5)) (af))))) [.fz (.adr x),.fz (.int (W.n:Int)),.fz (.dk (eM W.ms)),.fz (.dk (eT W.ts)),.un,.un,.un] []=X0 ([.fz (.adr x),.fz (.int (W.n:Int)),.fz (.dk (eM W.ms)),.fz (.dk (eT W.ts)),.un,.un,.un],[]):=WL (by simp only[cK,r1]) I;have p2:OZ (HD (An (Bk) (Aa (uF NI (vF 2)) (Aa (kF (.int 3)) (af))))) [.fz (.adr x),.fz (.int (W.n:Int)),.fz (.dk (eM W.ms)),.fz (.dk (eT W.ts)),.un,.un,.un] []=X0 ([.fz (.adr x),.fz (.int (W.n:Int)),.fz (.dk (eM W.ms)),.fz (.dk (eT W.ts)),.un,.un,.un],[]):=WL (by simp only[dK,r2]) I;have p3:OZ (HD (An (Bk) (Aa (uF NI (vF 3)) (Aa (kF (.int 3)) (af))))) [.fz (.adr x),.fz (.int (W.n:Int)),.fz (.dk (eM W.ms)),.fz (.dk (eT W.ts)),.un,.un,.un] []=X0 ([.fz (.adr x),.fz (.int (W.n:Int)),.fz (.dk (eM W.ms)),.fz (.dk (eT W.ts)),.un,.un,.un],[]):=WL (by simp only[dK,r3]) I;have s1:JB "size" (vF 1) [.fz (.adr x),.fz (.int (W.n:Int)),.fz (.dk (eM W.ms)),.fz (.dk (eT W.ts)),.un,.un,.un] []=X0 ([.fz (.adr x),.fz (.int (W.n:Int)),.fz (.dk (eM W.ms)),.fz (.dk (eT W.ts)),.un,.un,.un],[fS W.n]):=rfl;have s2:RM "marked" (kF (.dk [])) [.fz (.adr x),.fz (.int (W.n:Int)),.fz (.dk (eM W.ms)),.fz (.dk (eT W.ts)),.un,.un,.un] [fS W.n]=X0 ([.fz (.adr x),.fz (.int (W.n:Int)),.fz (.dk (eM W.ms)),.fz (.dk (eT W.ts)),.un,.un,.un],[fS W.n,fM []]):=by
  have l:cb ("marked":Str) [fS W.n]=W1:=by
   rw[ca,q1];rfl
  unfold RM;show (if (cb ("marked":Str) [fS W.n]).isNone=E2/\[fS W.n].length<1000 then X0 (_,[fS W.n]++[(("marked":Str),E2,D.dk [])]) else W1)=_;rw[l,SF ⟨rfl,(by show 1<1000;decide)⟩];rfl
 have s3:RM "tied" (kF (.dk [])) [.fz (.adr x),.fz (.int (W.n:Int)),.fz (.dk (eM W.ms)),.fz (.dk (eT W.ts)),.un,.un,.un] [fS W.n,fM []]=X0 ([.fz (.adr x),.fz (.int (W.n:Int)),.fz (.dk (eM W.ms)),.fz (.dk (eT W.ts)),.un,.un,.un],[fS W.n,fM [],fT []]):=by
  have l:cb ("tied":Str) [fS W.n,fM []]=W1:=by
   rw[ca,q2];show cb ("tied":Str) [fM []]=W1;rw[ca,q3];rfl
  unfold RM;show (if (cb ("tied":Str) [fS W.n,fM []]).isNone=E2/\[fS W.n,fM []].length<1000 then X0 (_,[fS W.n,fM []]++[(("tied":Str),E2,D.dk [])]) else W1)=_;rw[l,SF ⟨rfl,(by show 2<1000;decide)⟩];rfl
 have i1:Ql (vF 2) [.fz (.adr x),.fz (.int (W.n:Int)),.fz (.dk (eM W.ms)),.fz (.dk (eT W.ts)),.un,.un,.un]=X0 (W.ms.map λq=>.tup [.str q.1,lM q.2]):=by
  show X0 ((eM W.ms).map λp=>D.tup [Sn p.1,p.2])=_;simp only[eM,bE,io,Th]
 have i2:Ql (vF 3) [.fz (.adr x),.fz (.int (W.n:Int)),.fz (.dk (eM W.ms)),.fz (.dk (eT W.ts)),S,O,.un]=X0 (W.ts.map λq=>.tup [.str q.1,lT q.2]):=by
  show X0 ((eT W.ts).map λp=>D.tup [Sn p.1,p.2])=_;simp only[eT,bE,io,Th]
 have Z:Te 7 x [.int (W.n:Int),.dk (eM W.ms),.dk (eT W.ts)]=[.fz (.adr x),.fz (.int (W.n:Int)),.fz (.dk (eM W.ms)),.fz (.dk (eT W.ts)),.un,.un,.un]:=rfl;unfold Ca XU;rw[SF (show [D.int (W.n:Int),.dk (eM W.ms),.dk (eT W.ts)].length+1=4 from rfl),Z];unfold HS;rw[Gf,p1,Eh,Gf,p2,Eh,Gf,p3,Eh,Gf,s1,Eh,Gf,s2,Eh,Gf,s3,Eh,Gf,lC i1,m,Eh,Gf,lC i2,t,Eh,lA];rfl
def vf(W:Wl)(h:ll W)(fs:FA)(ρ:Rho)(z:fs ρ=X0 [.int (W.n:Int),.dk (eM W.ms),.dk (eT W.ts)]):mkI "World" Ca fs ρ=X0 (fx W):=by
 unfold mkI;rw[z];simp only[eB,cD W h 0];rw[SF (λx=>cD W h x)];rfl
def HY(f:Nat->Bool)(h:Nat->D)(src:FI)(hs:src ρ=X0 (tx n))(O:n<=1000)(h1:∀k,k<n->ga (ρ++[.fz (.int k)])=X0 (f k))(L:∀k,k<n->fe (ρ++[.fz (.int k)])=X0 (h k)):A_ src ga fe ρ=X0 (.lst (((aS n).filter f).map h)):=by
 have c:∀l:List Nat,(∀k∈l,k<n)->J7 ρ ga fe (l.map λ(k:Nat)=>D.int k)=X0 ((l.filter f).map h):=by
  intro l
  induction l with
  |nil=>intro _;rfl
  |cons k r z=>
   intro Y;rw[bb,Kr,h1 k (Y k .(1)),L k (Y k .(1)),z λd J=>Y d (by simp[J]),List.filter_cons];cases f k<;>rfl
 exact Rq hs (by rw[Gd];omega) (c (aS n) λk I=>cE.mp I)
def Vl{l:List Str}(J:l.Nodup){i j:Nat}(I:i<l.length)(U:j<l.length)(e:l[i]=l[j]):i=j:=by
 have h:=vt.mp J
 rcases B9 i j with z | z | z
 .exact MG e (h i j I U z)
 .exact z
 .exact MG e.symm (h j i U I z)
def Dv(n:Nat)(f:Nat->Bool):((aS n).filter f).Nodup:=List.Nodup.sublist List.filter_sublist yT
def Zj(n:Nat)(I:n<=100)(ρ:Rho)(i:Nat)(h:ρ[i]?=X0 (.fz .(5))):vb (vF i) ρ=X0 (tx n):=by
 have z:=Jz (n:Int) .(0);simp only[ZM,e_v,h,SZ,z,eC]
def shl1(k:Nat)(I:k<30):shlD (.int 1) (.int (k:Int))=X0 (.int (2^k)):=by
 show (if CShl 1 (k:Int) then X0 (D.int (1*2^(k:Int).toNat)) else W1)=_;rw[SF ⟨by omega,by omega,by decide +kernel⟩];simp
def fV(k:Nat)(I:k<26):(0:Int)<2^k/\(2:Int)^k<1073741824:=by
 have:∀k<26,(0:Int)<2^k/\(2:Int)^k<1073741824:=by decide +kernel
 exact this k I
def three(i:Int):i%3=0∨i%3=1∨i%3=2:=by omega
def nP(i S:Int)(k:Nat)(hk:k<26)(fs:List D)(J:fs.length<=1000)(n:Int)(T:0<=n/\n<2147483629):∃(b:Bool) (z:Int),0<=z/\z<2147483629 ∧
  EY [.fz (.int i),.fz (.int S),.ow (.lst fs),.fz (.int n),.fz (.int (k:Int))]=X0 (.nx [.fz (.int i),.fz (.int S),.ow (.lst (fs++[.bl b])),.fz (.int z),.fz (.int (k:Int))]):=by
 obtain⟨p0,p1⟩:=fV k hk;have Z:=shl1 k .(0)
 rcases three i with h | h | h
 .have d1:=Ha i 3 .(2) .(2);have d2:=Ha (i/3) (2^k) p0 p1;refine⟨decide (i/3/2^k%2=1),n,T.1,T.2,?_⟩;have a:=Nz fs (.bl (decide (i/3/2^k%2=1))) J;have I:=Hz i 3 .(2);rw[h] at I;simp only[ciK,EY,I,Z,d1,d2,a,w9]
 all_goals
  have I:=Hz i 3 .(2);rw[h] at I;have Y:=Pb n n .(0);have W:=rJ 48271 n .(2);have U:=Hz (n*n+48271*n+(k:Int)+1) 2147483629 .(2);have O:0<=(n*n+48271*n+(k:Int)+1)%2147483629:=kK _ .(2);have b1:(n*n+48271*n+(k:Int)+1)%2147483629<2147483629:=nl _ .(2);generalize (n*n+48271*n+(k:Int)+1)%2147483629=z at U O b1
 .have L:NO (.int 2) (.int 1)=X0 (.int 2):=by rfl
  have a:=Nz fs (.bl (decide (z/7%2=0))) J;refine⟨decide (z/7%2=0),z,O,b1,?_⟩;simp only[ciK,EY,I,Y,W,L,U,a,w9]
 .have L:NO (.int 2) (.int 2)=X0 (.int 4):=by rfl
  have a:=Nz fs (.bl (decide (z/7%4=0))) J;refine⟨decide (z/7%4=0),z,O,b1,?_⟩;simp only[ciK,EY,I,Y,W,L,U,a,w9]
theorem R6(i:Int)(mm:Nat)(hm:mm<=25):∃bs:List Bool,Em [.int i,.int (mm:Int)]=X0 (.lst (bs.map .bl))/\bs.length=mm:=by
 have n0:0<=i/3%2147483629:=kK _ .(2);have n1:i/3%2147483629<2147483629:=nl _ .(2);obtain⟨T,e,bs,I,z4,rfl,L,_⟩:=MN (b:=OY (Ax 4) EY) (ds:=tx mm) (ρ:=[.fz (.int i),.fz (.int (mm:Int)),.ow (.lst []),.fz (.int (i/3%2147483629)),.un])
  (P:=λk J=>∃(bs:List Bool) (I:Int) (z:Slot),J=[.fz (.int i),.fz (.int (mm:Int)),.ow (.lst (bs.map .bl)),.fz (.int I),z]/\bs.length=k/\0<=I/\I<2147483629) 0 ⟨[],_,.un,rfl,rfl,n0,n1⟩ (by
   rintro k d J O ⟨bs,I,z,rfl,L,S,Y⟩;have W:k<mm:=by
    have:=(dP.mp O).1
    rwa [Gd] at this
   have ed:d=.int (k:Int):=by
    have:=O;simp[tx,W] at this;exact this.symm
   subst ed;obtain⟨b,n2,h1,Z,U⟩:=nP i mm k .(0) (bs.map .bl) (by simp;omega) I ⟨S,Y⟩;refine⟨_,?_,bs++[b],n2,.fz (.int (k:Int)),rfl,by simp;omega,h1,Z⟩;rw[Sf,Ku,Lh];rw[dS];exact U)
 rw[Gd,lc] at L;refine⟨bs,?_,L⟩;have e6:=Jz (mm:Int) .(0);simp only[diK,Em,Mi,e6,eC,e,w9]
def Vu{z:List Str}{k:Nat}(h:k<z.length):dq (.lst (z.map .str)) (.int (k:Int))=X0 (.str z[k]):=by
 show atI (z.map D.str) (k:Int)=_;rw[Qo,br];simp[h]
def cF{bs:List Bool}{k:Nat}(h:k<bs.length):dq (.lst (bs.map .bl)) (.int (k:Int))=X0 (.bl bs[k]):=by
 show atI (bs.map D.bl) (k:Int)=_;rw[Qo,br];simp[h]
structure Mk (n:Nat) (ms:List (Str×List Nat)):Prop where
 ok:∀p∈ms,p.2.Nodup/\p.2.length<=100/\∀t∈p.2,t<n
structure Tk (n:Nat) (ts:List (Str×List (Nat×Nat))):Prop where
 ok:∀p∈ts,p.2.Nodup/\p.2.length<=100/\∀q∈p.2,q.1<n/\q.2<n
def fW(L:List Int)(c:D)(n m:Nat)(hn:n<=5)(I:List Str)(k:Nat)(hk:k<m)(T:k<I.length)(J:List (Str×List Nat))(hl:J.length<=50)(Y:I[k]∉J.map (·.1))(hm:Mk n J)(O U:Slot):
  ∃l z,Ce [.fz .(4),.fz (.int 0),.fz c,.fz .(5),.fz (.int (m:Int)),.fz (.lst (I.map .str)),.ow (.dk (eM J)),O,.fz (.int (k:Int)),U]
   = X0 (.nx [.fz .(4),.fz (.int 0),.fz c,.fz .(5),.fz (.int (m:Int)),.fz (.lst (I.map .str)),.ow (.dk (eM (J++[(I[k],l)]))),O,.fz (.int (k:Int)),z])/\Mk n (J++[(I[k],l)]):=by
 obtain⟨i,ci⟩:=R5 L (2+k);obtain⟨bs,hb,N0⟩:=R6 i n .(0);have ce:(0:Int)+2+(k:Int)=((2+k:Nat):Int):=by omega
 have lt:decide ((k:Int)<(m:Int))=E2:=by simp;omega
 have cm:A_ (vb (vF 3)) JF Mj [.fz .(4),.fz (.int 0),.fz c,.fz .(5),.fz (.int (m:Int)),.fz (.lst (I.map .str)),.ow (.dk (eM J)),O,.fz (.int (k:Int)),.fz (.lst (bs.map .bl))]=X0 (lM ((aS n).filter λt=>bs.getD t E3)):=
  HY (λt=>bs.getD t E3) iN _ (Zj n .(0) _ 3 rfl) .(0) (λt S=>by
   have ix:=cF (bs:=bs) (k:=t) .(0);have eg:bs.getD t E3=bs[t]'(by omega):=by rw[gv,bv .(0)];rfl
   simp only[cK,JF,ix,eg]) λt S=>rfl
 have W:DG (.dk (eM J)) (.str I[k]) (lM ((aS n).filter λt=>bs.getD t E3))=X0 (.dk (eM (J++[(I[k],(aS n).filter λt=>bs.getD t E3)]))):=by
  rw[Kz _ _ _ (by simp[eM];omega)];have:(.inr I[k]:Key)∉(eM J).map (·.1):=Fq lM Y;rw[qd this];simp[eM]
 have ix:=Vu T;refine⟨(aS n).filter λt=>bs.getD t E3,.fz (.lst (bs.map .bl)),?_,⟨λp Z=>?_⟩⟩
 .simp only[ciK,Ce,lt,ce,ci,hb,Tg,Ks,ix,cm,Oe,W]
 .rcases eJ.mp Z with q | q
  .exact hm.ok p q
  .obtain rfl:=ii.mp q;refine⟨Dv n _,?_,λt S=>cE.mp (fw.mp S).1⟩;have:=sL (λt=>bs.getD t E3) (aS n);rw[oj] at this;show ((aS n).filter _).length<=100;omega
def nQ(L:List Int)(c:D)(n m:Nat)(Z:n<=5)(I:List Str)(k:Nat)(hk:m<=k)(W:k<I.length)(J:List (Str×List (Nat×Nat)))(hl:J.length<=50)(nt:I[k]∉J.map (·.1))(hm:Tk n J)(S z9:Slot):
  ∃l z,Ce [.fz .(4),.fz (.int 0),.fz c,.fz .(5),.fz (.int (m:Int)),.fz (.lst (I.map .str)),S,.ow (.dk (eT J)),.fz (.int (k:Int)),z9]
   = X0 (.nx [.fz .(4),.fz (.int 0),.fz c,.fz .(5),.fz (.int (m:Int)),.fz (.lst (I.map .str)),S,.ow (.dk (eT (J++[(I[k],l)]))),.fz (.int (k:Int)),z])/\Tk n (J++[(I[k],l)]):=by
 have U:n*n<=25:=FU Z Z;obtain⟨i,ci⟩:=R5 L (5+k-m);obtain⟨bs,hb,N0⟩:=R6 i (n*n) U;have ce:(0:Int)+5+(k:Int)-(m:Int)=((5+k-m:Nat):Int):=by omega
 have lt:decide ((k:Int)<(m:Int))=E3:=by simp;omega
 have T:=Pb (n:Int) (n:Int) .(0);have mc:(n:Int)*(n:Int)=((n*n:Nat):Int):=by simp
 rw[mc] at T;have rg:vb (bF NO (vF 3) (vF 3)) [.fz .(4),.fz (.int 0),.fz c,.fz .(5),.fz (.int (m:Int)),.fz (.lst (I.map .str)),S,.ow (.dk (eT J)),.fz (.int (k:Int)),.fz (.lst (bs.map .bl))]=X0 (tx (n*n)):=by
  have e6:=Jz ((n*n:Nat):Int) .(0);rw[eC] at e6;simp only[cK,T,e6]
 have cm:A_ (vb (bF NO (vF 3) (vF 3))) JG JH [.fz .(4),.fz (.int 0),.fz c,.fz .(5),.fz (.int (m:Int)),.fz (.lst (I.map .str)),S,.ow (.dk (eT J)),.fz (.int (k:Int)),.fz (.lst (bs.map .bl))]=X0 (.lst (((aS (n*n)).filter λt=>bs.getD t E3).map λt=>pN (t/n,t%n))):=
  HY (λt=>bs.getD t E3) (λt=>pN (t/n,t%n)) _ rg .(0) (λt O=>by
   have ix:=cF (bs:=bs) (k:=t) .(0);have eg:bs.getD t E3=bs[t]'(by omega):=by rw[gv,bv .(0)];rfl
   simp only[cK,JG,ix,eg]) λt O=>by
   have n0:0<n:=by
    rcases C3 n with z | z
    .subst z;simp at O
    .exact z
   have d1:=Ha (t:Int) (n:Int) .(0) .(0);have d2:=Hz (t:Int) (n:Int) .(0);have q1:(t:Int)/(n:Int)=((t/n:Nat):Int):=by simp
   have q2:(t:Int)%(n:Int)=((t%n:Nat):Int):=by simp
   rw[q1] at d1;rw[q2] at d2;simp only[cK,JH,d1,d2]
 have el:(.lst (((aS (n*n)).filter λt=>bs.getD t E3).map λt=>pN (t/n,t%n)):D)=lT (((aS (n*n)).filter λt=>bs.getD t E3).map λt=>(t/n,t%n)):=by simp[lT]
 rw[el] at cm;have pk:DG (.dk (eT J)) (.str I[k]) (lT (((aS (n*n)).filter λt=>bs.getD t E3).map λt=>(t/n,t%n)))=X0 (.dk (eT (J++[(I[k],((aS (n*n)).filter λt=>bs.getD t E3).map λt=>(t/n,t%n))]))):=by
  rw[Kz _ _ _ (by simp[eT];omega)];have:(.inr I[k]:Key)∉(eT J).map (·.1):=Fq lT nt;rw[qd this];simp[eT]
 have ix:=Vu W;refine⟨((aS (n*n)).filter λt=>bs.getD t E3).map λt=>(t/n,t%n),.fz (.lst (bs.map .bl)),?_,⟨λp hp=>?_⟩⟩
 .simp only[ciK,Ce,lt,ce,ci,T,hb,Tg,Ks,ix,cm,Oe,pk]
 .rcases eJ.mp hp with q | q
  .exact hm.ok p q
  .obtain rfl:=ii.mp q;refine⟨?_,?_,λq hq=>?_⟩
   .rw[nh,kH];refine C4 (λ{a b} Y e=>Y ?_) (Dv (n*n) _);simp only[re] at e;have h1:=C5 a n;have h2:=C5 b n;rw[e.1,e.2] at h1;exact h1.symm.trans h2
   .have:=sL (λt=>bs.getD t E3) (aS (n*n));rw[oj] at this;show (((aS (n*n)).filter _).map _).length<=100;rw[av];omega
   .obtain⟨t,O,rfl⟩:=aT.mp hq;have O:=cE.mp (fw.mp O).1;have n0:0<n:=by
     rcases C3 n with z | z
     .subst z;simp at O
     .exact z
    exact⟨LT O,vE _ n0⟩
def fY(a:Int)(b:Bool):dq (.lst [.int a,.int 5]) (.int (if b then 1 else 0))=X0 (.int (if b then 5 else a)):=by cases b<;>rfl
def yg(l:List D):NI (.lst l)=X0 (.int l.length):=VM l
def Eqn(a b:Int):Prop:=a=b
def nums(c:Int):∃n m t:Nat,Eqn (n:Int) (if decide (c/45%12=11) then 5 else c/9%5)/\n<=5/\Eqn (m:Int) (c%4)/\m<=3/\Eqn (t:Int) (c/4%4)/\t<=3:=by
 have O:∀(x:Int) (k:Nat),0<=x->x<=k->∃n:Nat,(n:Int)=x/\n<=k:=λx k W U=>⟨x.toNat,by omega,by omega⟩;obtain⟨n,S,I⟩:=O (if decide (c/45%12=11) then 5 else c/9%5) 5 (by split<;>omega) (by split<;>omega);obtain⟨m,T,J⟩:=O (c%4) 3 .(0) .(0);obtain⟨t,L,z⟩:=O (c/4%4) 3 .(0) .(0);exact⟨n,m,t,S,I,T,J,L,z⟩
theorem nR(O:List Int):∃W:Wl,ll W/\Gi [.lst (O.map .int),.int 0]=X0 (.lst [.int (W.n:Int),.dk (eM W.ms),.dk (eT W.ts)]):=by
 obtain⟨c,hc⟩:=R5 O 0;obtain⟨c1,P1⟩:=R5 O 1;obtain⟨n,m,t,en,hn,em,Y1,et,X1⟩:=nums c;obtain⟨I,S0,T0,N0,hnd⟩:=nH c1 (m+t) .(0);obtain⟨U1,e,L,J,z8,Z,rfl,Y,U,a3,a4⟩:=MN (b:=OY (Ax 8) Ce) (ds:=tx (m+t)) (ρ:=[.fz (.lst (O.map .int)),.fz (.int 0),.fz (.int c),.fz .(5),.fz (.int (m:Int)),.fz (.lst (I.map .str)),.ow (.dk (eM [])),.ow (.dk (eT [])),.un,.un])
  (P:=λk ρ=>∃(L:List (Str×List Nat)) (J:List (Str×List (Nat×Nat))) (z8 Z:Slot),ρ=[.fz (.lst (O.map .int)),.fz (.int 0),.fz (.int c),.fz .(5),.fz (.int (m:Int)),.fz (.lst (I.map .str)),.ow (.dk (eM L)),.ow (.dk (eT J)),z8,Z]/\L.map (·.1)=(I.take m).take k/\J.map (·.1)=(I.drop m).take (k-m)/\Mk n L/\Tk n J) 0 ⟨[],[],.un,.un,rfl,by simp,by simp,⟨by simp⟩,⟨by simp⟩⟩ (by
   rintro k d ρ hd ⟨L,J,z8,Z,rfl,Y,U,a3,a4⟩;have hk:k<m+t:=by
    have:=(dP.mp hd).1
    rwa [Gd] at this
   have ed:d=.int (k:Int):=by
    have:=hd;simp[tx,hk] at this;exact this.symm
   subst ed;rw[lc] at *;have T:k<I.length:=by omega
   by_cases N1:k<m
   .have nt:I[k]∉L.map (·.1):=by
     rw[Y,wa];intro q;obtain⟨j,hj,ej⟩:=uS q;rw[kf] at hj;rw[ES] at ej;have:=Vl hnd .(0) T ej;omega
    have l1:=SG cy Y;simp at l1;obtain⟨l,z,st,S⟩:=fW O (.int c) n m hn I k N1 T L .(0) nt a3 (.ow (.dk (eT J))) Z;refine⟨_,?_,L++[(I[k],l)],J,.fz (.int (k:Int)),z,rfl,?_,?_,S,a4⟩
    .rw[Sf,Ku,Lh];exact st
    .rw[dS,Y,wa,wa,show min k m=k by omega,show min (k+1) m=k+1 by omega,FV,bv T];rfl
    .rw[U,show k-m=0 by omega,show k+1-m=0 by omega]
   .have nt:I[k]∉J.map (·.1):=by
     rw[U];intro q;obtain⟨j,hj,ej⟩:=uS q;rw[kf,mP] at hj;rw[ES,KB] at ej;have:=Vl hnd .(0) T ej;omega
    have l1:=SG cy U;simp at l1;obtain⟨l,z,st,S⟩:=nQ O (.int c) n m hn I k .(0) T J .(0) nt a4 (.ow (.dk (eM L))) Z;refine⟨_,?_,L,J++[(I[k],l)],.fz (.int (k:Int)),z,rfl,?_,?_,a3,S⟩
    .rw[Sf,Ku,Lh];exact st
    .rw[Y,wa,wa,show min k m=m by omega,show min (k+1) m=m by omega]
    .rw[dS,U,show k+1-m=(k-m)+1 by omega,FV,AS,show m+(k-m)=k by omega,bv T];rfl)
 rw[Gd,lc] at *;have b1:L.map (·.1)=I.take m:=by rw[Y,wa,show min (m+t) m=m by omega]
 have b2:J.map (·.1)=I.drop m:=by rw[U,E4 (by rw[mP];omega)]
 refine⟨⟨n,L,J⟩,⟨hn,?_,?_,λp hp=>?_,λp hp=>?_,?_,a3.ok,a4.ok⟩,?_⟩
 .have:=SG cy b1;simp at this;show L.length<=3;omega
 .have:=SG cy b2;simp at this;show J.length<=3;omega
 .refine N0 _ (KG (i:=m) ?_);rw[<-b1];exact aT.mpr ⟨p,hp,rfl⟩
 .refine N0 _ (ET (i:=m) ?_);rw[<-b2];exact aT.mpr ⟨p,hp,rfl⟩
 .show (L.map (·.1)++J.map (·.1)).Nodup;rw[b1,b2,ze];exact hnd
 .have e6:=Jz ((m+t:Nat):Int) .(0);unfold Eqn at en em et;rw[eC] at e6;have i1:(0:Int)+1=((1:Nat):Int):=rfl;have i0:(0:Int)=((0:Nat):Int):=rfl;have S1:Ar [.lst (O.map .int),.int 0]=X0 (.int c):=hc;have O0:Ar [.lst (O.map .int),.int 1]=X0 (.int c1):=P1;have sp:=fY (c/9%5) (decide (c/45%12=11));rw[<-en] at sp;have mt:(m:Int)+(t:Int)=((m+t:Nat):Int):=by simp
  have lw:NI (.lst (I.map .str))=X0 (.int ((m+t:Nat):Int)):=by rw[yg,av,T0]
  have w0:(.dk []:D)=.dk (eM []):=rfl;have w1:(.dk []:D)=.dk (eT []):=rfl;have e':ot (OY (Ax 8) Ce) (tx (m+t)) [.fz (.lst (O.map .int)),.fz (.int 0),.fz (.int c),.fz .(5),.fz (.int (m:Int)),.fz (.lst (I.map .str)),.ow (.dk []),.ow (.dk []),.un,.un]=_:=e;simp only[diK,Gi,K7,vd,S1,w9,Int.reduceAdd,O0,sp,<-em,<-et,mt,S0,lw,e6,e']
def fZ{z I:Type}(f:z->I)(l:List z)(j:Nat):(l.map f).eraseIdx j=(l.eraseIdx j).map f:=by
 rw[zv,zv,dS,zk,BE]
def pop_at(xs:List Nat)(j:Nat)(h:j<xs.length):popD (.lst (xs.map iN)) (.int (j:Int))=X0 (iN xs[j],.lst ((xs.eraseIdx j).map iN)):=by
 have e:(xs.map iN)[j]?=X0 (iN xs[j]):=by rw[br,bv h];rfl
 show (if 0<=(j:Int)/\(j:Int)<((xs.map iN).length:Nat) then ((xs.map iN)[((j:Int)).toNat]?).map (λd=>(d,D.lst ((xs.map iN).eraseIdx ((j:Int)).toNat))) else W1)=_;rw[SF ⟨by omega,by rw[av];omega⟩,eC,e,fZ];rfl
def yh(xs:List Nat):Nd E2 (.lst (xs.map iN)) (.lst [])=X0 (.bl (decide (xs≠[]))):=by
 cases xs with
 |nil=>rfl
 |cons x r=>
  show (Se (.lst _) (.lst _)).map _=_;have:Se (.lst ((x::r).map iN)) (.lst [])=X0 E3:=by
   show (if ((x::r).map iN).length=([]:List D).length then MR (MM 180) ((x::r).map iN) [] else X0 E3)=X0 E3;exact UF .(1)
  rw[this];rfl
def JD{z:Type}(xs:List z)(j:Nat)(h:j<xs.length):(xs[j]::xs.eraseIdx j).Perm xs:=by
 rw[zv];have e:xs.take j++xs[j]::xs.drop (j+1)=xs:=by rw[<-ua h,ze]
 exact (L4.symm).trans (by rw[e])
theorem YK(n:D):∀(k:Nat) (xs ys:List Nat) (i:Int) (f:Nat),xs.length=k->xs.length+ys.length<=100->k<f->∃O L,L.Perm xs ∧
  HJ Bj CK f [.fz (.int i),.fz n,.ow (lN xs),.ow (lN ys)]=X0 (.nx [.fz (.int O),.fz n,.ow (.lst []),.ow (lN (ys++L))])
 |k,xs,ys,i,0,_,_,W=>by omega
 |0,xs,ys,i,f+1,Y,_,W=>by
  have e:xs=[]:=yA Y;subst e;refine⟨i,[],.nil,?_⟩;unfold HJ;have t:Bj [.fz (.int i),.fz n,.ow (lN []),.ow (lN ys)]=X0 E3:=by
   simp only[cK,Bj,lN];rfl
  rw[t,f6];rfl
 |k+1,xs,ys,i,f+1,Y,hs,W=>by
  have t:Bj [.fz (.int i),.fz n,.ow (lN xs),.ow (lN ys)]=X0 E2:=by
   have q:=yh xs;have:xs≠[]:=λz=>by subst z;simp at Y
   simp only[cK,Bj,lN,q,this,ne_eq,not_false_eq_true]
  have j0:0<=i%(xs.length:Int):=kK _ .(0);have j1:i%(xs.length:Int)<xs.length:=nl _ .(0);obtain⟨j,ej⟩:∃j:Nat,(j:Int)=i%(xs.length:Int):=⟨(i%(xs.length:Int)).toNat,by omega⟩;have U:j<xs.length:=by omega
  have pp:=pop_at xs j U;have T:(xs.eraseIdx j).length=k:=by rw[List.length_eraseIdx_of_lt U];omega
  have m1:=Hz i (xs.length:Int) .(0);have m2:=Ha i ((xs.eraseIdx j).length+1:Int) (by omega) (by omega);have S:=VM (xs.map iN);rw[av] at S;have J:=VM ((xs.eraseIdx j).map iN);rw[av] at J;have ap:NX (.lst (ys.map iN)) (iN xs[j])=X0 (.lst ((ys++[xs[j]]).map iN)):=by rw[Nz _ _ (by simp;omega),dS];rfl
  obtain⟨O,L,pz,ih⟩:=YK n k (xs.eraseIdx j) (ys++[xs[j]]) (i/((xs.eraseIdx j).length+1:Int)) f T (by rw[T,fh];simp;omega) .(0);refine⟨O,xs[j]::L,(BD _ pz).trans (JD xs j U),?_⟩;have b1:appX 3 (popX 2 (bF oo (vF 0) (uF Pi (vU 2)))) [.fz (.int i),.fz n,.ow (lN xs),.ow (lN ys)]=X0 (.nx [.fz (.int i),.fz n,.ow (lN (xs.eraseIdx j)),.ow (lN (ys++[xs[j]]))]):=by
   have Z:bF oo (vF 0) (uF Pi (vU 2)) [.fz (.int i),.fz n,.ow (lN xs),.ow (lN ys)]=X0 (.int (j:Int)):=by
    rw[ej];simp only[cK,lN,S,m1]
   unfold appX popX;rw[Z];simp only[Pd,oS,oC,eB,lN,pp,gi,oQ,oP,lstQ,ap]
  have b2:CK [.fz (.int i),.fz n,.ow (lN xs),.ow (lN ys)]=X0 (.nx [.fz (.int (i/((xs.eraseIdx j).length+1:Int))),.fz n,.ow (lN (xs.eraseIdx j)),.ow (lN (ys++[xs[j]]))]):=by
   unfold CK;rw[MP,b1,Si];simp only[ciK,lN,J,m2]
  unfold HJ;rw[t];show (match CK _ with | some (.nx I)=>HJ Bj CK f I | some (.ct I)=>HJ Bj CK f I | some (.bk I)=>X0 (.nx I) | some (.rt e I)=>X0 (.rt e I) | none=>W1)=_;rw[b2];show HJ Bj CK f _=_;rw[ih,mT];rfl
def yj(n:Nat)(h:n<=100):bO .(5)=X0 (lN (aS n)):=by
 show (if 0<=(n:Int)/\(n:Int)<=1000000 then X0 (D.lst (tx (n:Int).toNat)) else W1)=_;rw[SF ⟨by omega,by omega⟩,eC];rfl
def Tt(i:Int)(n:Nat)(O:n<=5):∃os:List Nat,os.Perm (aS n)/\Ih [.int i,.int (n:Int)]=X0 (lN os):=by
 obtain⟨L,z,I,e⟩:=YK .(5) n (aS n) [] i 60 .(1) (by simp;omega) .(0);rw[ip] at e;refine⟨z,I,?_⟩;have r:=yj n .(0);have J:(D.lst [])=lN []:=rfl;simp only[dK,Ih,K5,r,J,e]
def R7(J:List (Str×List Nat)):(eM J).map (λp=>Sn p.1)=(J.map (·.1)).map .str:=by simp[eM,Th]
def R8(z:List (Str×List (Nat×Nat))):(eT z).map (λp=>Sn p.1)=(z.map (·.1)).map .str:=by simp[eT,Th]
theorem YL(L:List Int)(s w I:D)(n:Nat)(hn:n<=5)(O:Slot):∀(r:List Str) (J:List (Str×List Nat)) (k:Nat) (T S:Slot),(J.map (·.1)++r).Nodup->(J.map (·.1)++r).length<=50->∃z W U,z.map (·.1)=r/\Mk n z ∧
  ot (OY (Ax 8) Gj) (r.map .str) [.fz .(4),.fz s,.fz w,.fz I,.fz .(5),.ow (.dk (eM J)),O,.fz (.int (k:Int)),T,S]=X0 (.nx [.fz .(4),.fz s,.fz w,.fz I,.fz .(5),.ow (.dk (eM (J++z))),O,.fz (.int ((k+r.length:Nat):Int)),W,U])
 |[],J,k,T,S,_,_=>⟨[],T,S,rfl,⟨by simp⟩,by rw[f6];rfl⟩
 |x::r,J,k,T,S,Y,hl=>by
  obtain⟨bs,hb,N0⟩:=R6 (L.getD (k+1) 0) n .(0);have ci:=La L (k+1);have ce:(k:Int)+1=((k+1:Nat):Int):=by omega
  have nt:x∉J.map (·.1):=λq=>by
   rw[eI] at Y;exact Y.2.2 x q x .(1) rfl
  have cm:A_ (vb (vF 4)) JK Ml [.fz .(4),.fz s,.fz w,.fz I,.fz .(5),.ow (.dk (eM J)),O,.fz (.int ((k+1:Nat):Int)),.fz (.str x),.fz (.lst (bs.map .bl))]=X0 (lM ((aS n).filter λt=>bs.getD t E3)):=
   HY (λt=>bs.getD t E3) iN _ (Zj n .(0) _ 4 rfl) .(0) (λt Z=>by
    have ix:=cF (bs:=bs) (k:=t) .(0);have eg:bs.getD t E3=bs[t]'(by omega):=by rw[gv,bv .(0)];rfl
    simp only[cK,JK,ix,eg]) λt Z=>rfl
  have pk:DG (.dk (eM J)) (.str x) (lM ((aS n).filter λt=>bs.getD t E3))=X0 (.dk (eM (J++[(x,(aS n).filter λt=>bs.getD t E3)]))):=by
   rw[Kz _ _ _ (by simp[eM] at hl ⊢;omega)];have:(.inr x:Key)∉(eM J).map (·.1):=Fq lM nt;rw[qd this];simp[eM]
  have st:Gj [.fz .(4),.fz s,.fz w,.fz I,.fz .(5),.ow (.dk (eM J)),O,.fz (.int (k:Int)),.fz (.str x),S]=X0 (.nx [.fz .(4),.fz s,.fz w,.fz I,.fz .(5),.ow (.dk (eM (J++[(x,(aS n).filter λt=>bs.getD t E3)]))),O,.fz (.int ((k+1:Nat):Int)),.fz (.str x),.fz (.lst (bs.map .bl))]):=by
   simp only[ciK,Gj,ce,ci,hb,Tg,Ks,cm,Oe,pk]
  obtain⟨z,W,U,h1,h2,ih⟩:=YL L s w I n hn O r (J++[(x,(aS n).filter λt=>bs.getD t E3)]) (k+1) (.fz (.str x)) (.fz (.lst (bs.map .bl))) (by simpa using Y) (by simpa using hl);refine⟨(x,(aS n).filter λt=>bs.getD t E3)::z,W,U,by simp[h1],⟨λp hp=>?_⟩,?_⟩
  .rcases bp.mp hp with q | q
   .subst q;refine⟨Dv n _,?_,λt Z=>cE.mp (fw.mp Z).1⟩;have:=sL (λt=>bs.getD t E3) (aS n);rw[oj] at this;show ((aS n).filter _).length<=100;omega
   .exact h2.ok p q
  .w_up
   rw[st,By,ih,mT,d3,show k+1+r.length=k+(r.length+1) by omega];rfl
theorem cG(L:List Int)(s w S:D)(n:Nat)(hn:n<=5)(O:Slot):∀(r:List Str) (I:List (Str×List (Nat×Nat))) (k:Nat) (W U:Slot),(I.map (·.1)++r).Nodup->(I.map (·.1)++r).length<=50->∃J y8 Z,J.map (·.1)=r/\Tk n J ∧
  ot (OY (Ax 8) Gk) (r.map .str) [.fz .(4),.fz s,.fz w,.fz S,.fz .(5),O,.ow (.dk (eT I)),.fz (.int (k:Int)),W,U]=X0 (.nx [.fz .(4),.fz s,.fz w,.fz S,.fz .(5),O,.ow (.dk (eT (I++J))),.fz (.int ((k+r.length:Nat):Int)),y8,Z])
 |[],I,k,W,U,_,_=>⟨[],W,U,rfl,⟨by simp⟩,by rw[f6];rfl⟩
 |x::r,I,k,W,U,nd,hl=>by
  have N0:n*n<=25:=FU hn hn;obtain⟨bs,hb,T0⟩:=R6 (L.getD (k+1) 0) (n*n) N0;have ci:=La L (k+1);have ce:(k:Int)+1=((k+1:Nat):Int):=by omega
  have mu:=Pb (n:Int) (n:Int) .(0);have mc:(n:Int)*(n:Int)=((n*n:Nat):Int):=by simp
  rw[mc] at mu;have nt:x∉I.map (·.1):=λq=>by
   rw[eI] at nd;exact nd.2.2 x q x .(1) rfl
  have rg:vb (bF NO (vF 4) (vF 4)) [.fz .(4),.fz s,.fz w,.fz S,.fz .(5),O,.ow (.dk (eT I)),.fz (.int ((k+1:Nat):Int)),.fz (.str x),.fz (.lst (bs.map .bl))]=X0 (tx (n*n)):=by
   have e6:=Jz ((n*n:Nat):Int) .(0);rw[eC] at e6;simp only[cK,mu,e6]
  have cm:A_ (vb (bF NO (vF 4) (vF 4))) JL JM [.fz .(4),.fz s,.fz w,.fz S,.fz .(5),O,.ow (.dk (eT I)),.fz (.int ((k+1:Nat):Int)),.fz (.str x),.fz (.lst (bs.map .bl))]=X0 (.lst (((aS (n*n)).filter λt=>bs.getD t E3).map λt=>pN (t/n,t%n))):=
   HY (λt=>bs.getD t E3) (λt=>pN (t/n,t%n)) _ rg .(0) (λt T=>by
    have ix:=cF (bs:=bs) (k:=t) .(0);have eg:bs.getD t E3=bs[t]'(by omega):=by rw[gv,bv .(0)];rfl
    simp only[cK,JL,ix,eg]) λt T=>by
    have n0:0<n:=by
     rcases C3 n with z | z
     .subst z;simp at T
     .exact z
    have d1:=Ha (t:Int) (n:Int) .(0) .(0);have d2:=Hz (t:Int) (n:Int) .(0);have q1:(t:Int)/(n:Int)=((t/n:Nat):Int):=by simp
    have q2:(t:Int)%(n:Int)=((t%n:Nat):Int):=by simp
    rw[q1] at d1;rw[q2] at d2;simp only[cK,JM,d1,d2]
  have el:(.lst (((aS (n*n)).filter λt=>bs.getD t E3).map λt=>pN (t/n,t%n)):D)=lT (((aS (n*n)).filter λt=>bs.getD t E3).map λt=>(t/n,t%n)):=by simp[lT]
  rw[el] at cm;generalize hX:((aS (n*n)).filter λt=>bs.getD t E3).map (λt=>(t/n,t%n))=Xs at cm;have S0:Xs.Nodup/\Xs.length<=100/\∀q∈Xs,q.1<n/\q.2<n:=by
   subst hX;refine⟨?_,?_,λq hq=>?_⟩
   .rw[nh,kH];refine C4 (λ{a b} O0 e=>O0 ?_) (Dv (n*n) _);simp only[re] at e;have Y:=C5 a n;have h2:=C5 b n;rw[e.1,e.2] at Y;exact Y.symm.trans h2
   .have:=sL (λt=>bs.getD t E3) (aS (n*n));rw[oj] at this;rw[av];omega
   .obtain⟨t,T,rfl⟩:=aT.mp hq;have T:=cE.mp (fw.mp T).1;have n0:0<n:=by
     rcases C3 n with z | z
     .subst z;simp at T
     .exact z
    exact⟨LT T,vE _ n0⟩
  have pk:DG (.dk (eT I)) (.str x) (lT Xs)=X0 (.dk (eT (I++[(x,Xs)]))):=by
   rw[Kz _ _ _ (by simp[eT] at hl ⊢;omega)];have:(.inr x:Key)∉(eT I).map (·.1):=Fq lT nt;rw[qd this];simp[eT]
  have st:Gk [.fz .(4),.fz s,.fz w,.fz S,.fz .(5),O,.ow (.dk (eT I)),.fz (.int (k:Int)),.fz (.str x),U]=X0 (.nx [.fz .(4),.fz s,.fz w,.fz S,.fz .(5),O,.ow (.dk (eT (I++[(x,Xs)]))),.fz (.int ((k+1:Nat):Int)),.fz (.str x),.fz (.lst (bs.map .bl))]):=by
   simp only[ciK,Gk,ce,ci,mu,hb,Tg,Ks,cm,Oe,pk]
  obtain⟨J,y8,Z,Y,h2,ih⟩:=cG L s w S n hn O r (I++[(x,Xs)]) (k+1) (.fz (.str x)) (.fz (.lst (bs.map .bl))) (by simpa using nd) (by simpa using hl);refine⟨(x,Xs)::J,y8,Z,by simp[Y],⟨λp hp=>?_⟩,?_⟩
  .rcases bp.mp hp with q | q
   .subst q;exact S0
   .exact h2.ok p q
  .w_up
   rw[st,By,ih,mT,d3,show k+1+r.length=k+(r.length+1) by omega];rfl
def Sz(W:Wl):dq (wd W) (.int 0)=X0 (.int (W.n:Int)):=rfl
def UO(W:Wl):dq (wd W) (.int 1)=X0 (.dk (eM W.ms)):=rfl
def UN(W:Wl):dq (wd W) (.int 2)=X0 (.dk (eT W.ts)):=rfl
def nU(L:List Int)(W:Wl)(h:ll W)(m:Nat)(hm:m<=5)(hw:W.n<=m):∃V:Wl,ll V/\V.n<=m/\V.ms.map (·.1)=W.ms.map (·.1)/\V.ts.map (·.1)=W.ts.map (·.1) ∧
  Gm [.lst (L.map .int),.int 8,wd W,.int (m:Int)]=X0 (wd V):=by
 have c8:Ar [.lst (L.map .int),.int 8]=X0 (.int (L.getD 8 0)):=La L 8;have nd:=eI.mp h.nd;have a0:0<=L.getD 8 0/8%((m:Int)+1):=kK _ .(0);have a1:L.getD 8 0/8%((m:Int)+1)<(m:Int)+1:=nl _ .(0);obtain⟨n2,e2⟩:∃n2:Nat,(n2:Int)=L.getD 8 0/8%((m:Int)+1):=⟨(L.getD 8 0/8%((m:Int)+1)).toNat,by omega⟩;have b0:0<=L.getD 8 0/4%2:=kK _ .(2);have b1:L.getD 8 0/4%2<2:=nl _ .(2);obtain⟨n,en,hn⟩:∃n:Nat,dq (.lst [.int (W.n:Int),.int (L.getD 8 0/8%((m:Int)+1))]) (.int (L.getD 8 0/4%2))=X0 .(5)/\n<=m:=by
  rcases (by omega:L.getD 8 0/4%2=0∨L.getD 8 0/4%2=1) with z | z
  .exact⟨W.n,by rw[z];rfl,hw⟩
  .exact⟨n2,by rw[z,e2];rfl,by omega⟩
 have md:=Hz (L.getD 8 0/8) ((m:Int)+1) .(0);obtain⟨J,y8,y9,I,h2,Z⟩:=YL L (.int 8) (wd W) (.int (m:Int)) n .(0) (.ow (.dk (eM []))) (W.ms.map (·.1)) [] 8 .un .un (by simpa using nd.1) (by have:=h.m3;simp;omega);obtain⟨O,x8,x9,U,g2,Y⟩:=cG L (.int 8) (wd W) (.int (m:Int)) n .(0) (.ow (.dk (eM J))) (W.ts.map (·.1)) [] (8+(W.ms.map (·.1)).length) y8 y9 (by simpa using nd.2.1) (by have:=h.t3;simp;omega);refine⟨⟨n,J,O⟩,⟨by show n<=5;omega,?_,?_,λp hp=>?_,λp hp=>?_,?_,h2.ok,g2.ok⟩,hn,I,U,?_⟩
 .have:=SG cy I;simp at this;have:=h.m3;show J.length<=3;omega
 .have:=SG cy U;simp at this;have:=h.t3;show O.length<=3;omega
 .have:p.1∈W.ms.map (·.1):=by rw[<-I];exact aT.mpr ⟨p,hp,rfl⟩
  obtain⟨q,T,e⟩:=aT.mp this;rw[<-e];exact h.mw q T
 .have:p.1∈W.ts.map (·.1):=by rw[<-U];exact aT.mpr ⟨p,hp,rfl⟩
  obtain⟨q,T,e⟩:=aT.mp this;rw[<-e];exact h.tw q T
 .show (J.map (·.1)++O.map (·.1)).Nodup;rw[I,U];exact h.nd
 .have em:(D.dk [])=D.dk (eM []):=rfl;have i0:=Sz W;have i1:=UO W;have i2:=UN W;have n1:=R7 W.ms;have S:=R8 W.ts;have e8:(8:Int)=((8:Nat):Int):=rfl;rw[ip] at Z Y;have N0:D.dk (eM ([]:List (Str×List Nat)))=D.dk (eT []):=rfl;rw[<-e8] at Z;have q1:Jl (X0 (D.dk (eM W.ms)))=X0 ((W.ms.map (·.1)).map .str):=by rw[Kw,n1]
  have q2:Jl (X0 (D.dk (eT W.ts)))=X0 ((W.ts.map (·.1)).map .str):=by rw[Kw,S]
  simp only[ciK,Gm,K8,xf,Bs,Ph,Pj,Ky,c8,i0,md,en,i1,em,q1,Z];rw[<-N0] at Y;simp only[cK,Bs,Ph,Pj,Ky,i2,q2,Y];rfl
def uB(W:Wl)(m:Nat)(h:W.n<=m):CJ [wd W,.int (m:Int)]=X0 (wd W):=by
 have z:=Sz W;have l:decide ((W.n:Int)<=(m:Int))=E2:=by simp;omega
 simp only[ciK,CJ,Gh,z,l]
open EX
theorem Ub{I:Type}(f:I->D)(w:Str):∀(l:List (Str×I)),wh (.inr w:Key) (l.map λp=>((.inr p.1:Key),f p.2))=(l.find? (λp=>p.1=w)).map λp=>f p.2
 |[]=>rfl
 |p::r=>by
  rw[bb,sg];show (if (.inr p.1:Key)=.inr w then X0 (f p.2) else wh (.inr w:Key) (r.map λp=>((.inr p.1:Key),f p.2)))=_
  by_cases h:p.1=w
  .simp[h]
  .have:¬ ((.inr p.1:Key)=.inr w):=λz=>h (Ct z);rw[UF this,Ub f w r];simp[h]
def Q8(W:Wl):jn "size" (fx W)=X0 (.int (W.n:Int)):=by
 show cb ("size":Str) _=_;rfl
theorem Uc(W:Wl):jn "marked" (fx W)=X0 (.dk (oM W.ms)):=by
 show cb ("marked":Str) [(("size":Str),D.int (W.n:Int)),("marked",.dk (oM W.ms)),("tied",.dk (oT W.ts))]=_;simp only[cb,q1];rfl
theorem Zk(W:Wl):jn "tied" (fx W)=X0 (.dk (oT W.ts)):=by
 show cb ("tied":Str) [(("size":Str),D.int (W.n:Int)),("marked",.dk (oM W.ms)),("tied",.dk (oT W.ts))]=_;simp only[cb,q2,q3];rfl
def cH(x:Nat)(l:List Nat):Oy E3 (.int (x:Int)) (lM l)=X0 (.bl (l.any λt=>decide (t=x))):=by
 have h:∀I:List Nat,NW (I.map iN)=X0 (I.map λ(t:Nat)=>V.int t):=λI=>by
  induction I with
  |nil=>rfl
  |cons y r L=>simp[NW,SU,L]
 show ((SU (.int (x:Int))).bind λv=>(NW (l.map iN)).map λJ=>D.bl (VO v J))=_;rw[h];show X0 (D.bl (VO (.int (x:Int)) (l.map λ(t:Nat)=>V.int t)))=_;have e:∀t:Nat,RI (.int (t:Int)) (.int (x:Int))=decide (t=x):=λt=>by
  by_cases z:t=x
  .subst z;simp[RI]
  .have:¬ ((t:Int)=(x:Int)):=by omega
   simp[RI,z,this]
 simp only[VO,B8,io,e]
def Ud(x y:Nat)(l:List (Nat×Nat)):Oy E3 (.tup [.int (x:Int),.int (y:Int)]) (lT l)=X0 (.bl (l.any λq=>decide (q.1=x)&&decide (q.2=y))):=by
 have k:∀q:Nat×Nat,MM 62 (pN q) (.tup [.int (x:Int),.int (y:Int)])=X0 (decide (q.1=x)&&decide (q.2=y)):=λq=>by
  have e:∀a b:Nat,MM 61 (.int (a:Int)) (.int (b:Int))=X0 (decide (a=b)):=λa b=>by
   show X0 (RI (.int (a:Int)) (.int (b:Int)))=_
   by_cases z:a=b
   .subst z;simp[RI]
   .have:¬ ((a:Int)=(b:Int)):=by omega
    simp[RI,z,this]
  show (if 2=2 then MR (MM 61) [.int (q.1:Int),.int (q.2:Int)] [.int (x:Int),.int (y:Int)] else W1)=_;rw[SF rfl];simp only[MR,e];cases decide (q.1=x)<;>cases decide (q.2=y)<;>rfl
 have L:(l.map pN).all (Rl (.tup [.int (x:Int),.int (y:Int)]))=E2:=by
  rw[eD];intro d I;obtain⟨q,_,rfl⟩:=aT.mp I;unfold Rl;rw[k q];rfl
 have J:(l.map pN).any (NJ (.tup [.int (x:Int),.int (y:Int)]))=l.any λq=>decide (q.1=x)&&decide (q.2=y):=by
  rw[B8];congr 1;funext q;show NJ _ (pN q)=_;unfold NJ;rw[k q]
 show (if (l.map pN).all (Rl (.tup [.int (x:Int),.int (y:Int)]))=E2 then X0 (D.bl ((l.map pN).any (NJ (.tup [.int (x:Int),.int (y:Int)])))) else W1)=_;rw[SF L,J]
def AAl(x:Nat)(l:List Nat):Oy E3 (.int (x:Int)) (kM l)=X0 (.bl (l.any λt=>decide (t=x))):=by
 have h:∀l:List Nat,(wh (.inl (x:Int):Key) (l.map λ(t:Nat)=>((.inl (t:Int):Key),D.bl E2))).isSome=l.any λt=>decide (t=x):=λl=>by
  induction l with
  |nil=>rfl
  |cons t r I=>
   rw[bb,se,<-I];show (if (.inl (t:Int):Key)=.inl (x:Int) then _ else _:Option D).isSome=_
   by_cases z:t=x
   .subst z;simp
   .have:¬ ((.inl (t:Int):Key)=.inl (x:Int)):=λq=>z (by have:=wt q;omega);rw[UF this];simp[z]
 show Oy E3 (.int (x:Int)) (.dk _)=_;rw[a_];simp only[dE,NH,h]
def aD(ps:List (Str×Addr)):D:=.dk (ps.map λp=>((.inr p.1:Key),.adr p.2))
structure Q (α:Type) where
 w:Str
 a:Addr
 l:List α
def cQ{z:Type}(f:List z->D)(q:Q z):Addr×D:=(q.a,f q.l)
def MI{z:Type}(qs:List (Q z)):List (Str×Addr):=qs.map λq=>(q.w,q.a)
def Dn{z:Type}(l:List z)(e g:z->D)(hs:src ρ=X0 (l.map e))(L:l.length<=1000)(h:∀x∈l,fe (ρ++[.fz (e x)])=X0 (g x)):A_ src nq fe ρ=X0 (.lst (l.map g)):=by
 have c:∀l:List z,(∀x∈l,fe (ρ++[.fz (e x)])=X0 (g x))->J7 ρ nq fe (l.map e)=X0 (l.map g):=by
  intro l
  induction l with
  |nil=>intro _;rfl
  |cons x r I=>
   intro Y;rw[bb,Kr,Y x .(1),I λd J=>Y d (by simp[J])];rfl
 exact Rq hs (by rw[av];omega) (c l h)
def nY(l:List (Nat×Nat))(g:Nat×Nat->D)(hs:src ρ=X0 (l.map pN))(J:l.length<=1000)(h:∀x∈l,fe (ρ++[.fz (.int (x.1:Int)),.fz (.int (x.2:Int))])=X0 (g x)):P0 src nq fe ρ=X0 (.lst (l.map g)):=by
 have c:∀l:List (Nat×Nat),(∀x∈l,fe (ρ++[.fz (.int (x.1:Int)),.fz (.int (x.2:Int))])=X0 (g x))->Dq bd2 ρ nq fe (l.map pN)=X0 (l.map g):=by
  intro l
  induction l with
  |nil=>intro _;rfl
  |cons x r z=>
   intro Y;rw[bb];show (fe (ρ++[PV.Slot.fz (.int (x.1:Int)),PV.Slot.fz (.int (x.2:Int))])).bind (λy=>(Dq bd2 ρ nq fe (r.map pN)).map (y::·))=_;rw[Y x .(1),z λd I=>Y d (by simp[I])];rfl
 unfold P0 Hw;rw[hs];show (if (l.map pN).length<=sizeLine then (Dq bd2 ρ nq fe (l.map pN)).map D.lst else W1)=_;rw[SF (Ig (by rw[av];omega)),c l h];rfl
def Wk(z:List Nat)(t:Nat)(h:t<z.length):dq (lN z) (.int (t:Int))=X0 (iN (z.getD t 0)):=by
 show atI (z.map iN) (t:Int)=_;rw[Qo,br];simp[h]
def cI(ps:List (Str×Addr))(w:Str)(p:Addr)(h:w∉ps.map (·.1))(Y:ps.length<=100):DG (aD ps) (.str w) (.adr p)=X0 (aD (ps++[(w,p)])):=by
 unfold aD;rw[Kz _ _ _ (by simp;omega)];have:(.inr w:Key)∉(ps.map λp=>((.inr p.1:Key),D.adr p.2)).map (·.1):=Fq D.adr h;rw[qd this];simp
def nZ{z:Type}(f:z->D){l:List (Str×z)}(h:(l.map (·.1)).Nodup):((l.map λp=>((.inr p.1:Key),f p.2)).map (·.1)).Nodup:=by
 unfold nh at h ⊢;rw[kH] at h;rw[bE,kH];exact h.imp λL e=>L (Ct e)
def at_M(W:Wl)(h:ll W){p:Str×List Nat}(z:p∈W.ms):dq (.dk (eM W.ms)) (.str p.1)=X0 (lM p.2):=by
 rw[Kv];exact WK (nZ lM (eI.mp h.nd).1) (aT.mpr ⟨p,z,rfl⟩)
def at_T(W:Wl)(h:ll W){p:Str×List (Nat×Nat)}(z:p∈W.ts):dq (.dk (eT W.ts)) (.str p.1)=X0 (lT p.2):=by
 rw[Kv];exact WK (nZ lT (eI.mp h.nd).2.1) (aT.mpr ⟨p,z,rfl⟩)
theorem ni(W:Wl)(h:ll W)(I:List Nat)(Z:I.length=W.n)(J:PV.Slot)(K:KM):∀(r:List (Str×List Nat)) (ps:List (Str×Addr)) (μ:Mu) (L:PV.Slot),(∀p∈r,p∈W.ms)->(ps.map (·.1)++r.map (·.1)).Nodup->(ps.map (·.1)++r.map (·.1)).length<=50->(pq μ).Nodup ->
  (∀(qs:List (Q Nat)) (z:PV.Slot),qs.map (λq=>(q.w,q.l))=r.map (λp=>(p.1,p.2.map λt=>I.getD t 0))->(pq ((qs.map (cQ lM)).reverse++μ)).Nodup->K (.nx [.fz (wd W),.fz (lN I),.ow (aD (ps++MI qs)),J,z]) ((qs.map (cQ lM)).reverse++μ)) ->
  Ni (Ax 4) Fv (r.map λp=>.str p.1) [.fz (wd W),.fz (lN I),.ow (aD ps),J,L] μ K
 |[],ps,μ,L,_,_,_,T,k=>by
  have:=k [] L rfl (by simpa using T);simpa [MI,Ni] using this
 | (w,l)::r,ps,μ,L,U,O,hl,T,k=>by
  have Y:=U (w,l) .(1);have hb:=h.ml _ Y;refine⟨[.fz (wd W),.fz (lN I),.ow (aD ps),J,.fz (.str w)],rfl,?_⟩;have i1:=UO W;have am:=at_M W h Y;have cm:A_ (hW (bF dq (bF dq (vF 0) (kF (.int 1))) (vF 4))) nq Ft [.fz (wd W),.fz (lN I),.ow (aD ps),J,.fz (.str w)]=X0 (lM (l.map λt=>I.getD t 0)):=by
   have:=Dn (src:=hW (bF dq (bF dq (vF 0) (kF (.int 1))) (vF 4))) (fe:=Ft) (ρ:=[.fz (wd W),.fz (lN I),.ow (aD ps),J,.fz (.str w)]) l iN (λt=>iN (I.getD t 0)) (by simp only[cK,Bs,i1,am,lM,Cr]) (by have:=hb.2.1;simp at this;omega) (λt ht=>by
    have ix:=Wk I t (by rw[Z];exact hb.2.2 t ht);simp only[cK,Ft,ix])
   rw[this];simp[lM]
  unfold Fv X7 newX;refine⟨_,cm,λp S=>⟨.str w,aD ps,aD (ps++[(w,p)]),rfl,rfl,cI ps w p (λq=>?_) ?_,?_⟩⟩
  .rw[eI] at O;exact O.2.2 w q w .(1) rfl
  .simp at hl;omega
  .show Ni (Ax 4) Fv (r.map λp=>.str p.1) [.fz (wd W),.fz (lN I),.ow (aD (ps++[(w,p)])),J,.fz (.str w)] ((p,lM (l.map λt=>I.getD t 0))::μ) K;refine ni W h I Z J K r (ps++[(w,p)]) _ _ (λq hq=>U q (by simp[hq])) (by simpa using O) (by simpa using hl) (iF.mpr ⟨S,T⟩) λqs z e hk=>?_;have:=k (⟨w,p,l.map λt=>I.getD t 0⟩::qs) z (by simp[e]) (by simpa [cQ] using hk);simpa [MI,cQ,mT] using this
theorem nu(W:Wl)(h:ll W)(I:List Nat)(Y:I.length=W.n)(J:PV.Slot)(K:KM):∀(r:List (Str×List (Nat×Nat))) (ps:List (Str×Addr)) (μ:Mu) (L:PV.Slot),(∀p∈r,p∈W.ts)->(ps.map (·.1)++r.map (·.1)).Nodup->(ps.map (·.1)++r.map (·.1)).length<=50->(pq μ).Nodup ->
  (∀(qs:List (Q (Nat×Nat))) (z:PV.Slot),qs.map (λq=>(q.w,q.l))=r.map (λp=>(p.1,p.2.map λq=>(I.getD q.1 0,I.getD q.2 0)))->(pq ((qs.map (cQ lT)).reverse++μ)).Nodup->K (.nx [.fz (wd W),.fz (lN I),J,.ow (aD (ps++MI qs)),z]) ((qs.map (cQ lT)).reverse++μ)) ->
  Ni (Ax 4) Fx (r.map λp=>.str p.1) [.fz (wd W),.fz (lN I),J,.ow (aD ps),L] μ K
 |[],ps,μ,L,_,_,_,Z,k=>by
  have:=k [] L rfl (by simpa using Z);simpa [MI,Ni] using this
 | (w,l)::r,ps,μ,L,hr,O,hl,Z,k=>by
  have hp:=hr (w,l) .(1);have hb:=h.tl _ hp;refine⟨[.fz (wd W),.fz (lN I),J,.ow (aD ps),.fz (.str w)],rfl,?_⟩;have i1:=UN W;have am:=at_T W h hp;have cm:P0 (hW (bF dq (bF dq (vF 0) (kF (.int 2))) (vF 4))) nq Fw [.fz (wd W),.fz (lN I),J,.ow (aD ps),.fz (.str w)]=X0 (lT (l.map λq=>(I.getD q.1 0,I.getD q.2 0))):=by
   have:=nY (src:=hW (bF dq (bF dq (vF 0) (kF (.int 2))) (vF 4))) (fe:=Fw) (ρ:=[.fz (wd W),.fz (lN I),J,.ow (aD ps),.fz (.str w)]) l (λq=>pN (I.getD q.1 0,I.getD q.2 0)) (by simp only[cK,Bs,i1,am,lT,Cr]) (by have:=hb.2.1;simp at this;omega) (λq T=>by
    have ix:=Wk I q.1 (by rw[Y];exact (hb.2.2 q T).1);have S:=Wk I q.2 (by rw[Y];exact (hb.2.2 q T).2);simp only[cK,Fw,ix,S])
   rw[this];simp[lT]
  unfold Fx X7 newX;refine⟨_,cm,λp U=>⟨.str w,aD ps,aD (ps++[(w,p)]),rfl,rfl,cI ps w p (λq=>?_) ?_,?_⟩⟩
  .rw[eI] at O;exact O.2.2 w q w .(1) rfl
  .simp at hl;omega
  .show Ni (Ax 4) Fx (r.map λp=>.str p.1) [.fz (wd W),.fz (lN I),J,.ow (aD (ps++[(w,p)])),.fz (.str w)] ((p,lT (l.map λq=>(I.getD q.1 0,I.getD q.2 0)))::μ) K;refine nu W h I Y J K r (ps++[(w,p)]) _ _ (λq T=>hr q (by simp[T])) (by simpa using O) (by simpa using hl) (iF.mpr ⟨U,Z⟩) λqs z e hk=>?_;have:=k (⟨w,p,l.map λq=>(I.getD q.1 0,I.getD q.2 0)⟩::qs) z (by simp[e]) (by simpa [cQ] using hk);simpa [MI,cQ,mT] using this
def cJ(k:List (Key×D)):TX (.dk k)=X0 (.lst (k.map λp=>Sn p.1)):=fy _
def Vm(W:Wl)(h:ll W)(I:List Nat)(Z:I.length=W.n)(K:D->Mu->Prop)(k:∀(qs:List (Q Nat)) (us:List (Q (Nat×Nat))),qs.map (λq=>(q.w,q.l))=(Os I W).ms->us.map (λq=>(q.w,q.l))=(Os I W).ts->(pq ((us.map (cQ lT)).reverse++(qs.map (cQ lM)).reverse)).Nodup->K (.lst [.int (W.n:Int),aD (MI qs),aD (MI us)]) ((us.map (cQ lT)).reverse++(qs.map (cQ lM)).reverse)):
  J1 [wd W,lN I] [] K:=by
 refine⟨rfl,?_⟩;have Y:=eI.mp h.nd;have i1:=UO W;have i2:=UN W;have i0:=Sz W;have n1:VU (uF TX (bF dq (vF 0) (kF (.int 1)))) [.fz (wd W),.fz (lN I),.ow (.dk []),.ow (.dk []),.un]=X0 (W.ms.reverse.map λp=>.str p.1):=by
  unfold VU;simp only[cK,i1,cJ,R7];rw[<-ly,<-ly,bE];rfl
 have n2:∀U T S,VU (uF TX (bF dq (vF 0) (kF (.int 2)))) [.fz (wd W),.fz (lN I),U,T,S]=X0 (W.ts.reverse.map λp=>.str p.1):=λU T S=>by
  unfold VU;simp only[cK,i2,cJ,R8];rw[<-ly,<-ly,bE];rfl
 show Hi [.fz (wd W),.fz (lN I),.un,.un,.un] [] (finM K);unfold Hi;refine⟨_,rfl,⟨_,rfl,⟨_,n1,?_⟩⟩⟩;refine ni W h I Z (.ow (.dk [])) _ W.ms.reverse [] [] .un (λp J=>by simpa using J) (by rw[iO,ip,ly];exact (wb _).nodup_iff.mpr Y.1) (by have:=h.m3;simp;omega) AO λqs z e1 O=>?_;rw[f6,ip] at *;refine⟨_,n2 _ _ _,?_⟩;refine nu W h I Z (.ow (aD (MI qs))) _ W.ts.reverse [] ((qs.map (cQ lM)).reverse) z (λp J=>by simpa using J) (by rw[iO,ip,ly];exact (wb _).nodup_iff.mpr Y.2.1) (by have:=h.t3;simp;omega) O λus z' e2 L=>?_;rw[ip];refine⟨.rt (.lst [.int (W.n:Int),aD (MI qs),aD (MI us)]) [.fz (wd W),.fz (lN I),.fz (aD (MI qs)),.fz (aD (MI us)),z'],?_,?_⟩
 .simp only[cK,Ph,Pj,Ky,i0]
 .exact k qs us (by rw[e1,Os,ly]) (by rw[e2,Os,ly]) L
def SY{α:Type}[DecidableEq α](t:α)(l:List α):List α:=if t∈l then l.erase t else l++[t]
def n6{z:Type}[DecidableEq z]{t:z}{l:List z}(h:l.Nodup):(SY t l).Nodup:=by
 unfold SY;split
 .exact h.sublist List.erase_sublist
 .rename_i n;rw[eI];exact⟨h,by simp,λa J b I e=>n (by simp at I;rw[<-I,<-e];exact J)⟩
def cL{z:Type}[DecidableEq z]{t x:z}{l:List z}(h:x∈SY t l):x∈l∨x=t:=by
 unfold SY at h;split at h
 .exact .inl (List.mem_of_mem_erase h)
 .simpa using h
theorem YM{I:Type}[DecidableEq I](e:I->D)(T:∀x y,MM 62 (e x) (e y)=X0 (decide (x=y)))(t:I):∀l:List I,t∈l->UI (e t) (l.map e)=X0 ((l.erase t).map e)
 |[],h=>by simp at h
 |x::r,h=>by
  rw[bb];unfold UI;rw[T,List.erase_cons]
  by_cases z:x=t
  .subst z;simp
  .have J:t∈r:=by
    rcases bp.mp h with q | q
    .exact MG q.symm z
    .exact q
   simp[z,YM e T t r J]
def uC{z:Type}[DecidableEq z](e:z->D)(T:∀x y,MM 62 (e x) (e y)=X0 (decide (x=y)))(t:z)(l:List z)(h:t∈l):VX (.lst (l.map e)) [e t]=X0 (.non,.lst ((SY t l).map e)):=by
 have a:(l.map e).all (λd=>(MM 62 d (e t)).isSome)=E2:=by
  rw[eD];intro d I;obtain⟨x,_,rfl⟩:=aT.mp I;rw[T];rfl
 show (if (l.map e).all (λd=>(MM 62 d (e t)).isSome)=E2 then (UI (e t) (l.map e)).map λJ=>(D.non,D.lst J) else W1)=_;rw[SF a,YM e T t l h,SY,SF h];rfl
def uD{z:Type}[DecidableEq z](e:z->D)(t:z)(l:List z)(h:t∉l)(Y:l.length<=1000):WJ (.lst (l.map e)) [e t]=X0 (.non,.lst ((SY t l).map e)):=by
 show (if (l.map e).length<sizeLine then X0 (D.non,D.lst (l.map e++[e t])) else W1)=_;rw[SF (fF (by rw[av];omega:(l.map e).length<10000000) .(2)),SY,UF h,dS];rfl
def toggle{I:Type}[DecidableEq I](e:I->D)(T:∀x y,MM 62 (e x) (e y)=X0 (decide (x=y)))(inE:∀(t:I) (l:List I),Oy E3 (e t) (.lst (l.map e))=X0 (.bl (decide (t∈l))))(t:I)(l:List I)(Y:l.length<=1000)(J Z U:PV.Slot)(a:Addr)(μ:Mu)(K:KM)(L:μ.lookup a=X0 (.lst (l.map e)))(k:K (.nx [J,Z,U,.fz (e t),.fz (.adr a)]) (RU a (.lst ((SY t l).map e)) μ)):
  ifM [4] (tu (bF (Oy E3) (vF 3) (vU 4))) (Vf (XY 4 [] VX (Aa (vF 3) af))) (Vf (XY 4 [] WJ (Aa (vF 3) af))) [J,Z,U,.fz (e t),.fz (.adr a)] μ K:=by
 have v:vwM [4] (tu (bF (Oy E3) (vF 3) (vU 4))) [J,Z,U,.fz (e t),.fz (.adr a)] μ=X0 (decide (t∈l)):=by
  have w:K3 μ [4] [] [J,Z,U,.fz (e t),.fz (.adr a)]=X0 [J,Z,U,.fz (e t),.ow (.lst (l.map e))]:=by simp[K3,L]
  unfold vwM;rw[w];have:=inE t l;simp only[cK,this]
 have fs:vwM [] (Aa (vF 3) af) [J,Z,U,.fz (e t),.fz (.adr a)] μ=X0 [e t]:=rfl;unfold ifM;rw[v]
 by_cases z:t∈l
 .rw[OG z];exact⟨[e t],a,_,.non,_,fs,rfl,L,uC e T t l z,k⟩
 .rw[NG z];exact⟨[e t],a,_,.non,_,fs,rfl,L,uD e t l z Y,k⟩
def ek_i(x y:Nat):MM 62 (iN x) (iN y)=X0 (decide (x=y)):=by
 show X0 (RI (.int (x:Int)) (.int (y:Int)))=_
 by_cases z:x=y
 .subst z;simp[RI]
 .have:¬ ((x:Int)=(y:Int)):=by omega
  simp[RI,z,this]
def ek_p(x y:Nat×Nat):MM 62 (pN x) (pN y)=X0 (decide (x=y)):=by
 have e:∀a b:Nat,MM 61 (.int (a:Int)) (.int (b:Int))=X0 (decide (a=b)):=λa b=>by
  show X0 (RI (.int (a:Int)) (.int (b:Int)))=_
  by_cases z:a=b
  .subst z;simp[RI]
  .have:¬ ((a:Int)=(b:Int)):=by omega
   simp[RI,z,this]
 show (if 2=2 then MR (MM 61) [.int (x.1:Int),.int (x.2:Int)] [.int (y.1:Int),.int (y.2:Int)] else W1)=_;rw[SF rfl];simp only[MR,e];obtain⟨a,b⟩:=x;obtain⟨c,d⟩:=y
 by_cases J:a=c<;>by_cases I:b=d<;>simp[J,I]
def in_i(t:Nat)(l:List Nat):Oy E3 (iN t) (.lst (l.map iN))=X0 (.bl (decide (t∈l))):=by
 have:=cH t l;unfold lM at this;rw[this];congr 2;rw[g9];simp
def in_p(t:Nat×Nat)(l:List (Nat×Nat)):Oy E3 (pN t) (.lst (l.map pN))=X0 (.bl (decide (t∈l))):=by
 have:=Ud t.1 t.2 l;unfold lT at this;rw[this];congr 2;rw[g9];simp
def sel(n lm lt:Nat)(c:Int):Option ((Nat×Nat) ⊕ (Nat×Nat×Nat)):=
 if lm≠0/\0<n/\(c%2=0∨lt=0) then X0 (.inl ((c/10%lm).toNat,(c/2%n).toNat))
 else if lt≠0/\0<n then X0 (.inr ((c/50%lt).toNat,(c/2%n).toNat,(c/10%n).toNat)) else W1
def Sj{z:Type}(qs:List (Q z)):D:=.lst (qs.map λq=>.adr q.a)
def n8{z:Type}(qs:List (Q z)):Vi (aD (MI qs))=X0 (Sj qs):=by simp[Vi,aD,MI,Sj,io]
theorem ne_a{z:Type}(qs:List (Q z)):XO E2 (Sj qs) (.lst [])=X0 (.bl (decide (qs.length≠0))):=by
 cases qs with
 |nil=>rfl
 |cons q r=>
  unfold Sj;show Nd E2 (.lst ((q::r).map λq=>D.adr q.a)) (.lst [])=_;unfold Nd;have:Se (.lst ((q::r).map λq=>D.adr q.a)) (.lst [])=X0 E3:=by
   show (if ((q::r).map λq=>D.adr q.a).length=([]:List D).length then MR (MM 180) ((q::r).map λq=>D.adr q.a) [] else X0 E3)=X0 E3;exact UF .(1)
  rw[this];rfl
def dk_a{I:Type}(z:Bool)(qs:List (Q I)):XO z (aD (MI qs)) (.dk [])=X0 (.bl (if z then decide (qs.length≠0) else decide (qs.length=0))):=by
 cases qs with
 |nil=>cases z<;>rfl
 |cons q r=>
  unfold aD;show (YU ((MI (q::r)).map λp=>((.inr p.1:Key),D.adr p.2)) []).map (λc=>D.bl (if z then !c else c))=_;have:YU ((MI (q::r)).map λp=>((.inr p.1:Key),D.adr p.2)) []=X0 E3:=SF (by simp[MI]);rw[this];cases z<;>rfl
def ix_a{z:Type}(qs:List (Q z))(i:Nat)(q:Q z)(h:qs[i]?=X0 q):dq (Sj qs) (.int (i:Int))=X0 (.adr q.a):=by
 show atI (qs.map λq=>D.adr q.a) (i:Int)=_;rw[Qo,br,h];rfl
theorem vg{z:Type}(qs:List (Q z)):NI (Sj qs)=X0 (.int (qs.length:Int)):=by
 show Pi (.lst (qs.map λq=>D.adr q.a))=_;rw[VM,av]
def Hq(c:Int)(n:Nat)(h:0<n):oo (.int c) .(5)=X0 (.int (((c%n).toNat:Nat):Int))/\(c%n).toNat<n:=by
 have J:0<=c%(n:Int):=kK _ .(0);have z:c%(n:Int)<n:=nl _ .(0);exact⟨by rw[Hz c n .(0),BB J],by omega⟩
def n_(i j:Int):XO E3 (.int i) (.int j)=X0 (.bl (decide (i=j))):=Xg i j
theorem fj(n:Nat)(qs:List (Q Nat))(us:List (Q (Nat×Nat)))(c:Int)(μ:Mu)(K:D->Mu->Prop)(hq:∀q∈qs,μ.lookup q.a=X0 (lM q.l)/\q.l.length<=1000)(hu:∀q∈us,μ.lookup q.a=X0 (lT q.l)/\q.l.length<=1000)(k0:sel n qs.length us.length c=W1->K .non μ)(k1:∀i t q,sel n qs.length us.length c=X0 (.inl (i,t))->qs[i]?=X0 q->K .non (RU q.a (lM (SY t q.l)) μ))(k2:∀i x y q,sel n qs.length us.length c=X0 (.inr (i,x,y))->us[i]?=X0 q->K .non (RU q.a (lT (SY (x,y) q.l)) μ)):
  J2 [.lst [.int (n:Int),aD (MI qs),aD (MI us)],.int c] μ K:=by
 refine⟨rfl,?_⟩;generalize hw:(.lst [.int (n:Int),aD (MI qs),aD (MI us)]:D)=w;have L:dq w (.int 0)=X0 .(5):=by rw[<-hw];rfl
 have i1:dq w (.int 1)=X0 (aD (MI qs)):=by rw[<-hw];rfl
 have S:dq w (.int 2)=X0 (aD (MI us)):=by rw[<-hw];rfl
 have v1:=n8 qs;have v2:=n8 us;have n1:=ne_a qs;have d1:XO E3 (aD (MI us)) (.dk [])=X0 (.bl (decide (us.length=0))):=dk_a E3 us;have d2:XO E2 (aD (MI us)) (.dk [])=X0 (.bl (decide (us.length≠0))):=dk_a E2 us;have l1:=vg qs;have l2:=vg us;show Hj [.fz w,.fz (.int c),.un,.un,.un] μ (finM K);unfold Hj;refine⟨.nx [.fz w,.fz (.int c),.fz (Sj qs),.un,.un],by simp only[cK,i1,v1],?_⟩;have O:decide (0<(n:Int))=decide (0<n):=by
  by_cases z:0<n
  .rw[OG z,OG .(0)]
  .rw[NG z,NG .(0)]
 by_cases W:qs.length≠0/\0<n/\(c%2=0∨us.length=0)
 .have hs:sel n qs.length us.length c=X0 (.inl ((c/10%qs.length).toNat,(c/2%n).toNat)):=SF W;obtain⟨m1,b1⟩:=Hq (c/2) n W.2.1;obtain⟨m2,b2⟩:=Hq (c/10) qs.length .(0);have U:qs[(c/10%(qs.length:Int)).toNat]?=X0 qs[(c/10%(qs.length:Int)).toNat]:=bv b2;have ia:=ix_a qs _ _ U;obtain⟨hm,hl⟩:=hq _ (ic U);have N0:orO (X0 (decide (c%2=0))) (tu (bF (XO E3) (bF dq (vF 0) (kF (.int 2))) (kF (.dk [])))) [.fz w,.fz (.int c),.fz (Sj qs),.un,.un]=X0 E2:=by
   rcases W.2.2 with z | z
   .rw[OG z];rfl
   .by_cases y:c%2=0
    .rw[OG y];rfl
    .rw[NG y,ZL];simp only[cK,S,d1,z]
  refine⟨.nx [.fz w,.fz (.int c),.fz (Sj qs),.fz (iN (c/2%n).toNat),.fz (.adr (qs[(c/10%(qs.length:Int)).toNat]).a)],?_,?_⟩
  .have t1:decide (qs.length≠0)=E2:=OG W.1;have T:decide (0<n)=E2:=OG W.2.1;simp only[ciK,n1,L,O,t1,T,n_,N0,m1,l1,m2,ia]
  .exact toggle iN ek_i in_i _ _ hl _ _ _ _ μ _ hm (k1 _ _ _ hs U)
 .have I:andO (X0 (decide (qs.length≠0))) (Tl (tu (bF gtD (bF dq (vF 0) .(10)) .(10))) (orT (tu (bF (XO E3) (bF oo (vF 1) (kF (.int 2))) .(10))) (tu (bF (XO E3) (bF dq (vF 0) (kF (.int 2))) (kF (.dk [])))))) [.fz w,.fz (.int c),.fz (Sj qs),.un,.un]=X0 E3:=by
   by_cases Z:qs.length≠0
   .by_cases Y:0<n
    .have z3:¬ (c%2=0):=λy=>W ⟨Z,Y,.inl y⟩;have z4:¬ (us.length=0):=λy=>W ⟨Z,Y,.inr y⟩;simp only[ciK,OG Z,L,O,OG Y,n_,NG z3,S,d1,NG z4]
    .simp only[ciK,OG Z,L,O,NG Y]
   .simp only[cK,NG Z]
  by_cases J:us.length≠0/\0<n
  .have hs:sel n qs.length us.length c=X0 (.inr ((c/50%us.length).toNat,(c/2%n).toNat,(c/10%n).toNat)):=by
    unfold sel;rw[UF W,SF J]
   obtain⟨m1,b1⟩:=Hq (c/2) n J.2;obtain⟨m3,b3⟩:=Hq (c/10) n J.2;obtain⟨m2,b2⟩:=Hq (c/50) us.length .(0);have U:us[(c/50%(us.length:Int)).toNat]?=X0 us[(c/50%(us.length:Int)).toNat]:=bv b2;have ia:=ix_a us _ _ U;obtain⟨hm,hl⟩:=hu _ (ic U);refine⟨.nx [.fz w,.fz (.int c),.fz (Sj us),.fz (pN ((c/2%n).toNat,(c/10%n).toNat)),.fz (.adr (us[(c/50%(us.length:Int)).toNat]).a)],?_,?_⟩
   .have t1:decide (us.length≠0)=E2:=OG J.1;have T:decide (0<n)=E2:=OG J.2;simp only[ciK,n1,I,L,O,t1,T,S,d2,v2,m1,m3,l2,m2,ia]
   .exact toggle pN ek_p (λt l=>(in_p t l).trans (by congr)) _ _ hl _ _ _ _ μ _ hm (k2 _ _ _ _ hs U)
  .have hs:sel n qs.length us.length c=W1:=by
    unfold sel;rw[UF W,UF J]
   refine⟨.rt .non [.fz w,.fz (.int c),.fz (Sj qs),.un,.un],?_,k0 hs⟩
   by_cases Z:us.length≠0
   .have Y:¬ (0<n):=λy=>J ⟨Z,y⟩;simp only[ciK,n1,I,L,O,S,d2,OG Z,NG Y]
   .simp only[ciK,n1,I,L,O,S,d2,NG Z]
def Lw(c:Int)(V:Wl):Wl:=match sel V.n V.ms.length V.ts.length c with
 |none=>V
 |some (.inl (i,t))=>⟨V.n,V.ms.modify i (λp=>(p.1,SY t p.2)),V.ts⟩
 |some (.inr (i,x,y))=>⟨V.n,V.ms,V.ts.modify i λp=>(p.1,SY (x,y) p.2)⟩
theorem Wm:∀{μ:Mu}{a:Addr}{d:D},(pq μ).Nodup->(a,d)∈μ->μ.lookup a=X0 d
 | (b,e)::r,a,d,I,h=>by
  obtain⟨n1,n2⟩:=iF.mp I;rw[ca]
  rcases bp.mp h with z | z
  .cases z;simp
  .have:(a==b)=E3:=beq_eq_false_iff_ne.mpr λq=>n1 (by show b∈pq r;rw[<-q];exact J0 z);rw[this];exact Wm n2 z
theorem Ue(a:Addr)(c:D):∀(μ:Mu) (b:Addr),(RU a c μ).lookup b=if b=a then (μ.lookup b).map λ_=>c else μ.lookup b
 |[],b=>by simp[RU]
 | (x,e)::r,b=>by
  have I:=Ue a c r b;unfold RU at I ⊢;rw[bb]
  by_cases J:x=a
  .subst J;rw[SF rfl,ca,ca,I]
   by_cases z:b=x
   .subst z;simp
   .have:(b==x)=E3:=beq_eq_false_iff_ne.mpr z;simp[this,z]
  .rw[UF J,ca,ca,I]
   by_cases z:b=x
   .subst z;simp[J]
   .have:(b==x)=E3:=beq_eq_false_iff_ne.mpr z;simp[this]
def Zm{I:Type}(f:List I->D)(μ:Mu)(qs:List (Q I))(z:List (Str×List I))(L:qs.map (·.w)=z.map (·.1))(h:∀(i:Nat) (q:Q I) (p:Str×List I),qs[i]?=X0 q->z[i]?=X0 p->μ.lookup q.a=X0 (f p.2)):Nn 2 μ (aD (MI qs))=.dk (z.map λp=>((.inr p.1:Key),f p.2)):=by
 show D.dk (((MI qs).map λp=>((.inr p.1:Key),D.adr p.2)).map λp=>(p.1,Nn 1 μ p.2))=_;congr 1;have Y:qs.length=z.length:=by have:=SG cy L;simpa using this
 apply AU;intro i;simp only[MI,bE,br];cases e:qs[i]? with
 |none=>
  have:z[i]?=W1:=by rw[List.getElem?_eq_none_iff] at e ⊢;omega
  rw[this];rfl
 |some q=>
  have O:i<z.length:=by rw[<-Y];exact (dP.mp e).1
  have J:z[i]?=X0 z[i]:=bv O;rw[J];have U:=h i q _ e J;have T:q.w=z[i].1:=by
   have:=SG (λl=>l[i]?) L;simp only[br,e,J] at this;exact cS this
  have S:Nn 1 μ (.adr q.a)=f (z[i].2):=by
   show (match μ.lookup q.a with | some c=>Nn 0 μ c | none=>.adr q.a)=_;rw[U];rfl
  simp[T,S]
theorem YQ:∀{l m:List Nat},l.Nodup->(∀x∈l,x∈m)->l.length<=m.length
 |[],_,_,_=>eW _
 |x::r,m,h,hs=>by
  obtain⟨L,J⟩:=iF.mp h;have I:x∈m:=hs x df;have:=YQ (l:=r) (m:=m.erase x) J λy z=>(Bi (λe=>by subst e;exact L z)).mpr (hs y (cp _ z));rw[Bn I] at this;have O:0<m.length:=vx I;simp;omega
def Lx{J:Type}{l:List J}(L:l.Nodup){i j:Nat}(I:i<l.length)(U:j<l.length)(e:l[i]=l[j]):i=j:=by
 have h:=vt.mp L
 rcases B9 i j with z | z | z
 .exact MG e (h i j I U z)
 .exact z
 .exact MG e.symm (h j i U I z)
def Wn(z:l.Nodup)(h:∀t∈l,t<n):l.length<=n:=by
 have:=YQ z λt O=>cE.mpr (h t O);simpa using this
def oA{l:List (Nat×Nat)}(O:l.Nodup)(h:∀q∈l,q.1<n/\q.2<n):l.length<=n*n:=by
 have e:(l.map λq=>q.1*n+q.2).Nodup:=by
  unfold nh;rw[kH];refine sB (λ{a b} Z Y L e=>L ?_) O;have I:=h a Z;have z:=h b Y;have J:(a.1*n+a.2)/n=a.1:=by rw[C6,LU .(0),LV I.2];omega
  have d2:(b.1*n+b.2)/n=b.1:=by rw[C6,LU .(0),LV z.2];omega
  have T:(a.1*n+a.2)%n=a.2:=by rw[C6,LW,LX I.2]
  have S:(b.1*n+b.2)%n=b.2:=by rw[C6,LW,LX z.2]
  have e':a.1*n+a.2=b.1*n+b.2:=e;rw[e'] at J T;exact rS (J.symm.trans d2) (T.symm.trans S)
 have:=Wn (n:=n*n) e λt U=>by
  obtain⟨q,W,rfl⟩:=aT.mp U;have:=h q W
  calc q.1*n+q.2<q.1*n+n:=by omega
   _=(q.1+1)*n:=by rw[Nat.add_mul,Nat.one_mul]
   _<=n*n:=Nat.mul_le_mul_right _ .(0)
 simpa using this
def Q9(W:Wl)(h:ll W)(L:List (Str×List Nat))(J:List (Str×List (Nat×Nat)))(U:(L.map (·.1)).Perm (W.ms.map (·.1)))(S:(J.map (·.1)).Perm (W.ts.map (·.1)))(O:∀p∈L,p.2.Nodup/\∀t∈p.2,t<W.n)(I:∀p∈J,p.2.Nodup/\∀q∈p.2,q.1<W.n/\q.2<W.n):ll ⟨W.n,L,J⟩:=by
 refine⟨h.n5,?_,?_,λp z=>?_,λp z=>?_,?_,λp z=>⟨(O p z).1,?_,(O p z).2⟩,λp z=>⟨(I p z).1,?_,(I p z).2⟩⟩
 .have:=U.length_eq;simp at this;have:=h.m3;show L.length<=3;omega
 .have:=S.length_eq;simp at this;have:=h.t3;show J.length<=3;omega
 .obtain⟨q,T,e⟩:=aT.mp (U.mem_iff.mp (aT.mpr ⟨p,z,rfl⟩));rw[<-e];exact h.mw q T
 .obtain⟨q,T,e⟩:=aT.mp (S.mem_iff.mp (aT.mpr ⟨p,z,rfl⟩));rw[<-e];exact h.tw q T
 .exact ((U.append S).nodup_iff).mpr h.nd
 .have:=Wn (O p z).1 (O p z).2;have:=h.n5;omega
 .have:=oA (I p z).1 (I p z).2;have Y:=h.n5;have:W.n*W.n<=25:=FU Y Y;omega
def Ug{z:List Nat}(h:z.Perm (aS n)){s t:Nat}(hs:s<n)(O:t<n)(e:z.getD s 0=z.getD t 0):s=t:=by
 have Y:z.length=n:=by have:=h.length_eq;simpa using this
 have I:z.Nodup:=h.nodup_iff.mpr yT;rw[gv,gv,bv .(0),bv .(0)] at e;exact Lx I _ _ e
def R9{z:List Nat}(h:z.Perm (aS n)){s:Nat}(hs:s<n):z.getD s 0<n:=by
 have Y:z.length=n:=by have:=h.length_eq;simpa using this
 rw[gv,bv .(0)];exact cE.mp (h.mem_iff.mp (fA .(0)))
def yl(W:Wl)(h:ll W)(z:List Nat)(I:z.Perm (aS W.n)):ll (Os z W)/\((Os z W).ms.map (·.1)).Perm (W.ms.map (·.1))/\((Os z W).ts.map (·.1)).Perm (W.ts.map (·.1)):=by
 have p1:((Os z W).ms.map (·.1)).Perm (W.ms.map (·.1)):=by
  unfold Os;rw[ly,bE];exact wb _
 have p2:((Os z W).ts.map (·.1)).Perm (W.ts.map (·.1)):=by
  unfold Os;rw[ly,bE];exact wb _
 refine⟨Q9 W h _ _ p1 p2 (λp J=>?_) (λp J=>?_),p1,p2⟩
 .rw[wc] at J;obtain⟨q,U,rfl⟩:=aT.mp J;obtain⟨Z,_,Y⟩:=h.ml q U;refine⟨?_,λt T=>?_⟩
  .unfold nh;rw[kH];exact sB (λ{a b} S O L e=>L (Ug I (Y a S) (Y b O) e)) Z
  .obtain⟨s,hs,rfl⟩:=aT.mp T;exact R9 I (Y s hs)
 .rw[wc] at J;obtain⟨q,U,rfl⟩:=aT.mp J;obtain⟨Z,_,Y⟩:=h.tl q U;refine⟨?_,λt T=>?_⟩
  .unfold nh;rw[kH];refine sB (λ{a b} S O L e=>L ?_) Z;have e1:z.getD a.1 0=z.getD b.1 0:=SG Prod.fst e;have e2:z.getD a.2 0=z.getD b.2 0:=SG Prod.snd e;exact rS (Ug I (Y a S).1 (Y b O).1 e1) (Ug I (Y a S).2 (Y b O).2 e2)
  .obtain⟨s,hs,rfl⟩:=aT.mp T;exact⟨R9 I (Y s hs).1,R9 I (Y s hs).2⟩
def Ld{z:Type}(l:List (Str×z))(i:Nat)(g:z->z):(l.modify i λp=>(p.1,g p.2)).map (·.1)=l.map (·.1):=by
 apply AU;intro j;rw[br,br,FX];cases l[j]? with
 |none=>rfl
 |some p=>
  show X0 (if i=j then (p.1,g p.2) else p).1=X0 p.1;split<;>rfl
def Uh{I:Type}{l:List (Str×I)}{g:I->I}{p:Str×I}(h:p∈l.modify i λp=>(p.1,g p.2)):p∈l∨∃q,l[i]?=X0 q/\p=(q.1,g q.2):=by
 obtain⟨j,U⟩:=List.getElem?_of_mem h;rw[FX] at U;cases e:l[j]? with
 |none=>rw[e] at U;cases U
 |some q=>
  rw[e] at U;have J:(if i=j then (q.1,g q.2) else q)=p:=cS U;split at J
  .rename_i z;exact .inr ⟨q,z▸e,J.symm⟩
  .exact .inl (J▸ic e)
def oE(c:Int)(V:Wl)(h:ll V):ll (Lw c V)/\(Lw c V).n=V.n/\(Lw c V).ms.map (·.1)=V.ms.map (·.1)/\(Lw c V).ts.map (·.1)=V.ts.map (·.1):=by
 unfold Lw;split
 .exact⟨h,rfl,rfl,rfl⟩
 .rename_i i t hs;have n1:=Ld V.ms i (SY t);have J:t<V.n:=by
   unfold sel at hs;split at hs
   .rename_i q;cases hs;exact (Hq _ _ q.2.1).2
   .split at hs<;>cases hs
  refine⟨Q9 V h _ _ (by rw[n1]) (sC _) (λp I=>?_) (λp I=>⟨(h.tl p I).1,(h.tl p I).2.2⟩),rfl,n1,rfl⟩
  rcases Uh I with q | ⟨q,T,rfl⟩
  .exact⟨(h.ml p q).1,(h.ml p q).2.2⟩
  .have z:=h.ml q (ic T);exact⟨n6 z.1,λs hs=>(cL hs).elim (z.2.2 s) (λe=>e▸J)⟩
 .rename_i i x y hs;have n1:=Ld V.ts i (SY (x,y));have J:x<V.n/\y<V.n:=by
   unfold sel at hs;split at hs
   .cases hs
   .split at hs
    .rename_i q;cases hs;exact⟨(Hq _ _ q.2).2,(Hq _ _ q.2).2⟩
    .cases hs
  refine⟨Q9 V h _ _ (sC _) (by rw[n1]) (λp I=>⟨(h.ml p I).1,(h.ml p I).2.2⟩) (λp I=>?_),rfl,rfl,n1⟩
  rcases Uh I with q | ⟨q,T,rfl⟩
  .exact⟨(h.tl p q).1,(h.tl p q).2.2⟩
  .have z:=h.tl q (ic T);exact⟨n6 z.1,λs hs=>(cL hs).elim (z.2.2 s) (λe=>e▸J)⟩
def AAm{W:Wl}(h:ll W):(mw W).Nodup:=(eI.mp h.nd).1
def AAn{W:Wl}(h:ll W):(tw W).Nodup:=(eI.mp h.nd).2.1
def ym(J:List (Str×List Nat))(w:Str)(l:List Nat)(h:w∉J.map (·.1))(Y:J.length<=100):DG (.dk (eM J)) (.str w) (lM l)=X0 (.dk (eM (J++[(w,l)]))):=by
 rw[Kz _ _ _ (by simp[eM];omega)];have:(.inr w:Key)∉(eM J).map (·.1):=Fq lM h;rw[qd this];simp[eM]
def yo(J:List (Str×List (Nat×Nat)))(w:Str)(l:List (Nat×Nat))(h:w∉J.map (·.1))(Y:J.length<=100):DG (.dk (eT J)) (.str w) (lT l)=X0 (.dk (eT (J++[(w,l)]))):=by
 rw[Kz _ _ _ (by simp[eT];omega)];have:(.inr w:Key)∉(eT J).map (·.1):=Fq lT h;rw[qd this];simp[eT]
def cM{z:Type}(l:List z)(e:z->D)(P:z->Bool)(hs:src ρ=X0 (l.map e))(T:l.length<=1000)(h1:∀x∈l,ga (ρ++[.fz (e x)])=X0 (P x))(S:∀x∈l,fe (ρ++[.fz (e x)])=X0 (e x)):A_ src ga fe ρ=X0 (.lst ((l.filter P).map e)):=by
 have c:∀l:List z,(∀x∈l,ga (ρ++[.fz (e x)])=X0 (P x))->(∀x∈l,fe (ρ++[.fz (e x)])=X0 (e x))->J7 ρ ga fe (l.map e)=X0 ((l.filter P).map e):=by
  intro l
  induction l with
  |nil=>intro _ _;rfl
  |cons x r O=>
   intro U L;have i:=O (λd I=>U d (by simp[I])) λd I=>L d (by simp[I]);rw[bb,Kr,U x .(1)];cases J:P x with
   |true=>
    rw[L x .(1),i,AAS,List.filter_cons_of_pos J];rfl
   |false=>
    rw[AAT,i,List.filter_cons_of_neg (by simp[J])]
 exact Rq hs (by rw[av];omega) (c l h1 S)
def XT(m:Nat)(p:Str×List Nat):Str×List Nat:=(p.1,p.2.filter λt=>decide (t<m))
def trT(m:Nat)(p:Str×List (Nat×Nat)):Str×List (Nat×Nat):=(p.1,p.2.filter λq=>decide (q.1<m)&&decide (q.2<m))
def trW(m:Nat)(W:Wl):Wl:=⟨m,W.ms.map (XT m),W.ts.map (trT m)⟩
def yp(m:Nat)(I:m<=5)(W:Wl)(h:ll W):ll (trW m W):=by
 have L:(W.ms.map (XT m)).map (·.1)=W.ms.map (·.1):=by rw[bE];rfl
 have J:(W.ts.map (trT m)).map (·.1)=W.ts.map (·.1):=by rw[bE];rfl
 refine⟨I,by simpa [trW] using h.m3,by simpa [trW] using h.t3,λp z=>?_,λp z=>?_,?_,λp z=>?_,λp z=>?_⟩
 .obtain⟨q,T,rfl⟩:=aT.mp z;exact h.mw q T
 .obtain⟨q,T,rfl⟩:=aT.mp z;exact h.tw q T
 .show ((W.ms.map (XT m)).map (·.1)++(W.ts.map (trT m)).map (·.1)).Nodup;rw[L,J];exact h.nd
 .obtain⟨q,T,rfl⟩:=aT.mp z;have a:=h.ml q T;exact⟨a.1.filter _,cw (sL _ _) a.2.1,λt O=>WG (fw.mp O).2⟩
 .obtain⟨q,T,rfl⟩:=aT.mp z;have a:=h.tl q T;refine⟨a.1.filter _,cw (sL _ _) a.2.1,λt O=>?_⟩;have b:=(fw.mp O).2;rw[eP] at b;exact⟨WG b.1,WG b.2⟩
def cP(a b:Nat):ltD (.int (a:Int)) (.int (b:Int))=X0 (.bl (decide (a<b))):=by
 rw[VL];congr 2;rw[decide_eq_decide];omega
theorem oF(m:Nat)(W:Wl)(h:ll W)(T:PV.Slot):∀(r p:List (Str×List Nat)) (z:PV.Slot),W.ms=p++r ->
  ∃S,ot (OY (Ax 4) Ey) ((r.map (·.1)).map .str) [.fz (wd W),.fz (.int (m:Int)),.ow (.dk (eM (p.map (XT m)))),T,z]=X0 (.nx [.fz (wd W),.fz (.int (m:Int)),.ow (.dk (eM ((p++r).map (XT m)))),T,S])
 |[],p,z,e=>⟨z,by rw[f6];rfl⟩
 |q::r,p,z,e=>by
  have I:q∈W.ms:=by rw[e];simp
  have L:=UO W;have a:=at_M W h I;have ml:=h.ml q I;have Z:q.1∉p.map (·.1):=by
   have:(W.ms.map (·.1)).Nodup:=AAm h;rw[e,dS,eI] at this;exact λz=>this.2.2 q.1 z q.1 .(1) rfl
  have Y:A_ (hW (bF dq (bF dq (vF 0) (kF (.int 1))) (vF 4))) HN HQ [.fz (wd W),.fz (.int (m:Int)),.ow (.dk (eM (p.map (XT m)))),T,.fz (.str q.1)]=X0 (lM (XT m q).2):=by
   refine cM q.2 iN (λt=>decide (t<m)) ?_ .(0) (λt U=>?_) λt U=>?_
   .simp only[cK,L,a,Bs];exact Cr _
   .have:=cP t m;simp only[cK,HN,this]
   .simp only[cK,HQ]
  have O:=ym (p.map (XT m)) q.1 (XT m q).2 (by rw[bE];exact Z) (by
   have:=SG cy e;rw[fh,d3] at this;have:=h.m3;rw[av];omega)
  have b:Ey [.fz (wd W),.fz (.int (m:Int)),.ow (.dk (eM (p.map (XT m)))),T,.fz (.str q.1)]=X0 (.nx [.fz (wd W),.fz (.int (m:Int)),.ow (.dk (eM ((p++[q]).map (XT m)))),T,.fz (.str q.1)]):=by
   rw[dS];simp only[Ey,Tg,e_v,oC,oS,SZ,Ks,Y,Oe,O,Xi,oP,oQ,bb,iO];rfl
  obtain⟨S,J⟩:=oF m W h T r (p++[q]) (.fz (.str q.1)) (by rw[e];simp);refine⟨S,?_⟩;rw[bb,bb,GR,Sf,Ku,Lh];simp only[oP,oQ];rw[b,By,J];simp
theorem oG(m:Nat)(W:Wl)(h:ll W)(U:PV.Slot):∀(r p:List (Str×List (Nat×Nat))) (z:PV.Slot),W.ts=p++r ->
  ∃S,ot (OY (Ax 4) E_) ((r.map (·.1)).map .str) [.fz (wd W),.fz (.int (m:Int)),U,.ow (.dk (eT (p.map (trT m)))),z]=X0 (.nx [.fz (wd W),.fz (.int (m:Int)),U,.ow (.dk (eT ((p++r).map (trT m)))),S])
 |[],p,z,e=>⟨z,by rw[f6];rfl⟩
 |q::r,p,z,e=>by
  have T:q∈W.ts:=by rw[e];simp
  have i1:=UN W;have a:=at_T W h T;have ml:=h.tl q T;have L:q.1∉p.map (·.1):=by
   have:(W.ts.map (·.1)).Nodup:=AAn h;rw[e,dS,eI] at this;exact λz=>this.2.2 q.1 z q.1 .(1) rfl
  have cm:A_ (hW (bF dq (bF dq (vF 0) (kF (.int 2))) (vF 4))) Ez HR [.fz (wd W),.fz (.int (m:Int)),U,.ow (.dk (eT (p.map (trT m)))),.fz (.str q.1)]=X0 (lT (trT m q).2):=by
   refine cM q.2 pN (λq=>decide (q.1<m)&&decide (q.2<m)) ?_ .(0) (λt ht=>?_) λt ht=>?_
   .simp only[cK,i1,a,Bs];exact Cr _
   .have Z:=cP t.1 m;have Y:=cP t.2 m;have J:dq (pN t) (.int 0)=X0 (.int (t.1:Int)):=rfl;have I:dq (pN t) (.int 1)=X0 (.int (t.2:Int)):=rfl;cases b:decide (t.1<m) with
    |true=>
     rw[b] at Z;simp only[cK,Ez,J,I,Z,Y,ma]
    |false=>
     rw[b] at Z;simp only[cK,Ez,J,I,Z,tj]
   .simp only[cK,HR]
  have O:=yo (p.map (trT m)) q.1 (trT m q).2 (by rw[bE];exact L) (by
   have:=SG cy e;rw[fh,d3] at this;have:=h.t3;rw[av];omega)
  have b:E_ [.fz (wd W),.fz (.int (m:Int)),U,.ow (.dk (eT (p.map (trT m)))),.fz (.str q.1)]=X0 (.nx [.fz (wd W),.fz (.int (m:Int)),U,.ow (.dk (eT ((p++[q]).map (trT m)))),.fz (.str q.1)]):=by
   rw[dS];simp only[E_,Tg,e_v,oC,oS,SZ,Ks,cm,Oe,O,Xi,oP,oQ,bb,iO];rfl
  obtain⟨S,ih⟩:=oG m W h U r (p++[q]) (.fz (.str q.1)) (by rw[e];simp);refine⟨S,?_⟩;rw[bb,bb,GR,Sf,Ku,Lh];simp only[oP,oQ];rw[b,By,ih];simp
def uE(W:Wl)(h:ll W)(m:Nat)(hm:¬ W.n<=m):CJ [wd W,.int (m:Int)]=X0 (wd (trW m W)):=by
 obtain⟨I,Z⟩:=oF m W h (.ow (.dk [])) W.ms [] .un rfl;obtain⟨z2,Y⟩:=oG m W h (.ow (.dk (eM (W.ms.map (XT m))))) W.ts [] I rfl;rw[ip] at Z Y;have z:=Sz W;have U:=UO W;have T:=UN W;have q1:Jl (X0 (.dk (eM W.ms)))=X0 ((W.ms.map (·.1)).map .str):=by rw[Kw,R7]
 have q2:Jl (X0 (.dk (eT W.ts)))=X0 ((W.ts.map (·.1)).map .str):=by rw[Kw,R8]
 have O:leD (.int (W.n:Int)) (.int (m:Int))=X0 (.bl E3):=by
  rw[aM,NG .(0)]
 have J:Pm (tu (bF leD (bF dq (vF 0) .(10)) (vF 1))) (gq (vF 0)) RY [.fz (wd W),.fz (.int (m:Int)),.un,.un,.un]=X0 (.nx [.fz (wd W),.fz (.int (m:Int)),.un,.un,.un]):=by simp only[cK,z,O]
 have L:setW 2 (kF (.dk [])) [.fz (wd W),.fz (.int (m:Int)),.un,.un,.un]=X0 (.nx [.fz (wd W),.fz (.int (m:Int)),.ow (.dk (eM (([]:List (Str×List Nat)).map (XT m)))),.un,.un]):=rfl;have S:setW 3 (kF (.dk [])) [.fz (wd W),.fz (.int (m:Int)),.ow (.dk (eM (([]:List (Str×List Nat)).map (XT m)))),.un,.un]=X0 (.nx [.fz (wd W),.fz (.int (m:Int)),.ow (.dk (eM (([]:List (Str×List Nat)).map (XT m)))),.ow (.dk []),.un]):=rfl;have em:D.dk []=D.dk (eT (([]:List (Str×List (Nat×Nat))).map (trT m))):=rfl;unfold CJ Gh;rw[j9 (show [wd W,D.int (m:Int)].length=2 from rfl),Tc];simp only[d3,DT,bb,iO,Nat.reduceAdd,Nat.reduceSub,List.replicate_succ,List.replicate_zero,we,ip];rw[MP,J,Si,MP,L,Si,MP,S,Si,MP,aX];simp only[Bs,e_b,e_v,oC,oS,SZ,e_k,e_bs,U,q1,WD];rw[Z,Si,MP,aX];simp only[Bs,e_b,e_v,oC,oS,SZ,e_k,e_bs,T,q2,WD];rw[em,Y,Si];simp only[dK,z];rfl
def oH(W:Wl)(h:ll W)(m:Nat)(I:m<=5):∃z:Wl,ll z/\z.n<=m/\CJ [wd W,.int (m:Int)]=X0 (wd z):=by
 by_cases c:W.n<=m
 .exact⟨W,h,c,uB W m c⟩
 .exact⟨trW m W,yp m I W h,aw _,uE W h m c⟩
def Wo(n:Nat)(μ:Mu):∀(d:D),(∀a,d≠.adr a)->(match d with | .lst _=>False | .tup _=>False | .dk _=>False | _=>True)->Nn n μ d=d:=by
 intro d I z;cases n with
 |zero=>rfl
 |succ n=>cases d<;>first | rfl | exact z.elim | exact MG rfl (I _)
def oJ(n:Nat)(μ:Mu)(l:List Nat):(l.map iN).map (Nn n μ)=l.map iN:=by
 rw[bE];refine ij λt _=>?_;exact Wo n μ (iN t) (λa=>nofun) trivial
def oK(n:Nat)(μ:Mu)(l:List Nat):Nn n μ (lN l)=lN l:=by
 cases n with
 |zero=>rfl
 |succ n=>show D.lst ((l.map iN).map (Nn n μ))=_;rw[oJ];rfl
def yq(n:Nat)(μ:Mu)(q:Nat×Nat):Nn n μ (pN q)=pN q:=by
 cases n with
 |zero=>rfl
 |succ n=>
  show D.tup [Nn n μ (.int (q.1:Int)),Nn n μ (.int (q.2:Int))]=_;rw[Wo n μ (.int (q.1:Int)) (λa=>nofun) trivial,Wo n μ (.int (q.2:Int)) (λa=>nofun) trivial]
def yr(n:Nat)(μ:Mu)(l:List (Nat×Nat)):Nn n μ (lT l)=lT l:=by
 cases n with
 |zero=>rfl
 |succ n=>
  show D.lst ((l.map pN).map (Nn n μ))=D.lst (l.map pN);rw[bE];congr 1;exact ij λq _=>yq n μ q
def yt(n:Nat)(μ:Mu)(W:Wl):Nn n μ (wd W)=wd W:=by
 cases n with
 |zero=>rfl
 |succ n=>
  show D.lst [Nn n μ (.int (W.n:Int)),Nn n μ (.dk (eM W.ms)),Nn n μ (.dk (eT W.ts))]=_;have I:Nn n μ (.dk (eM W.ms))=.dk (eM W.ms):=by
   cases n with
   |zero=>rfl
   |succ n=>
    show D.dk ((eM W.ms).map λp=>(p.1,Nn n μ p.2))=_;unfold eM;rw[bE];congr 1;exact ij λp _=>by show ((.inr p.1:Key),Nn n μ (lM p.2))=_;rw[show Nn n μ (lM p.2)=lM p.2 from oK n μ p.2]
  have z:Nn n μ (.dk (eT W.ts))=.dk (eT W.ts):=by
   cases n with
   |zero=>rfl
   |succ n=>
    show D.dk ((eT W.ts).map λp=>(p.1,Nn n μ p.2))=_;unfold eT;rw[bE];congr 1;exact ij λp _=>by show ((.inr p.1:Key),Nn n μ (lT p.2))=_;rw[yr]
  rw[Wo n μ (.int (W.n:Int)) (λa=>nofun) trivial,I,z];rfl
def R_(J Z T:PV.Slot)(W V:Wl)(z:List Nat)(qs:List (Q Nat))(us:List (Q (Nat×Nat)))(μ:Mu)(I:Nn 2 μ (aD (MI qs))=.dk (eM V.ms))(O:Nn 2 μ (aD (MI us))=.dk (eT V.ts)):
  frzM 3 (puM (gq (Mo (Aa (vF 2) (Aa (vF 5) (Aa (vF 4) af)))))) [J,Z,.fz (wd W),T,.fz (lN z),.fz (.lst [.int (V.n:Int),aD (MI qs),aD (MI us)])] μ (finM λd' _=>d'=.lst [wd W,wd V,lN z]):=by
 have Y:Nn 3 μ (.lst [.int (V.n:Int),aD (MI qs),aD (MI us)])=wd V:=by
  show D.lst [Nn 2 μ (.int (V.n:Int)),Nn 2 μ (aD (MI qs)),Nn 2 μ (aD (MI us))]=_;rw[I,O];rfl
 have e:C7 (Ta 3 μ) [J,Z,.fz (wd W),T,.fz (lN z),.fz (.lst [.int (V.n:Int),aD (MI qs),aD (MI us)])]=[Ta 3 μ J,Ta 3 μ Z,.fz (wd W),Ta 3 μ T,.fz (lN z),.fz (wd V)]:=by simp[Ta,yt,oK,Y]
 show puM _ (C7 (Ta 3 μ) [J,Z,.fz (wd W),T,.fz (lN z),.fz (.lst [.int (V.n:Int),aD (MI qs),aD (MI us)])]) [] _;rw[e];exact⟨.rt (.lst [wd W,wd V,lN z]) _,rfl,rfl⟩
def Ui{qs:List (Q Nat)}{us:List (Q (Nat×Nat))}(z:(pq ((us.map (cQ lT)).reverse++(qs.map (cQ lM)).reverse)).Nodup):
  (∀q∈qs,((us.map (cQ lT)).reverse++(qs.map (cQ lM)).reverse).lookup q.a=X0 (lM q.l))/\(∀q∈us,((us.map (cQ lT)).reverse++(qs.map (cQ lM)).reverse).lookup q.a=X0 (lT q.l)):=
 ⟨λq T=>Wm z (fR _ (wc.mpr (aT.mpr ⟨q,T,rfl⟩))),λq T=>Wm z (jp _ (wc.mpr (aT.mpr ⟨q,T,rfl⟩)))⟩
def Uj{z:Type}{qs:List (Q z)}{I:List (Str×List z)}(h:qs.map (λq=>(q.w,q.l))=I){i:Nat}{q:Q z}{p:Str×List z}(L:qs[i]?=X0 q)(J:I[i]?=X0 p):p=(q.w,q.l):=by
 rw[<-h,br,L] at J;exact (cS J).symm
def Zn{z:Type}{qs:List (Q z)}{I:List (Str×List z)}(h:qs.map (λq=>(q.w,q.l))=I):qs.map (·.w)=I.map (·.1):=by
 rw[<-h,bE];rfl
def uG{qs:List (Q Nat)}{us:List (Q (Nat×Nat))}(I:(pq ((us.map (cQ lT)).reverse++(qs.map (cQ lM)).reverse)).Nodup):(qs.map (·.a)).Nodup/\(us.map (·.a)).Nodup/\∀q∈qs,∀u∈us,q.a≠u.a:=by
 have e:pq ((us.map (cQ lT)).reverse++(qs.map (cQ lM)).reverse)=(us.map (·.a)).reverse++(qs.map (·.a)).reverse:=by
  unfold pq;rw[dS,ly,ly,bE,bE];rfl
 rw[e,eI] at I;obtain⟨O,L,J⟩:=I;refine⟨(wb _).nodup_iff.mp L,(wb _).nodup_iff.mp O,λq T u S z=>?_⟩;exact J u.a (wc.mpr (aT.mpr ⟨u,S,rfl⟩)) q.a (wc.mpr (aT.mpr ⟨q,T,rfl⟩)) z.symm
def cR{I:Type}(f:List I->D){μ:Mu}{qs:List (Q I)}{T:List (Str×List I)}(Z:qs.map (λq=>(q.w,q.l))=T)(hl:∀q∈qs,μ.lookup q.a=X0 (f q.l))(nd:(qs.map (·.a)).Nodup){i:Nat}{q:Q I}(W:qs[i]?=X0 q)(g:List I->List I):
  Nn 2 (RU q.a (f (g q.l)) μ) (aD (MI qs))=.dk ((T.modify i λp=>(p.1,g p.2)).map λp=>((.inr p.1:Key),f p.2)):=by
 refine Zm f _ qs _ (by rw[Ld];exact Zn Z) λj r p S O=>?_;rw[FX] at O;cases Y:T[j]? with
 |none=>rw[Y] at O;cases O
 |some U=>
  rw[Y] at O;have L:(if i=j then (U.1,g U.2) else U)=p:=cS O;have J:=Uj Z S Y;rw[Ue]
  by_cases z:i=j
  .subst z;rw[S] at W;cases W;rw[SF rfl,hl _ (ic S),<-L,SF rfl,J];rfl
  .have ne:r.a≠q.a:=λy=>by
    have i1:=(dP.mp W);have j1:=(dP.mp S);obtain⟨a1,a2⟩:=i1;obtain⟨b1,b2⟩:=j1;refine z (Lx nd (i:=i) (j:=j) (by simpa using a1) (by simpa using b1) ?_);rw[LY,LY,a2,b2];exact y.symm
   rw[UF ne,hl _ (ic S),<-L,UF z,J]
def YS{z:Type}(f:List z->D){μ:Mu}{qs:List (Q z)}{I:List (Str×List z)}(J:qs.map (λq=>(q.w,q.l))=I)(Y:∀q∈qs,μ.lookup q.a=X0 (f q.l))(a:Addr)(c:D)(ne:∀q∈qs,q.a≠a):
  Nn 2 (RU a c μ) (aD (MI qs))=.dk (I.map λp=>((.inr p.1:Key),f p.2)):=by
 refine Zm f _ qs _ (Zn J) λj r p O S=>?_;have L:=ic O;rw[Ue,UF (ne r L),Y r L,Uj J O S]
def QV{z:Type}(f:List z->D){μ:Mu}{qs:List (Q z)}{I:List (Str×List z)}(J:qs.map (λq=>(q.w,q.l))=I)(Y:∀q∈qs,μ.lookup q.a=X0 (f q.l)):
  Nn 2 μ (aD (MI qs))=.dk (I.map λp=>((.inr p.1:Key),f p.2)):=
 Zm f _ qs _ (Zn J) λj r p L O=>by rw[Y r (ic L),Uj J L O]
def oN{z:Type}(f:Rho->Option z)(ρ:Rho)(μ:Mu):vwM [] f ρ μ=f ρ:=rfl
theorem yu(L:List Int):∃(W V:Wl) (os:List Nat),Two (L.getD 8 0) 3 W V os/\VT 6 2 Dt [.lst (L.map .int),.int 3] [] λd' _=>d'=.lst [wd W,wd V,lN os]:=by
 obtain⟨W0,T0,ew⟩:=nR L;have ew:Gi [.lst (L.map .int),.int 0]=X0 (wd W0):=ew;obtain⟨W,Y,hn,O⟩:=oH W0 T0 3 .(2);have O:CJ [wd W0,.int 3]=X0 (wd W):=O;have c8:Ar [.lst (L.map .int),.int 8]=X0 (.int (L.getD 8 0)):=La L 8;have N0:Ar [.lst (L.map .int),.int 15]=X0 (.int (L.getD 15 0)):=La L 15;have N1:Ar [.lst (L.map .int),.int 16]=X0 (.int (L.getD 16 0)):=La L 16;obtain⟨os,po,eo⟩:=Tt (L.getD 15 0) W.n Y.n5;have O0:os.length=W.n:=by have:=po.length_eq;simpa using this
 have i0:=Sz W;generalize hc:L.getD 8 0=c at c8
 by_cases h0:c%4=0
 .obtain⟨V,hV,vn,m1,t1,eV⟩:=nU L W Y 3 .(2) hn;have eV:Gm [.lst (L.map .int),.int 8,wd W,.int 3]=X0 (wd V):=eV;refine⟨W,V,os,⟨Y,hV,hn,vn,by rw[m1],by rw[t1],po,λz=>by omega⟩,rfl,?_⟩;show Dt [.fz .(4),.fz (.int 3),.un,.un,.un,.un] [] _;unfold Dt;refine⟨.nx [.fz .(4),.fz (.int 3),.fz (wd W),.un,.un,.un],by simp only[cK,ew,O],?_⟩;refine⟨.nx [.fz .(4),.fz (.int 3),.fz (wd W),.fz (.int c),.un,.un],by simp only[cK,c8],?_⟩;refine⟨.nx [.fz .(4),.fz (.int 3),.fz (wd W),.fz (.int c),.fz (lN os),.un],by simp only[cK,N0,i0,eo],?_⟩;refine⟨.rt (.lst [wd W,wd V,lN os]) [.fz .(4),.fz (.int 3),.fz (wd W),.fz (.int c),.fz (lN os),.un],?_,rfl⟩;simp only[ciK,h0,eV]
 .obtain⟨o1,o2,o3⟩:=yl W Y os po
  by_cases h3:c%4=3
  .obtain⟨w1,w2,w3,w4⟩:=oE (L.getD 16 0) (Os os W) o1;refine⟨W,Lw (L.getD 16 0) (Os os W),os,⟨Y,w1,hn,by rw[w2];exact hn,by rw[w3];exact o2,by rw[w4];exact o3,po,λz=>by omega⟩,rfl,?_⟩;show Dt [.fz .(4),.fz (.int 3),.un,.un,.un,.un] [] _;unfold Dt;refine⟨.nx [.fz .(4),.fz (.int 3),.fz (wd W),.un,.un,.un],by simp only[cK,ew,O],?_⟩;refine⟨.nx [.fz .(4),.fz (.int 3),.fz (wd W),.fz (.int c),.un,.un],by simp only[cK,c8],?_⟩;refine⟨.nx [.fz .(4),.fz (.int 3),.fz (wd W),.fz (.int c),.fz (lN os),.un],by simp only[cK,N0,i0,eo],?_⟩;refine⟨.nx [.fz .(4),.fz (.int 3),.fz (wd W),.fz (.int c),.fz (lN os),.un],by simp only[ciK,NG h0],?_⟩;refine⟨[wd W,lN os],rfl,Vm W Y os O0 _ λJ I e1 Z nd=>?_⟩;obtain⟨U,S⟩:=Ui nd;obtain⟨n1,n2,n3⟩:=uG nd;generalize S0:(I.map (cQ lT)).reverse++(J.map (cQ lM)).reverse=μ at U S;have lq:∀q∈J,q.l.length<=1000:=λq T=>by
    have:(q.w,q.l)∈(Os os W).ms:=by rw[<-e1];exact aT.mpr ⟨q,T,rfl⟩
    have:=(o1.ml _ this).2.1;simp at this;omega
   have lu:∀q∈I,q.l.length<=1000:=λq T=>by
    have:(q.w,q.l)∈(Os os W).ts:=by rw[<-Z];exact aT.mpr ⟨q,T,rfl⟩
    have:=(o1.tl _ this).2.1;simp at this;omega
   have l1:J.length=(Os os W).ms.length:=by rw[<-e1,av]
   have l2:I.length=(Os os W).ts.length:=by rw[<-Z,av]
   show ifM [] _ _ _ [.fz .(4),.fz (.int 3),.fz (wd W),.fz (.int c),.fz (lN os),.fz (.lst [.int (W.n:Int),aD (MI J),aD (MI I)])] μ _;have v:vwM [] (tu (bF (Nd E3) (bF oo (vF 3) (kF (.int 4))) (kF (.int 3)))) [.fz .(4),.fz (.int 3),.fz (wd W),.fz (.int c),.fz (lN os),.fz (.lst [.int (W.n:Int),aD (MI J),aD (MI I)])] μ=X0 E2:=by
    rw[oN];simp only[ciK,h3]
   unfold ifM;rw[v];refine⟨[.lst [.int (W.n:Int),aD (MI J),aD (MI I)],.int (L.getD 16 0)],by simp only[cK,N1],?_⟩;refine fj W.n J I (L.getD 16 0) μ _ (λq T=>⟨U q T,lq q T⟩) (λq T=>⟨S q T,lu q T⟩) (λhs=>?_) (λi t q hs hi=>?_) (λi x y q hs hi=>?_)
   .have O:Lw (L.getD 16 0) (Os os W)=Os os W:=by
     unfold Lw;rw[show (Os os W).n=W.n from rfl,<-l1,<-l2,hs]
    rw[O];exact R_ _ _ _ W (Os os W) os J I μ (QV lM e1 U) (QV lT Z S)
   .have O:Lw (L.getD 16 0) (Os os W)=⟨W.n,(Os os W).ms.modify i (λp=>(p.1,SY t p.2)),(Os os W).ts⟩:=by
     unfold Lw;rw[show (Os os W).n=W.n from rfl,<-l1,<-l2,hs]
    rw[O];exact R_ _ _ _ W ⟨W.n,(Os os W).ms.modify i (λp=>(p.1,SY t p.2)),(Os os W).ts⟩ os J I _ (cR lM e1 U n1 hi (SY t)) (YS lT Z S _ _ λu hu z=>n3 q (ic hi) u hu z.symm)
   .have O:Lw (L.getD 16 0) (Os os W)=⟨W.n,(Os os W).ms,(Os os W).ts.modify i λp=>(p.1,SY (x,y) p.2)⟩:=by
     unfold Lw;rw[show (Os os W).n=W.n from rfl,<-l1,<-l2,hs]
    rw[O];exact R_ _ _ _ W ⟨W.n,(Os os W).ms,(Os os W).ts.modify i λp=>(p.1,SY (x,y) p.2)⟩ os J I _ (YS lM e1 U _ _ λu hu z=>n3 u hu q (ic hi) z) (cR lT Z S n2 hi (SY (x,y)))
  .refine⟨W,Os os W,os,⟨Y,o1,hn,hn,o2,o3,po,λ_=>rfl⟩,rfl,?_⟩;show Dt [.fz .(4),.fz (.int 3),.un,.un,.un,.un] [] _;unfold Dt;refine⟨.nx [.fz .(4),.fz (.int 3),.fz (wd W),.un,.un,.un],by simp only[cK,ew,O],?_⟩;refine⟨.nx [.fz .(4),.fz (.int 3),.fz (wd W),.fz (.int c),.un,.un],by simp only[cK,c8],?_⟩;refine⟨.nx [.fz .(4),.fz (.int 3),.fz (wd W),.fz (.int c),.fz (lN os),.un],by simp only[cK,N0,i0,eo],?_⟩;refine⟨.nx [.fz .(4),.fz (.int 3),.fz (wd W),.fz (.int c),.fz (lN os),.un],by simp only[ciK,NG h0],?_⟩;refine⟨[wd W,lN os],rfl,Vm W Y os O0 _ λJ I e1 Z nd=>?_⟩;obtain⟨U,S⟩:=Ui nd;generalize S0:(I.map (cQ lT)).reverse++(J.map (cQ lM)).reverse=μ at U S;show ifM [] _ _ _ [.fz .(4),.fz (.int 3),.fz (wd W),.fz (.int c),.fz (lN os),.fz (.lst [.int (W.n:Int),aD (MI J),aD (MI I)])] μ _;have v:vwM [] (tu (bF (Nd E3) (bF oo (vF 3) (kF (.int 4))) (kF (.int 3)))) [.fz .(4),.fz (.int 3),.fz (wd W),.fz (.int c),.fz (lN os),.fz (.lst [.int (W.n:Int),aD (MI J),aD (MI I)])] μ=X0 E3:=by
    rw[oN];simp only[ciK,NG h3]
   unfold ifM;rw[v];exact R_ _ _ _ W (Os os W) os J I μ (QV lM e1 U) (QV lT Z S)
theorem N7(ns:List Int):∃(W V:Wl) (os:List Nat),Two (ns.getD 8 0) 3 W V os/\JN [.lst (ns.map .int),.int 3]=X0 (.lst [wd W,wd V,lN os]):=by
 obtain⟨W,V,os,h,wp⟩:=yu ns;obtain⟨e,L,I,m,O,U,J,q1,q2,q3⟩:=tW (P:=Good) wp ⟨ns,3,W,V,os,rfl,rfl,h⟩;have S:I=ns:=by
  have:I.map D.int=ns.map D.int:=by
   have:=SG (λl:List D=>l.head?) q1;simp at this;exact this.symm
  exact (List.map_inj_right (f:=D.int) (λa b z=>D.int.inj z)).mp this
 have T:m=3:=by
  have:=SG (λl:List D=>l[1]?) q1;simp at this;omega
 subst S T;exact⟨O,U,J,q3,by rw[<-q2];exact L⟩
def AAo(x y:Nat)(l:List (Nat×Nat)):Yf (X0 [.int (x:Int),.int (y:Int)]) (X0 (kT l))=X0 (.bl (l.any λq=>decide (q.1=x)&&decide (q.2=y))):=by
 have h:∀l:List (Nat×Nat),(wh [(.inl (x:Int):Key),.inl (y:Int)] (l.map λ(q:Nat×Nat)=>([(.inl (q.1:Int):Key),.inl (q.2:Int)],D.bl E2))).isSome=l.any λq=>decide (q.1=x)&&decide (q.2=y):=λl=>by
  induction l with
  |nil=>rfl
  |cons t r I=>
   rw[bb,se,<-I];show (if [(.inl (t.1:Int):Key),.inl (t.2:Int)]=[.inl (x:Int),.inl (y:Int)] then _ else _:Option D).isSome=_
   by_cases z:t.1=x/\t.2=y
   .obtain⟨Z,Y⟩:=z;subst Z Y;simp
   .have:¬ ([(.inl (t.1:Int):Key),.inl (t.2:Int)]=[.inl (x:Int),.inl (y:Int)]):=λq=>by
     simp only[sM,Sum.inl.injEq,and_true] at q;exact z ⟨by omega,by omega⟩
    rw[UF this];have:(decide (t.1=x)&&decide (t.2=y))=E3:=by
     rw[Bool.and_eq_false_iff]
     by_cases Z:t.1=x
     .right;exact NG λY=>z ⟨Z,Y⟩
     .left;exact NG Z
    rw[this,DS]
 have e:Yf (X0 [.int (x:Int),.int (y:Int)]) (X0 (kT l))=X0 (.bl ((wh [(.inl (x:Int):Key),.inl (y:Int)] (l.map λ(q:Nat×Nat)=>([(.inl (q.1:Int):Key),.inl (q.2:Int)],D.bl E2))).isSome)):=by
  unfold kT Yf;simp only[eB];rw[SF (Ig (by show 2<=10000000;decide))];rfl
 rw[e,h]
def AAp(fs:FA)(z:FE)(ρ:Rho):inTF fs z ρ=Yf (fs ρ) (z ρ):=fy _
def YT(J:List (Str×List Nat)):(oM J).map (λp=>Sn p.1)=(J.map (·.1)).map .str:=by simp[oM,Th]
def YW(z:List (Str×List (Nat×Nat))):(oT z).map (λp=>Sn p.1)=(z.map (·.1)).map .str:=by simp[oT,Th]
def Wq{k:List (Key×D)}{z:List Str}(h:k.map (λp=>Sn p.1)=z.map .str)(I:z.Nodup)(Y:z.length<=60):ZY (.dk k)=X0 (.lst ((CQ z).map .str)):=by
 show sdkL k=_;unfold sdkL;rw[h,eX,eB,SF ⟨I,Y⟩]
def cT(i:Nat)(l:List Nat):(l.any λt=>decide (t=i))=decide (i∈l):=by
 rw[g9];simp
def Uk(i j:Nat)(l:List (Nat×Nat)):(l.any λq=>decide (q.1=i)&&decide (q.2=j))=decide ((i,j)∈l):=by
 rw[g9];simp
def SJ{z:Type}{w:Str}{l:List (Str×z)}(h:w∈l.map (·.1)):∃q,q∈l/\l.find? (λp=>p.1=w)=X0 q:=by
 obtain⟨p,I,e⟩:=aT.mp h;cases q:l.find? (λp=>p.1=w) with
 |none=>exact MG (by simpa using e) (by simpa using List.find?_eq_none.mp q p I)
 |some x=>exact⟨x,EU q,rfl⟩
def vh(W:Wl){w:Str}(h:w∈mw W)(i:Nat):∃d,dq (.dk (oM W.ms)) (.str w)=X0 d/\Oy E3 (.int (i:Int)) d=X0 (.bl (mk W w i)):=by
 obtain⟨q,_,e⟩:=SJ h;refine⟨kM q.2,?_,?_⟩
 .rw[Kv];unfold oM;rw[Ub kM w,e];rfl
 .rw[AAl,cT,mk,e]
def vm(W:Wl){w:Str}(h:w∈tw W)(i j:Nat):∃d,dq (.dk (oT W.ts)) (.str w)=X0 d/\Yf (X0 [.int (i:Int),.int (j:Int)]) (X0 d)=X0 (.bl (tk W w i j)):=by
 obtain⟨q,_,e⟩:=SJ h;refine⟨kT q.2,?_,?_⟩
 .rw[Kv];unfold oT;rw[Ub kT w,e];rfl
 .rw[AAo,Uk,tk,e]
def AAq(W:Wl){w:Str}(h:w∈mw W)(i:Nat):∃d,dq (.dk (eM W.ms)) (.str w)=X0 d/\Oy E3 (.int (i:Int)) d=X0 (.bl (mk W w i)):=by
 obtain⟨q,_,e⟩:=SJ h;refine⟨lM q.2,?_,?_⟩
 .rw[Kv];unfold eM;rw[Ub lM w,e];rfl
 .rw[cH,cT,mk,e]
def AAr(W:Wl){w:Str}(h:w∈tw W)(i j:Nat):∃d,dq (.dk (eT W.ts)) (.str w)=X0 d/\Oy E3 (.tup [.int (i:Int),.int (j:Int)]) d=X0 (.bl (tk W w i j))/\Oy E3 (.tup [.int (j:Int),.int (i:Int)]) d=X0 (.bl (tk W w j i)):=by
 obtain⟨q,_,e⟩:=SJ h;refine⟨lT q.2,?_,?_,?_⟩
 .rw[Kv];unfold eT;rw[Ub lT w,e];rfl
 .rw[Ud,Uk,tk,e]
 .rw[Ud,Uk,tk,e]
theorem Kf{I:Type}{tg:FG}{b:FS}(W:PV.Slot->Rho)(e:I->D)(P:I->Bool)(r:D)(O:∀d z,tg d (W z)=X0 (W (.fz d))):∀(l:List I) (z:PV.Slot),(∀x∈l,b (W (.fz (e x)))=X0 (if P x=E2 then .nx (W (.fz (e x))) else .rt r (W (.fz (e x))))) ->
  ∃S,ot (OY tg b) (l.map e) (W z)=X0 (if l.all P=E2 then .nx (W S) else .rt r (W S))
 |[],z,_=>⟨z,rfl⟩
 |x::l,z,h=>by
  rw[bb,GR,Sf,O,Lh,h x .(1),sd];cases T:P x with
  |false=>exact⟨_,rfl⟩
  |true=>
   obtain⟨S,J⟩:=Kf W e P r O l (.fz (e x)) λy L=>h y (by simp[L]);exact⟨S,by rw[SF rfl,By,J,ma]⟩
def oO(a b:Bool):Nd E2 (.bl a) (.bl b)=X0 (.bl (!(a==b))):=by cases a<;>cases b<;>rfl
structure Sp (W V:Wl):Prop where
 mm:∀w∈mw W,w∈mw V
 tt:∀w∈tw W,w∈tw V
def UQ(q:Pr):dq (pN q) (.int 0)=X0 (.int (q.1:Int)):=rfl
def UP(q:Pr):dq (pN q) (.int 1)=X0 (.int (q.2:Int)):=rfl
theorem uH(W V:Wl)(h:Sp W V)(q:Pr):F_ [fx W,fx V,pN q]=X0 (.bl (T6 W V q)):=by
 have T:=Uc W;have S:=Uc V;have L:=UQ q;have J:=UP q;have n1:=YT W.ms;obtain⟨Y,e⟩:=Kf (tg:=Ax 3) (b:=Gs) (λz=>[.fz (fx W),.fz (fx V),.fz (pN q),z]) D.str (λw=>mk W w q.1==mk V w q.2) (.bl E3) (λd z=>rfl) (mw W) .un λw I=>by
  obtain⟨d1,U,O⟩:=vh W I q.1;obtain⟨Z,b1,b2⟩:=vh V (h.mm w I) q.2;simp only[cK,Gs,T,S,L,J,U,O,b1,b2,oO];cases (mk W w q.1==mk V w q.2)<;>rfl
 have q1:Jl (X0 (D.dk (oM W.ms)))=X0 ((mw W).map .str):=by rw[Kw,n1]
 simp only[cK,F_,IK,Bs,T,q1,e];show _=X0 (D.bl ((mw W).all λw=>mk W w q.1==mk V w q.2));cases (mw W).all (λw=>mk W w q.1==mk V w q.2)<;>rfl
theorem Wr(W V:Wl)(h:Sp W V)(p q:Pr):Cw [fx W,fx V,pN p,pN q]=X0 (.bl (KJ W V p q)):=by
 have T:=Zk W;have S:=Zk V;have U:=UQ p;have O:=UP p;have L:=UQ q;have J:=UP q;have n1:=YW W.ts;obtain⟨z',e⟩:=Kf (tg:=Ax 4) (b:=Gu) (λz=>[.fz (fx W),.fz (fx V),.fz (pN p),.fz (pN q),z]) D.str (λw=>tk W w p.1 q.1==tk V w p.2 q.2) (.bl E3) (λd z=>rfl) (tw W) .un λw I=>by
  obtain⟨d1,Z,Y⟩:=vm W I p.1 q.1;obtain⟨d2,b1,b2⟩:=vm V (h.tt w I) p.2 q.2;simp only[cK,Gu,AAp,T,S,U,O,L,J,Z,Y,b1,b2,oO];cases (tk W w p.1 q.1==tk V w p.2 q.2)<;>rfl
 have q1:Jl (X0 (D.dk (oT W.ts)))=X0 ((tw W).map .str):=by rw[Kw,n1]
 simp only[cK,Cw,IV,Bs,T,q1,e];show _=X0 (D.bl ((tw W).all λw=>tk W w p.1 q.1==tk V w p.2 q.2));cases (tw W).all (λw=>tk W w p.1 q.1==tk V w p.2 q.2)<;>rfl
def Ws(a b:Nat):decide ((a:Int)=(b:Int))=decide (a=b):=by
 by_cases z:a=b
 .subst z;simp
 .rw[NG z,NG .(0)]
def AAs(W V:Wl)(h:Sp W V)(p q:Pr):Hk [fx W,fx V,pN p,pN q]=X0 (.bl (Wp W V p q)):=by
 have I:=UQ p;have z:=UP p;have J:=UQ q;have S:=UP q;have Z:=Wr W V h p q;have Y:=Wr W V h q p;simp only[ciK,Hk,J4,I,z,J,S,Ws,oO];unfold Wp;cases L:(decide (p.1=q.1)==decide (p.2=q.2)) with
 |false=>rfl
 |true=>
  simp only[cK,Z,Y];cases KJ W V p q with
  |false=>rfl
  |true=>simp only[cK,Y,ma]
def oR{z:Type}(f:z->Bool)(l:List z):YV (.lst (l.map λx=>.bl (f x)))=X0 (.bl (l.all f)):=by
 show (OU _).map _=_;rw[WY];simp[io]
def mzO(c m:Str)(g:List D->Option D)(o:Option D)(ds:Option (List D)):Option D:=o.bind λo=>if Ej c m o=E2 then ds.bind λds=>g (o::ds) else W1
def Hr(c m:Str)(g:List D->Option D)(z:FE)(fs:FA)(ρ:Rho):Gg c m g z fs ρ=mzO c m g (z ρ) (fs ρ):=fy _
def YX{o:D}(h:Ej c m o=E2):mzO c m g (X0 o) (X0 ds)=g (o::ds):=by
 show (if Ej c m o=E2 then _ else _)=_;rw[SF h];rfl
def vo(W:Wl):Ej "World" "mark_words" (fx W)=E2:=rfl
def vy(W:Wl):Ej "World" "tie_words" (fx W)=E2:=rfl
def GP(W:Wl)(i j:Nat):List Bool:=decide (i=j)::((CQ (mw W)).map λw=>mk W w i)++(CQ (tw W)).flatMap λw=>[tk W w i j,tk W w j i]
def AAt(bs:List Bool)(b:Bool)(h:bs.length<=1000):NX (.lst (bs.map .bl)) (.bl b)=X0 (.lst ((bs++[b]).map .bl)):=by
 rw[Nz _ _ (by simpa using h),dS];rfl
def AAu(bs:List Bool)(a b:Bool)(h:bs.length<=1000):catD (.lst (bs.map .bl)) (.lst [.bl a,.bl b])=X0 (.lst ((bs++[a,b]).map .bl)):=by
 show (if (bs.map D.bl).length+2<=sizeLine then X0 (D.lst (bs.map D.bl++[.bl a,.bl b])) else W1)=_;rw[SF (Ig (by rw[av];omega)),dS];rfl
theorem cU(W:Wl)(i j:Nat):∀(l:List Str) (bs:List Bool) (z:PV.Slot),(∀w∈l,w∈mw W)->bs.length+l.length<=900->∃S,ot (OY (Ax 4) Es) (l.map .str) [.fz (wd W),.fz (iN i),.fz (iN j),.ow (.lst (bs.map .bl)),z]=X0 (.nx [.fz (wd W),.fz (iN i),.fz (iN j),.ow (.lst ((bs++l.map λw=>mk W w i).map .bl)),S])
 |[],bs,z,_,_=>⟨z,by show _=X0 (Pw.nx [_,_,_,.ow (.lst ((bs++[]).map .bl)),z]);rw[f6];rfl⟩
 |w::l,bs,z,h,Y=>by
  obtain⟨d,Z,T⟩:=AAq W (h w .(1)) i;have J:=UO W;have O:=AAt bs (mk W w i) .(0);obtain⟨S,I⟩:=cU W i j l (bs++[mk W w i]) (.fz (.str w)) (λx L=>h x (by simp[L])) (by simp at Y ⊢;omega);refine⟨S,?_⟩;have U:Es [.fz (wd W),.fz (iN i),.fz (iN j),.ow (.lst (bs.map .bl)),.fz (.str w)]=X0 (.nx [.fz (wd W),.fz (iN i),.fz (iN j),.ow (.lst ((bs++[mk W w i]).map .bl)),.fz (.str w)]):=by
   simp only[cK,Es,J,Z,T,O]
  w_up
  rw[U,By,I,bb,mT];rfl
theorem cV(W:Wl)(i j:Nat):∀(l:List Str) (bs:List Bool) (z:PV.Slot),(∀w∈l,w∈tw W)->bs.length+2*l.length<=900->∃S,ot (OY (Ax 4) Gy) (l.map .str) [.fz (wd W),.fz (iN i),.fz (iN j),.ow (.lst (bs.map .bl)),z]=X0 (.nx [.fz (wd W),.fz (iN i),.fz (iN j),.ow (.lst ((bs++l.flatMap λw=>[tk W w i j,tk W w j i]).map .bl)),S])
 |[],bs,z,_,_=>⟨z,by rw[List.flatMap_nil,f6];rfl⟩
 |w::l,bs,z,h,Y=>by
  obtain⟨d,a1,Z,T⟩:=AAr W (h w .(1)) i j;have J:=UN W;have O:=AAu bs (tk W w i j) (tk W w j i) .(0);obtain⟨S,I⟩:=cV W i j l (bs++[tk W w i j,tk W w j i]) (.fz (.str w)) (λx L=>h x (by simp[L])) (by simp at Y ⊢;omega);refine⟨S,?_⟩;have U:Gy [.fz (wd W),.fz (iN i),.fz (iN j),.ow (.lst (bs.map .bl)),.fz (.str w)]=X0 (.nx [.fz (wd W),.fz (iN i),.fz (iN j),.ow (.lst ((bs++[tk W w i j,tk W w j i]).map .bl)),.fz (.str w)]):=by
   simp only[cK,Gy,J,a1,Z,T,O]
  w_up
  rw[U,By,I,LZ,mT]
def YZ{l:List Str}(h:l.Nodup):(CQ l).length<=l.length:=UH (Xu (Mg l)) λx z=>(Ex x l).mp z
def Yb(W:Wl)(h:ll W)(i j:Nat):Gz [wd W,iN i,iN j]=X0 (.lst ((GP W i j).map .bl)):=by
 have z:=eI.mp h.nd;have n1:=R7 W.ms;have n2:=R8 W.ts;have m3:=h.m3;have t3:=h.t3;have O:=Wq n1 z.1 (by simp;omega);have S:=Wq n2 z.2.1 (by simp;omega);have l1:(CQ (mw W)).length<=W.ms.length:=cw (YZ z.1) .(1);have l2:(CQ (tw W)).length<=W.ts.length:=cw (YZ z.2.1) .(1);have U:=UO W;have T:=UN W;obtain⟨Z,I⟩:=cU W i j (CQ (mw W)) [decide (i=j)] .un (λw J=>(Ex w _).mp J) (by simp;omega);obtain⟨z2,L⟩:=cV W i j (CQ (tw W)) ([decide (i=j)]++(CQ (mw W)).map λw=>mk W w i) Z (λw J=>(Ex w _).mp J) (by simp;omega);generalize h1:([decide (i=j)]++(CQ (mw W)).map λw=>mk W w i)=B1 at I L;generalize Y:(B1++(CQ (tw W)).flatMap λw=>[tk W w i j,tk W w j i])=B2 at L;have I:ot (OY (Ax 4) Es) ((CQ (mw W)).map .str) [.fz (wd W),.fz (iN i),.fz (iN j),.ow (.lst [.bl (decide (i=j))]),.un]=X0 (.nx [.fz (wd W),.fz (iN i),.fz (iN j),.ow (.lst (B1.map .bl)),Z]):=I;have e3:GP W i j=B2:=by rw[<-Y,<-h1];rfl
 rw[e3];simp only[ciK,Gz,LQ,Ws,Bs,Ph,Pj,Ky,U,O,Cr,I,T,S,L]
theorem oU:∀(l m:List Bool),l.length=m.length->MR (MM 180) (l.map .bl) (m.map .bl)=X0 (decide (l=m))
 |[],[],_=>rfl
 |[],_::_,h=>by simp at h
 |_::_,[],h=>by simp at h
 |a::l,b::m,h=>by
  show (match MM 180 (.bl a) (.bl b),MR (MM 180) (l.map .bl) (m.map .bl) with | some x,X0 y=>X0 (x&&y) | _,_=>W1)=_;rw[oU l m (by simpa using h)];have:MM 180 (.bl a) (.bl b)=X0 (decide (a=b)):=by cases a<;>cases b<;>rfl
  rw[this];show X0 (decide (a=b)&&decide (l=m))=_
  by_cases Z:a=b<;>by_cases Y:l=m<;>simp[Z,Y]
def yw(l m:List Bool):Nd E2 (.lst (l.map .bl)) (.lst (m.map .bl))=X0 (.bl (!decide (l=m))):=by
 unfold Nd;have:Se (.lst (l.map .bl)) (.lst (m.map .bl))=X0 (decide (l=m)):=by
  show (if (l.map D.bl).length=(m.map D.bl).length then MR (MM 180) (l.map .bl) (m.map .bl) else X0 E3)=_
  by_cases z:l.length=m.length
  .rw[SF (by simpa using z),oU l m z]
  .rw[UF (by simpa using z),NG (λe=>z (by rw[e]))]
 rw[this];rfl
def NQ{l m:List Str}(h:l.Perm m):CQ l=CQ m:=Za (Mg l) (Mg m) λx=>by rw[Ex,Ex,h.mem_iff]
def Zo{z:Type}{l:List z}{f g:z->Bool}:l.map f=l.map g↔(l.all λx=>f x==g x)=E2:=by
 induction l with
 |nil=>simp
 |cons x r I=>simp[I]
def uI{l:List Str}{f g z g':Str->Bool}:(l.flatMap λw=>[f w,g w])=(l.flatMap λw=>[z w,g' w])↔((l.all λw=>f w==z w)=E2/\(l.all λw=>g w==g' w)=E2):=by
 induction l with
 |nil=>simp
 |cons x r I=>
  simp only[LZ,we,ip,sM,I,sd,eP,XG];constructor
  .rintro⟨a,b,c,d⟩;exact⟨⟨a,c⟩,b,d⟩
  .rintro⟨⟨a,c⟩,b,d⟩;exact⟨a,b,c,d⟩
def Ul{l:List Str}{P:Str->Bool}:(CQ l).all P=l.all P:=by
 rw[g9,eD,eD];exact⟨λh x z=>h x ((Ex x l).mpr z),λh x z=>h x ((Ex x l).mp z)⟩
structure Spk (W V:Wl):Prop where
 mm:(mw V).Perm (mw W)
 tt:(tw V).Perm (tw W)
def Spk.sp{W V:Wl}(h:Spk W V):Sp W V:=⟨λw z=>h.mm.mem_iff.mpr z,λw z=>h.tt.mem_iff.mpr z⟩
def uJ{z:Type}{a b c d:List z}(h:a.length=c.length):(a++b=c++d)↔(a=c/\b=d):=⟨λe=>List.append_inj e h,by rintro ⟨x,y⟩;rw[x,y]⟩
def Iw{W V:Wl}(h:Spk W V)(p q:Pr):GP W p.1 q.1=GP V p.2 q.2↔(decide (p.1=q.1)=decide (p.2=q.2)/\T6 W V p=E2/\KJ W V p q=E2/\KJ W V q p=E2):=by
 unfold GP;rw[NQ h.mm,NQ h.tt,we,we,sM];have Y:((CQ (mw W)).map λw=>mk W w p.1).length=((CQ (mw W)).map λw=>mk V w p.2).length:=by simp
 rw[uJ Y,Zo,uI,Ul,Ul,Ul];rfl
def oV(a b:Nat):Nd E3 (.int (a:Int)) (.int (b:Int))=X0 (.bl (decide (a=b))):=by rw[Xg,Ws]
def yz(l:List Pr):NI (.lst (l.map pN))=X0 (.int (l.length:Int)):=by
 show Pi (.lst (l.map pN))=_;rw[VM,av]
def vz(a:Nat):gtD (.int (a:Int)) (.int 0)=X0 (.bl (decide (0<a))):=by
 rw[aL];congr 2
 by_cases z:0<a
 .rw[OG z,OG .(0)]
 .rw[NG z,NG .(0)]
def oW(l:List Pr)(q:Pr)(h:l.length<=1000):NX (.lst (l.map pN)) (pN q)=X0 (.lst ((l++[q]).map pN)):=by
 rw[Nz _ _ (by simpa using h),dS];rfl
theorem Le(W V:Wl)(z:List Nat)(ho:z.Perm (aS W.n))(O:PV.Slot):∀(cs:List Int) (l:List Pr) (z5 J I:PV.Slot),(∀r∈l,r.1<W.n/\r.2<V.n)->l.length+cs.length<=900 ->
  ∃(S:List Pr) (Y T y7:PV.Slot),(∀r∈S,r.1<W.n/\r.2<V.n)/\S.length<=l.length+cs.length/\ot (OY (Ax 5) BL) (cs.map .int) [O,.fz (wd W),.fz (wd V),.fz (lN z),.ow (.lst (l.map pN)),z5,J,I]=X0 (.nx [O,.fz (wd W),.fz (wd V),.fz (lN z),.ow (.lst (S.map pN)),Y,T,y7])
 |[],l,z5,J,I,h,_=>⟨l,z5,J,I,h,by simp,rfl⟩
 |c::cs,l,z5,J,I,h,Z=>by
  have i0:=Sz W;have j0:=Sz V;have U:=vz W.n;have g2:=vz V.n;have N0:z.length=W.n:=by have:=ho.length_eq;simpa using this
  w_up
  by_cases z1:0<W.n
  .by_cases z2:0<V.n
   .rw[OG z1] at U;rw[OG z2] at g2;obtain⟨m1,b1⟩:=Hq (c/2) W.n z1;obtain⟨m2,b2⟩:=Hq (c/10) V.n z2;have en:=oV W.n V.n;obtain⟨t,ht,y7,st⟩:∃t,t<V.n/\∃y7,BL [O,.fz (wd W),.fz (wd V),.fz (lN z),.ow (.lst (l.map pN)),.fz (.int c),J,I]=X0 (.nx [O,.fz (wd W),.fz (wd V),.fz (lN z),.ow (.lst ((l++[((c/2%W.n).toNat,t)]).map pN)),.fz (.int c),.fz (iN (c/2%W.n).toNat),y7]):=by
     by_cases z3:c%2=1
     .by_cases z4:W.n=V.n
      .have ix:=Wk z (c/2%W.n).toNat (by rw[N0];exact b1);refine⟨z.getD (c/2%W.n).toNat 0,by rw[<-z4];exact R9 ho b1,.fz (iN (z.getD (c/2%W.n).toNat 0)),?_⟩;have ap:=oW l ((c/2%W.n).toNat,z.getD (c/2%W.n).toNat 0) (by simp at Z;omega);rw[OG z4] at en;simp only[ciK,BL,i0,j0,U,g2,m1,m2,z3,en,ix,ap]
      .refine⟨(c/10%V.n).toNat,b2,.fz (iN (c/10%V.n).toNat),?_⟩;have ap:=oW l ((c/2%W.n).toNat,(c/10%V.n).toNat) (by simp at Z;omega);rw[NG z4] at en;simp only[ciK,BL,i0,j0,U,g2,m1,m2,z3,en,ap]
     .refine⟨(c/10%V.n).toNat,b2,.fz (iN (c/10%V.n).toNat),?_⟩;have ap:=oW l ((c/2%W.n).toNat,(c/10%V.n).toNat) (by simp at Z;omega);simp only[ciK,BL,i0,j0,U,g2,m1,m2,NG z3,ap]
    obtain⟨S,Y,T,L,h1,h2,e⟩:=Le W V z ho O cs (l++[((c/2%W.n).toNat,t)]) (.fz (.int c)) (.fz (iN (c/2%W.n).toNat)) y7 (λr hr=>by
     rcases eJ.mp hr with q | q
     .exact h r q
     .rw[ii.mp q];exact⟨b1,ht⟩) (by simp at Z ⊢;omega)
    exact⟨S,Y,T,L,h1,by simp at h2 ⊢;omega,by rw[st,By,e]⟩
   .obtain⟨S,Y,T,L,h1,h2,e⟩:=Le W V z ho O cs l (.fz (.int c)) J I h (by simp at Z ⊢;omega);refine⟨S,Y,T,L,h1,by simp at h2 ⊢;omega,?_⟩;rw[OG z1] at U;rw[NG z2] at g2;have st:BL [O,.fz (wd W),.fz (wd V),.fz (lN z),.ow (.lst (l.map pN)),.fz (.int c),J,I]=X0 (.nx [O,.fz (wd W),.fz (wd V),.fz (lN z),.ow (.lst (l.map pN)),.fz (.int c),J,I]):=by
     simp only[cK,BL,i0,j0,U,g2]
    rw[st,By,e]
  .obtain⟨S,Y,T,L,h1,h2,e⟩:=Le W V z ho O cs l (.fz (.int c)) J I h (by simp at Z ⊢;omega);refine⟨S,Y,T,L,h1,by simp at h2 ⊢;omega,?_⟩;rw[NG z1] at U;have st:BL [O,.fz (wd W),.fz (wd V),.fz (lN z),.ow (.lst (l.map pN)),.fz (.int c),J,I]=X0 (.nx [O,.fz (wd W),.fz (wd V),.fz (lN z),.ow (.lst (l.map pN)),.fz (.int c),J,I]):=by
    simp only[cK,BL,i0,U]
   rw[st,By,e]
def Yc(W V:Wl)(z:List Nat)(I:z.Perm (aS W.n))(cs:List Int)(Z:cs.length<=100):∃rows:List Pr,(∀r∈rows,r.1<W.n/\r.2<V.n)/\rows.length<=cs.length/\Gq [.lst (cs.map .int),wd W,wd V,lN z]=X0 .(6):=by
 obtain⟨S,Y,U,T,L,J,e⟩:=Le W V z I (.fz (.lst (cs.map .int))) cs [] .un .un .un .(1) (by simp;omega);refine⟨S,L,by simpa using J,?_⟩;have O:ot (OY (Ax 5) BL) (cs.map .int) [.fz (.lst (cs.map .int)),.fz (wd W),.fz (wd V),.fz (lN z),.ow (.lst []),.un,.un,.un]=_:=e;simp only[cK,Gq,K_,Bs,Cr,Ph,Pj,Ky,O]
def cW(I:List Str):Nd E2 (.lst (I.map .str)) (.lst (I.map .str))=X0 (.bl E3):=by
 have h:∀I:List Str,MR (MM 180) (I.map .str) (I.map .str)=X0 E2:=λI=>by
  induction I with
  |nil=>rfl
  |cons z r J=>
   show (match MM 180 (.str z) (.str z),MR (MM 180) (r.map .str) (r.map .str) with | some a,X0 b=>X0 (a&&b) | _,_=>W1)=_;rw[J];have:MM 180 (.str z) (.str z)=X0 E2:=by show X0 (RI (.str z) (.str z))=_;simp[RI]
   rw[this];rfl
 unfold Nd;have:Se (.lst (I.map .str)) (.lst (I.map .str))=X0 E2:=by
  show (if (I.map D.str).length=(I.map D.str).length then MR (MM 180) (I.map .str) (I.map .str) else X0 E3)=_;rw[SF rfl,h]
 rw[this];rfl
def Vn(W:Wl)(h:ll W):Cj [fx W]=X0 (.lst ((CQ (mw W)).map .str))/\DP [fx W]=X0 (.lst ((CQ (tw W)).map .str)):=by
 have z:=eI.mp h.nd;have T:=h.m3;have O:=h.t3;have I:=Wq (YT W.ms) z.1 (by simp;omega);have S:=Wq (YW W.ts) z.2.1 (by simp;omega);have J:=Uc W;have L:=Zk W;constructor
 .simp only[cK,Cj,GJ,J,I]
 .simp only[cK,DP,Gr,L,S]
def fu(W V:Wl)(h:ll W)(O:ll V)(hs:Spk W V):Fz [fx W,fx V]=X0 .non:=by
 obtain⟨Y,U⟩:=Vn W h;obtain⟨b1,b2⟩:=Vn V O;rw[NQ hs.mm] at b1;rw[NQ hs.tt] at b2;have L:=vo W;have J:=vo V;have I:=vy W;have z:=vy V;have T:=cW (CQ (mw W));have S:=cW (CQ (tw W));simp only[cK,Fz,H_,Hr,YX L,YX J,YX I,YX z,Y,U,b1,b2,T,S]
theorem QW(W V:Wl)(U:PV.Slot):∀(rows:List Pr) (z J:PV.Slot),(∀r∈rows,r.1<W.n/\r.2<V.n)->∃S I,ot (OY (NU 2 (Bw 3 (Bw 4 NV))) B_) (rows.map pN) [.fz (fx W),.fz (fx V),U,z,J]=X0 (.nx [.fz (fx W),.fz (fx V),U,S,I])
 |[],z,J,_=>⟨z,J,rfl⟩
 |r::rows,z,J,h=>by
  have Z:=Q8 W;have Y:=Q8 V;have O:=Mw W.n r.1 (h r .(1)).1;have L:=Mw V.n r.2 (h r .(1)).2;obtain⟨S,I,e⟩:=QW W V U rows (.fz (.int (r.1:Int))) (.fz (.int (r.2:Int))) λx hx=>h x (by simp[hx]);refine⟨S,I,?_⟩;have T:B_ [.fz (fx W),.fz (fx V),U,.fz (.int (r.1:Int)),.fz (.int (r.2:Int))]=X0 (.nx [.fz (fx W),.fz (fx V),U,.fz (.int (r.1:Int)),.fz (.int (r.2:Int))]):=by
   simp only[cK,B_,Z,Y,O,L]
  rw[bb,GR,Sf,Pk,Lh];simp only[oP,oQ];rw[T,By,e]
def Zq(W V:Wl)(h:ll W)(z:ll V)(hs:Spk W V)(rows:List Pr)(I:∀r∈rows,r.1<W.n/\r.2<V.n):CV [fx W,fx V,.lst (rows.map pN)]=X0 .non:=by
 have u:=fu W V h z hs;obtain⟨S,J,e⟩:=QW W V (.fz .(6)) rows .un .un I;simp only[cK,CV,Du,u,Bs,Cr,e]
def uK{z L:Type}(f:z->L)(l:List z)(I J:Option Int):NR (l.map f) I J=(NR l I J).map f:=by
 unfold NR;rw[av,zk,BE]
def uL(W V:Wl)(p q:Pr):Wp W V p q=Wp W V q p:=by
 unfold Wp;rw[Bool.and_comm (KJ W V p q),show decide (p.1=q.1)=decide (q.1=p.1) by simp[eq_comm],show decide (p.2=q.2)=decide (q.2=p.2) by simp[eq_comm]]
def oX(W V:Wl)(p:Pr):Wp W V p p=KJ W V p p:=by simp[Wp]
def QX(W V:Wl)(ps:List Pr):Pc W V ps=E2↔∀p∈ps,(T6 W V p=E2/\KJ W V p p=E2)/\∀q∈ps,Wp W V p q=E2:=by
 simp only[Pc,eD,eP]
def uM(W V:Wl)(ps:List Pr)(q:Pr):TL W V ps q=E2↔(T6 W V q=E2/\KJ W V q q=E2)/\∀p∈ps,Wp W V p q=E2:=by
 simp only[TL,eD,eP]
def cX{W V:Wl}{ps qs:List Pr}(h:∀x∈qs,x∈ps)(a:Pc W V ps=E2):Pc W V qs=E2:=by
 rw[QX] at a ⊢;exact λp z=>⟨(a p (h p z)).1,λq T=>(a p (h p z)).2 q (h q T)⟩
def SM{W V:Wl}{ps:List Pr}{q:Pr}:Pc W V (ps++[q])=E2↔Pc W V ps=E2/\TL W V ps q=E2:=by
 rw[QX,QX,uM];constructor
 .intro h;refine⟨λp I=>⟨(h p (by simp[I])).1,λr z=>(h p (by simp[I])).2 r (by simp[z])⟩,(h q .(1)).1,λp I=>(h p (by simp[I])).2 q .(1)⟩
 .rintro⟨L,J,S⟩ p I
  rcases eJ.mp I with I | I
  .refine⟨(L p I).1,λr z=>?_⟩
   rcases eJ.mp z with z | z
   .exact (L p I).2 r z
   .have:r=q:=by simpa using z
    exact this▸S p I
  .have:p=q:=by simpa using I
   subst this;refine⟨J,λr z=>?_⟩
   rcases eJ.mp z with z | z
   .rw[uL];exact S r z
   .have:r=p:=by simpa using z
    rw[this,oX];exact J.2
def uN(W V:Wl):∀(ps:List Pr),((aS ps.length).all λk=>TL W V (ps.take k) (ps.getD k (0,0)))=Pc W V ps:=by
 intro ps;rw[g9];have:∀n,n<=ps.length->(((aS n).all λk=>TL W V (ps.take k) (ps.getD k (0,0)))=E2↔Pc W V (ps.take n)=E2):=by
  intro n
  induction n with
  |zero=>intro _;simp[Pc]
  |succ n z=>
   intro h;rw[xS,List.all_append,eP,z .(0)];have e:ps.take (n+1)=ps.take n++[ps.getD n (0,0)]:=by
    rw[FV,bv .(0),gv,bv .(0)];rfl
   rw[e,SM];simp
 have h:=this ps.length (aw _);rw[List.take_length] at h;exact h
def OR(W V:Wl)(ps:List Pr):Prop:=∀p∈ps,p.1<W.n/\p.2<V.n
def in5{W V:Wl}(z:ll W)(I:ll V){ps:List Pr}(h:OR W V ps):∀p∈ps,QU p:=λp J=>by
 have:=h p J;have:=z.n5;have:=I.n5;exact⟨by omega,by omega⟩
def Do{W V:Wl}(z:ll W)(I:ll V){ps:List Pr}(h:OR W V ps)(x:Pr):x∈Ao ps↔x∈ps:=(Py (in5 z I h)).2 x
def My{W V:Wl}(z:ll W)(I:ll V){ps:List Pr}(h:OR W V ps):OR W V (Ao ps):=λp J=>h p ((Do z I h p).mp J)
def G_{W V:Wl}{ps:List Pr}{q:Pr}(h:OR W V ps)(T:q.1<W.n/\q.2<V.n):OR W V (ps++[q]):=λp z=>by
 rcases eJ.mp z with z | z
 .exact h p z
 .have:p=q:=by simpa using z
  exact this▸T
def Mz{W V:Wl}(I:ll W)(J:ll V){ps:List Pr}(h:OR W V ps):Pc W V (Ao ps)=Pc W V ps:=by
 rw[g9];exact⟨cX λx z=>(Do I J h x).mpr z,cX λx z=>(Do I J h x).mp z⟩
def oY:∀{l:List Pr},OV l->l.Nodup:=λ{l} h=>by
 have:(l.map PR).Nodup:=C4 (λ{a b} h e=>MG h (by rw[e];exact gT _)) h;rw[nh,kH] at this;exact C4 (λ{a b} h (e:a=b)=>h (by rw[e])) this
def M3{W V:Wl}(z:ll W)(I:ll V){ps:List Pr}(h:OR W V ps):OV (Ao ps):=(Py (in5 z I h)).1
def gB{W V:Wl}(z:ll W)(I:ll V){ps qs:List Pr}(h:OR W V ps)(k:OR W V qs)(e:∀x,x∈ps↔x∈qs):Ao ps=Ao qs:=Wb (M3 z I h) (M3 z I k) λx=>by rw[Do z I h,Do z I k,e]
theorem Yd:∀{l m:List Pr},l.Nodup->(∀x∈l,x∈m)->l.length<=m.length
 |[],_,_,_=>eW _
 |x::l,m,L,h=>by
  have I:=h x .(1);have J:=iF.mp L;have:=Yd (m:=m.erase x) J.2 λy z=>(Bi (λe=>J.1 (by rw[<-e];exact z))).mpr (h y (by simp[z]));rw[Bn I] at this;have:=vx I;simp only[d3];omega
def gC{W V:Wl}(z:ll W)(I:ll V){ps:List Pr}(h:OR W V ps):(Ao ps).length<=ps.length:=Yd (oY (M3 z I h)) λx J=>(Do z I h x).mp J
def uO{W V:Wl}{ps:List Pr}(I:ps.Nodup)(h:OR W V ps)(a:Pc W V ps=E2):ps.length<=W.n:=by
 rw[QX] at a;have z:(ps.map (·.1)).Nodup:=by
  rw[nh,kH];refine sB (λ{x y} L J ne e=>?_) I;have g:=(a x L).2 y J;unfold Wp at g;rw[eP] at g;have U:=g.1;rw[OG e] at U;have:x.2=y.2:=by simpa using U
  exact ne (rS e this)
 have:=Wn z λt O=>by
  obtain⟨p,S,rfl⟩:=aT.mp O;exact (h p S).1
 rwa [av] at this
def CW{t:Nat}{xs:List Nat}:t∈NS n xs↔t<n/\t∉xs:=by simp[NS]
def oZ{xs I:List Nat}(h:∀x∈xs,x∈I){t:Nat}(O:t∈NS n xs)(L:t∈I):(NS n I).length<(NS n xs).length:=by
 have e:NS n I=(NS n xs).filter λt=>decide (t∉I):=by
  unfold NS;rw[List.filter_filter];refine M0 λx _=>?_
  by_cases J:x∈I
  .simp[J]
  .have:x∉xs:=λz=>J (h x z);simp[J,this]
 rw[e];exact List.length_filter_lt_length_iff_exists.mpr ⟨t,O,by simp[L]⟩
def M4(n:Nat)(xs:List Nat):(NS n xs).length<=n:=by
 have:=sL (λt=>decide (t∉xs)) (aS n)
 rwa [oj] at this
theorem Q_{W V:Wl}{R I:List Pr->Nat}{ps:List Pr}(h:∀f∈NS W.n (ps.map (·.1)),∀s∈NS V.n (ps.map (·.2)),TL W V ps (f,s)=E2->R (Ao (ps++[(f,s)]))=I (Ao (ps++[(f,s)]))):stp W V R ps=stp W V I ps:=by
 have k:∀f∈NS W.n (ps.map (·.1)),∀s∈NS V.n (ps.map (·.2)),(if TL W V ps (f,s)=E2 then R (Ao (ps++[(f,s)])) else 0)=(if TL W V ps (f,s)=E2 then I (Ao (ps++[(f,s)])) else 0):=λf z s hs=>by
  split
  .rename_i e;exact h f z s hs e
  .rfl
 unfold stp;simp only;rw[ij (g:=λf=>Nc ((NS V.n (ps.map (·.2))).map λs=>if TL W V ps (f,s)=E2 then I (Ao (ps++[(f,s)])) else 0)) λf z=>by rw[ij λs hs=>k f z s hs],
  ij (l:=NS V.n (ps.map (·.2))) (g:=λs=>Nc ((NS W.n (ps.map (·.1))).map λf=>if TL W V ps (f,s)=E2 then I (Ao (ps++[(f,s)])) else 0)) λs hs=>by rw[ij λf z=>k f z s hs]]
theorem QZ{W V:Wl}(z:ll W)(I:ll V){ps:List Pr}(h:OR W V ps){f s:Nat}(J:f∈NS W.n (ps.map (·.1)))(hs:s∈NS V.n (ps.map (·.2))):(NS W.n ((Ao (ps++[(f,s)])).map (·.1))).length<(NS W.n (ps.map (·.1))).length:=by
 have k:=G_ h (q:=(f,s)) ⟨(CW.mp J).1,(CW.mp hs).1⟩;refine oZ (λx L=>?_) J (aT.mpr ⟨(f,s),(Do z I k _).mpr .(1),rfl⟩);obtain⟨p,O,rfl⟩:=aT.mp L;exact aT.mpr ⟨p,(Do z I k _).mpr (by simp[O]),rfl⟩
def Kg{W V:Wl}(z:ll W)(I:ll V){ps:List Pr}(h:OR W V ps){f s:Nat}(J:f∈NS W.n (ps.map (·.1)))(hs:s∈NS V.n (ps.map (·.2))):OR W V (Ao (ps++[(f,s)])):=My z I (G_ h ⟨(CW.mp J).1,(CW.mp hs).1⟩)
def uP{W V:Wl}(I:ll W)(J:ll V):∀(u k j:Nat) (ps:List Pr),OR W V ps->(NS W.n (ps.map (·.1))).length<=u->u<=k->u<=j->rkN W V (k+1) ps=rkN W V (j+1) ps:=by
 intro u
 induction u with
 |zero=>
  intro k j ps h S _ _;refine Q_ λf z=>?_;rw[ol.mp (FY.mp S)] at z;cases z
 |succ u T=>
  intro k j ps h S U Y;refine Q_ λf z s hs _=>?_;obtain⟨L,rfl⟩:=M1 (show k≠0 by omega);obtain⟨O,rfl⟩:=M1 (show j≠0 by omega);exact T L O _ (Kg I J h z hs) (zh (fF (QZ I J h z hs) S)) .(0) .(0)
theorem Wt{W V:Wl}(z:ll W)(I:ll V){ps:List Pr}(h:OR W V ps)(a:Pc W V ps=E2):OM W V ps=stp W V (OM W V) ps:=by
 have e:OM W V ps=stp W V (rkN W V 5) ps:=by unfold OM;rw[SF a];rfl
 rw[e];refine Q_ λf L s hs J=>?_;have T:=G_ h (q:=(f,s)) ⟨(CW.mp L).1,(CW.mp hs).1⟩;have O:Pc W V (Ao (ps++[(f,s)]))=E2:=by rw[Mz z I T];exact SM.mpr ⟨a,J⟩
 unfold OM;rw[SF O];refine uP z I 4 4 5 _ (Kg z I h L hs) ?_ .(0) .(0);exact zh (fF (QZ z I h L hs) (cw (M4 W.n (ps.map (·.1))) z.n5))
def Ov{W V:Wl}{ps:List Pr}(a:Pc W V ps=E3):OM W V ps=0:=by unfold OM;rw[a];rfl
def Zr{x:Nat}(h:x∈l):x<=Nc l:=by
 induction l with
 |nil=>cases h
 |cons y l z=>
  have e:Nc (y::l)=max y (Nc l):=rfl;rw[e]
  rcases bp.mp h with rfl | h
  .omega
  .have:=z h;omega
def oh{m:Nat}(J:0<m)(h:∀x∈l,x<m):Nc l<m:=by
 induction l with
 |nil=>exact J
 |cons y l z=>
  have e:Nc (y::l)=max y (Nc l):=rfl;rw[e];have:=z λx I=>h x (by simp[I]);have:=h y .(1);omega
def cY{e x:Nat}(h:x∈l):l.foldr min e<=x:=by
 induction l with
 |nil=>cases h
 |cons y l z=>
  rw[BH]
  rcases bp.mp h with rfl | h
  .omega
  .have:=z h;omega
def ou(l:List Nat)(e:Nat):l.foldr min e<=e:=by
 induction l with
 |nil=>exact aw _
 |cons y l z=>rw[BH];omega
def Um(l:List Nat)(e:Nat):l.foldr min e=e∨l.foldr min e∈l:=by
 induction l with
 |nil=>exact .inl rfl
 |cons y l z=>
  rw[BH]
  rcases M2 y (l.foldr min e) with h | h
  .exact .inr (by rw[Nat.min_eq_left h];simp)
  .rw[Nat.min_eq_right h]
   rcases z with z | z
   .exact .inl z
   .exact .inr (by simp[z])
def AAv{W V:Wl}(z:ll W)(I:ll V){ps:List Pr}(h:OR W V ps):OM W V ps<=kc W V:=by
 cases a:Pc W V ps with
 |false=>rw[Ov a];exact eW _
 |true=>
  rw[Wt z I h a];unfold stp;simp only;exact Nat.min_le_left ..
def y_{m:List Nat}(h:kM l=kM m):l=m:=by
 unfold kM at h;have h:=D.dk.inj h;have:=SG (C7 λx:Key×D=>match x.1 with | .inl i=>i.toNat | _=>0) h;simpa [bE,io] using this
def zA{l m:List (Nat×Nat)}(h:kT l=kT m):l=m:=by
 unfold kT at h;have h:=D.dt.inj h;have:=SG (C7 λx:List Key×D=>ZO x.1) h;simpa [bE,io,ZO] using this
theorem Uo{z J:Type}{f:z->J}(I:∀x y,f x=f y->x=y):∀{l m:List z},l.map f=m.map f->l=m
 |[],[],_=>rfl
 |[],_::_,h=>by cases h
 |_::_,[],h=>by cases h
 |x::l,y::m,h=>by
  rw[bb,bb] at h;obtain⟨O,L⟩:=List.cons.inj h;rw[I x y O,Uo I L]
def cZ{W V:Wl}(h:fx W=fx V):W=V:=by
 obtain⟨n,L,J⟩:=W;obtain⟨n',ms',ts'⟩:=V;unfold fx at h;simp only[D.ob.injEq,sM,re,true_and,and_true,D.int.injEq,D.dk.injEq] at h;obtain⟨h1,O,S⟩:=h;have e1:n=n':=by omega
 have Y:L=ms':=Uo (λx y e=>by
  obtain⟨I,U⟩:=x;obtain⟨z,Z⟩:=y;simp only[re,Mb] at e;rw[e.1,y_ e.2]) O
 have T:J=ts':=Uo (λx y e=>by
  obtain⟨I,U⟩:=x;obtain⟨z,Z⟩:=y;simp only[re,Mb] at e;rw[e.1,zA e.2]) S
 rw[e1,Y,T]
def AAw(W V:Wl):FF (fx W) (fx V)=FW W V:=by
 have h:∃x:Wl×Wl,fx W=fx x.1/\fx V=fx x.2:=⟨(W,V),rfl,rfl⟩;unfold FF;rw[dif_pos h];have:=FR h;rw[<-cZ this.1,<-cZ this.2]
theorem uQ(ps:List Pr):(Sb ps).map ZO=ps:=by
 unfold Sb;rw[bE];have:(ZO ∘ kk)=id:=by funext p;simp[ZO,kk]
 rw[this,List.map_id]
def v4(W V:Wl)(ps:List Pr):FW W V (Sb ps)=(OM W V ps:Nat):=by unfold FW;rw[uQ]
def fw_t(W V:Wl)(h:Sp W V)(ps:List Pr)(Y:ps.length<=1000)(q:Pr):Ht [fx W,fx V,.tup (ps.map pN),pN q]=X0 (.bl (TL W V ps q)):=by
 have b1:=uH W V h q;have Z:=Wr W V h q q;have z:A_ (hW (vF 2)) nq J5 [.fz (fx W),.fz (fx V),.fz (.tup (ps.map pN)),.fz (pN q)]=X0 (.lst (ps.map λp=>.bl (Wp W V p q))):=
  Dn ps pN (λp=>.bl (Wp W V p q)) (by simp only[cK,Bs,Rt]) Y λp _=>by
   have g:=AAs W V h p q;simp only[cK,J5,g]
 have I:=oR (λp=>Wp W V p q) ps;unfold TL;simp only[cK,Ht,Mm,b1];cases T6 W V q with
 |false=>simp only[cK,tj]
 |true=>
  simp only[cK,Z];cases KJ W V q q with
  |false=>simp only[cK,ma,tj]
  |true=>simp only[cK,z,I,ma]
def o6{J:Type}(l:List J)(I z g:J->D)(hs:src ρ=X0 (l.map λx=>.tup [I x,z x]))(S:l.length<=1000)(h:∀x∈l,fe (ρ++[.fz (I x),.fz (z x)])=X0 (g x)):P0 src nq fe ρ=X0 (.lst (l.map g)):=by
 have c:∀l:List J,(∀x∈l,fe (ρ++[.fz (I x),.fz (z x)])=X0 (g x))->Dq bd2 ρ nq fe (l.map λx=>.tup [I x,z x])=X0 (l.map g):=by
  intro l
  induction l with
  |nil=>intro _;rfl
  |cons x r L=>
   intro Y;rw[bb];show (fe (ρ++[PV.Slot.fz (I x),PV.Slot.fz (z x)])).bind (λy=>(Dq bd2 ρ nq fe (r.map λx=>.tup [I x,z x])).map (y::·))=_;rw[Y x .(1),L λd O=>Y d (by simp[O])];rfl
 unfold P0 Hw;rw[hs];show (if (l.map λx=>D.tup [I x,z x]).length<=sizeLine then (Dq bd2 ρ nq fe (l.map λx=>D.tup [I x,z x])).map D.lst else W1)=_;rw[SF (Ig (by rw[av];omega)),c l h];rfl
theorem o7:∀(ps:List Pr) (i:Nat),ZI i (ps.map pN)=(aS ps.length).map λk=>D.tup [.int ((i+k:Nat):Int),pN (ps.getD k (0,0))]
 |[],i=>rfl
 |p::r,i=>by
  rw[bb,d3,IR,bb,bE];show D.tup [.int (i:Int),pN p]::ZI (i+1) (r.map pN)=_;rw[o7 r (i+1)];congr 1;refine ij λk _=>?_;simp only[io,List.getD_cons_succ];rw[show i+1+k=i+(k+1) by omega]
def sl_t(ds:List D)(k:Nat)(h:k<ds.length):slD (.tup ds) W1 (X0 (k:Int))=X0 (.tup (ds.take k)):=by
 show (if HT.sIx ds.length 0 W1=0/\HT.sIx ds.length ds.length (X0 (k:Int))=ds.length then W1 else X0 (D.tup (NR ds W1 (X0 (k:Int)))))=_;rw[UF (by rw[HT.qL];omega),xV]
def AAx(f:FE)(ρ:Rho)(ds:List D)(h:f ρ=X0 (.tup ds)):enIT f ρ=X0 (ZI 0 ds):=by unfold enIT;rw[h]
def af_t(W V:Wl)(h:Sp W V)(ps:List Pr)(Y:ps.length<=1000):Iv [fx W,fx V,.tup (ps.map pN)]=X0 (.bl (Pc W V ps)):=by
 have J:P0 (enIT (vF 2)) nq Mp [.fz (fx W),.fz (fx V),.fz (.tup (ps.map pN))]=X0 (.lst ((aS ps.length).map λk=>.bl (TL W V (ps.take k) (ps.getD k (0,0))))):=
  o6 (aS ps.length) (λk=>.int ((0+k:Nat):Int)) (λk=>pN (ps.getD k (0,0))) _ (by rw[AAx _ _ (ps.map pN) rfl,o7]) (by simpa using Y) λk I=>by
   have f:=fw_t W V h (ps.take k) (by rw[kf];omega) (ps.getD k (0,0));have s:=sl_t (ps.map pN) k (by rw[av];exact cE.mp I);rw[lc];rw[<-zk] at s;simp only[cK,Mp,s,f]
 have z:=oR (λk=>TL W V (ps.take k) (ps.getD k (0,0))) (aS ps.length);rw[uN] at z;simp only[cK,Iv,Qz,J,z]
def o8(t:Nat)(l:List Nat):Oy E2 (.int (t:Int)) (.lst (l.map iN))=X0 (.bl (decide (t∉l))):=by
 have h:∀z:List Nat,NW (z.map iN)=X0 (z.map λ(t:Nat)=>V.int t):=λz=>by
  induction z with
  |nil=>rfl
  |cons y r J=>simp[NW,SU,J]
 have i:=in_i t l;change ((SU (.int (t:Int))).bind λv=>(NW (l.map iN)).map λI=>D.bl (VO v I))=_ at i;show ((SU (.int (t:Int))).bind λv=>(NW (l.map iN)).map λI=>D.bl (!VO v I))=_;rw[h] at i ⊢;have i:X0 (D.bl (VO (.int (t:Int)) (l.map λ(t:Nat)=>V.int t)))=X0 (D.bl (decide (t∈l))):=i;show X0 (D.bl (!VO (.int (t:Int)) (l.map λ(t:Nat)=>V.int t)))=_;injection i with i
 injection i with i
 rw[i];simp
def o9(n:Nat)(z:n<=100)(xs:List Nat):JQ [.int (n:Int),.lst (xs.map iN)]=X0 (.lst ((NS n xs).map iN)):=by
 have Y:A_ (vb (vF 0)) LC LK [.fz .(5),.fz (.lst (xs.map iN))]=X0 (.lst ((NS n xs).map iN)):=
  HY (λt=>decide (t∉xs)) iN (vb (vF 0)) (Zj n z _ 0 rfl) .(0) (λk I=>by
   have s:=o8 k xs;simp only[cK,LC,s]) (λk I=>by simp only[cK,LK])
 simp only[cK,JQ,Oj,Y]
def o_(l:List Nat):J8 (l.map iN)=X0 (l.map λ(t:Nat)=>(t:Int)):=by
 induction l with
 |nil=>rfl
 |cons y r z=>
  show (J8 (r.map iN)).map (_::·)=_;rw[z];rfl
theorem pA(f:Nat->Int):∀k,(∃i,i<=k/\WZ f k=f i)/\∀i,i<=k->f i<=WZ f k
 |0=>⟨⟨0,aw _,rfl⟩,λi I=>by rw[FY.mp I];exact C8 _⟩
 |k+1=>by
  obtain⟨⟨i,I,e⟩,h⟩:=pA f k;have u:WZ f (k+1)=if f (k+1) > WZ f k then f (k+1) else WZ f k:=rfl
  rw[u];split
  .rename_i c;refine⟨⟨k+1,aw _,rfl⟩,λj U=>?_⟩
   rcases yi k j with z | z
   .have:j=k+1:=by omega
    rw[this];exact C8 _
   .have:=h j z;omega
  .rename_i c;refine⟨⟨i,by omega,e⟩,λj U=>?_⟩
   rcases yi k j with z | z
   .have:j=k+1:=by omega
    rw[this];omega
   .exact h j z
theorem pB(f:Nat->Int):∀k,(∃i,i<=k/\Xt f k=f i)/\∀i,i<=k->Xt f k<=f i
 |0=>⟨⟨0,aw _,rfl⟩,λi I=>by rw[FY.mp I];exact C8 _⟩
 |k+1=>by
  obtain⟨⟨i,I,e⟩,h⟩:=pB f k;have u:Xt f (k+1)=if f (k+1)<Xt f k then f (k+1) else Xt f k:=rfl
  rw[u];split
  .rename_i c;refine⟨⟨k+1,aw _,rfl⟩,λj U=>?_⟩
   rcases yi k j with z | z
   .have:j=k+1:=by omega
    rw[this];exact C8 _
   .have:=h j z;omega
  .rename_i c;refine⟨⟨i,by omega,e⟩,λj U=>?_⟩
   rcases yi k j with z | z
   .have:j=k+1:=by omega
    rw[this];omega
   .exact h j z
def RB(l:List Nat)(i:Nat)(h:i<l.length):(l.map λ(t:Nat)=>(t:Int)).getD i 0=(l[i]:Int):=by
 rw[gv,br,bv h];rfl
theorem zB(l:List Nat):XD (.lst (l.map iN)) (.int 0)=X0 (.int ((Nc l:Nat):Int)):=by
 show (J8 (l.map iN)).map _=_;rw[o_];show X0 (if (l.map λ(t:Nat)=>(t:Int))=[] then D.int 0 else .int (WZ (λi=>(l.map λ(t:Nat)=>(t:Int)).getD i 0) ((l.map λ(t:Nat)=>(t:Int)).length-1)))=_;cases l with
 |nil=>rfl
 |cons x r=>
  rw[UF .(1)];congr 2;have ⟨⟨i,hi,e⟩,h⟩:=pA (λi=>((x::r).map λ(t:Nat)=>(t:Int)).getD i 0) (((x::r).map λ(t:Nat)=>(t:Int)).length-1);rw[av,d3] at hi e h;have U:i<(x::r).length:=by rw[d3];omega
  rw[av,d3,e];show ((x::r).map λ(t:Nat)=>(t:Int)).getD i 0=_;rw[RB _ _ U];have S:=Zr (fA U);have O:Nc (x::r)<=(x::r)[i]:=by
   have:Nc (x::r)<(x::r)[i]+1:=oh .(0) λy J=>by
    obtain⟨j,I,L⟩:=ng.mp J;have z:=h j (by rw[d3] at I;omega);rw[e] at z;change ((x::r).map λ(t:Nat)=>(t:Int)).getD j 0<=((x::r).map λ(t:Nat)=>(t:Int)).getD i 0 at z;rw[RB _ _ U,RB _ _ I,L] at z;omega
   omega
  omega
theorem zE(l:List Nat)(e:Nat):∃m:Nat,X5 (.lst (l.map iN)) (.int (e:Int))=X0 (.int (m:Int))/\min e (1+m)=min e (1+l.foldr min e):=by
 have u:X5 (.lst (l.map iN)) (.int (e:Int))=X0 (if (l.map λ(t:Nat)=>(t:Int))=[] then D.int (e:Int) else .int (Xt (λi=>(l.map λ(t:Nat)=>(t:Int)).getD i 0) ((l.map λ(t:Nat)=>(t:Int)).length-1))):=by
  show (J8 (l.map iN)).map _=_;rw[o_];rfl
 rw[u];cases l with
 |nil=>exact⟨e,rfl,rfl⟩
 |cons x r=>
  rw[UF .(1)];have ⟨⟨i,hi,ee⟩,h⟩:=pB (λi=>((x::r).map λ(t:Nat)=>(t:Int)).getD i 0) (((x::r).map λ(t:Nat)=>(t:Int)).length-1);rw[av,d3] at hi ee h;have U:i<(x::r).length:=by rw[d3];omega
  refine⟨(x::r)[i],?_,?_⟩
  .rw[av,d3,ee];show X0 (D.int (((x::r).map λ(t:Nat)=>(t:Int)).getD i 0))=_;rw[RB _ _ U]
  .have O:=cY (e:=e) (fA U);have S:=ou (x::r) e
   rcases Um (x::r) e with z | z
   .rw[z] at O ⊢;omega
   .obtain⟨j,J,L⟩:=ng.mp z;have I:=h j (by rw[d3] at J;omega);rw[ee] at I;change ((x::r).map λ(t:Nat)=>(t:Int)).getD i 0<=((x::r).map λ(t:Nat)=>(t:Int)).getD j 0 at I;rw[RB _ _ U,RB _ _ J,L] at I;omega
def MY(W V:Wl):D:=.ob "Ranks" [("one",fx W),("other",fx V),("reckoned",.mem (FW W V)),("endless",.int (kc W V:Nat))]
def u1:(("other":Str)=="one")=E3:=by decide +kernel
def u2:(("reckoned":Str)=="one")=E3:=by decide +kernel
def u3:(("reckoned":Str)=="other")=E3:=by decide +kernel
def u4:(("endless":Str)=="one")=E3:=by decide +kernel
def u5:(("endless":Str)=="other")=E3:=by decide +kernel
def u6:(("endless":Str)=="reckoned")=E3:=by decide +kernel
def pC(W V:Wl):jn "one" (MY W V)=X0 (fx W):=by
 show cb ("one":Str) _=_;rfl
def Wu(W V:Wl):jn "other" (MY W V)=X0 (fx V):=by
 show cb ("other":Str) [(("one":Str),fx W),("other",fx V),("reckoned",.mem (FW W V)),("endless",.int (kc W V:Nat))]=_;simp only[cb,u1];rfl
def pD(W V:Wl):jn "reckoned" (MY W V)=X0 (.mem (FW W V)):=by
 show cb ("reckoned":Str) [(("one":Str),fx W),("other",fx V),("reckoned",.mem (FW W V)),("endless",.int (kc W V:Nat))]=_;simp only[cb,u2,u3];rfl
def pF(W V:Wl):jn "endless" (MY W V)=X0 (.int (kc W V:Nat)):=by
 show cb ("endless":Str) [(("one":Str),fx W),("other",fx V),("reckoned",.mem (FW W V)),("endless",.int (kc W V:Nat))]=_;simp only[cb,u4,u5,u6];rfl
def Rb{W V:Wl}(h:Ej "Ranks" m (MY W V)=E2):mzO "Ranks" m g (X0 (MY W V)) (X0 ds)=g (MY W V::ds):=YX h
def ob1(W V:Wl):Ej "Ranks" "rank_of_fitting" (MY W V)=E2:=rfl
def ob2(W V:Wl):Ej "Ranks" "rank_with" (MY W V)=E2:=rfl
def ob3(W V:Wl):Ej "Ranks" "best_rank" (MY W V)=E2:=rfl
def ob4(W V:Wl):Ej "Ranks" "least_rank" (MY W V)=E2:=rfl
def ob5(W V:Wl):Ej "Ranks" "rank_of" (MY W V)=E2:=rfl
def AAy{p:Pr}(h:QU p):prD (pN p)=X0 p:=by
 obtain⟨a,b⟩:=p;obtain⟨I,z⟩:=h;show (if 0<=(a:Int)/\(a:Int)<5/\0<=(b:Int)/\(b:Int)<5 then X0 ((a:Int).toNat,(b:Int).toNat) else W1)=_;have I:a<5:=I;have z:b<5:=z;rw[SF .(0),eC,eC]
def Zt{ps:List Pr}(h:∀p∈ps,QU p):QI (ps.map pN)=X0 ps:=by
 induction ps with
 |nil=>rfl
 |cons p r z=>
  show (prD (pN p)).bind (λp=>(QI (r.map pN)).map (p::·))=_;rw[AAy (h p .(1)),z λq T=>h q (by simp[T])];rfl
def pG{ps:List Pr}(h:∀p∈ps,QU p)(Y:ps.length<=5):QN (.tup (ps.map pN))=X0 ps:=by
 show (QI (ps.map pN)).bind (λps=>if ps.length<=5 then X0 ps else W1)=_;rw[Zt h];show (if ps.length<=5 then X0 ps else W1)=_;rw[SF Y]
def zF{ps:List Pr}(h:∀p∈ps,QU p)(Y:ps.length<=4):tssD (.lst (ps.map pN))=X0 (.tup ((Ao ps).map pN)):=by
 show (QI (ps.map pN)).bind (λps=>if ps.length<=4 then X0 (D.tup ((Ao ps).map prT)) else W1)=_;rw[Zt h];show (if ps.length<=4 then X0 (D.tup ((Ao ps).map prT)) else W1)=_;rw[SF Y]
def zG{ps:List Pr}(h:∀p∈ps,QU p)(Y:ps.length<=17)(z:ps.Nodup):tslD (.tup (ps.map pN))=X0 (.tup ((Ao ps).map pN)):=by
 show (QI (ps.map pN)).bind (λps=>if ps.length<=17/\ps.Nodup then X0 (D.tup ((Ao ps).map prT)) else W1)=_;rw[Zt h];show (if ps.length<=17/\ps.Nodup then X0 (D.tup ((Ao ps).map prT)) else W1)=_;rw[SF ⟨Y,z⟩]
def zH(ps:List Pr)(q:Pr)(Y:ps.length<=100):catU (.tup (ps.map pN)) (.tup [pN q])=X0 (.tup ((ps++[q]).map pN)):=by
 show (if [pN q]≠[]/\(ps.map pN).length+[pN q].length<=1000 then X0 (D.tup (ps.map pN++[pN q])) else W1)=_;rw[SF ⟨by simp,by simp;omega⟩,dS];rfl
def zJ{z:FE}{ps:List Pr}{v:Int}(h1:uF (jn f) (vF i) ρ=X0 (.mem F))(J:(vF j ρ).bind QN=X0 ps)(S:z ρ=X0 (.int v))(I:v=F (Sb ps)):memR i f j z ρ=X0 (.rt (.int v) ρ):=by
 unfold memR;rw[h1,J,S];exact SF I
def uR{fr:FE}{ps:List Pr}(h1:uF (jn f) (vF i) ρ=X0 (.mem F))(z:(vF j ρ).bind QN=X0 ps)(S:ft ρ=X0 E2):XZ i f j ft c m fr ρ=gq fr ρ:=by
 unfold XZ;rw[h1,z,S]
def uT{fr:FE}{ps:List Pr}(h1:uF (jn f) (vF i) ρ=X0 (.mem F))(I:(vF j ρ).bind QN=X0 ps)(S:ft ρ=X0 E3)(z:F (Sb ps)=0)(O:(vF i ρ).map (Ej c m)=X0 E2):XZ i f j ft c m fr ρ=X0 (.rt (.int 0) ρ):=by
 unfold XZ;rw[h1,I,S];exact SF ⟨z,O⟩
abbrev PZ (W V:Wl) (ps:List Pr) (q:Pr):Nat:=if TL W V ps q=E2 then OM W V (Ao (ps++[q])) else 0
section
theorem uU{W V:Wl}(L:ll W)(O:ll V)(h:Sp W V){g:List D->Option D}{ps:List Pr}{q:Pr}(S:OR W V ps)(I:ps.Nodup)(hl:ps.length<=5)(T:q.1<W.n/\q.2<V.n)(Z:q∉ps)(U:TL W V ps q=E2->g [MY W V,.tup ((Ao (ps++[q])).map pN)]=X0 (.int (OM W V (Ao (ps++[q])):Nat))):Bl g [MY W V,.tup (ps.map pN),pN q]=X0 (.int (PZ W V ps q:Nat)):=by
 have f:=fw_t W V h ps .(0) q;have a1:=pC W V;have Y:=Wu W V;simp only[cK,Bl,Gv,a1,Y,f];cases e:TL W V ps q with
 |false=>
  simp only[cK,PZ,e];rfl
 |true=>
  have c:=zH ps q .(0);have t:=zG (in5 L O (G_ S T)) (by simp;omega) (eI.mpr ⟨I,by simp,λx J y z e=>Z (by simp at z;rw[<-z,<-e];exact J)⟩);have m:=Rb (g:=g) (ds:=[.tup ((Ao (ps++[q])).map pN)]) (ob1 W V);simp only[cK,c,t,Hr,m,U e,PZ,e,MH]
theorem cg{W V:Wl}{ps:List Pr}(qs:List Pr)(Y:qs.length<=1000)(U:∀q∈qs,Bl g [MY W V,.tup (ps.map pN),pN q]=X0 (.int (PZ W V ps q:Nat))):Ay g [MY W V,.tup (ps.map pN),.lst (qs.map pN)]=X0 (.int (Nc (qs.map (PZ W V ps)):Nat)):=by
 have z:A_ (hW (vF 2)) nq (Fe g) [.fz (MY W V),.fz (.tup (ps.map pN)),.fz (.lst (qs.map pN))]=X0 (.lst (qs.map λq=>iN (PZ W V ps q))):=
  Dn qs pN _ (by simp only[cK,Bs,Cr]) Y λq T=>by
   have m:=Rb (g:=Bl g) (ds:=[.tup (ps.map pN),pN q]) (ob2 W V);simp only[cK,Fe,Hr,m,U q T]
 have mx:=zB (qs.map (PZ W V ps));rw[bE] at mx;change XD (.lst (qs.map λq=>iN (PZ W V ps q))) (.int 0)=_ at mx;simp only[cK,Ay,Gw,z,mx]
theorem v5{W V:Wl}{g:List D->Option D}{ps:List Pr}(fs Z:List Nat)(hs:Z.length<=100)(L:∀f∈fs,Ay g [MY W V,.tup (ps.map pN),.lst ((Z.map λs=>(f,s)).map pN)]=X0 (.int (Nc ((Z.map λs=>(f,s)).map (PZ W V ps)):Nat)))(U I:Slot):
  ∀(r:List Nat) (l:List Nat) (z:Slot),(∀f∈r,f∈fs)->l.length+r.length<=900->∃S,ot (OY (Ax 5) (DQ g)) (r.map iN) [.fz (MY W V),.fz (.tup (ps.map pN)),U,.fz (.lst (Z.map iN)),.ow (.lst (l.map iN)),z,I]=X0 (.nx [.fz (MY W V),.fz (.tup (ps.map pN)),U,.fz (.lst (Z.map iN)),.ow (.lst ((l++r.map λf=>Nc ((Z.map λs=>(f,s)).map (PZ W V ps))).map iN)),S,I])
 |[],l,z,_,_=>⟨z,by rw[iO,iO,f6];rfl⟩
 |f::r,l,z,J,Y=>by
  rw[d3] at Y;have b:=L f (J f .(1));have cm:A_ (hW (vF 3)) nq (Ep g) [.fz (MY W V),.fz (.tup (ps.map pN)),U,.fz (.lst (Z.map iN)),.ow (.lst (l.map iN)),.fz (iN f),I]=X0 (.lst ((Z.map λs=>(f,s)).map pN)):=by
   rw[bE];exact Dn Z iN _ (by simp only[cK,Bs,Cr]) .(0) λs _=>by simp only[cK,Ep,io]
  have m:=Rb (g:=Ay g) (ds:=[.tup (ps.map pN),.lst ((Z.map λs=>(f,s)).map pN)]) (ob3 W V);have ap:=Nz (l.map iN) (iN (Nc ((Z.map λs=>(f,s)).map (PZ W V ps)))) (by simp;omega);have bd:DQ g [.fz (MY W V),.fz (.tup (ps.map pN)),U,.fz (.lst (Z.map iN)),.ow (.lst (l.map iN)),.fz (iN f),I]=X0 (.nx [.fz (MY W V),.fz (.tup (ps.map pN)),U,.fz (.lst (Z.map iN)),.ow (.lst ((l++[Nc ((Z.map λs=>(f,s)).map (PZ W V ps))]).map iN)),.fz (iN f),I]):=by
   simp only[cK,DQ,Hr,cm,m,b,ap,dS]
  obtain⟨S,O⟩:=v5 fs Z hs L U I r (l++[Nc ((Z.map λs=>(f,s)).map (PZ W V ps))]) (.fz (iN f)) (λy T=>J y (by simp[T])) (by simp;omega);refine⟨S,?_⟩
  w_up
  rw[bd,By,O];simp
theorem v6{W V:Wl}{g:List D->Option D}{ps:List Pr}(fs Z:List Nat)(hs:fs.length<=100)(U:∀s∈Z,Ay g [MY W V,.tup (ps.map pN),.lst ((fs.map λf=>(f,s)).map pN)]=X0 (.int (Nc ((fs.map λf=>(f,s)).map (PZ W V ps)):Nat)))(T O:Slot):
  ∀(r:List Nat) (l:List Nat) (z:Slot),(∀f∈r,f∈Z)->l.length+r.length<=900->∃S,ot (OY (Ax 6) (DR g)) (r.map iN) [.fz (MY W V),.fz (.tup (ps.map pN)),.fz (.lst (fs.map iN)),T,.ow (.lst (l.map iN)),O,z]=X0 (.nx [.fz (MY W V),.fz (.tup (ps.map pN)),.fz (.lst (fs.map iN)),T,.ow (.lst ((l++r.map λs=>Nc ((fs.map λf=>(f,s)).map (PZ W V ps))).map iN)),O,S])
 |[],l,z,_,_=>⟨z,by rw[iO,iO,f6];rfl⟩
 |s::r,l,z,I,Y=>by
  rw[d3] at Y;have b:=U s (I s .(1));have cm:A_ (hW (vF 2)) nq (Er g) [.fz (MY W V),.fz (.tup (ps.map pN)),.fz (.lst (fs.map iN)),T,.ow (.lst (l.map iN)),O,.fz (iN s)]=X0 (.lst ((fs.map λf=>(f,s)).map pN)):=by
   rw[bE];exact Dn fs iN _ (by simp only[cK,Bs,Cr]) .(0) λf _=>by simp only[cK,Er,io]
  have m:=Rb (g:=Ay g) (ds:=[.tup (ps.map pN),.lst ((fs.map λf=>(f,s)).map pN)]) (ob3 W V);have ap:=Nz (l.map iN) (iN (Nc ((fs.map λf=>(f,s)).map (PZ W V ps)))) (by simp;omega);have bd:DR g [.fz (MY W V),.fz (.tup (ps.map pN)),.fz (.lst (fs.map iN)),T,.ow (.lst (l.map iN)),O,.fz (iN s)]=X0 (.nx [.fz (MY W V),.fz (.tup (ps.map pN)),.fz (.lst (fs.map iN)),T,.ow (.lst ((l++[Nc ((fs.map λf=>(f,s)).map (PZ W V ps))]).map iN)),O,.fz (iN s)]):=by
   simp only[cK,DR,Hr,cm,m,b,ap,dS]
  obtain⟨S,J⟩:=v6 fs Z hs U T O r (l++[Nc ((fs.map λf=>(f,s)).map (PZ W V ps))]) (.fz (iN s)) (λy L=>I y (by simp[L])) (by simp;omega);refine⟨S,?_⟩
  w_up
  rw[bd,By,J];simp
end
def zK(a b:Nat):minD (.int (a:Int)) (.int (b:Int))=X0 (.int ((min a b:Nat):Int)):=by
 show X0 (D.int (if (b:Int)<a then (b:Int) else a))=_;congr 2;split<;>omega
def zL(a b:Nat):maxD (.int (a:Int)) (.int (b:Int))=X0 (.int ((max a b:Nat):Int)):=by
 show X0 (D.int (if (b:Int) > a then (b:Int) else a))=_;congr 2;split<;>omega
def pH{W V:Wl}(hw:ll W)(hv:ll V)(h:Sp W V){g:List D->Option D}{ps:List Pr}(hi:OR W V ps)(nd:ps.Nodup)(hl:ps.length<=5)(U:∀f∈NS W.n (ps.map (·.1)),∀s∈NS V.n (ps.map (·.2)),TL W V ps (f,s)=E2->g [MY W V,.tup ((Ao (ps++[(f,s)])).map pN)]=X0 (.int (OM W V (Ao (ps++[(f,s)])):Nat))):Ck g [MY W V,.tup (ps.map pN)]=X0 (.int (stp W V (OM W V) ps:Nat)):=by
 have hn:=hw.n5;have hm:=hv.n5;generalize O:NS W.n (ps.map (·.1))=fs at U;generalize L:NS V.n (ps.map (·.2))=ss at U;have lf:fs.length<=5:=by rw[<-O];exact cw (M4 _ _) hn
 have ls:ss.length<=5:=by rw[<-L];exact cw (M4 _ _) hm
 have J:∀f∈fs,∀s∈ss,Bl g [MY W V,.tup (ps.map pN),pN (f,s)]=X0 (.int (PZ W V ps (f,s):Nat)):=λf I s hs=>by
  have S:=I;have Y:=hs;rw[<-O] at S;rw[<-L] at Y;exact uU hw hv h hi nd hl ⟨(CW.mp S).1,(CW.mp Y).1⟩ (λz=>(CW.mp S).2 (aT.mpr ⟨_,z,rfl⟩)) (U f I s hs)
 have b1:∀f∈fs,Ay g [MY W V,.tup (ps.map pN),.lst ((ss.map λs=>(f,s)).map pN)]=X0 (.int (Nc ((ss.map λs=>(f,s)).map (PZ W V ps)):Nat)):=λf I=>
  cg _ (by simp;omega) λq T=>by
   obtain⟨s,hs,rfl⟩:=aT.mp T;exact J f I s hs
 have b2:∀s∈ss,Ay g [MY W V,.tup (ps.map pN),.lst ((fs.map λf=>(f,s)).map pN)]=X0 (.int (Nc ((fs.map λf=>(f,s)).map (PZ W V ps)):Nat)):=λs hs=>
  cg _ (by simp;omega) λq T=>by
   obtain⟨f,I,rfl⟩:=aT.mp T;exact J f I s hs
 obtain⟨z5,Z⟩:=v5 fs ss .(0) b1 (.fz (.lst (fs.map iN))) .un fs [] .un (λ_ z=>z) (by simp;omega);simp only[ip,iO] at Z;obtain⟨z6,l2⟩:=v6 fs ss .(0) b2 (.fz (.lst (ss.map iN))) z5 ss (fs.map λf=>Nc ((ss.map λs=>(f,s)).map (PZ W V ps))) .un (λ_ z=>z) (by simp;omega);have a1:=pC W V;have a2:=Wu W V;have a3:=pF W V;have s1:=Q8 W;have s2:=Q8 V;have c1:A_ (hW (vF 1)) nq (En g) [.fz (MY W V),.fz (.tup (ps.map pN)),.un,.un,.un,.un,.un]=X0 (.lst ((ps.map (·.1)).map iN)):=by
  rw[bE];exact Dn ps pN _ (by simp only[cK,Bs,Rt]) .(0) λp _=>by
   have:=UQ p;simp only[cK,En,this,io]
 have c2:A_ (hW (vF 1)) nq (Eo g) [.fz (MY W V),.fz (.tup (ps.map pN)),.fz (.lst (fs.map iN)),.un,.un,.un,.un]=X0 (.lst ((ps.map (·.2)).map iN)):=by
  rw[bE];exact Dn ps pN _ (by simp only[cK,Bs,Rt]) .(0) λp _=>by
   have:=UP p;simp only[cK,Eo,this,io]
 have u1:=o9 W.n .(0) (ps.map (·.1));have u2:=o9 V.n .(0) (ps.map (·.2));rw[O] at u1;rw[L] at u2;obtain⟨m,mi,me⟩:=zE ((fs.map λf=>Nc ((ss.map λs=>(f,s)).map (PZ W V ps)))++(ss.map λs=>Nc ((fs.map λf=>(f,s)).map (PZ W V ps)))) (kc W V);have ad:sq (.int 1) (.int (m:Int))=X0 (.int ((1+m:Nat):Int)):=by
  rw[TY];congr 2
 have mn:=zK (kc W V) (1+m);simp only[cK,Ck,GK,Bs,Cr,a1,a2,s1,s2,c1,u1,c2,u2,Z,l2,a3,mi,ad,mn];rw[me];have rz:min (kc W V) (1+((fs.map λf=>Nc ((ss.map λs=>(f,s)).map (PZ W V ps)))++(ss.map λs=>Nc ((fs.map λf=>(f,s)).map (PZ W V ps)))).foldr min (kc W V))=stp W V (OM W V) ps:=by
  unfold stp;simp only[O,L,bE,io,PZ]
 rw[rz]
def cj(d:D):(X0 d:Option D).bind QN=QN d:=rfl
theorem pI{W V:Wl}(z:ll W)(I:ll V)(h:Sp W V):∀(n:Nat) (ps:List Pr),OR W V ps->OV ps->Pc W V ps=E2->(NS W.n (ps.map (·.1))).length<n->Ag n [MY W V,.tup (ps.map pN)]=X0 (.int (OM W V ps:Nat))
 |0,ps,_,_,_,U=>by omega
 |n+1,ps,J,hs,S,U=>by
  have T:=oY hs;have Z:ps.length<=5:=cw (uO T J S) z.n5;have lt:=pH (g:=Ag n) z I h J T Z λf O s hs L=>by
   have Y:=G_ J (q:=(f,s)) ⟨(CW.mp O).1,(CW.mp hs).1⟩;exact pI z I h n _ (Kg z I J O hs) (M3 z I Y) (by rw[Mz z I Y];exact SM.mpr ⟨S,L⟩) (fF (QZ z I J O hs) (zh U))
  rw[<-Wt z I J S] at lt;have a:=pD W V;have m:=Rb (g:=Ck (Ag n)) (ds:=[.tup (ps.map pN)]) (ob4 W V);have k:=pG (in5 z I J) Z;have r:Bc (Ag n) [.fz (MY W V),.fz (.tup (ps.map pN))]=X0 (.rt (.int (OM W V ps:Nat)) [.fz (MY W V),.fz (.tup (ps.map pN))]):=by
   unfold Bc;refine zJ (F:=FW W V) (ps:=ps) ?_ ?_ ?_ (v4 W V ps).symm
   .simp only[cK,a]
   .simp only[e_v,SZ,oC,oS,cj,k]
   .simp only[cK,Hr,m,lt]
  show li 2 2 (Bc (Ag n)) [MY W V,.tup (ps.map pN)]=_;simp only[cK,r]
theorem of_ok{W V:Wl}(z:ll W)(I:ll V)(h:Sp W V)(rows:List Pr)(J:OR W V rows)(hl:rows.length<=4):Cy [MY W V,.lst (rows.map pN)]=X0 (.int (OM W V (Ao rows):Nat)):=by
 have U:=My z I J;have O:(Ao rows).length<=5:=cw (gC z I J) .(0);have t:=zF (in5 z I J) hl;have k:=pG (in5 z I U) O;have a:=pD W V;have a1:=pC W V;have Z:=Wu W V;have Y:=af_t W V h (Ao rows) .(0);have T:uF (jn "reckoned") (vF 0) [.fz (MY W V),.fz .(6),.fz (.tup ((Ao rows).map pN))]=X0 (.mem (FW W V)):=by simp only[cK,a]
 have S:(vF 2 [.fz (MY W V),.fz .(6),.fz (.tup ((Ao rows).map pN))]).bind QN=X0 (Ao rows):=by simp only[e_v,SZ,oC,oS,cj,k]
 cases e:Pc W V (Ao rows) with
 |true=>
  have L:=pI z I h 8 (Ao rows) U (M3 z I J) e (si (cw (M4 _ _) z.n5) .(2));have m:=Rb (g:=Ag 8) (ds:=[.tup ((Ao rows).map pN)]) (ob1 W V);have b:=uR (c:="Ranks") (m:="rank_of_fitting") (ft:=TH (An (Iv) (Aa (uF (jn "one") (vF 0)) (Aa (uF (jn "other") (vF 0)) (Aa (vF 2) (af)))))) (fr:=Gg "Ranks" "rank_of_fitting" (Ag 8) (vF 0) (Aa (vF 2) (af))) T S (by simp only[cK,a1,Z,Y,e]);simp only[cK,Cy,GC,t];rw[b];simp only[cK,Hr,m,L]
 |false=>
  have b:=uT (c:="Ranks") (m:="rank_of_fitting") (ft:=TH (An (Iv) (Aa (uF (jn "one") (vF 0)) (Aa (uF (jn "other") (vF 0)) (Aa (vF 2) (af)))))) (fr:=Gg "Ranks" "rank_of_fitting" (Ag 8) (vF 0) (Aa (vF 2) (af))) T S (by simp only[cK,a1,Z,Y,e]) (by rw[v4,Ov e];rfl) (by simp only[e_v,SZ,oS];rw[<-ob1 W V];rfl);simp only[cK,Cy,GC,t];rw[b,Ov e];simp only[cK];rfl
abbrev rO (W:Wl):Str×Bool×D:=("one",E3,fx W)
abbrev rV (V:Wl):Str×Bool×D:=("other",E3,fx V)
abbrev rR (W V:Wl):Str×Bool×D:=("reckoned",E3,.mem (FW W V))
abbrev rE (W V:Wl):Str×Bool×D:=("endless",E3,.int (kc W V:Nat))
theorem Ye(W V:Wl)(x:Addr):Dk x [fx W,fx V]=X0 [rO W,rV V,rR W V,rE W V]:=by
 have z:=Q8 W;have S:=Q8 V;have mx:=zL W.n V.n;have Z:sq (.int ((max W.n V.n:Nat):Int)) (.int 1)=X0 (.int (kc W V:Nat)):=by
  rw[TY];congr 2
 have T:bF sq (bF maxD (uF (jn "size") (vF 1)) (uF (jn "size") (vF 2))) (kF (.int 1)) [.fz (.adr x),.fz (fx W),.fz (fx V)]=X0 (.int (kc W V:Nat)):=by simp only[cK,z,S,mx,Z]
 have Y:memE Phi [.fz (.adr x),.fz (fx W),.fz (fx V)]=X0 (.mem (FW W V)):=by
  show X0 (D.mem (FF (fx W) (fx V)))=_;rw[AAw]
 have U:Te 3 x [fx W,fx V]=[.fz (.adr x),.fz (fx W),.fz (fx V)]:=rfl;unfold Dk XU;rw[SF (show [fx W,fx V].length+1=3 from rfl),U];unfold HW;have O:JB "one" (vF 1) [.fz (.adr x),.fz (fx W),.fz (fx V)] []=X0 ([.fz (.adr x),.fz (fx W),.fz (fx V)],[rO W]):=rfl;have L:JB "other" (vF 2) [.fz (.adr x),.fz (fx W),.fz (fx V)] [rO W]=X0 ([.fz (.adr x),.fz (fx W),.fz (fx V)],[rO W,rV V]):=by
  have l:cb ("other":Str) [rO W]=W1:=by rw[ca,u1];rfl
  unfold JB;show (if (cb ("other":Str) [rO W]).isNone=E2/\1<1000 then X0 (_,[rO W]++[rV V]) else W1)=_;rw[l,SF ⟨rfl,by decide⟩];rfl
 have J:JB "reckoned" (memE Phi) [.fz (.adr x),.fz (fx W),.fz (fx V)] [rO W,rV V]=X0 ([.fz (.adr x),.fz (fx W),.fz (fx V)],[rO W,rV V,rR W V]):=by
  have l:cb ("reckoned":Str) [rO W,rV V]=W1:=by
   rw[ca,u2];show cb ("reckoned":Str) [rV V]=W1;rw[ca,u3];rfl
  unfold JB;rw[Y];show (if (cb ("reckoned":Str) [rO W,rV V]).isNone=E2/\2<1000 then X0 (_,[rO W,rV V]++[rR W V]) else W1)=_;rw[l,SF ⟨rfl,by decide⟩];rfl
 have I:JB "endless" (bF sq (bF maxD (uF (jn "size") (vF 1)) (uF (jn "size") (vF 2))) (kF (.int 1))) [.fz (.adr x),.fz (fx W),.fz (fx V)] [rO W,rV V,rR W V]=X0 ([.fz (.adr x),.fz (fx W),.fz (fx V)],[rO W,rV V,rR W V,rE W V]):=by
  have l:cb ("endless":Str) [rO W,rV V,rR W V]=W1:=by
   rw[ca,u4];show cb ("endless":Str) [rV V,rR W V]=W1;rw[ca,u5];show cb ("endless":Str) [rR W V]=W1;rw[ca,u6];rfl
  unfold JB;rw[T];show (if (cb ("endless":Str) [rO W,rV V,rR W V]).isNone=E2/\3<1000 then X0 (_,[rO W,rV V,rR W V]++[rE W V]) else W1)=_;rw[l,SF ⟨rfl,by decide⟩];rfl
 rw[Gf,O,Eh,Gf,L,Eh,Gf,J,Eh,Gf,I,Eh,lA];rfl
def zM(W V:Wl)(fs:FA)(ρ:Rho)(z:fs ρ=X0 [fx W,fx V]):mkI "Ranks" Dk fs ρ=X0 (MY W V):=by
 unfold mkI;rw[z];simp only[eB,Ye W V 0];rw[SF (λx=>Ye W V x)];rfl
def fitB(W V:Wl)(rows:List Pr):Bool:=rows.all λp=>rows.all λq=>decide (GP W p.1 q.1=GP V p.2 q.2)
def cu{W V:Wl}{rows:List Pr}:fitB W V rows=E2↔∀p∈rows,∀q∈rows,GP W p.1 q.1=GP V p.2 q.2:=by
 unfold fitB;simp only[eD,OH]
def dsym(a b c d:Nat)(h:decide (a=b)=decide (c=d)):decide (b=a)=decide (d=c):=by
 rw[show decide (b=a)=decide (a=b) by simp[eq_comm],show decide (d=c)=decide (c=d) by simp[eq_comm],h]
def Wv(P:Nat->Bool)(n:Nat):((aS n).all P)=E2↔∀i,i<n->P i=E2:=by
 rw[eD];exact⟨λh i z=>h i (cE.mpr z),λh i z=>h i (cE.mp z)⟩
def lfB(W V:Wl)(rows:List Pr)(k j:Nat):Bool:=decide (GP W (rows.getD k (0,0)).1 (rows.getD j (0,0)).1=GP V (rows.getD k (0,0)).2 (rows.getD j (0,0)).2)
def zN(W V:Wl)(hs:Spk W V)(rows:List Pr):((aS rows.length).all λk=>(aS (k+1)).all λj=>lfB W V rows k j)=fitB W V rows:=by
 rw[g9,Wv,cu];constructor
 .intro h;have J:∀i j (I:i<rows.length) (U:j<rows.length),j<=i->GP W rows[i].1 rows[j].1=GP V rows[i].2 rows[j].2:=λi j I U z=>by
   have:=(Wv _ _).mp (h i I) j .(0);unfold lfB at this;rw[gv,bv I,gv,bv U] at this;exact WG this
  intro p O q T;obtain⟨i,I,rfl⟩:=ng.mp O;obtain⟨j,U,rfl⟩:=ng.mp T
  by_cases z:j<=i
  .exact J i j I U z
  .have S:=(Iw hs rows[j] rows[i]).mp (J j i U I .(0));have Y:=(Iw hs rows[i] rows[i]).mp (J i i I I (aw _));exact (Iw hs rows[i] rows[j]).mpr ⟨dsym _ _ _ _ S.1,Y.2.1,S.2.2.2,S.2.2.1⟩
 .intro h i I;refine (Wv _ _).mpr λj U=>OG ?_;have L:j<rows.length:=by omega
  rw[gv,bv I,gv,bv L];exact h _ (fA I) _ (fA L)
def ix_p{rows:List Pr}{k:Nat}(h:k<rows.length):dq .(6) (.int (k:Int))=X0 (pN (rows.getD k (0,0))):=by
 have e:(rows.map pN)[k]?=X0 (pN rows[k]):=by rw[br,bv h];rfl
 rw[gv,bv h];show atI (rows.map pN) (k:Int)=_;rw[Qo,e];rfl
theorem pJ(W V:Wl)(h:ll W)(hv:ll V)(rows:List Pr)(k:Nat)(hk:k<rows.length)(hl:rows.length<=900)(J:PV.Slot):∃I,Hl [.fz (wd W),.fz (wd V),.fz .(6),.fz (.int (k:Int)),J]=X0 (if ((aS (k+1)).all λj=>lfB W V rows k j)=E2 then .nx [.fz (wd W),.fz (wd V),.fz .(6),.fz (.int (k:Int)),I] else .rt (.bl E3) [.fz (wd W),.fz (wd V),.fz .(6),.fz (.int (k:Int)),I]):=by
 obtain⟨I,e⟩:=Kf (tg:=Ax 4) (b:=J6) (λz=>[.fz (wd W),.fz (wd V),.fz .(6),.fz (.int (k:Int)),z]) (λj:Nat=>.int (j:Int)) (λj=>lfB W V rows k j) (.bl E3) (λd z=>rfl) (aS (k+1)) J λj U=>by
  have U:=cE.mp U;have O:=ix_p hk;have Z:=ix_p (rows:=rows) (k:=j) .(0);have i0:=UQ (rows.getD k (0,0));have i1:=UP (rows.getD k (0,0));have Y:=UQ (rows.getD j (0,0));have T:=UP (rows.getD j (0,0));have f1:=Yb W h (rows.getD k (0,0)).1 (rows.getD j (0,0)).1;have f2:=Yb V hv (rows.getD k (0,0)).2 (rows.getD j (0,0)).2;simp only[cK,J6,O,Z,i0,i1,Y,T,f1,f2,yw];unfold lfB;cases decide (GP W (rows.getD k (0,0)).1 (rows.getD j (0,0)).1=GP V (rows.getD k (0,0)).2 (rows.getD j (0,0)).2)<;>rfl
 refine⟨I,?_⟩;have L:=Jz ((k:Int)+1) .(0);have S:tx ((k:Int)+1).toNat=(aS (k+1)).map λj:Nat=>D.int (j:Int):=by
  rw[show ((k:Int)+1).toNat=k+1 by omega];rfl
 rw[S] at L;simp only[ciK,Hl,L,e]
def Ur(W V:Wl)(h:ll W)(hv:ll V)(hs:Spk W V)(rows:List Pr)(hl:rows.length<=900):Jq [wd W,wd V,.lst (rows.map pN)]=X0 (.bl (fitB W V rows)):=by
 have Z:∀(l:List Nat) (z J:PV.Slot),(∀k∈l,k<rows.length)->∃S I,ot (OY (Ax 3) Hl) (l.map λj:Nat=>D.int (j:Int)) [.fz (wd W),.fz (wd V),.fz .(6),z,J]=X0 (if (l.all λk=>(aS (k+1)).all λj=>lfB W V rows k j)=E2 then .nx [.fz (wd W),.fz (wd V),.fz .(6),S,I] else .rt (.bl E3) [.fz (wd W),.fz (wd V),.fz .(6),S,I]):=by
  intro l
  induction l with
  |nil=>intro z J _;exact⟨z,J,rfl⟩
  |cons k l ih=>
   intro z J L;obtain⟨I,U⟩:=pJ W V h hv rows k (L k .(1)) hl J
   w_up
   rw[U,sd];cases hb:((aS (k+1)).all λj=>lfB W V rows k j) with
   |true=>
    obtain⟨S,O,e⟩:=ih (.fz (.int (k:Int))) I λx hx=>L x (by simp[hx]);refine⟨S,O,?_⟩;rw[SF rfl,By,e,ma]
   |false=>
    refine⟨.fz (.int (k:Int)),I,?_⟩;rfl
 obtain⟨S,I,e⟩:=Z (aS rows.length) .un .un λk L=>cE.mp L;rw[zN W V hs rows] at e;have ln:=yz rows;have T:=Jz (rows.length:Int) .(0);have Y:tx ((rows.length:Int)).toNat=(aS rows.length).map λj:Nat=>D.int (j:Int):=by
  rw[eC];rfl
 rw[Y] at T;simp only[cK,Jq,Mq,ln,T,e];cases fitB W V rows<;>rfl
def pK{W V:Wl}(hs:Spk W V)(rows:List Pr):fitB W V rows=Pc W V rows:=by
 rw[g9,cu,QX];constructor
 .intro h p z;have f:=(Iw hs p p).mp (h p z p z);refine⟨⟨f.2.1,f.2.2.1⟩,λq T=>?_⟩;have g:=(Iw hs p q).mp (h p z q T);unfold Wp;rw[eP,eP,XG];exact⟨g.1,g.2.2.1,g.2.2.2⟩
 .intro h p z q T;have f:=h p z;have g:=f.2 q T;unfold Wp at g;rw[eP,eP,XG] at g;exact (Iw hs p q).mpr ⟨g.1,f.1.1,g.2.1,g.2.2⟩
theorem SN:∀{l:List Nat},l≠[]->Nc l∈l
 |[x],_=>by simp[Nc]
 |x::y::l,_=>by
  have z:=SN (l:=y::l) .(1);show max x (Nc (y::l))∈_
  rcases M2 x (Nc (y::l)) with h | h
  .rw[Nat.max_eq_right h];exact cp _ z
  .rw[Nat.max_eq_left h];exact df ..
abbrev uj (W:Wl) (ps:List Pr):List Nat:=NS W.n (ps.map (·.1))
abbrev Id (V:Wl) (ps:List Pr):List Nat:=NS V.n (ps.map (·.2))
abbrev rr (W V:Wl) (ps:List Pr) (f s:Nat):Nat:=OM W V (Ao (ps++[(f,s)]))
def bsO(W V:Wl)(ps:List Pr):List Nat:=((uj W ps).map λf=>Nc ((Id V ps).map λs=>rr W V ps f s))++(Id V ps).map λs=>Nc ((uj W ps).map λf=>rr W V ps f s)
def mO(W V:Wl)(ps:List Pr):Nat:=(bsO W V ps).foldr min (kc W V)
def rr_w{W V:Wl}(I:ll W)(J:ll V){ps:List Pr}(h:OR W V ps){f s:Nat}(L:f∈uj W ps)(hs:s∈Id V ps):(if TL W V ps (f,s)=E2 then OM W V (Ao (ps++[(f,s)])) else 0)=rr W V ps f s:=by
 split
 .rfl
 .rename_i z
  symm
  refine Ov ?_;rw[Mz I J (G_ h ⟨(CW.mp L).1,(CW.mp hs).1⟩)];cases e:Pc W V (ps++[(f,s)]) with
  |false=>rfl
  |true=>exact MG (SM.mp e).2 z
theorem rk_m{W V:Wl}(z:ll W)(I:ll V){ps:List Pr}(h:OR W V ps)(a:Pc W V ps=E2):OM W V ps=min (kc W V) (1+mO W V ps):=by
 rw[Wt z I h a];unfold stp mO bsO;simp only;rw[ij (g:=λf=>Nc ((Id V ps).map λs=>rr W V ps f s)) λf J=>by rw[ij λs hs=>rr_w z I h J hs],
  ij (l:=Id V ps) (g:=λs=>Nc ((uj W ps).map λf=>rr W V ps f s)) λs hs=>by rw[ij λf J=>rr_w z I h J hs]]
theorem Yg{W V:Wl}(z:ll W)(I:ll V){ps:List Pr}(h:OR W V ps){f s:Nat}(O:f∈uj W ps)(hs:s∈Id V ps):(Id V (Ao (ps++[(f,s)]))).length<(Id V ps).length:=by
 have k:=G_ h (q:=(f,s)) ⟨(CW.mp O).1,(CW.mp hs).1⟩;refine oZ (λx J=>?_) hs (aT.mpr ⟨(f,s),(Do z I k _).mpr .(1),rfl⟩);obtain⟨p,L,rfl⟩:=aT.mp J;exact aT.mpr ⟨p,(Do z I k _).mpr (by simp[L]),rfl⟩
abbrev mx (W V:Wl) (ps:List Pr):Nat:=max (uj W ps).length (Id V ps).length
def Ww{W V:Wl}{ps:List Pr}{b:Nat}(h:b∈bsO W V ps):(∃f∈uj W ps,b=Nc ((Id V ps).map λs=>rr W V ps f s))∨∃s∈Id V ps,b=Nc ((uj W ps).map λf=>rr W V ps f s):=by
 unfold bsO at h
 rcases eJ.mp h with h | h
 .obtain⟨f,z,rfl⟩:=aT.mp h;exact .inl ⟨f,z,rfl⟩
 .obtain⟨s,hs,rfl⟩:=aT.mp h;exact .inr ⟨s,hs,rfl⟩
def v7{W V:Wl}{ps:List Pr}(k:∀f∈uj W ps,∀s∈Id V ps,rr W V ps f s=kc W V∨rr W V ps f s<mx W V ps):mO W V ps=kc W V∨mO W V ps<mx W V ps:=by
 have O:mO W V ps<=kc W V:=ou _ _
 rcases Um (bsO W V ps) (kc W V) with e | e
 .exact .inl e
 .have one:∀(l:List Nat),0<mx W V ps->(∀x∈l,x=kc W V∨x<mx W V ps)->mO W V ps=Nc l->mO W V ps=kc W V∨mO W V ps<mx W V ps:=λl L Y e=>by
   by_cases c:∃x∈l,x=kc W V
   .obtain⟨x,I,S⟩:=c;have:=Zr I;exact .inl .(0)
   .right;rw[e];exact oh L λx I=>(Y x I).elim (λz=>MG ⟨x,I,z⟩ c) id
  rcases Ww (show mO W V ps∈bsO W V ps from e) with ⟨f,J,e⟩ | ⟨s,hs,e⟩
  .have:=vx J;exact one _ (by unfold mx;omega) (λx I=>by obtain⟨s,hs,rfl⟩:=aT.mp I;exact k f J s hs) e
  .have:=vx hs;exact one _ (by unfold mx;omega) (λx I=>by obtain⟨f,J,rfl⟩:=aT.mp I;exact k f J s hs) e
theorem rk_u{W V:Wl}(I:ll W)(J:ll V):∀(n:Nat) (ps:List Pr),OR W V ps->(uj W ps).length<n->OM W V ps=kc W V∨OM W V ps<=mx W V ps
 |0,_,_,h=>by omega
 |n+1,ps,L,S=>by
  cases a:Pc W V ps with
  |false=>exact .inr (by rw[Ov a];exact eW _)
  |true=>
   have g:=v7 (W:=W) (V:=V) (ps:=ps) λf O s hs=>by
    have u1:(uj W (Ao (ps++[(f,s)]))).length<(uj W ps).length:=QZ I J L O hs;have u2:=Yg I J L O hs
    rcases rk_u I J n _ (Kg I J L O hs) .(0) with z | z
    .exact .inl z
    .right;show OM W V (Ao (ps++[(f,s)]))<_;unfold mx at z ⊢;omega
   rw[rk_m I J L a];omega
def Qr(W V:Wl)(c r:Nat):Prop:=r=kc W V∨c<r
theorem gap2{W V:Wl}(I:ll W)(J:ll V){ps:List Pr}(L:OR W V ps):mO W V ps=kc W V∨mO W V ps+2<=kc W V:=by
 have Z:(uj W ps).length<=W.n:=M4 _ _;have Y:(Id V ps).length<=V.n:=M4 _ _;have g:=v7 (W:=W) (V:=V) (ps:=ps) λf O s hs=>by
  have u1:(uj W (Ao (ps++[(f,s)]))).length<(uj W ps).length:=QZ I J L O hs;have u2:=Yg I J L O hs
  rcases rk_u I J _ _ (Kg I J L O hs) (tq _) with z | z
  .exact .inl z
  .right;show OM W V (Ao (ps++[(f,s)]))<_;unfold mx at z ⊢;omega
 unfold mx at g;unfold kc at g ⊢;omega
def cz{W V:Wl}{c x y:Nat}(h:x<=y)(z:y<=kc W V)(q:Qr W V c x):Qr W V c y:=by
 unfold Qr at *;omega
def Wx{W V:Wl}{c:Nat}(Y:∀x∈l,x<=kc W V):Qr W V c (Nc l)↔∃x∈l,Qr W V c x:=by
 constructor
 .intro h;cases l with
  |nil=>
   have:kc W V≠0:=by unfold kc;omega
   have z:Nc []=0:=rfl;rw[z] at h;unfold Qr at h;omega
  |cons y r=>exact⟨_,SN .(1),h⟩
 .rintro⟨x,I,h⟩;refine cz (Zr I) ?_ h;cases l with
  |nil=>cases I
  |cons y r=>exact Y _ (SN .(1))
def zO{W V:Wl}{c:Nat}(Y:∀x∈l,x<=kc W V):Qr W V c (l.foldr min (kc W V))↔∀x∈l,Qr W V c x:=by
 constructor
 .intro h x z;exact cz (cY z) (Y x z) h
 .intro h
  rcases Um l (kc W V) with e | e
  .exact .inl e
  .exact h _ e
def uV{W V:Wl}(J:ll W)(L:ll V){ps:List Pr}(O:OR W V ps)(a:Pc W V ps=E2)(c:Nat):Qr W V (c+1) (OM W V ps) ↔
  (∀f∈uj W ps,∃s∈Id V ps,Qr W V c (rr W V ps f s))/\∀s∈Id V ps,∃f∈uj W ps,Qr W V c (rr W V ps f s):=by
 have S:∀f∈uj W ps,∀s∈Id V ps,rr W V ps f s<=kc W V:=λf z s hs=>AAv J L (Kg J L O z hs);have Z:∀f∈uj W ps,∀x∈(Id V ps).map (λs=>rr W V ps f s),x<=kc W V:=λf z x I=>by
  obtain⟨s,hs,rfl⟩:=aT.mp I;exact S f z s hs
 have Y:∀s∈Id V ps,∀x∈(uj W ps).map (λf=>rr W V ps f s),x<=kc W V:=λs hs x I=>by
  obtain⟨f,z,rfl⟩:=aT.mp I;exact S f z s hs
 have bl:∀l:List Nat,(∀x∈l,x<=kc W V)->Nc l<=kc W V:=λl hl=>by
  cases l with
  |nil=>exact eW _
  |cons y r=>exact hl _ (SN .(1))
 have U:∀x∈bsO W V ps,x<=kc W V:=λx I=>by
  rcases Ww I with ⟨f,z,rfl⟩ | ⟨s,hs,rfl⟩
  .exact bl _ (Z f z)
  .exact bl _ (Y s hs)
 have T:Qr W V (c+1) (OM W V ps)↔Qr W V c (mO W V ps):=by
  have g:=gap2 J L O;rw[rk_m J L O a];unfold Qr;omega
 rw[T];unfold mO;rw[zO U];constructor
 .intro h;refine⟨λf z=>?_,λs hs=>?_⟩
  .have:=(Wx (Z f z)).mp (h _ (jp _ (aT.mpr ⟨f,z,rfl⟩)));obtain⟨x,I,q⟩:=this;obtain⟨s,hs,rfl⟩:=aT.mp I;exact⟨s,hs,q⟩
  .have:=(Wx (Y s hs)).mp (h _ (fR _ (aT.mpr ⟨s,hs,rfl⟩)));obtain⟨x,I,q⟩:=this;obtain⟨f,z,rfl⟩:=aT.mp I;exact⟨f,z,q⟩
 .rintro⟨h1,h2⟩ x I
  rcases Ww I with ⟨f,z,rfl⟩ | ⟨s,hs,rfl⟩
  .obtain⟨s,hs,q⟩:=h1 f z;exact (Wx (Z f z)).mpr ⟨_,aT.mpr ⟨s,hs,rfl⟩,q⟩
  .obtain⟨f,z,q⟩:=h2 s hs;exact (Wx (Y s hs)).mpr ⟨_,aT.mpr ⟨f,z,rfl⟩,q⟩
def Lb(W V:Wl):Nat->List Pr->Bool
 |0,rows=>Pc W V rows
 |c+1,rows=>Pc W V rows&&(((uj W rows).all λf=>(Id V rows).any λs=>Lb W V c (rows++[(f,s)]))&&(Id V rows).all λs=>(uj W rows).any λf=>Lb W V c (rows++[(f,s)]))
def Yh{xs ys:List Nat}(h:∀x,x∈xs↔x∈ys):NS n xs=NS n ys:=by
 unfold NS;exact M0 λt _=>by rw[decide_eq_decide,h]
theorem v8{W V:Wl}(I:ll W)(J:ll V):∀(c:Nat) (rows:List Pr),OR W V rows->(Lb W V c rows=E2↔Qr W V c (OM W V (Ao rows)))
 |0,rows,L=>by
  have O:=Mz I J L;cases a:Pc W V rows with
  |false=>
   rw[a] at O;rw[Ov O];unfold Lb Qr kc;rw[a];simp
  |true=>
   rw[a] at O;rw[rk_m I J (My I J L) O];unfold Lb Qr;rw[a];have:1<=kc W V:=by unfold kc;omega
   simp only[true_iff];omega
 |c+1,rows,L=>by
  have O:=Mz I J L;cases a:Pc W V rows with
  |false=>
   rw[a] at O;rw[Ov O];unfold Lb Qr kc;rw[a];simp
  |true=>
   rw[a] at O;rw[uV I J (My I J L) O c];have e1:uj W (Ao rows)=uj W rows:=Yh λx=>by simp only[aT,Do I J L]
   have Z:Id V (Ao rows)=Id V rows:=Yh λx=>by simp only[aT,Do I J L]
   have S:∀f∈uj W rows,∀s∈Id V rows,(Qr W V c (rr W V (Ao rows) f s)↔Lb W V c (rows++[(f,s)])=E2):=λf z s hs=>by
    have T:(f,s).1<W.n/\(f,s).2<V.n:=⟨(CW.mp z).1,(CW.mp hs).1⟩;rw[v8 I J c _ (G_ L T)];have:Ao (Ao rows++[(f,s)])=Ao (rows++[(f,s)]):=gB I J (G_ (My I J L) T) (G_ L T) λx=>by simp[Do I J L]
    unfold rr;rw[this]
   rw[e1,Z];unfold Lb;rw[a,ma,eP,eD,eD];constructor
   .rintro⟨Y,U⟩;refine⟨λf z=>?_,λs hs=>?_⟩
    .obtain⟨s,hs,q⟩:=oB.mp (Y f z);exact⟨s,hs,(S f z s hs).mpr q⟩
    .obtain⟨f,z,q⟩:=oB.mp (U s hs);exact⟨f,z,(S f z s hs).mpr q⟩
   .rintro⟨Y,U⟩;refine⟨λf z=>?_,λs hs=>?_⟩
    .obtain⟨s,hs,q⟩:=Y f z;exact oB.mpr ⟨s,hs,(S f z s hs).mp q⟩
    .obtain⟨f,z,q⟩:=U s hs;exact oB.mpr ⟨f,z,(S f z s hs).mp q⟩
def rngN(n:Nat)(z:n<=100):rngO (X0 .(5))=X0 ((aS n).map iN):=by
 rw[Jz (n:Int) .(0),eC];rfl
def AAz(l:List Pr)(q:Pr)(h:l.length<=1000):sq (.lst (l.map pN)) (.lst [pN q])=X0 (.lst ((l++[q]).map pN)):=by
 rw[xW (by simp;omega)];simp
def qB(W V:Wl)(c r:Nat):Bool:=decide (r=kc W V)||decide (c<r)
def obL(W V:Wl):Ej "Ranks" "last" (MY W V)=E2:=rfl
theorem uW{W V:Wl}(I:ll W)(J:ll V)(h:Sp W V)(rows:List Pr)(L:OR W V rows)(Y:rows.length<=4)(c:Nat):Fb [MY W V,.lst (rows.map pN),.int (c:Int)]=X0 (.bl (qB W V c (OM W V (Ao rows)))):=by
 have o:=of_ok I J h rows L Y;have m:=Rb (g:=Cy) (ds:=[.lst (rows.map pN)]) (ob5 W V);have a:=pF W V;have lt:=cP c (OM W V (Ao rows));have e:=oV (OM W V (Ao rows)) (kc W V);unfold qB
 by_cases z:OM W V (Ao rows)=kc W V
 .rw[OG z] at e ⊢;simp only[cK,Fb,Ij,Hr,m,o,a,e,IE]
 .rw[NG z] at e ⊢;simp only[cK,Fb,Ij,Hr,m,o,a,e,lt,DS]
theorem pM{W V:Wl}(z:ll W)(I:ll V)(h:Spk W V)(rows:List Pr)(J:OR W V rows)(Y:rows.length<=4)(c:Nat):R1 [fx W,fx V,.lst (rows.map pN),.int (c:Int)]=X0 (.bl (qB W V c (OM W V (Ao rows)))):=by
 have s:=Zq W V z I h rows J;have t:=uW z I h.sp rows J Y c;have m:=Rb (g:=Fb) (ds:=[.lst (rows.map pN),.int (c:Int)]) (obL W V);have mk:=zM W V (Aa (vF 0) (Aa (vF 1) af)) [.fz (fx W),.fz (fx V),.fz .(6),.fz (.int (c:Int))] (by simp only[cK]);simp only[cK,R1,We,s,Hr,mk,m,t]
section
variable {W V:Wl}{rows:List Pr}{c:Nat}
abbrev TK (V:Wl) (rows:List Pr) (L:Nat->Nat->Bool) (f:Nat):D:=.lst ((Id V rows).map λs=>.bl (L f s))
theorem uX(I:ll W)(L:rows.length<=100)(T:PV.Slot):A_ (vb (bF dq (vF 0) .(10))) (JS g) (JT g) [.fz (wd W),.fz (wd V),.fz .(6),T,.un,.un,.un,.un,.un,.un]=X0 (.lst ((uj W rows).map iN)):=by
 have z:=Sz W;have O:=I.n5;refine HY (n:=W.n) (λt=>decide (t∉rows.map (·.1))) iN _ ?_ .(0) (λk J=>?_) λk J=>?_
 .have:=rngN W.n .(0);simp only[cK,z,this];rfl
 .have Y:A_ (hW (vF 2)) nq (JR g) ([.fz (wd W),.fz (wd V),.fz .(6),T,.un,.un,.un,.un,.un,.un]++[.fz (.int (k:Int))])=X0 (.lst ((rows.map (·.1)).map iN)):=by
   rw[bE];refine Dn rows pN _ (by simp only[cK,Bs,Cr]) .(0) λp _=>?_;have:=UQ p;simp only[cK,JR,this,io]
  have s:=o8 k (rows.map (·.1));simp only[we,ip] at Y;simp only[cK,JS,Y,s]
 .simp only[cK,JT]
theorem pO(I:ll V)(L:rows.length<=100)(T S:PV.Slot):A_ (vb (bF dq (vF 1) .(10))) (JW g) (JX g) [.fz (wd W),.fz (wd V),.fz .(6),T,S,.un,.un,.un,.un,.un]=X0 (.lst ((Id V rows).map iN)):=by
 have z:=Sz V;have O:=I.n5;refine HY (n:=V.n) (λt=>decide (t∉rows.map (·.2))) iN _ ?_ .(0) (λk J=>?_) λk J=>?_
 .have:=rngN V.n .(0);simp only[cK,z,this];rfl
 .have Y:A_ (hW (vF 2)) nq (JV g) ([.fz (wd W),.fz (wd V),.fz .(6),T,S,.un,.un,.un,.un,.un]++[.fz (.int (k:Int))])=X0 (.lst ((rows.map (·.2)).map iN)):=by
   rw[bE];refine Dn rows pN _ (by simp only[cK,Bs,Cr]) .(0) λp _=>?_;have:=UP p;simp only[cK,JV,this,io]
  have s:=o8 k (rows.map (·.2));simp only[we,ip] at Y;simp only[cK,JW,Y,s]
 .simp only[cK,JX]
theorem Yi(L:Nat->Nat->Bool)(hl:rows.length<=100)(hs:(Id V rows).length<=5)(hf:(uj W rows).length<=5)(Z:∀f∈uj W rows,∀s∈Id V rows,g [wd W,wd V,.lst ((rows++[(f,s)]).map pN),.int (c:Int)]=X0 (.bl (L f s)))(S O J:PV.Slot):
  ∀(r I:List Nat) (z:PV.Slot),I++r=uj W rows->∃T,ot (OY (Ax 7) (G3 g)) (r.map iN) [.fz (wd W),.fz (wd V),.fz .(6),.fz (.int ((c+1:Nat):Int)),S,.fz (.lst ((Id V rows).map iN)),.ow (.lst (I.map (TK V rows L))),z,O,J]=X0 (.nx [.fz (wd W),.fz (wd V),.fz .(6),.fz (.int ((c+1:Nat):Int)),S,.fz (.lst ((Id V rows).map iN)),.ow (.lst ((uj W rows).map (TK V rows L))),T,O,J])
 |[],I,z,e=>⟨z,by rw[f6] at e;rw[e];rfl⟩
 |f::r,I,z,e=>by
  have Y:f∈uj W rows:=by rw[<-e];simp
  have sb:ZU (.int ((c+1:Nat):Int)) (.int 1)=X0 (.int (c:Int)):=by
   rw[V9];congr 2;omega
  have cm:A_ (hW (vF 5)) nq (JZ g) [.fz (wd W),.fz (wd V),.fz .(6),.fz (.int ((c+1:Nat):Int)),S,.fz (.lst ((Id V rows).map iN)),.ow (.lst (I.map (TK V rows L))),.fz (iN f),O,J]=X0 (TK V rows L f):=by
   refine Dn (Id V rows) iN (λs=>.bl (L f s)) (by simp only[cK,Bs,Cr]) .(0) λs U=>?_;have ad:=AAz rows (f,s) .(0);have h:=Z f Y s U;simp only[cK,JZ,ad,sb,h]
  have lp:I.length<=5:=by
   have:=SG cy e;rw[fh] at this;omega
  have ap:=Nz (I.map (TK V rows L)) (TK V rows L f) (by rw[av];omega);have b:G3 g [.fz (wd W),.fz (wd V),.fz .(6),.fz (.int ((c+1:Nat):Int)),S,.fz (.lst ((Id V rows).map iN)),.ow (.lst (I.map (TK V rows L))),.fz (iN f),O,J]=X0 (.nx [.fz (wd W),.fz (wd V),.fz .(6),.fz (.int ((c+1:Nat):Int)),S,.fz (.lst ((Id V rows).map iN)),.ow (.lst ((I++[f]).map (TK V rows L))),.fz (iN f),O,J]):=by
   rw[dS];simp only[G3,kO,ZP,Ks,cm,ap,Xi,oC,oS,oP,oQ,bb,iO]
  obtain⟨T,ih⟩:=Yi L hl hs hf Z S O J r (I++[f]) (.fz (iN f)) (by rw[mT];exact e);refine⟨T,?_⟩
  w_up
  rw[b,By,ih]
theorem pP(L:Nat->Nat->Bool)(U T S O I J z:PV.Slot):∃Y,ot (OY (Ax 8) (G4 g)) ((uj W rows).map (TK V rows L)) [.fz (wd W),.fz (wd V),.fz .(6),U,T,S,O,I,z,J]=X0 (if ((uj W rows).all λf=>(Id V rows).any λs=>L f s)=E2 then .nx [.fz (wd W),.fz (wd V),.fz .(6),U,T,S,O,I,Y,J] else .rt (.bl E3) [.fz (wd W),.fz (wd V),.fz .(6),U,T,S,O,I,Y,J]):=
 Kf (tg:=Ax 8) (b:=G4 g) (λz=>[.fz (wd W),.fz (wd V),.fz .(6),U,T,S,O,I,z,J]) (TK V rows L) (λf=>(Id V rows).any λs=>L f s) (.bl E3) (λd z=>rfl) (uj W rows) z λf Z=>by
  have a:=mH (λs=>L f s) (Id V rows);simp only[cK,G4,a];cases (Id V rows).any λs=>L f s<;>rfl
def zP(L:Nat->Nat->Bool)(f:Nat){k:Nat}(I:k<(Id V rows).length):dq (TK V rows L f) (.int (k:Int))=X0 (.bl (L f ((Id V rows).getD k 0))):=by
 show atI ((Id V rows).map λs=>D.bl (L f s)) (k:Int)=_;rw[Qo,br,bv I,gv,bv I];rfl
def uY(l:List Nat)(P:Nat->Bool):((aS l.length).all λk=>P (l.getD k 0))=l.all P:=by
 rw[g9,eD,eD];constructor
 .intro h x J;obtain⟨i,z,rfl⟩:=ng.mp J;have:=h i (cE.mpr z)
  rwa [gv,bv z] at this
 .intro h k I;have I:=cE.mp I;rw[gv,bv I];exact h _ (fA I)
theorem pQ(L:Nat->Nat->Bool)(hf:(uj W rows).length<=5)(T J S I O z:PV.Slot):∃Y,ot (OY (Ax 9) (GD g)) ((aS (Id V rows).length).map iN) [.fz (wd W),.fz (wd V),.fz .(6),T,J,S,.fz (.lst ((uj W rows).map (TK V rows L))),I,O,z]=X0 (if ((Id V rows).all λs=>(uj W rows).any λf=>L f s)=E2 then .nx [.fz (wd W),.fz (wd V),.fz .(6),T,J,S,.fz (.lst ((uj W rows).map (TK V rows L))),I,O,Y] else .rt (.bl E3) [.fz (wd W),.fz (wd V),.fz .(6),T,J,S,.fz (.lst ((uj W rows).map (TK V rows L))),I,O,Y]):=by
 rw[<-uY (Id V rows) λs=>(uj W rows).any λf=>L f s];refine Kf (tg:=Ax 9) (b:=GD g) (λz=>[.fz (wd W),.fz (wd V),.fz .(6),T,J,S,.fz (.lst ((uj W rows).map (TK V rows L))),I,O,z]) iN (λk=>(uj W rows).any λf=>L f ((Id V rows).getD k 0)) (.bl E3) (λd z=>rfl) (aS (Id V rows).length) z λk U=>?_;have U:=cE.mp U;have Z:A_ (VS (vU 6)) nq (IW g) [.fz (wd W),.fz (wd V),.fz .(6),T,J,S,.fz (.lst ((uj W rows).map (TK V rows L))),I,O,.fz (iN k)]=X0 (.lst ((uj W rows).map λf=>.bl (L f ((Id V rows).getD k 0)))):=by
  refine Dn (uj W rows) (TK V rows L) (λf=>.bl (L f ((Id V rows).getD k 0))) rfl .(0) λf _=>?_;have:=zP (V:=V) (rows:=rows) L f U;simp only[cK,IW,this]
 have a:=mH (λf=>L f ((Id V rows).getD k 0)) (uj W rows);simp only[cK,GD,Z,a];cases (uj W rows).any λf=>L f ((Id V rows).getD k 0)<;>rfl
end
theorem v9{W V:Wl}(J:ll W)(L:ll V)(hs:Spk W V):∀(c n:Nat) (rows:List Pr),c<n->OR W V rows->rows.length+c<=50->Bb n [wd W,wd V,.lst (rows.map pN),.int (c:Int)]=X0 (.bl (Lb W V c rows))
 |_,0,_,h,_,_=>by omega
 |0,n+1,rows,_,hi,hl=>by
  have f:=Ur W V J L hs rows .(0);rw[pK hs] at f;have O:Nd E3 (.int ((0:Nat):Int)) (.int 0)=X0 (.bl E2):=rfl;show li 10 4 (CG (Bb n)) [wd W,wd V,.lst (rows.map pN),.int ((0:Nat):Int)]=X0 (.bl (Pc W V rows));cases a:Pc W V rows with
  |true=>
   rw[a] at f;simp only[cK,CG,f,O]
  |false=>
   rw[a] at f;simp only[cK,CG,f]
 |c+1,n+1,rows,hc,hi,hl=>by
  have f:=Ur W V J L hs rows .(0);rw[pK hs] at f;show li 10 4 (CG (Bb n)) [wd W,wd V,.lst (rows.map pN),.int ((c+1:Nat):Int)]=X0 (.bl (Lb W V (c+1) rows));unfold Lb;cases a:Pc W V rows with
  |false=>
   rw[a] at f;simp only[cK,CG,f,tj]
  |true=>
   rw[a] at f;have O:Nd E3 (.int ((c+1:Nat):Int)) (.int 0)=X0 (.bl E3):=by
    have:=oV (c+1) 0
    rwa [NG .(0)] at this
   have l5:(uj W rows).length<=5:=cw (M4 _ _) J.n5;have s5:(Id V rows).length<=5:=cw (M4 _ _) L.n5;have Y:=uX (W:=W) (V:=V) (g:=Bb n) (rows:=rows) J .(0) (.fz (.int ((c+1:Nat):Int)));have T:=pO (W:=W) (V:=V) (g:=Bb n) (rows:=rows) L .(0) (.fz (.int ((c+1:Nat):Int))) (.fz (.lst ((uj W rows).map iN)));obtain⟨Z,S⟩:=Yi (W:=W) (V:=V) (g:=Bb n) (rows:=rows) (c:=c) (λf s=>Lb W V c (rows++[(f,s)])) .(0) s5 l5 (λf hf s U=>v9 J L hs c n (rows++[(f,s)]) .(0) (G_ hi ⟨(CW.mp hf).1,(CW.mp U).1⟩) (by rw[fh];simp;omega)) (.fz (.lst ((uj W rows).map iN))) .un .un (uj W rows) [] .un rfl;rw[iO] at S;obtain⟨y8,I⟩:=pP (W:=W) (V:=V) (g:=Bb n) (rows:=rows) (λf s=>Lb W V c (rows++[(f,s)])) (.fz (.int ((c+1:Nat):Int))) (.fz (.lst ((uj W rows).map iN))) (.fz (.lst ((Id V rows).map iN))) (.fz (.lst ((uj W rows).map (TK V rows λf s=>Lb W V c (rows++[(f,s)]))))) Z .un .un;obtain⟨y9,z⟩:=pQ (W:=W) (V:=V) (g:=Bb n) (rows:=rows) (λf s=>Lb W V c (rows++[(f,s)])) l5 (.fz (.int ((c+1:Nat):Int))) (.fz (.lst ((uj W rows).map iN))) (.fz (.lst ((Id V rows).map iN))) Z y8 .un;have ln:NI (.lst ((Id V rows).map iN))=X0 (.int ((Id V rows).length:Int)):=by
    show Pi (.lst ((Id V rows).map iN))=_;rw[VM,av]
   have rg:=rngN (Id V rows).length .(0);have q1:Jl (X0 (.lst ((uj W rows).map iN)))=X0 ((uj W rows).map iN):=Cr _;have q2:Jl (X0 (.lst ((uj W rows).map (TK V rows λf s=>Lb W V c (rows++[(f,s)])))))=X0 ((uj W rows).map (TK V rows λf s=>Lb W V c (rows++[(f,s)]))):=Cr _;cases b1:((uj W rows).all λf=>(Id V rows).any λs=>Lb W V c (rows++[(f,s)])) with
   |false=>
    rw[b1] at I;simp only[cK,CG,f,O,Y,T,Bs,q1,S,Ph,Pj,Ky,q2,I,dE,NH,tj,Mc,ma]
   |true=>
    rw[b1] at I;cases b2:((Id V rows).all λs=>(uj W rows).any λf=>Lb W V c (rows++[(f,s)])) with
    |false=>
     rw[b2] at z;simp only[cK,CG,f,O,Y,T,Bs,q1,S,Ph,Pj,Ky,q2,I,MH,ln,rg,z,dE,NH,Mc,ma]
    |true=>
     rw[b2] at z;simp only[cK,CG,f,O,Y,T,Bs,q1,S,Ph,Pj,Ky,q2,I,MH,ln,rg,z,ma]
def uZ{W V:Wl}(z:ll W)(I:ll V){rows:List Pr}(J:OR W V rows)(c:Nat):Lb W V c rows=qB W V c (OM W V (Ao rows)):=by
 rw[g9,v8 z I c rows J];unfold Qr qB;simp
theorem Yj{W V:Wl}(I:ll W)(L:ll V)(hs:Spk W V)(rows:List Pr)(O:OR W V rows)(hl:rows.length<=2)(J T:PV.Slot):∀(r:List Nat) (z:PV.Slot),(∀c∈r,c<5)->∃S,ot (OY (Ax 7) R3) (r.map iN) [J,.fz (wd W),.fz (wd V),T,.fz (fx W),.fz (fx V),.fz .(6),z]=X0 (.nx [J,.fz (wd W),.fz (wd V),T,.fz (fx W),.fz (fx V),.fz .(6),S])
 |[],z,_=>⟨z,rfl⟩
 |c::r,z,U=>by
  have hc:=U c .(1);have Z:=pM I L hs rows O .(0) c;have Y:=v9 I L hs c 8 rows .(0) O .(0);rw[uZ I L O c] at Y;have ne:∀b:Bool,Nd E2 (.bl b) (.bl b)=X0 (.bl E3):=λb=>by cases b<;>rfl
  have ne:=ne (qB W V c (OM W V (Ao rows)));have b:R3 [J,.fz (wd W),.fz (wd V),T,.fz (fx W),.fz (fx V),.fz .(6),.fz (iN c)]=X0 (.nx [J,.fz (wd W),.fz (wd V),T,.fz (fx W),.fz (fx V),.fz .(6),.fz (iN c)]):=by
   simp only[cK,R3,Z,Y,ne]
  obtain⟨S,ih⟩:=Yj I L hs rows O hl J T r (.fz (iN c)) λy hy=>U y (by simp[hy]);refine⟨S,?_⟩
  w_up
  rw[b,By,ih]
theorem Yk{W V:Wl}(U:ll W)(Y:ll V)(hs:Spk W V)(J T:PV.Slot):∀(O:List (List Pr)) (I z:PV.Slot),(∀r∈O,OR W V r/\r.length<=2)->∃y6 L,ot (OY (Ax 6) R4) (O.map λr=>.lst (r.map pN)) [J,.fz (wd W),.fz (wd V),T,.fz (fx W),.fz (fx V),I,z]=X0 (.nx [J,.fz (wd W),.fz (wd V),T,.fz (fx W),.fz (fx V),y6,L])
 |[],I,z,_=>⟨I,z,rfl⟩
 |rows::O,I,z,Z=>by
  obtain⟨hi,hl⟩:=Z rows .(1);have S:rngO (X0 (.int 5))=X0 ((aS 5).map iN):=rngN 5 .(2);obtain⟨L,l⟩:=Yj U Y hs rows hi hl J T (aS 5) z λc hc=>cE.mp hc;generalize (aS 5).map iN=cs at S l;have b:R4 [J,.fz (wd W),.fz (wd V),T,.fz (fx W),.fz (fx V),.fz .(6),z]=X0 (.nx [J,.fz (wd W),.fz (wd V),T,.fz (fx W),.fz (fx V),.fz .(6),L]):=by
   simp only[cK,R4,S,l]
  obtain⟨w6,w7,ih⟩:=Yk U Y hs J T O (.fz .(6)) L λy hy=>Z y (by simp[hy]);refine⟨w6,w7,?_⟩
  w_up
  rw[b,By,ih]
def dB(L:List Int)(z I:Option Int):slD .(4) z I=X0 (.lst ((NR L z I).map .int)):=by
 show X0 (D.lst (NR (L.map D.int) z I))=_;rw[uK]
def pR(L:List Int)(a b:Nat)(h:a<=b):(NR L (X0 (a:Int)) (X0 (b:Int))).length<=b-a:=by
 show ((L.drop _).take _).length<=b-a;rw[kf,mP];have I:HT.sIx L.length 0 (X0 (a:Int))=min L.length a:=by simp[HT.sIx];rw[UF .(0)];omega
 have z:HT.sIx L.length L.length (X0 (b:Int))=min L.length b:=by simp[HT.sIx];rw[UF .(0)];omega
 rw[I,z];omega
theorem pW:∀L:List Int,L.length<=63->bx [.lst (L.map .int)]=X0 (.bl E2):=by
 intro L hn;obtain⟨W,V,z,h,e⟩:=N7 L;have hs:Spk W V:=⟨h.mm,h.tt⟩;have i0:=Sz W;have i1:=UO W;have i2:=UN W;have j0:=Sz V;have j1:=UO V;have j2:=UN V;have Y:NU 3 (Bw 1 (Bw 2 (Bw 3 NV))) (.lst [wd W,wd V,lN z]) [.fz .(4),.un,.un,.un,.un,.un,.un,.un]=X0 [.fz .(4),.fz (wd W),.fz (wd V),.fz (lN z),.un,.un,.un,.un]:=rfl;have as:asgF (An JN (Aa (vF 0) (Aa (kF (.int 3)) af))) (NU 3 (Bw 1 (Bw 2 (Bw 3 NV)))) [.fz .(4),.un,.un,.un,.un,.un,.un,.un]=X0 (.nx [.fz .(4),.fz (wd W),.fz (wd V),.fz (lN z),.un,.un,.un,.un]):=by
  have c:An JN (Aa (vF 0) (Aa (kF (.int 3)) af)) [.fz .(4),.un,.un,.un,.un,.un,.un,.un]=X0 (.lst [wd W,wd V,lN z]):=by simp only[cK,e]
  unfold asgF;rw[c];show (NU 3 (Bw 1 (Bw 2 (Bw 3 NV))) (.lst [wd W,wd V,lN z]) _).map Pw.nx=_;rw[Y];rfl
 have T:=vf W h.w (Aa (bF dq (vF 1) .(10)) (Aa (bF dq (vF 1) (kF (.int 1))) (Aa (bF dq (vF 1) (kF (.int 2))) af))) [.fz .(4),.fz (wd W),.fz (wd V),.fz (lN z),.un,.un,.un,.un] (by simp only[cK,i0,i1,i2]);have S:=vf V h.v (Aa (bF dq (vF 2) .(10)) (Aa (bF dq (vF 2) (kF (.int 1))) (Aa (bF dq (vF 2) (kF (.int 2))) af))) [.fz .(4),.fz (wd W),.fz (wd V),.fz (lN z),.fz (fx W),.un,.un,.un] (by simp only[cK,j0,j1,j2]);have s1:=dB L (X0 17) (X0 18);have s2:=dB L (X0 17) (X0 19);have c1:(NR L (X0 17) (X0 18)).length<=1:=pR L 17 18 .(2);have c2:(NR L (X0 17) (X0 19)).length<=2:=pR L 17 19 .(2);obtain⟨O,p1,q1,t1⟩:=Yc W V z h.pm (NR L (X0 17) (X0 18)) .(0);obtain⟨J,p2,q2,t2⟩:=Yc W V z h.pm (NR L (X0 17) (X0 19)) .(0);obtain⟨y6,y7,Z⟩:=Yk h.w h.v hs (.fz .(4)) (.fz (lN z)) [[],O,J] .un .un λr I=>by
  rcases bp.mp I with rfl | I
  .exact⟨λp hp=>(by cases hp),by decide⟩
  rcases bp.mp I with rfl | I
  .exact⟨p1,by omega⟩
  .rw[ii.mp I];exact⟨p2,by omega⟩
 have U:Jl (X0 (.lst [.lst [],.lst (O.map pN),.lst (J.map pN)]))=X0 (([[],O,J]:List (List Pr)).map λr=>.lst (r.map pN)):=Cr _;generalize (([[],O,J]:List (List Pr)).map λr=>D.lst (r.map pN))=ls at U Z;show runO (bw [.fz .(4),.un,.un,.un,.un,.un,.un,.un])=_;unfold bw;rw[MP,as,Si,MP,aN,T,V_,Si];simp only[oP,oQ];rw[MP,aN,S,V_,Si];simp only[cK,s1,s2,t1,t2,Bs,U,Z]
end K42
end
open PySem PySem.W PyProof.Rows
def L2.head_at{r:OpenRow}{q:cr}{d:DefRec}{z:List (Str×Expr)}{N:Nat}(H:Hook)(Z:LeftO r.prog q loose (λs=>xlAt q [] s&&recOk r.records s) H.obs H.val N)(W:defOf q r.name=X0 (d,z))(T:r.prog.theDef r.name=X0 (d.params,d.body,d.scope))(S:kwWritten? d.params.kwonlyargs d.params.kw_defaults=X0 z)(U:(!r.writes||r.records.isEmpty)=E2)(Y:r.wellSaid=E2)(O:(chainsOk q&&opensWell r.prog&&(frees r.toRowW&&r.within.isEmpty))=E2)(L:r.prog.bare)(J:r.toRowW.promised)(I:WalkO q loose (XL q []) H.says r.toRowW d z λf vs=>DV f vs):r.Holds:=
 holds_open (XP:=XL q []) Z H.of H.keeps (λs e=>xl_of s (Md.mp e).1) XL.keeps W T S (λ_ e=>recFacts_of (Md.mp e).2) U Y O L J I
set_option maxHeartbeats 0 in
theorem PySem.Challenge.cw_twinrounds_k42_rounds_gone_through_holds : PySem.Challenge.rw_twinrounds_k42_rounds_gone_through.Holds := by
 w_on;o_law;refine L2.head_at (q:=K42.vw) (loose:=[]) (N:=6000) K42.hook K42.look (by rfl) (by rfl) (by rfl) (by rfl) (by assumption) (by decide +kernel) ⟨rfl,rfl,rfl,rfl,rfl,by decide +kernel⟩ ?_ ?_
 .w_witness2
 unfold K42.hook
 k_fill
 refine L2.qU (l:=Mn) (n:=63) (k:=39) (x:="_law_script") (CX:=λ_=>L2.CX0) (sp:=λw=>K42.vZ _) rfl .(2) rfl ⟨rfl,by decide,by decide⟩ (λw h Y=>PySem.W.kIn_of Y) ?F (λ_ _ a ns hl _ hS=>⟨a,ns,rfl,hS,hl,λ_=>rfl⟩) λ_ _ _ _ _ z=>z
 case F=>
  intro w mg fa h KX G hmg;have TT:∃c_:Addr,∃w_:Addr,∃T:K42.Tx (K42.gx (L2.KOf KX) c_ w_) mg,∀(s:ah) (u:ac),xl s T.TC.fd ⟨[u],[]⟩ [("_law_script",u)]:=by
   dsimp only [L2.KOf];refine' ⟨_,_,{ c_:=_,f_:=PV.m6,r_:=(PV.cls KX ?pg_World ?hd_World ?po_World ?sa_World :),s_:=vT KX G ?aC_World,w_:=_,q0:=(PV.yL .(2) PV.m6),r0:=(PV.cls KX ?pg_Ranks ?hd_Ranks ?po_Ranks ?sa_Ranks :),z0:=vT KX G ?aC_Ranks,y3:=(PV.dx KX G ?a0 ?l0 ?c0 ?k0 ?b0 :),x4:=(PV.dx KX G ?a1 ?l1 ?c1 ?k1 ?b1 :),y4:=(PV.dx KX G ?a2 ?l2 ?c2 ?k2 ?b2 :),w5:=(PV.dx KX G ?a3 ?l3 ?c3 ?k3 ?b3 :),x5:=(PV.dx KX G ?a4 ?l4 ?c4 ?k4 ?b4 :),x6:=(PV.dx KX G ?a5 ?l5 ?c5 ?k5 ?b5 :),h7:=(PV.dx KX G ?a6 ?l6 ?c6 ?k6 ?b6 :),z7:=(PV.dx KX G ?a7 ?l7 ?c7 ?k7 ?b7 :),h8:=(PV.dx KX G ?a8 ?l8 ?c8 ?k8 ?b8 :),t8:=(PV.dx KX G ?a9 ?l9 ?c9 ?k9 ?b9 :),h9:=(PV.dx KX G ?a10 ?l10 ?c10 ?k10 ?b10 :),r9:=(PV.dx KX G ?a11 ?l11 ?c11 ?k11 ?b11 :),MA:=(PV.dx KX G ?a12 ?l12 ?c12 ?k12 ?b12 :),NA:=(PV.dx KX G ?a13 ?l13 ?c13 ?k13 ?b13 :),OA:=(PV.dx KX G ?a14 ?l14 ?c14 ?k14 ?b14 :),QA:=(PV.ix KX ?mk_World ?kc_World ?a15 ?i15 ?l15 ?c15 ?k15 ?b15 :),RA:=(PV.dx KX G ?a16 ?l16 ?c16 ?k16 ?b16 :),SA:=(PV.mx KX ?a17 ?i17 ?l17 ?c17 ?k17 ?b17 :),UA:=(PV.mx KX ?a18 ?i18 ?l18 ?c18 ?k18 ?b18 :),VA:=(PV.dx KX G ?a19 ?l19 ?c19 ?k19 ?b19 :),WA:=(PV.dx KX G ?a20 ?l20 ?c20 ?k20 ?b20 :),XA:=(PV.dx KX G ?a21 ?l21 ?c21 ?k21 ?b21 :),YA:=(PV.dx KX G ?a22 ?l22 ?c22 ?k22 ?b22 :),ZA:=(PV.dx KX G ?a23 ?l23 ?c23 ?k23 ?b23 :),lB:=(PV.dx KX G ?a24 ?l24 ?c24 ?k24 ?b24 :),MB:=(PV.dx KX G ?a25 ?l25 ?c25 ?k25 ?b25 :),OB:=(PV.mx KX ?a26 ?i26 ?l26 ?c26 ?k26 ?b26 :),SB:=(PV.mx KX ?a27 ?i27 ?l27 ?c27 ?k27 ?b27 :),TB:=(PV.mx KX ?a28 ?i28 ?l28 ?c28 ?k28 ?b28 :),UB:=(PV.mx KX ?a29 ?i29 ?l29 ?c29 ?k29 ?b29 :),WB:=(PV.dx KX G ?a30 ?l30 ?c30 ?k30 ?b30 :),XB:=(PV.mx KX ?a31 ?i31 ?l31 ?c31 ?k31 ?b31 :),ZB:=(PV.mx KX ?a32 ?i32 ?l32 ?c32 ?k32 ?b32 :),MC:=(PV.ix KX ?mk_Ranks ?kc_Ranks ?a33 ?i33 ?l33 ?c33 ?k33 ?b33 :),NC:=(PV.dx KX G ?a34 ?l34 ?c34 ?k34 ?b34 :),OC:=(PV.dx KX G ?a35 ?l35 ?c35 ?k35 ?b35 :),PC:=(PV.dx KX G ?a36 ?l36 ?c36 ?k36 ?b36 :),SC:=(PV.dx KX G ?a37 ?l37 ?c37 ?k37 ?b37 :),TC:=(PV.dx KX G ?a38 ?l38 ?c38 ?k38 ?b38 :),VE:=(PV.Oi KX (PV.fl_c (PV.cls KX ?pg_World ?hd_World ?po_World ?sa_World) ?n_World_size (PV.fl_c (PV.cls KX ?pg_Ranks ?hd_Ranks ?po_Ranks ?sa_Ranks) ?n_Ranks_size (PV.fl_n))) :),WE:=(PV.Oi KX (PV.fl_c (PV.cls KX ?pg_World ?hd_World ?po_World ?sa_World) ?n_World_marked (PV.fl_c (PV.cls KX ?pg_Ranks ?hd_Ranks ?po_Ranks ?sa_Ranks) ?n_Ranks_marked (PV.fl_n))) :),XE:=(PV.Oi KX (PV.fl_c (PV.cls KX ?pg_World ?hd_World ?po_World ?sa_World) ?n_World_tied (PV.fl_c (PV.cls KX ?pg_Ranks ?hd_Ranks ?po_Ranks ?sa_Ranks) ?n_Ranks_tied (PV.fl_n))) :),YE:=(PV.Oi KX (PV.fl_c (PV.cls KX ?pg_World ?hd_World ?po_World ?sa_World) ?n_World_other (PV.fl_c (PV.cls KX ?pg_Ranks ?hd_Ranks ?po_Ranks ?sa_Ranks) ?n_Ranks_other (PV.fl_n))) :),ZE:=(PV.Oi KX (PV.fl_c (PV.cls KX ?pg_World ?hd_World ?po_World ?sa_World) ?n_World_one (PV.fl_c (PV.cls KX ?pg_Ranks ?hd_Ranks ?po_Ranks ?sa_Ranks) ?n_Ranks_one (PV.fl_n))) :),NF:=(PV.Oi KX (PV.fl_c (PV.cls KX ?pg_World ?hd_World ?po_World ?sa_World) ?n_World_endless (PV.fl_c (PV.cls KX ?pg_Ranks ?hd_Ranks ?po_Ranks ?sa_Ranks) ?n_Ranks_endless (PV.fl_n))) :),OF:=(PV.Oi KX (PV.fl_c (PV.cls KX ?pg_World ?hd_World ?po_World ?sa_World) ?n_World_reckoned (PV.fl_c (PV.cls KX ?pg_Ranks ?hd_Ranks ?po_Ranks ?sa_Ranks) ?n_Ranks_reckoned (PV.fl_n))) :),UC:=kL KX G ?UC,VC:=kL KX G ?VC,WC:=kL KX G ?WC,MD:=kL KX G ?MD,ND:=kL KX G ?ND,PD:=kL KX G ?PD,SD:=kL KX G ?SD,TD:=kL KX G ?TD,UD:=kL KX G ?UD,wE:=kL KX G ?wE,ME:=kL KX G ?ME,NE:=kL KX G ?NE,OE:=kL KX G ?OE,QE:=(PV.sx (f:=(.int 8)) KX G ?a_MOST_LETTERS :),RE:=(PV.sx (f:=(.str "abcdefghijklmnopqrstuvwxyz")) KX G ?a_LETTERS :),SE:=(PV.sx (f:=(.int 5)) KX G ?a_MOST_THINGS :),UE:=(PV.sx (f:=(.int 3)) KX G ?a_MOST_WORDS :),RF:=(PV.kxL (xs:=["not","and","or","some","all"]) KX G ?a_KEPT_TEXTS ?l_KEPT_TEXTS ?h_KEPT_TEXTS ?v_KEPT_TEXTS :) },?bt⟩
   case aC_World | pg_World | hd_World | po_World | sa_World | mk_World | kc_World | n_World_size | n_World_marked | n_World_tied | n_World_other | n_World_one | n_World_endless | n_World_reckoned | aC_Ranks | pg_Ranks | hd_Ranks | po_Ranks | sa_Ranks | mk_Ranks | kc_Ranks | n_Ranks_size | n_Ranks_marked | n_Ranks_tied | n_Ranks_other | n_Ranks_one | n_Ranks_endless | n_Ranks_reckoned | a0 | l0 | c0 | k0 | a1 | l1 | c1 | k1 | a2 | l2 | c2 | k2 | a3 | l3 | c3 | k3 | a4 | l4 | c4 | k4 | a5 | l5 | c5 | k5 | a6 | l6 | c6 | k6 | a7 | l7 | c7 | k7 | a8 | l8 | c8 | k8 | a9 | l9 | c9 | k9 | a10 | l10 | c10 | k10 | a11 | l11 | c11 | k11 | a12 | l12 | c12 | k12 | a13 | l13 | c13 | k13 | a14 | l14 | c14 | k14 | a15 | i15 | l15 | c15 | k15 | a16 | l16 | c16 | k16 | a17 | i17 | l17 | c17 | k17 | a18 | i18 | l18 | c18 | k18 | a19 | l19 | c19 | k19 | a20 | l20 | c20 | k20 | a21 | l21 | c21 | k21 | a22 | l22 | c22 | k22 | a23 | l23 | c23 | k23 | a24 | l24 | c24 | k24 | a25 | l25 | c25 | k25 | a26 | i26 | l26 | c26 | k26 | a27 | i27 | l27 | c27 | k27 | a28 | i28 | l28 | c28 | k28 | a29 | i29 | l29 | c29 | k29 | a30 | l30 | c30 | k30 | a31 | i31 | l31 | c31 | k31 | a32 | i32 | l32 | c32 | k32 | a33 | i33 | l33 | c33 | k33 | a34 | l34 | c34 | k34 | a35 | l35 | c35 | k35 | a36 | l36 | c36 | k36 | a37 | l37 | c37 | k37 | a38 | l38 | c38 | k38 | UC | VC | WC | MD | ND | PD | SD | TD | UD | wE | ME | NE | OE | a_MOST_LETTERS | a_LETTERS | a_MOST_THINGS | a_MOST_WORDS | a_KEPT_TEXTS | l_KEPT_TEXTS=>k_is
   case b14 | b17 | b18 | b38=>exact λ_ _ _ _ _ _ us hl=>by (obtain⟨_,rfl⟩:=PV.vO hl;rfl)
   case b0 | b1 | b2 | b3 | b4 | b5 | b6 | b7 | b9 | b10 | b11 | b12 | b13 | b19 | b21 | b28 | b29 | b31=>exact λ_ _ _ _ _ _ us hl=>by (obtain⟨_,_,rfl⟩:=PV.vP hl;rfl)
   case b20 | b22 | b26 | b27 | b30 | b32 | b33 | b35 | b36=>exact λ_ _ _ _ _ _ us hl=>by (obtain⟨_,_,_,rfl⟩:=PV.vQ hl;rfl)
   case b8 | b15 | b16 | b23 | b24 | b25 | b34 | b37=>exact λ_ _ _ _ _ _ us hl=>by (obtain⟨_,_,_,_,rfl⟩:=PV.AAf hl;rfl)
   case h_KEPT_TEXTS=>decide
   case v_KEPT_TEXTS=>exact .cons ⟨_,rfl⟩ (.cons ⟨_,rfl⟩ (.cons ⟨_,rfl⟩ (.cons ⟨_,rfl⟩ (.cons ⟨_,rfl⟩ (.nil)))))
   case bt=>exact λs u=>.of_eq rfl
  obtain⟨c_,w_,T,e1⟩:=TT;have e0:fa=T.TC.f:=by
   have q:=hmg.symm.trans T.TC.m;cases q;rfl
  subst e0;exact⟨T.TC.fd,e1,λbase kb nb=>(K42.yR (w:=w) (base:=base) T).imp (K42.yS K42.pW)⟩
