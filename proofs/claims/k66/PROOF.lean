import PyProof.Rows.All
import Wide.All
import OpenK.AllK
import Wide.FinOn
import Lean
import PyProof.EqAt
import PyProof.EqKinds
import PyProof.TupleCall
import PyProof.TupleKey
import PyProof.DictRoadsH
import PyProof.StationsW
import PyProof.DictWalks
import PyProof.DictItemsLoops
import KE.KPairComp
import KE.KDictList
import PyProof.StrWalks
import PyProof.ConsumeWalk
import PyProof.DictUpdate
import PyProof.ExcClass2
import PyProof.ExcClass3
import PyProof.ExcArgsOwn
import PyProof.ExcAttrAll.ValueError
import PyProof.InstStoreFacts
import PyProof.StrLawsRepr
import PyProof.ReprStr
import PyProof.NsDelKeeps
import PyProof.RulesAs
import KE.KIsAll
import KE.KRevIter
import PyProof.EnumMake
import PyProof.MeetsSeq
import PySem.SetOps
import KE.KSortTup
import PySem.Challenge.RW_twinrounds_k66_whole_first_hand
set_option genInjectivity false
set_option compiler.extract_closed false
set_option genSizeOf false
set_option Elab.async false
set_option linter.all false
set_option maxRecDepth 100000
set_option maxHeartbeats 4000000
open Array renaming length_toList->gE,forIn_toList->vx,replicate->yB,mk->zI,toList->Cc,mem_toList_iff->CH,toList_inj->E6,getElem?_eq_some_iff->F9,getElem?_toList->Fn,getElem?_eq_getElem->FK,toList_map->JE,perm_iff_toList_perm->LL,getD_eq_getD_getElem?->LM,getElem?_eq_none->LS
open Bool renaming false_ne_true->d6,false_eq_true->dQ,and_eq_true->eI,eq_iff_iff->ke,not_true->kR,true_and->sq,and_true->AK,not_false->BO,false_and->CA,false_or->IC,eq_false_iff->L6,or_eq_true_iff->L7,and_eq_true_iff->MG
open Classical renaming byContradiction->vi,choose_spec->F8
open False renaming elim->ka
open ForInStep renaming yield->ua
open Function renaming comp_def->eW
open Int renaming toNat_natCast->g9,emod_nonneg->zh,emod_lt_of_pos->zi,le_refl->BG,toNat_of_nonneg->EN,fdiv_eq_ediv_of_nonneg->HE,ediv_one->HV
open List renaming length_map->aE,map_cons->bb,range->bg,mem_map->bn,mem_cons->bp,lookup->bP,lookup_cons->bX,map_map->ca,getElem?_map->cb,mem_range->cf,length_cons->ck,mem_cons_of_mem->cw,size_toArray->cE,getElem?_eq_getElem->dc,mem_cons_self->df,map_append->dP,mem_filter->dS,mem_append->eA,length_append->eB,length->eJ,all_eq_true->eS,nodup_append->f6,append_nil->fI,map_nil->gg,getElem_mem->gi,set_cons_zero->gu,set_cons_succ->gv,getElem?_set_ne->hV,mem_append_right->i6,length_take->ij,pairwise_map->iE,getElem?_eq_some_iff->iL,getElem?_append_right->ja,nil_append->jp,getElem?_append_left->ko,getElem?_cons_zero->kt,pairwise_cons->kL,getElem?_cons_succ->kN,mem_append_left->kU,nodup_cons->ly,length_range->lP,Nodup->m4,getElem?_set_self->mo,mem_singleton->mP,length_nil->nE,mem_of_getElem?->oS,map_congr_left->pj,length_eq_zero_iff->pw,getElem?_eq_none->pE,getD_eq_getElem?_getD->qq,length_drop->ri,any_cons->ro,find?_cons->rq,length_set->sd,mem_iff_getElem->so,replicate_succ->sB,replicate_zero->sC,cons_append->sD,all_cons->tq,drop_eq_getElem_cons->ub,pairwise_iff_getElem->ve,map_take->vj,replicate->wx,length_replicate->xb,length_singleton->xk,eq_nil_of_length_eq_zero->xS,nodup_range->ya,mem_iff_getElem?->yi,getElem?_zip_eq_some->yk,zip_cons_cons->zv,getElem?_replicate->Au,drop_length->AL,foldr_cons->AU,mem_erase_of_ne->AV,length_erase_of_mem->AW,length_pos_of_mem->AX,getElem_of_mem->B2,getElem?_range->B4,take_append_drop->B7,mem_of_find?_eq_some->B8,map_drop->Bz,filterMap_cons->C6,mem_filterMap->CF,of_mem_zip->D4,getElem?_take_of_lt->D6,take_sublist->D7,filterMap_map->DD,getElem?_drop->DS,take_of_length_le->DU,range_succ->DV,set_append_right->E4,append_assoc->E5,any_map->ED,getD->EJ,getElem?_inj->Fa,mem_of_mem_take->Fc,find?_some->Fh,find?_eq_none->Fk,take_succ->FR,take_length->FU,length_filter_le->FX,any_eq_false->HG,nodup_nil->IJ,drop_zero->IQ,ext_getElem?->IR,range_succ_eq_map->IS,not_mem_nil->IT,drop_of_length_le->Kb,not_lt->Ki,length_eraseIdx->Kn,any_eq_true->KI,getElem_take->L1,mem_of_mem_drop->L3,pairwise_append->L4,pairwise_lt_range->L9,ext_getElem->Lo,find?_isSome->LF,perm_middle->LH,toArray->LN,filter_cons->Mb,filter_sublist->Mc,eraseIdx_eq_take_drop_succ->MA,getElem_map->ME
open List.Nodup renaming sublist->FL
open List.Pairwise renaming imp_of_mem->qh,nil->AT,imp->FV
open List.Perm renaming refl->xL,cons->AY,swap->Kj
open List.cons renaming injEq->zw
open Nat renaming le_refl->aI,ne_of_lt->bS,le_trans->de,lt_of_lt_of_le->fh,zero_le->fE,lt_irrefl->kx,not_lt->kH,le_succ->lj,lt_succ_of_lt->mN,zero_add->mS,lt_of_le_of_lt->nI,ne_of_gt->ol,sub_self->rX,reduceAdd->sv,reduceSub->sA,le_of_lt->sR,lt_succ_self->tj,lt_or_ge->xE,le_of_lt_succ->yA,add_assoc->zo,le_succ_of_le->AM,mod_lt->AZ,lt_trichotomy->B6,mul_comm->BF,le_of_eq->CS,min_self->E1,le_zero->FY,lt_trans->IE,succ_ne_self->IN,min_eq_left->K0,min_eq_right->K2,pos_of_ne_zero->Kk,lt_or_eq_of_le->KU,add_zero->L5,succ_pos->L8,mul_add_div->Md,div_eq_of_lt->Me,mul_add_mod->Mn,mod_eq_of_lt->Mo,exists_eq_succ_of_ne_zero->MB,le_one_iff_eq_zero_or_eq_one->MD
open Nat.succ renaming inj->y9
open Ne renaming symm->ci
open Option renaming bind_some->dL,map_some->iq,map_eq_some_iff->ku,isNone_iff_eq_none->sg,isSome_map->xo,bind_eq_some_iff->yT,getD->Bn,isSome_iff_exists->D5,getD_none->Iy,none->IM,bind_eq_bind->Lc
open Option.some renaming inj->cS,injEq->EI
open Or renaming inr->cr,inl->dn
open Prod renaming ext->rh
open Prod.mk renaming injEq->sN,inj->GG
open PyProof.Rows renaming envOfC->fR,AllBare->ng,seqObj->qc,isTrue_and->tf,IntsAre->xp,subscriptTail->AD,StrsAre->B0,Constant_none->C8,isTrue_and_nil->C9,isTrue_not->Cb,callWith_type1->CD,slot_tuple_getitem->DE,Subscript_->DH,entry_proto_collect'->EQ,entry_list_iadd'->ER,kind_sorted->ET,plain_sorted->EU,entry_sorted->EV,args_sorted1->EW,slot_list_sort->F0,entry_list_sort->F3,args_list_sort->F4,arrOf->F5,sortedHeap_at->F6,sortedHeap_old->F7,listUpdate_at->FD,seqEpoch_at->FH,subscriptTail_builtinR->Ic,risingS->KB,wpAny_notIn_heap->LD,listItems_at->LV
open PyProof.Rows.F renaming plain_set_update_loop->LJ
open PyProof.Rows.IsTup renaming new->DI
open PyProof.Rows.SortSt renaming mk'->LO
open PySem renaming Value->ac,wpAny_bind->ag,wpAny->ah,Shared->ai,model->av,wpAny_pure->aw,starEach->ay,Around->aT,cLine->bv,World->bE,Program->cy,bootBuiltins->d4,backTo->da,compareOp->db,atKey->dA,Builtin->eK,swapsWith->eP,behindInMarks->fw,rawInt->fN,mainGlobals->gy,pyNext->gI,codeAny->gL,attributeBase->gT,intItems->gX,sysModules->hU,wpAny_mono->hZ,assignEach->i8,binaryOp->i9,sizeLine_eq->ia,keywordEach->ii,argBest->iA,wpAny_call_entry->iF,wpAny_truthy_bool->jI,execs->jS,wpAny_field->kq,CmpOp->kz,wpAny_execs_nil->kA,backToKw->kB,wpAny_newObj_type->kD,codeAny_builtin->kK,Scope->kS,wpAny_execs_cons->kX,foldedSetIterable->lc,holding->lh,FuncData->li,NameKind->lx,numAt->lS,Paired->mh,assign->mB,Keyword->mE,IsEnum->mT,wpAny_specialOf->n9,wpAny_seqItems->nc,standAt->nh,getItem->nw,relabel->nL,argsOk->nN,Walks->nV,wpAny_setState_of->o0,isTrue->oj,pyIter->om,getMethod->oB,Result->oC,bindL->oP,bindC->oQ,IsPart->pe,plainId_quiet->pS,isSubtype_type->pT,setNext->pV,pickOrder->qa,field->qo,Value->qv,wpAny_forIn_list->qA,PassesOwn->qV,wpAny_passesOwn->rb,codeAny_mono->re,callWith->rf,wpAny_callSpecial?_slot->rj,sliceBounds->rl,valueAt->rL,callerA->rS,collect->sk,Str->sK,wpAny_rule->sL,wpAny_isInstance->sM,wpAny_Name->sT,wpAny_isTrue_Compare1->t5,wpAny_askSetting->uk,wpAny_newList->uS,Addr->vk,tupleKeyHash->vn,treeTable->vE,tupleKind->vT,wpAny_If->w9,wpAny_load->wa,wpAny_pyIter_tuple->wb,BindsTo->wf,bindArgs->wq,wpAny_Call_Name_kw->wv,mem_of_lookup->xa,wpAny_typeOf->xh,subscripted->xi,storedH->xl,DictEntry->xt,newList->xv,entryFor->xw,seqItems?->xy,wpAny_tryCatch->xB,wpAny_updateSeq->xC,wpAny_letGo->xD,wpAny_setField_rec->ze,IsTupleKey->zk,isInstance->zt,eqIsQuiet->zD,wpAny_Return_some->A6,letOwnedTupleGo->A7,wpAny_pyIter_list->A8,wpAny_standAt->As,concat_meets->AA,tupleKind_room_in1->AE,wpAny_Assign_Subscript->AF,lookup_relabel_local->AG,wpAny_getItem_str_slice->AI,post_val_or_str->AJ,updateSeq->AN,wpAny_of_eq->AO,wpAny_attempt->AR,firstArgMember->AS,wpAny_runValue->B5,ofAClassStatement->B9,hashByValue->Bi,setsByText->BA,Stmt->BH,reduceHash->BI,wpAny_tupleItemsOf->BM,isSubtype_tuple_tuple->BN,carriedByValue->BQ,wpAny_eqBool_int->BU,entryOfKey->C0,Within->C3,builtinsNs->C5,wpAny_Constant_int->C7,wpAny_assign_Name->Cf,swapsWithSole->Co,swappedStores->Ct,wpAny_call->D2,noFill_tuple_add->D8,seq_tuple_add->D9,typeLookup->DF,typeIs_str->DL,wpAny_Dict_empty->DO,sliceRange->DT,Slot->E8,wpAny_setField->EB,wpAny_setEntries_of->EC,call->EM,checkCount->EZ,setSearchFrom->Fs,unsupported->Fu,Shared->G0,Expr->G1,FuncData->Gc,wpAny_pyHash_tuple->GB,wpAny_eqBool_tuple->GE,wpAny_loadName_local->GS,wpAny_loadName_cell->GT,wpAny_loadName_free->GU,wpAny_pyNext_list_item->GY,wpAny_pyNext_list_end->HA,slot_list_getitem->Iq,wpAny_getItem_heap->IF,wpAny_setItem_heap->IG,getitemInPython_of_ne->IH,wpAny_letTemporaryGo->II,wpAny_comprehension_free->IP,builtinLookup_eq_fast->JY,wpAny_pyIter_slot->Kt,searchCouldBeSeen->LA,wpAny_eqIsQuiet_tuple->LB,wpAny_pyIter_enum->M2
open PySem.Around renaming under_plainId->se,under->D0
open PySem.AutoSeq1 renaming wpAny_loadPart'->BE
open PySem.Builtin renaming bitAnd->ti,max->Jn
open PySem.Builtin.Builtins renaming bindParams->JA
open PySem.Builtin.Int renaming intBits->i7
open PySem.Builtin.List renaming listExtendWith->y0,listLengthHint->KA,listSameRef->LU
open PySem.Builtin.Range renaming rangeSize->HC
open PySem.Builtin.Slice renaming slicePlaces->AB,sliceAdjust->DC,sliceApplied->HZ
open PySem.Builtin.SmallTypes renaming nextOf->BB,ownedTupleIsFree->LY,ownedTupleHandOut->LZ
open PySem.Builtin.Str renaming occurrences->oy
open PySem.Builtin.Tuple renaming tupleHashOf->zn,tupleExact->AC,tupleItemsOf->GA
open PySem.Calls renaming call_function_entry->ES,Name_function_global->GV
open PySem.Challenge renaming pw_twinrounds_k66_whole_first_hand->MH,rw_twinrounds_k66_whole_first_hand->MI
open PySem.CmpOp renaming NotIn->GW
open PySem.Code renaming isFrame->D1,quiet_builtin->E7,frames->HM
open PySem.Data renaming fields->CB,cell->CC
open PySem.F renaming slot_tuple_hash->vt,slot_tuple_eq->zC,slot_enumerate_next->BC,slot_tuple_iterator_next->BD,slot_tuple_add->Da,entry_tuple_add->DA,args_tuple_add_2->DB,slot_dict_getitem->EF,plainAttrs_list->JI,slot_list_append->JJ,type_list_append->JO,plain_set_new->JU,slot_dict_items->KF,plain_list_iadd->KO,slot_set_iter->LP,entry_enumerate_next->LW,args_enumerate_next_1->LX,entry_tuple_iterator_next->M0,args_tuple_iterator_next_1->M1
open PySem.Heap renaming get?_push_of_some->bo,lt_size->br,get?_push_size->ce,SameBut->ff,size_push->iO,get?_update_other->lI,get?_update_self->nX,ExtBut->B1,get?_push_cases->EH
open PySem.Heap.SameBut renaming update->xI,refl->EG
open PySem.NameKind renaming free->tJ
open PySem.Obj renaming mapSeq->kG,data_mapFields->uu,mapFields->E9,isFreed_of_fields->Ee,cls_mapFields->EA
open PySem.Paired renaming length->A4,snoc->ID
open PySem.PassesOwn renaming never->eD
open PySem.SeqAt renaming EqAt->mI,in_listAt->IA,notIn_listAt->IB
open PySem.SeqAt.EqAt renaming same->DM,of_refs->DZ,int_str->GL,str_int->GN
open PySem.SeqAt.RcAt renaming lists->IU,lists_lengths->IY,tuples->IZ
open PySem.SetTable renaming runEnd->eC,bits->hJ,leap->kP,turns->kQ,below->zd,sizeAbove->FB,fresh->FC,slot->KW,has->L0,layClean->Ll,laid->Lm,fits->Lu,fill->Lv,grown->LG,tooFull->LI
open PySem.SetTable.layClean renaming free->yn
open PySem.SetTable.probe renaming go->qf
open PySem.Str renaming ofString->dE,empty->nv,length->DJ
open PySem.Txt renaming slice->AH
open PySem.Value renaming ref->ba,none->fF,type->md,int->oa,bool->qS,str->sQ,float->BY,isInt->GH,isStrOf->GI,bytes->GO
open PySem.W renaming Frag->aS,findIn->fA,keepIn->ib,fnOf->io,mg_none_of->jv,kia_one->kg,boot_heap->ma,emptyDict->nk,instObj->og,codeIn->pd,isFn->rd,mg_of->si,SharedT->sP,kitOne->tm,plainGet->wc,kas_rev->yY,boot_drawn->zS,boot_toks->A3,lookIn->A9,hasDictIn->Ap,nsIn->B3,methodObj->C4,plainGet_of->CI,plainOver->CL,takerIn->CM,makesIn->CO,specialIn->CU,kitx_list->CY,callWith_K->D3,handedIn->HI,kitx_tuple->HK,kitx_dict->HL,methodCall_KW->HP,cellsFrom_some->HU,kdl_dict->KG,readsIn->KP,findCls->KS
open PySem.W.WData renaming int->tz,weightAll->EK,weight->EL,layable->KL
open PySem.W.WShape renaming has->IL
open PySem.Walks renaming list->AQ
open PySem.pickOrder renaming go->EE
open Sum renaming inl->qB,inr->qE
open Sum.inl renaming inj->vS
open Sum.inr renaming inj->BS,injEq->MC
open True renaming intro->kf
open Option renaming some->O0,none->W1
open Bool renaming true->O1,false->O2
set_option hygiene false in
local macro_rules
|`(.(0))=>`((by first|assumption|omega))
|`(.(1))=>`((by simp))
|`(.(2))=>`((by decide))
def VI:=@if_pos
def WI:=@if_neg
def XI:=@absurd
def YI:=@decide_eq_false
def ZI:=@decide_eq_true
def NJ:=@congrArg
def WJ:=@of_decide_eq_true
def SK:=@beq_iff_eq
def TK:=@if_true
def UK:=@if_false
def ML:=@decide_eq_true_eq
def NL:=@beq_self_eq_true
abbrev zFr:=PySem.W.Frag
abbrev zQ0:=PySem.Value->PySem.Shared->Prop
abbrev NU:=List (PySem.Addr×PySem.Obj)
variable {h h':PySem.Heap}{vs us its:List qv}{o:PySem.Obj}{s:G0}{a b it p C q:vk}{Q E:qv->G0->Prop}{u doc pm cdv ct oc:qv}{P prog:PySem.Program}{w:PySem.World}{t' i n j ep x1 k':Nat}{ch A B A0:List vk}{x c y f m qual:sK}{e tg:G1}{N ps loose ws:List sK}{M:PySem.Model}{pos pos' py spos tp xpos apos p' pos2 p1 p2 p3 p4 p5 p6 p7 p8 p9 p10 p11 p12 p13:PySem.Pos}{π:List (vk×PySem.Obj)}{es:Array (Int×qv)}{body s1:List BH}{l:List Nat}{kw:List (sK×qv)}{env:PySem.Env}{mg:sK->Option qv}{fd:Gc}{sc scope:PySem.Scope}{an od:Option vk}{osl:Array (Option qv)}{st:BH}{elts:List G1}{ow:Array (Option Nat)}
def fy{g:Sort _}(a:g):a=a:=of_eq_true (eq_self a)
namespace PV
open PySem
section
variable {K:Type} [DecidableEq K] (kd:KeyKind prog w K)
inductive NkI (h:Heap):List (List K)->List ac->Prop
 |nil:NkI h [] []
 |cons {k:List K}{b:Addr}{ks:List (List K)}{vs:List ac}:zk kd h k b->NkI h ks vs->NkI h (k::ks) (.ref b::vs)
def Ps(h:Heap)(ks:List (List K))(a:Addr):Prop:=∃o xs n,h.get? a=O0 o/\o.cls=.type "tuple"/\o.data=.seq xs n/\NkI kd h ks xs.toList
variable {kd}
theorem NkI.inj{h:Heap}{x y:List (List K)}{vs:List ac}(p:NkI kd h x vs):NkI kd h y vs->x=y:=by
 induction p generalizing y with
 |nil=>intro q;cases q;rfl
 |cons a _ g=>intro q;cases q with | cons b t=>rw[a.inj b,g t]
def NkI.kept{g:Heap}{d:Addr}{es ep}(v:h.get? d=O0 o)(z:o.data=.dict es ep)(hs:ff d h g){x:List (List K)}{vs:List ac}(p:NkI kd h x vs):NkI kd g x vs:=by
 induction p with
 |nil=>exact .nil
 |cons a _ r=>exact .cons (a.keeps v z hs) r
theorem Ps.ty{ks:List (List K)}(x:Ps kd s.heap ks a):s.TypeIs (.ref a) "tuple":=let ⟨o,_,_,g,c,_⟩:=x;⟨o,g,c⟩
theorem Ps.inj{h:Heap}{a:Addr}{x y:List (List K)}(p:Ps kd h x a)(q:Ps kd h y a):x=y:=by
 obtain⟨o,G,n,g,_,d,i⟩:=p;obtain⟨H,F,m,v,_,z,r⟩:=q;cases g.symm.trans v;cases d.symm.trans z;exact i.inj r
theorem Ps.kept{h g:Heap}{ks:List (List K)}{a d:Addr}{o:Obj}{es ep}(x:Ps kd h ks a)(v:h.get? d=O0 o)(r:o.data=.dict es ep)(hs:ff d h g):Ps kd g ks a:=by
 obtain⟨I,H,n,F,c,G,i⟩:=x;refine⟨I,H,n,(hs.2 a λz=>?_).trans F,c,G,i.kept v r hs⟩;subst z;cases v.symm.trans F;cases r.symm.trans G
def jE(g:KeyKind prog w K)(ks:List (List K)):Int:=BI (zn (ks.map (vn g)))
def Zo(ks:List (List K)):Nat:=(ks.map λk=>k.length+1).sum+1
variable {A:aT}
theorem gC{ks:List (List K)}{Q:Int->ai->Prop}(S:A.units+1<bv)(I:Ps kd s.heap ks a)(k:Q (jE kd ks) { s with toks:=s.toks+Zo ks }):ah (av prog w) A (pyHash (.ref a)) Q E s:=by
 have ty:=I.ty;obtain⟨o,T,n,g,_,d,i⟩:=I;unfold pyHash pyHashByItsType;refine ag (wpAny_cRoomFor_or (.inr .(0)) ?_);refine ag (n9 ty vt.lookup ?_);show ah _ _ (if (O0 (Value.builtin "tuple.__hash__")==O0 fF)=O1 then _ else _) Q E s;rw[WI (by rw[beq_builtin_none];exact d6)];refine ag (n9 ty vt.lookup ?_);show ah _ _ (callSpecialIfBoundUnlessNone? (.ref a) "__hash__" _ >>= _) Q E s;refine ag (wpAny_callSpecialIfBoundUnlessNone?_slot ty vt (iF vt ty F.entry_tuple_hash ?_ (F.args_tuple_hash_1 _)));show ah _ _ (GA (.ref a) >>= _) _ _ s;refine ag (BM g d ?_);refine ag ?_;rw[<-vx];refine qA _ (λr (b:Array Int) z=>∃p q,ks=p++q/\NkI kd s.heap q r/\b.toList=p.map (vn kd)/\z={ s with toks:=s.toks+(p.map λk=>k.length+1).sum }) _ ?_ ?_ _ _ ⟨[],ks,rfl,i,rfl,rfl⟩
 .rintro x r b z ⟨p,q,rfl,G,H,rfl⟩;cases G with
  | @cons m c J _ L v=>
   refine ag (GB (s:={ s with toks:=s.toks+(p.map λk=>k.length+1).sum }) (show A.in1.units<bv from S) L ?_);exact aw ⟨p++[m],J,by simp,v,by simp[H],by simp[zo]⟩
 .rintro b z ⟨p,q,rfl,G,H,rfl⟩;cases G;rw[fI] at k;show ah _ _ (retInt (zn b.toList)) _ _ _;rw[H];refine wpAny_ret_mkInt ?_;generalize O:zn (p.map (vn kd))=y;unfold jE BI Zo at k;rw[O] at k;show ah _ _ (if (decide (-(2:Int)^63<=y)&&decide (y<2^63))=O1 then _ else _) Q E _
  by_cases c:(decide (-(2:Int)^63<=y)&&decide (y<2^63))=O1
  .rw[VI c] at k ⊢;exact aw (by simpa [zo] using k)
  .rw[WI c] at k ⊢;exact ag (sL (aw (by simpa [zo] using k)))
def q8{x y:List (List K)}{P:Fin->ai->Prop}(hu:A.units<bv)(hx:Ps kd s.heap x a)(hy:Ps kd s.heap y b)(k:P (.done (.ret (.bool (decide (x=y))))) s):ah (av prog w) A (eK.«tuple.__eq__» ⟨[.ref a,.ref b],[]⟩) P E s:=by
 have ty:=hy.ty;obtain⟨o,T,n,g,_,d,i⟩:=hx;obtain⟨o2,S,m,g2,_,d2,i2⟩:=hy;show ah _ _ (zt (.ref b) (.type "tuple") >>= _) _ _ s;refine ag (sM ty BN ?_);simp only[kR,dQ,UK];refine ag (BM g d (ag (BM g2 d2 (ag ?_))));refine qA _ (λr q z=>q.1=W1/\z=s/\∃L J G F,r=List.zip G F/\NkI kd s.heap L G/\NkI kd s.heap J F/\decide (L=J)=decide (x=y)/\(G.length==F.length)=(T.size==S.size)) _ ?_ ?_ _ _ ⟨rfl,rfl,x,y,T.toList,S.toList,rfl,i,i2,rfl,by simp⟩
 .rintro⟨u,v⟩ r q z ⟨e,rfl,L,J,G,F,O,I,H,U,Y⟩;cases I with
  |nil=>simp at O
  | @cons k1 b1 x2 X h1 t1=>
   cases H with
   |nil=>simp at O
   | @cons k2 b2 Z W h2 t2=>
    simp only[zv,zw,sN] at O;obtain⟨⟨rfl,rfl⟩,rfl⟩:=O;refine ag (GE hu h1 h2 ?_)
    by_cases c:k1=k2
    .subst c;rw[ZI rfl];simp only[kR,dQ,UK];refine aw ⟨rfl,rfl,x2,Z,X,W,rfl,t1,t2,?_,by simpa using Y⟩;rw[<-U]
     by_cases c2:x2=Z<;>simp[c2]
    .rw[YI c];simp only[BO,TK];have f:decide (x=y)=O2:=by rw[<-U];simp[c]
     rw[f] at k;exact ag (aw (aw (aw k)))
 .rintro⟨q1,q2⟩ z ⟨e,rfl,L,J,G,F,O,I,H,U,Y⟩;simp only at e;subst e;refine aw ?_;have f:(T.size==S.size)=decide (x=y):=by
   rw[<-U,<-Y];cases I with
   |nil=>cases H<;>simp
   |cons _ _=>
    cases H with
    |nil=>simp
    |cons _ _=>simp at O
  show P (.done (.ret (.bool (T.size==S.size)))) z;rw[f];exact k
def q9{x y:List (List K)}{Q:Bool->ai->Prop}(S:A.units+1<bv)(g:Ps kd s.heap x a)(r:Ps kd s.heap y b)(k:Q (decide (x=y)) s):ah (av prog w) A (eqBool (.ref a) (.ref b)) Q E s:=by
 unfold eqBool;refine wpAny_holding ?_;show ah _ _ (if (ba a==ba b)=O1 then _ else _) Q E s
 by_cases c:(ba a==ba b)=O1
 .rw[VI c];have e:a=b:=by have:=eq_of_beq c;injection this
  subst e;cases g.inj r;exact ag (sL (aw (by simpa using k)))
 .rw[WI c];exact ag (wpAny_richCompare_same_room (op:=.Eq) g.ty r.ty zC (iF zC g.ty F.entry_tuple_eq (q8 (show A.in1.units<bv from S) g r ⟨_,rfl,(λe=>nomatch e),jI k⟩) (F.args_tuple_eq_2 _ _)) .(0))
def jF(n:Nat){ks:List K}{a:Addr}{Q:Bool->ai->Prop}(I:zk kd s.heap ks a)(k:Q O1 s):ah (av prog w) A (zD (n+1) (.ref a)) Q E s:=by
 have ty:=I.typeIs;obtain⟨o,G,m,g,_,d,i⟩:=I;unfold zD;refine ag (n9 ty zC.lookup ?_);show ah _ _ (zt (.ref a) (.type "tuple") >>= _) _ _ s;refine ag (sM ty BN ?_);simp only[kR,dQ,UK];refine ag (nc g d (ag ?_));show ah _ _ (forIn G _ _) _ _ s;rw[<-vx];refine qA _ (λr q z=>q.1=W1/\z=s/\∀v∈r,BQ v=O1) _ ?_ ?_ _ _ ⟨rfl,rfl,i.byValue⟩
 .rintro v r q z ⟨e,rfl,F⟩;rw[eqIsQuiet_byValue _ (F v .(1))];refine ag (aw ?_);simp only[kR,dQ,UK];exact aw ⟨rfl,rfl,λu S=>F u (by simp[S])⟩
 .rintro⟨q1,q2⟩ z ⟨e,rfl,_⟩;simp only at e;subst e;exact aw k
def Zq(n:Nat){ks:List (List K)}{a:Addr}{Q:Bool->ai->Prop}(I:Ps kd s.heap ks a)(k:Q O1 s):ah (av prog w) A (zD (n+2) (.ref a)) Q E s:=by
 have ty:=I.ty;obtain⟨o,H,m,g,_,d,i⟩:=I;unfold zD;refine ag (n9 ty zC.lookup ?_);show ah _ _ (zt (.ref a) (.type "tuple") >>= _) _ _ s;refine ag (sM ty BN ?_);simp only[kR,dQ,UK];refine ag (nc g d (ag ?_));show ah _ _ (forIn H _ _) _ _ s;rw[<-vx];refine qA _ (λr q z=>q.1=W1/\z=s/\∃F,NkI kd s.heap F r) _ ?_ ?_ _ _ ⟨rfl,rfl,_,i⟩
 .rintro v r q z ⟨e,rfl,F,G⟩;cases G with
  |cons L G=>
   refine ag (jF n L ?_);simp only[kR,dQ,UK];exact aw ⟨rfl,rfl,_,G⟩
 .rintro⟨q1,q2⟩ z ⟨e,rfl,_⟩;simp only at e;subst e;exact aw k
end
def Tf{prog:cy}{w:bE}{K:Type}[DecidableEq K](g:KeyKind prog w K):HeapKind prog w (List (List K)) where
 is:=Ps g
 hash:=jE g
 draws:=Zo
 room:=λA=>A.units+1<bv
 inj:=λp q=>p.inj q
 keeps:=λx z F hs=>x.kept z F hs
 pyHash:=λS I k=>gC S I k
 eqBool:=λS v r k=>q9 S v r k
 quiet:=λI k=>Zq 6 I k
end PV
section
open PySem PySem.W PyProof.Rows
def L2.viewAt(p:cy)(ks:List Nat):cy:={ p with main:={ p.main with body:=ks.filterMap λi=>p.main.body[i]? } }
abbrev K66.R:=PySem.Challenge.rw_twinrounds_k66_whole_first_hand.row
def K66.vw:cy:=L2.viewAt MH [0,2,3,4,5,6,7,9,10,11,12,13,14,15,16,17,18,19,21,22,23,24,25,26,27,29,30,31,33,34,35,36,37,39,40,42,43,44,45,46,47,48,49,50,51,52,53]
namespace L2T
def runG(st:sP->Thread->Option (sP×Thread))(ok:Thread->Bool):Nat->sP->Thread->Option sP
 |0,_,_=>W1
 |n+1,s,t=>match through t with
  |true=>O0 s
  |false=>match ok t with
   |false=>W1
   |true=>match st s t with
    |some (g,t')=>runG st ok n g t'
    |none=>W1
theorem bR{v:String->Option eK}{p:cy}{w:bE}{g:Nat}{ann:Option ac}:∀{n:Nat}{s z:sP}{t:Thread},runG (stepT (denote v) p w) (stepOk g ann) n s t=O0 z->topRun v p w g ann n s.abs t=O0 z.abs
 |0,_,_,_,h=>by cases h
 |n+1,s,z,t,h=>by
  unfold runG at h;unfold topRun;cases H:through t with
  |true=>rw[H] at h;cases h;rfl
  |false=>
   rw[H] at h;cases I:stepOk g ann t with
   |false=>rw[I] at h;cases h
   |true=>
    rw[I] at h;cases hs:stepT (denote v) p w s t with
    |none=>rw[hs] at h;cases h
    |some r=>obtain⟨G,F⟩:=r;rw[hs] at h;rw[stepT_spec hs];exact bR h
def treeOf(l:List Obj):BT:=(l.foldl (λ(a:BT×Nat) o=>(a.1.ins a.2 o,a.2+1)) (BT.nil,0)).1
noncomputable abbrev boot (w:bE) (os:OsState):sP:=⟨treeOf (ma w.params).objs.toList,11,(ma w.params).life,zI [],zS,A3,os⟩
set_option maxHeartbeats 0 in
def boot_abs(w:bE)(g:OsState):(boot w g).abs=⟨ma w.params,zI [],zS,A3,g⟩:=by kernel_rfl
set_option maxHeartbeats 0 in
def gD(w:bE):((ma w.params).isNs gy,(ma w.params).objs.size)=(O1,11):=by kernel_rfl
noncomputable abbrev ann (w:bE):Option ac:=(ma w.params).nsMap gy "__annotations__"
noncomputable def fits(p:cy)(w:bE)(s:ai):Bool:=staticsOk (importedModules p.main.body) (ma w.params) s.heap&&namesBound p s.heap&&gensDone s&&laidKept (ma w.params) s.heap
def left{p:cy}{N:Nat}{F:Type}{f:ai->F}{v:bE->F}(H:opening p=plainProg p.main.scope.names)(G:∀s,fenceModules? p s=O0 s)(I:Nat.ble 600 N=O1)(h:∀(w:bE) (os:OsState),(runG (Fast.tw10156331382660048174 (Fast.tw11892475500146522536 Fast.tw14364793385576792824) p w) (Fast.tw6613529449190102663 11 (ann w)) N (boot w os) (topStub p)).map (λs=>(fits p w s.abs,f s.abs))=O0 (O1,v w))(w:bE):(openEnds vE p w N).map f=O0 (v w):=by
 obtain⟨⟨J,L,d,k,os⟩,e,O⟩:=ku.mp (boot_open H I G w);obtain⟨rfl,rfl,rfl,rfl⟩:J=ma w.params/\L=zI []/\d=zS/\k=A3:=by simpa using O
 have h:=h w os;rw[<-Fast.te10156331382660048174,<-Fast.te11892475500146522536,<-Fast.te14364793385576792824,<-Fast.te6613529449190102663] at h;obtain⟨z,r,q⟩:=ku.mp h;obtain⟨q1,q2⟩:=GG q;have t:=bR r;rw[boot_abs] at t;obtain⟨b1,b2⟩:=GG (gD w);have g:topFrom vE p w N ⟨ma w.params,zI [],zS,A3,os⟩=O0 z.abs:=by
  unfold topFrom;dsimp only;rw[b1,b2];show (topRun vE p w 11 (ann w) N _ (topStub p)).bind _=_;rw[t];show (match fits p w z.abs with | true=>O0 z.abs | false=>W1)=_;rw[q1]
 unfold openEnds;rw[e];show (topFrom vE p w N _).map f=_;rw[g];exact NJ O0 q2
end L2T
section
local macro_rules | `(tactic| o_head $H) => `(tactic| exact ‹∀P : Prop, P› _)
set_option maxHeartbeats 0 in
def K66.side(g:∀P:Prop,P):K66.R.Holds:=by
 k_head
end
def K66.as:List Addr:=[2,3,15,17,18,20,21,22,29,30,31,32,35,42,44,45,47,48,49,50,51,54,61,63,64,66,67,68,69,70,73,80,82,83,85,86,87,88,89,92,99,100,101,104,111,112,113,116,117,120,121,122,124,125,127,128,129,131,132,134,135,136,138,139,141,142,143,145,146,148,149,157,159,160,162,163,164,166,167,169,170,171,173,174,176,177,178,180,181,183,184,185,187,188,190,191,192,193,194,195,196,199,201,202,204,205,206,208,209,211,212,213,215,216,218,219,220,222,223,225,226,227,229,230,232,233,234,237,238,239,242,243,244,247,248,256,258,259,261,262,263,265,266,268,269,270,272,273,275,276,277,279,280,282,283,284,287,288,289,292,293,294,296,297,299,300,301,303,304,306,307,308,309,310,311,312,315,317,318,320,321,322,324,325,327,328,329,331,332,334,335,336,339,340,341,344,345,346,348,349,351,352,360,362,363,365,366,367,369,370,372,373,374,376,377,379,380,381,383,384,386,387,388,390,391,393,394,395,397,398,400,401,402,404,405,407,408,409,411,412,414,415,416,417,418,419,420,423,425,426,428,429,430,433,434,435,437,438,440,441,442,445,446,447,450,451,452,454,455,457,458,459,461,462,464,465,466,468,469,471,472,473,475,476,478,479,480,482,483,485,486,487,489,490,492,493,494,497,498]
set_option maxHeartbeats 0 in
def K66.as_ok:∀P,K66.as=(K66.side.heap_1 P).map (·.1):=λ_=>by kernel_rfl
noncomputable def K66.hook:Hook:=kHook K66.side.heap_1 K66.as K66.as_ok
set_option maxHeartbeats 0 in
theorem K66.look:LeftO K66.R.prog K66.vw [] (λs=>xlAt K66.vw [] s&&recOk K66.R.records s) K66.hook.obs K66.hook.val 6000:=by
 rw[show LeftO K66.R.prog K66.vw [] (λs=>xlAt K66.vw [] s&&recOk K66.R.records s) K66.hook.obs K66.hook.val 6000=∀w,(openEnds vE K66.R.prog w 6000).map (λs=>(openSeen K66.vw [] (importedModules K66.R.prog.main.body) (λs=>xlAt K66.vw [] s&&recOk K66.R.records s) O1 s,K66.hook.obs s))=O0 (openGood K66.vw [],K66.hook.val w) from rfl,Fast.te4187177175401517315];exact L2T.left (by kernel_rfl) (λ_=>by kernel_rfl) rfl (λw g=>by kernel_rfl)
end
open Lean.Parser.Command in
local macro_rules | `(def $i:declId $s:optDeclSig $v:declVal)=>`(noncomputable def $i:declId $s:optDeclSig $v:declVal) | `(abbrev $i:declId $s:optDeclSig $v:declVal)=>`(noncomputable abbrev $i:declId $s:optDeclSig $v:declVal)
namespace L2
open PySem PySem.Spec PyProof.Rows
abbrev Key:=Sum Int Str
def Rr:Key->ac->Bool
 |.inl k,v=>GH k v
 |.inr x,v=>GI x v
def keyH(w:bE):Key->Int
 |.inl k=>hashInt k
 |.inr x=>hashStr w x
def Bu:∀{k:Key}{v:ac},Rr k v=O1->(∃i t,k=qB i/\v=oa i t)∨(∃x t,k=qE x/\v=sQ x t)
 |.inl i,v,h=>by
  obtain⟨t,e⟩:=Value.isInt_shape (k:=i) (v:=v) h;exact .inl ⟨i,t,rfl,e⟩
 |.inr x,v,h=>by
  obtain⟨t,e⟩:=Value.isStrOf_shape (x:=x) (v:=v) h;exact .inr ⟨x,t,rfl,e⟩
def gF(i:Int)(t:Tok):Rr (.inl i) (.int i t)=O1:=by simp[Rr,GH]
def gG(x:Str)(t:Tok):Rr (.inr x) (.str x t)=O1:=by simp[Rr,GI]
def xP(a b:Int):decide ((qB a:Key)=qB b)=(a==b):=by
 by_cases e:a=b
 .subst e;simp
 .have h:¬ (qB a:Key)=qB b:=λq=>e (vS q);rw[YI h];exact (beq_eq_false_iff_ne.mpr e).symm
def xQ(a b:Str):decide ((qE a:Key)=qE b)=decide (a=b):=by
 by_cases e:a=b
 .subst e;simp
 .have h:¬ (qE a:Key)=qE b:=λq=>e (BS q);rw[YI h,YI e]
def xR(a:Int)(b:Str):decide ((qB a:Key)=qE b)=O2:=YI (λq=>nomatch q)
def xT(a:Str)(b:Int):decide ((qE a:Key)=qB b)=O2:=YI (λq=>nomatch q)
def Av(prog:cy)(w:bE):PySem.KeyKind prog w Key where
 is:=Rr
 hash:=keyH w
 inj:=λv a b z H=>by
  rcases Bu z with ⟨i,t,rfl,rfl⟩ | ⟨x,t,rfl,rfl⟩
  .rcases Bu H with ⟨j,u,rfl,e⟩ | ⟨y,u,rfl,e⟩
   .injection e with g _;rw[g]
   .exact nomatch e
  .rcases Bu H with ⟨j,u,rfl,e⟩ | ⟨y,u,rfl,e⟩
   .exact nomatch e
   .injection e with g _;rw[g]
 byValue:=λk v h=>by
  rcases Bu h with ⟨i,t,rfl,rfl⟩ | ⟨x,t,rfl,rfl⟩<;>rfl
 pyHash:=λr h=>by
  rcases Bu r with ⟨i,t,rfl,rfl⟩ | ⟨x,t,rfl,rfl⟩
  .exact wpAny_pyHash_int h
  .exact wpAny_pyHash_str h
 eqBool:=λS r h=>by
  rcases Bu S with ⟨i,t,rfl,rfl⟩ | ⟨x,t,rfl,rfl⟩
  .rcases Bu r with ⟨j,u,rfl,rfl⟩ | ⟨y,u,rfl,rfl⟩
   .rw[xP] at h;exact BU h
   .rw[xR] at h;exact GL i t y u _ _ _ _ h
  .rcases Bu r with ⟨j,u,rfl,rfl⟩ | ⟨y,u,rfl,rfl⟩
   .rw[xT] at h;exact GN x t j u _ _ _ _ h
   .rw[xQ] at h;exact wpAny_eqBool_str h
 «strs»:=λk x t v h=>by
  rcases Bu h with ⟨i,u,rfl,e⟩ | ⟨y,u,rfl,e⟩
  .exact nomatch e
  .injection e with g _
   subst g;cases v<;>rfl
def YG(prog:cy)(w:bE)(i:Int)(t:Tok):(Av prog w).is (.inl i) (.int i t)=O1:=gF i t
def YH(prog:cy)(w:bE)(x:Str)(t:Tok):(Av prog w).is (.inr x) (.str x t)=O1:=gG x t
set_option genInjectivity true in
inductive V where
 |non | bl (b:Bool) | int (i:Int) | str (x:Str) | byt (b:Array UInt8) | flt (b:UInt64) | ref (a:Addr) | ty (n:String)
 deriving DecidableEq
def cc:V->ac->Prop
 |.non,u=>u=fF
 |.bl b,u=>u=qS b
 |.int i,u=>∃t,u=oa i t
 |.str x,u=>∃t,u=sQ x t
 |.byt b,u=>∃t,u=GO b t
 |.flt b,u=>∃t,u=BY b t
 |.ref a,u=>u=ba a
 |.ty n,u=>u=md n
abbrev fc:List V->List ac->Prop:=mh cc
theorem fc.length{xs:List V}{us:List ac}(r:fc xs us):xs.length=us.length:=A4 r
theorem fc.get:∀{xs:List V}{us:List ac}{i:Nat}{x:V},fc xs us->xs[i]?=O0 x->∃u,us[i]?=O0 u/\cc x u
 |_,_,_,_,.nil,e=>by simp at e
 |_,_,0,_,.cons r _,e=>by simp at e;subst e;exact⟨_,rfl,r⟩
 |_,_,i+1,x,.cons _ t,e=>by
  obtain⟨u,v,g⟩:=fc.get (i:=i) (x:=x) t (by simpa using e);exact⟨u,by simpa using v,g⟩
theorem fc.append:∀{xs g:List V}{us ws:List ac},fc xs us->fc g ws->fc (xs++g) (us++ws)
 |_,_,_,_,.nil,s=>s
 |_,_,_,_,.cons r t,s=>.cons r (fc.append t s)
theorem fc.take:∀{xs:List V}{us:List ac}(n:Nat),fc xs us->fc (xs.take n) (us.take n)
 |_,_,0,_=>.nil
 |_,_,_+1,.nil=>.nil
 |_,_,n+1,.cons r t=>.cons r (fc.take n t)
theorem fc.drop:∀{xs:List V}{us:List ac}(n:Nat),fc xs us->fc (xs.drop n) (us.drop n)
 |_,_,0,r=>r
 |_,_,_+1,.nil=>.nil
 |_,_,n+1,.cons _ t=>fc.drop n t
def OR:Option V->Option ac->Prop
 |some v,O0 u=>cc v u
 |none,W1=>True
 |_,_=>False
def KV{g:Type}:List (g×V)->List (g×ac)->Prop:=mh λ(p:g×V) (q:g×ac)=>p.1=q.1/\cc p.2 q.2
def kV:Key->V
 |.inl i=>.int i
 |.inr x=>.str x
set_option genInjectivity true in
inductive HO where
 |lst (xs:List V)
 |tup (xs:List V)
 |dK (kvs:List (Key×V)) | dT (kvs:List (List Key×V))
 |set (S:Int->Bool) (n:Nat)
 |ins (C dx:Addr) (fs:List (Str×V))
 |own (x:Addr)
 |xd (fs:List (Str×V))
 |met (f x:Addr)
 |rng (lo hi:Int)
 |frz (o:Obj) (u:HO)
 |tbl (ps:Array ac)
 |ext (φ:Heap->Prop)
 |mem (F:List (List Key)->Int) (K:aS)
abbrev Hp:=Addr->Option HO
def gq(H:Hp)(a:Addr)(o:HO):Hp:=λb=>if b=a then O0 o else H b
def Ak{H:Hp}{o:HO}:gq H a o a=O0 o:=by unfold gq;rw[VI rfl]
def Am{H:Hp}{o:HO}(h:b≠a):gq H a o b=H b:=by unfold gq;rw[WI h]
def vO{H:Hp}{o u:HO}(h:H a=O0 o)(h':H b=O0 u)(d:o≠u):a≠b:=by
 intro e;subst e;rw[h] at h';exact d (cS h')
def Dv{H:Hp}{o:HO}(h:H a=O0 o)(h':H b=W1):a≠b:=by
 intro e;subst e;rw[h] at h';cases h'
def On(K:aS)(H:Hp)(a:Addr)(xs:List V):Prop:=(H a=O0 (.tup xs)∨∃o,H a=O0 (.frz o (.tup xs))) ∨
 ∃(o:Obj) (g:Array ac) (n:Nat),K.lookup a=O0 o/\o.cls=.type "tuple"/\o.data=.seq g n/\g.size<=sizeLine/\fc xs g.toList
def NM(K:aS)(H:Hp)(ks:List (List Key))(b:Addr):Prop:=∃bs:List Addr,On K H b (bs.map V.ref)/\mh (λk c=>On K H c (k.map kV)) ks bs
def Wp(ks:List (List Key)):Prop:=∃ps:List (Nat×Nat),ks=ps.map (λp=>[.inl (p.1:Int),.inl (p.2:Int)])/\ps.length<=5/\∀p∈ps,p.1<5/\p.2<5
def Tu:HO->Prop
 |.tup _=>True
 |.frz _ (.tup _)=>True
 |_=>False
section
variable (P:cy) (w:bE)
def Bg(H:Hp)(h:Heap)(a:Addr):HO->Prop
  |.mem F K=>(a==hU)=O2/\∃xs:List (List (List Key)×Addr×ac),(∀q∈xs,NM K H q.1 q.2.1/\Wp q.1/\cc (.int (F q.1)) q.2.2) ∧
      ∃o es ep,h.get? a=O0 o/\o.ExactDict/\o.data=.dict es ep/\es.toList=xs.map (C0 (PV.Tf (Av P w)))/\(xs.map (·.1)).Nodup
  |.lst xs=>xs.length<=sizeLine/\∃(g:List ac) (n:Nat),fc xs g/\h.get? a=O0 { cls:=.type "list",data:=.seq g.toArray n }
  |.tup xs=>xs.length<=sizeLine/\∃g:List ac,fc xs g/\IsTup h a g.toArray
  |.dK kvs=>kvs.length<=sizeLine/\(a==hU)=O2/\∃vs,KV kvs vs/\h.DictOf (Av P w) a vs
  |.dT kvs=>kvs.length<=sizeLine/\(a==hU)=O2/\∃xs:List (List Key×Addr×ac),
      mh (λ(p:List Key×V) (q:List Key×Addr×ac)=>p.1=q.1/\H q.2.1=O0 (.tup (p.1.map kV))/\cc p.2 q.2.2) kvs xs ∧
      ∃o es ep,h.get? a=O0 o/\o.ExactDict/\o.data=.dict es ep/\es.toList=xs.map (C0 (vT (Av P w)))/\(xs.map (·.1)).Nodup
  |.set S n=>h.SetOf (intKind P w) a S n
  |.ins C dx fs=>H dx=O0 (.own a)/\fs.length<=1000/\dx≠a/\h.get? a=O0 (og C dx) ∧
      ∃mA,h.Ns1 dx mA/\(∀f,OR (fs.lookup f) (mA f))/\C3 mA (fs.map (·.1))
  |.own _=>∃o,h.get? a=O0 o
  |.xd fs=>∃mA,h.Ns1 a mA/\∀f,OR (fs.lookup f) (mA f)
  |.rng z G=>∃t u v,h.get? a=O0 { cls:=.type "range",data:=.fields #[.int z t,.int G u,.int 1 v] }
  |.frz o u=>h.get? a=O0 o/\Bg H h a u
  |.tbl ps=>h.get? a=O0 { cls:=.none,data:=.fields ps }
  |.met f x=>h.get? a=O0 (C4 (.ref f) (.ref x))
  |.ext φ=>φ h/\(∃o,h.get? a=O0 o)/\∀h1 r:Heap,φ h1->(∀o,h1.get? a=O0 o->r.get? a=O0 o)->φ r
def Qr(H:Hp)(h:Heap):Prop:=∀a o,H a=O0 o->Bg P w H h a o
end
section
variable {H H':Hp}{o:HO}
theorem Bg.lt(x:Bg P w H h a o):a<h.objs.size:=by
 cases o with
 |mem F K=>obtain⟨_,_,_,o,_,_,e,_⟩:=x;exact br e
 |lst r=>obtain⟨_,_,_,_,e⟩:=x;exact br e
 |tup r=>obtain⟨_,_,_,p⟩:=x;exact p.lt
 |dK g=>obtain⟨_,_,_,_,o,_,_,e,_⟩:=x;exact br e
 |dT g=>obtain⟨_,_,_,_,o,_,_,e,_⟩:=x;exact br e
 |set S n=>obtain⟨o,_,_,_,e,_⟩:=x;exact br e
 |ins C dx fs=>obtain⟨_,_,_,e,_⟩:=x;exact br e
 |own y=>obtain⟨_,e⟩:=x;exact br e
 |xd fs=>obtain⟨_,⟨_,_,_,e,_⟩,_⟩:=x;exact br e
 |rng z G=>obtain⟨_,_,_,e⟩:=x;exact br e
 |frz ob u=>obtain⟨e,_⟩:=x;exact br e
 |tbl v=>exact br (show h.get? a=O0 _ from x)
 |met f y=>exact br (show h.get? a=O0 _ from x)
 |ext φ=>obtain⟨_,⟨_,e⟩,_⟩:=x;exact br e
theorem Paired.mapP{I z:Type}{F G:I->z->Prop}:∀{v:List I}{g:List z},mh F v g->(∀a b,F a b->G a b)->mh G v g
 |_,_,.nil,_=>.nil
 |_,_,.cons r t,f=>.cons (f _ _ r) (Paired.mapP t f)
def Bg.stay(x:Bg P w H h a o)(k:∀b u,(b=a∨H b=O0 (.own a))->h.get? b=O0 u->h'.get? b=O0 u)(ho:∀b,H b=O0 (.own a)->H' b=O0 (.own a))(O:∀b o,Tu o->H b=O0 o->H' b=O0 o):Bg P w H' h' a o:=by
 have T:∀{K:aS}{b:Addr}{xs:List V},On K H b xs->On K H' b xs:=λ{K b xs} z=>by
  rcases z with (z | ⟨o,z⟩) | z
  .exact .inl (.inl (O b _ trivial z))
  .exact .inl (.inr ⟨o,O b _ trivial z⟩)
  .exact .inr z
 induction o with
 |mem F K=>
  obtain⟨y,xs,al,ob,g,G,e,c⟩:=x;exact⟨y,xs,λq hq=>by
   obtain⟨⟨bs,Z,Y⟩,X⟩:=al q hq;exact⟨⟨bs,T Z,Paired.mapP Y λ_ _ z=>T z⟩,X⟩,ob,g,G,k _ _ (.inl rfl) e,c⟩
 |lst xs=>obtain⟨z,I,n,r,e⟩:=x;exact⟨z,I,n,r,k _ _ (.inl rfl) e⟩
 |tup xs=>obtain⟨z,I,r,ob,e,c⟩:=x;exact⟨z,I,r,ob,k _ _ (.inl rfl) e,c⟩
 |dK L=>obtain⟨z,y,vs,r,ob,g,G,e,c⟩:=x;exact⟨z,y,vs,r,ob,g,G,k _ _ (.inl rfl) e,c⟩
 |dT L=>
  obtain⟨z,y,xs,r,ob,g,G,e,c⟩:=x;exact⟨z,y,xs,Paired.mapP r λp q z=>⟨z.1,O _ _ trivial z.2.1,z.2.2⟩,ob,g,G,k _ _ (.inl rfl) e,c⟩
 |set S n=>obtain⟨ob,g,G,t,e,c⟩:=x;exact⟨ob,g,G,t,k _ _ (.inl rfl) e,c⟩
 |ins C dx fs=>
  obtain⟨d,z,ne,e,mA,⟨J,g,G,e2,c⟩,r⟩:=x;exact⟨ho _ d,z,ne,k _ _ (.inl rfl) e,mA,⟨J,g,G,k _ _ (.inr d) e2,c⟩,r⟩
 |own y=>obtain⟨ob,e⟩:=x;exact⟨ob,k _ _ (.inl rfl) e⟩
 |xd fs=>obtain⟨mA,⟨J,g,G,e,c⟩,r⟩:=x;exact⟨mA,⟨J,g,G,k _ _ (.inl rfl) e,c⟩,r⟩
 |rng lo hi=>obtain⟨t,u,v,e⟩:=x;exact⟨t,u,v,k _ _ (.inl rfl) e⟩
 |frz ob u ih=>obtain⟨e,q⟩:=x;exact⟨k _ _ (.inl rfl) e,ih q⟩
 |tbl W=>
  have e:h.get? a=O0 { cls:=.none,data:=.fields W }:=x;show h'.get? a=O0 { cls:=.none,data:=.fields W };exact k a _ (.inl rfl) e
 |met f y=>
  have e:h.get? a=O0 (C4 (.ref f) (.ref y)):=x;show h'.get? a=O0 (C4 (.ref f) (.ref y));exact k a _ (.inl rfl) e
 |ext φ=>obtain⟨p,⟨o,e⟩,U⟩:=x;exact⟨U _ _ p λo q=>k _ _ (.inl rfl) q,⟨o,k _ _ (.inl rfl) e⟩,U⟩
theorem Qr.lt(x:Qr P w H h)(e:H a=O0 o):a<h.objs.size:=(x a o e).lt
def Qr.fresh(x:Qr P w H h)(e:h.objs.size<=a):H a=W1:=by
 cases q:H a with
 |none=>rfl
 |some u=>exact XI (fh (x.lt q) e) (kx _)
def Qr.kept(x:Qr P w H h)(k:∀b u,h.get? b=O0 u->h'.get? b=O0 u):Qr P w H h':=λa o e=>
 (x a o e).stay (λb u _ q=>k b u q) (λ_ q=>q) λ_ _ _ q=>q
def Qr.laid(x:Qr P w H h)(k:∀b u,h.get? b=O0 u->h'.get? b=O0 u)(z:h.objs.size<=a)(new:Bg P w (gq H a o) h' a o):Qr P w (gq H a o) h':=λb u e=>by
 have g:=x.fresh z
 by_cases r:b=a
 .subst r;rw[Ak] at e;cases e;exact new
 .rw[Am r] at e;exact (x b u e).stay (λc v _ q=>k c v q) (λc q=>by rw[Am (Dv q g)];exact q) λc F _ q=>by rw[Am (Dv q g)];exact q
end
def Rd(H:Hp)(a:Addr)(u:HO):Prop:=H a=O0 u∨∃o,H a=O0 (.frz o u)
def Rd.of{H:Hp}{u:HO}(h:H a=O0 u):Rd H a u:=.inl h
def Rd.ok{H:Hp}{u:HO}(r:Rd H a u)(x:Qr P w H h):Bg P w H h a u:=by
 rcases r with r | ⟨o,r⟩
 .exact x a u r
 .obtain⟨_,q⟩:=x a _ r;exact q
def Mut:Option HO->Prop
 |some (.lst _)=>True
 |some (.dK _)=>True
 |some (.dT _)=>True
 |some (.set _ _)=>True
 |some (.ins _ _ _)=>True
 |some (.ext _)=>True
 |some (.mem _ _)=>True
 |_=>False
section
variable {H:Hp}{x e:Addr}{o':HO}
def Qr.write(ok:Qr P w H h)(I:Mut (H x))(W:e=x∨H e=O0 (.own x))(k:∀b u,b≠e->h.get? b=O0 u->h'.get? b=O0 u)(S:∃u,h'.get? e=O0 u)(new:Bg P w (gq H x o') h' x o'):Qr P w (gq H x o') h':=λb u q=>by
 have F:∀c y,H c=O0 (.own y)->c≠x:=λc y r z=>by subst z;rw[r] at I;exact I
 have G:∀c o,Tu o->H c=O0 o->c≠x:=λc o O r z=>by
  subst z;rw[r] at I;cases o with
  |tup T=>exact I
  |frz p u=>exact I
  |_=>exact O
 by_cases L:b=x
 .subst L;rw[Ak] at q;cases q;exact new
 .rw[Am L] at q
  by_cases g:b=e
  .have U:H b=O0 (.own x):=by
    rcases W with z | z
    .exact XI (g.trans z) L
    .rw[g];exact z
   rw[q] at U;cases U;obtain⟨v,X⟩:=S;exact⟨v,by rw[g];exact X⟩
  .refine (ok b u q).stay (λc v J r=>k c v ?_ r) (λc r=>by rw[Am (F c b r)];exact r) λc T O r=>by rw[Am (G c T O r)];exact r
   rcases J with rfl | J
   .exact g
   .rintro rfl
    rcases W with z | z
    .exact F c b J z
    .rw[J] at z;cases z;exact L rfl
end
structure Un (fs ex:List Addr) (H H':Hp) (h h':Heap):Prop where
 keep:∀b o,h.get? b=O0 o->H b=W1->b∉fs->b∉ex->h'.get? b=O0 o
 slot:∀b o,h.get? b=O0 o->H b=W1->b∈fs->b∉ex->∃sl,h'.get? b=O0 { o with slots:=sl }
 free:∀b o,h.get? b=O0 o->H b=W1->b∉ex->H' b=W1
 there:∀b o,h.get? b=O0 o->b∉ex->∃o',h'.get? b=O0 o'
 tups:∀b xs,H b=O0 (.tup xs)->H' b=O0 (.tup xs)
 frzs:∀b o u,H b=O0 (.frz o u)->H' b=O0 (.frz o u)
 tbls:∀b ps,H b=O0 (.tbl ps)->∃more,H' b=O0 (.tbl (ps++more))
section
variable {fs fs' ex ex':List Addr}{H H1 H2:Hp}{h1 h2:Heap}{x e:Addr}{o:HO}
def Un.any(u:Un fs ex H H1 h h1){b:Addr}{ob:Obj}(q:h.get? b=O0 ob)(n:H b=W1)(g:b∉ex):∃sl,h1.get? b=O0 { ob with slots:=sl }:=by
 by_cases r:b∈fs
 .exact u.slot b ob q n r g
 .exact⟨ob.slots,u.keep b ob q n r g⟩
def Un.kept(k:∀b u,h.get? b=O0 u->h'.get? b=O0 u):Un fs ex H H h h':=
 ⟨λb ob q _ _ _=>k b ob q,λb ob q _ _ _=>⟨ob.slots,k b ob q⟩,λ_ _ _ n _=>n,λb ob q _=>⟨ob,k b ob q⟩,λ_ _ q=>q,λ_ _ _ q=>q,λ_ v q=>⟨#[],by rw[q];simp⟩⟩
def Un.refl:Un fs ex H H h h:=Un.kept λ_ _ q=>q
def Un.laid(k:∀b u,h.get? b=O0 u->h'.get? b=O0 u)(z:h.objs.size<=a)(g:H a=W1):Un fs ex H (gq H a o) h h' where
 keep:=λb u q _ _ _=>k b u q
 slot:=λb u q _ _ _=>⟨u.slots,k b u q⟩
 free:=λb u q n _=>by rw[Am (bS (fh (br q) z))];exact n
 there:=λb u q _=>⟨u,k b u q⟩
 tups:=λb r q=>by rw[Am (Dv q g)];exact q
 frzs:=λb u r q=>by rw[Am (Dv q g)];exact q
 tbls:=λb v q=>⟨#[],by rw[Am (Dv q g),q];simp⟩
def Un.write(I:Mut (H x))(O:e=x∨H e=O0 (.own x))(k:∀b u,b≠e->h.get? b=O0 u->h'.get? b=O0 u)(S:∃u,h'.get? e=O0 u):Un fs ex H (gq H x o) h h':=by
 have F:∀b,H b=W1->b≠x:=λb n z=>by subst z;rw[n] at I;exact I
 have G:∀b,H b=W1->b≠e:=λb n z=>by
  subst z
  rcases O with r | r
  .exact F b n r
  .rw[n] at r;cases r
 have v:∀b u,H b=O0 u->¬ Mut (O0 u)->b≠x:=λb u q L z=>by subst z;rw[q] at I;exact L I
 refine⟨λb u q n _ _=>k b u (G b n) q,λb u q n _ _=>⟨u.slots,k b u (G b n) q⟩,λb u q n _=>by rw[Am (F b n)];exact n,λb u q _=>?_,
  λb J q=>by rw[Am (v b _ q λz=>z)];exact q,λb u J q=>by rw[Am (v b _ q λz=>z)];exact q,λb T q=>⟨#[],by rw[Am (v b _ q λz=>z),q];simp⟩⟩
 by_cases g:b=e
 .subst g;exact S
 .exact⟨u,k b u g q⟩
end
def trk(h:Heap)(H:Hp):List Addr:=(bg h.objs.size).filter λa=>(H a).isSome
def XO(h:Heap)(H:Hp):Heap:=PySem.W.hideAll h (trk h H)
def gH(h:Heap)(H:Hp):(XO h H).objs.size=h.objs.size:=PySem.W.hideAll_size _ _
def jG{H:Hp}(e:h.get? b=O0 o)(n:H b=W1):(XO h H).get? b=O0 o:=
 PySem.W.hideAll_get _ e λv=>by
  have q:(H b).isSome=O1:=(dS.mp v).2;rw[n] at q;simp at q
def q_{H:Hp}(e:(XO h H).get? b=O0 o):h.get? b=O0 o/\H b=W1:=by
 have O:h.get? b=O0 o:=PySem.W.of_hideAll (trk h H) e;refine⟨O,?_⟩;cases q:H b with
 |none=>rfl
 |some x=>
  have v:b∈trk h H:=dS.mpr ⟨cf.mpr (br O),by simp[q]⟩;have z:(XO h H).get? b=W1:=PySem.W.hideAll_none (trk h H) v;rw[z] at e;cases e
def rA(g h:Heap)(L:Addr):List (Addr×Obj):=(bg h.objs.size).filterMap λa=>if a=L∨(g.get? a).isSome=O1 then W1 else (h.get? a).map λo=>(a,o)
def hQ(g h:Heap)(L d:Addr):List (Addr×Obj):=(rA g h L).filter λp=>decide (p.1≠d)
structure Mod (K:aS) (mg:Str->Option ac) (base:Heap):Prop where
 kin:K.In base
 glob:base.Ns gy mg
 blt:∃mb,base.Ns C5 mb/\∀x:Str,x≠"__name__"->mb x=d4 x
 nolimit:base.NoLimit
set_option genInjectivity true in
structure Cx where
 prog:cy
 w:bE
 K:aS
 mg:Str->Option ac
 base:Heap
 A:aT
 N:List Str
 s₀:ai
 H₀:Hp
 env:Env
 outer:List Env
 stack:List Env
 ex:List Addr
 fn:Str->Bool
 calm:Bool
 pn:List (Addr×Obj)
 xe:ac->ai->Prop
def frs(l:List Env):List Addr:=l.filterMap (·.frame)
abbrev Cx.fs (X:Cx):List Addr:=frs X.outer
def XU(sc:kS)(x:Str):Prop:=sc.names.lookup x=O0 .local ∨sc.names.lookup x=O0 .cell ∨sc.names.lookup x=O0 .free
def Loc(sc:kS)(x:Str):Prop:=sc.names.lookup x=O0 .local ∨sc.names.lookup x=O0 .cell
def Look(env:Env)(h:Heap)(m:Str->Option ac)(x:Str)(u:ac):Prop:=
 (env.kindOf x=O0 .local /\m x=O0 u)∨((env.kindOf x=O0 .cell ∨env.kindOf x=O0 .free)/\∃c,env.cells.lookup x=O0 c/\h.IsCell c (O0 u))
structure Cx.Ok (X:Cx):Prop where
 mod:Mod X.K X.mg X.base
 kind:X.env.scope.kind=.function
 glob:X.env.globals=gy
 blt:X.env.builtins=C5
 above:X.s₀.heap.objs.size<=X.env.locals
 inj:∀x y c,X.env.cells.lookup x=O0 c->X.env.cells.lookup y=O0 c->x=y
 has:∀x,(X.env.kindOf x=O0 .cell ∨X.env.kindOf x=O0 .free)->∃c,X.env.cells.lookup x=O0 c
 cab:∀x c,X.fn x=O1->X.env.cells.lookup x=O0 c->X.s₀.heap.objs.size<=c
 hd:X.calm=O1->X.A.handled=W1
 frames:X.A.frames=O0 X.stack
 stk:X.stack=X.outer∨(X.stack=X.env::X.outer/\X.env.frame=O0 X.env.locals)
 exf:∀b∈X.ex,b≠X.env.locals/\∀x c,X.env.cells.lookup x=O0 c->c≠b
 bs:∀b o,X.base.get? b=O0 o->X.s₀.heap.get? b=O0 o/\X.H₀ b=W1
 bsz:X.base.objs.size<=X.s₀.heap.objs.size
 noex:∀b o,X.base.get? b=O0 o->b∉X.ex
 exfs:∀b∈X.ex,b∉X.fs
 funs:X.s₀.heap.FunFrames X.base X.outer
 frf:∀b∈X.fs,X.H₀ b=W1
structure Inv (X:Cx) (π:NU) (σ:List (Option V)) (H:Hp) (s:ai):Prop where
 ok:X.Ok
 os:s.os=X.s₀.os
 bare:ng s.gens
 base:Un X.fs X.ex X.H₀ H X.s₀.heap s.heap
 loc:∃m,s.heap.Ns X.env.locals m/\∀(i:Nat) (x:Str) (v:V),X.N[i]?=O0 x->σ[i]?=O0 (O0 v)->XU X.env.scope x->∃u,cc v u/\Look X.env s.heap m x u
 cell:∀x c,X.env.cells.lookup x=O0 c->∃v,s.heap.IsCell c v
 free:H X.env.locals=W1
 freeC:∀x c,X.env.cells.lookup x=O0 c->H c=W1
 pin:∀p∈X.pn++π,s.heap.get? p.1=O0 p.2/\H p.1=W1/\p.1≠X.env.locals/\p.1∉X.fs/\∀v,p.2.data≠.cell v
 hok:Qr X.prog X.w H s.heap
 len:σ.length=X.N.length
section
variable {X:Cx}{H H':Hp}
def Cx.Ok.nofr(ok:X.Ok){b:Addr}{o:Obj}(e:X.base.get? b=O0 o):b∉X.fs:=λg=>by
 have:=(ok.funs.mem g).1;rw[e] at this;cases this
theorem Inv.bs(I:Inv X π σ H s):∀b o,X.base.get? b=O0 o->s.heap.get? b=O0 o/\H b=W1:=λb o e=>
 ⟨I.base.keep b o (I.ok.bs b o e).1 (I.ok.bs b o e).2 (I.ok.nofr e) (I.ok.noex b o e),I.base.free b o (I.ok.bs b o e).1 (I.ok.bs b o e).2 (I.ok.noex b o e)⟩
def Inv.bk(I:Inv X π σ H s):∀b o,X.base.get? b=O0 o->s.heap.get? b=O0 o:=λb o e=>(I.bs b o e).1
theorem Inv.mod(I:Inv X π σ H s):Mod X.K X.mg X.base:=I.ok.mod
def Inv.kIn(I:Inv X π σ H s):X.K.In s.heap:=I.ok.mod.kin.keeps I.bk
theorem Inv.lt(I:Inv X π σ H s):X.env.locals<s.heap.objs.size:=let ⟨_,hn,_⟩:=I.loc;hn.lt
def Inv.sz(I:Inv X π σ H s):X.s₀.heap.objs.size<=s.heap.objs.size:=de I.ok.above (sR I.lt)
def Inv.nofs(I:Inv X π σ H s){a:Addr}(h:s.heap.objs.size<=a):a∉X.fs:=λg=>by
 obtain⟨_,o,v,_⟩:=I.ok.funs.mem g;exact XI (fh (br v) (de I.sz h)) (kx _)
def Inv.cne(I:Inv X π σ H s):∀x c,X.env.cells.lookup x=O0 c->c≠X.env.locals:=λx c e z=>by
 obtain⟨v,o,F,G⟩:=I.cell x c e;obtain⟨m,⟨J,L,O,g,r,_⟩,_⟩:=I.loc;rw[z,g] at F;cases F;rw[r] at G;cases G
theorem Inv.funs(I:Inv X π σ H s):s.heap.FunFrames X.base X.outer:=by
 have all:∀(l:List Env),(∀b∈frs l,b∈X.fs)->X.s₀.heap.FunFrames X.base l->s.heap.FunFrames X.base l:=by
  intro l
  induction l with
  |nil=>intro _ _;trivial
  |cons W r F=>
   intro hs Y;obtain⟨T,⟨L,o,G,S,O,U⟩,J⟩:=Y;have v:L∈X.fs:=hs L (by unfold frs;rw[C6,G];exact df);obtain⟨Z,e⟩:=I.base.slot L o O (I.ok.frf L v) v λz=>I.ok.exfs L z v;exact⟨T,⟨L,_,G,S,e,U⟩,F (λb g=>hs b (by unfold frs;rw[C6,G];exact cw _ g)) J⟩
 exact all X.outer (λ_ g=>g) I.ok.funs
theorem Inv.stack(I:Inv X π σ H s):s.heap.FunFrames X.base X.stack:=by
 rcases I.ok.stk with e | ⟨e,G⟩
 .rw[e];exact I.funs
 .rw[e];obtain⟨m,g,_⟩:=I.loc;refine .cons (by rw[I.ok.kind];decide) G g ?_ I.funs;exact Heap.get?_none_of_le (de I.ok.bsz I.ok.above)
def Inv.stkSub(I:Inv X π σ H s):∀b∈frs X.stack,b∈X.env.locals::X.fs:=λb g=>by
 rcases I.ok.stk with e | ⟨e,G⟩
 .rw[e] at g;exact cw _ g
 .rw[e] at g;unfold frs at g;rw[C6,G] at g;exact g
def Inv.stkFree(I:Inv X π σ H s):∀b∈frs X.stack,H b=W1:=λb g=>by
 rcases bp.mp (I.stkSub b g) with e | g
 .rw[e];exact I.free
 .obtain⟨_,o,v,_⟩:=I.ok.funs.mem g;exact I.base.free b o v (I.ok.frf b g) λz=>I.ok.exfs b z g
def Inv.step{g':Array GenState}{d':Drawn}(I:Inv X π σ H s)(G:∀b∈ch,(b∈X.ex∨X.s₀.heap.objs.size<=b)/\b≠X.env.locals/\(∀x c,X.env.cells.lookup x=O0 c->c≠b)/\∀p∈X.pn++π,p.1≠b)(keep:∀b o,b≠X.env.locals->b∉X.fs->b∉ch->s.heap.get? b=O0 o->H b=W1->h'.get? b=O0 o)(S:∀b o,b≠X.env.locals->b∈X.fs->b∉ch->s.heap.get? b=O0 o->H b=W1->∃sl,h'.get? b=O0 { o with slots:=sl })(free:∀b o,b∉ch->s.heap.get? b=O0 o->H b=W1->H' b=W1)(T:∀b o,b∉ch->s.heap.get? b=O0 o->∃o',h'.get? b=O0 o')(Y:∀b xs,H b=O0 (.tup xs)->H' b=O0 (.tup xs))(T0:∀b o u,H b=O0 (.frz o u)->H' b=O0 (.frz o u))(Z:∀b ps,H b=O0 (.tbl ps)->∃S0,H' b=O0 (.tbl (ps++S0)))(ns:∀m,s.heap.Ns X.env.locals m->h'.Ns X.env.locals m)(N1:Qr X.prog X.w H' h')(hg:ng g'):
  Inv X π σ H' { s with heap:=h',gens:=g',drawn:=d',toks:=t' }:=by
 have N0:∀b o,X.s₀.heap.get? b=O0 o->b≠X.env.locals:=λb o e=>bS (fh (br e) I.ok.above);have L:∀b o,X.s₀.heap.get? b=O0 o->b∉X.ex->b∉ch:=λb o e g U=>by
  rcases (G b U).1 with z | z
  .exact g z
  .exact XI (fh (br e) z) (kx _)
 have J:∀x c,X.env.cells.lookup x=O0 c->∀v,s.heap.IsCell c v->h'.IsCell c v:=by
  rintro x c e v ⟨o,W,hd⟩
  have F:c∉ch:=λz=>(G c z).2.2.1 x c e rfl
  by_cases hc:c∈X.fs
  .obtain⟨sl,q⟩:=S c o (I.cne x c e) hc F W (I.freeC x c e);exact⟨_,q,hd⟩
  .exact⟨o,keep c o (I.cne x c e) hc F W (I.freeC x c e),hd⟩
 refine⟨I.ok,I.os,hg,⟨λb o e n U g=>?_,λb o e n U g=>?_,λb o e n g=>?_,λb o e g=>?_,λb xs e=>Y b xs (I.base.tups b xs e),λb o xs e=>T0 b o xs (I.base.frzs b o xs e),λb ps e=>?_⟩,?_,λx c e=>?_,?_,λx c e=>?_,λp hp=>?_,N1,I.len⟩
 .exact keep b o (N0 b o e) U (L b o e g) (I.base.keep b o e n U g) (I.base.free b o e n g)
 .obtain⟨sl,O⟩:=I.base.slot b o e n U g;obtain⟨X0,e2⟩:=S b _ (N0 b o e) U (L b o e g) O (I.base.free b o e n g);exact⟨X0,e2⟩
 .obtain⟨o',O⟩:=I.base.there b o e g;exact free b o' (L b o e g) O (I.base.free b o e n g)
 .obtain⟨o',O⟩:=I.base.there b o e g;exact T b o' (L b o e g) O
 .obtain⟨m1,O⟩:=I.base.tbls b ps e;obtain⟨m2,e2⟩:=Z b _ O;exact⟨m1++m2,by rw[e2,Array.append_assoc]⟩
 .obtain⟨m,hn,hl⟩:=I.loc;refine⟨m,ns m hn,λi x v O e2 e3=>?_⟩;obtain⟨u,r,l⟩:=hl i x v O e2 e3;refine⟨u,r,?_⟩
  rcases l with l | ⟨k,c,e,z⟩
  .exact .inl l
  .exact .inr ⟨k,c,e,J x c e _ z⟩
 .obtain⟨v,z⟩:=I.cell x c e;exact⟨v,J x c e v z⟩
 .obtain⟨m,⟨o,_,_,W,_⟩,_⟩:=I.loc;exact free _ o (λz=>(G _ z).2.1 rfl) W I.free
 .obtain⟨v,o,W,hd⟩:=I.cell x c e;exact free c o (λz=>(G c z).2.2.1 x c e rfl) W (I.freeC x c e)
 .obtain⟨e,n,ne,nf,d⟩:=I.pin p hp;have F:p.1∉ch:=λz=>(G p.1 z).2.2.2 p hp rfl;exact⟨keep p.1 p.2 ne nf F e n,free p.1 p.2 F e n,ne,nf,d⟩
theorem Inv.un(I:Inv X π σ H s)(u:Un X.fs [] H H' s.heap h')(v:Qr X.prog X.w H' h'):Inv X π σ H' { s with heap:=h',toks:=t' }:=by
 obtain⟨m,⟨o,Y,ep,L,r⟩,_⟩:=id I.loc;obtain⟨Z,T⟩:=u.any L I.free .(1);exact I.step (g':=s.gens) (d':=s.drawn) (ch:=[]) (λ_ z=>nomatch z) (λb o _ F _ e n=>u.keep b o e n F .(1)) (λb o _ F _ e n=>u.slot b o e n F .(1)) (λb o _ e n=>u.free b o e n .(1)) (λb o _ e=>u.there b o e .(1)) u.tups u.frzs u.tbls (λW S=>by
  obtain⟨U,G,J,g,O⟩:=S;rw[L] at g;cases g;exact⟨_,G,J,T,O⟩) v I.bare
def Inv.call{g':Array GenState}{d':Drawn}(I:Inv X π σ H s)(u:Un (frs X.stack) ch H H' s.heap h')(v:Qr X.prog X.w H' h')(W:ng g')(G:∀b∈ch,(b∈X.ex∨X.s₀.heap.objs.size<=b)/\b≠X.env.locals/\(∀x c,X.env.cells.lookup x=O0 c->c≠b)/\∀p∈X.pn++π,p.1≠b):
  Inv X π σ H' { s with heap:=h',gens:=g',drawn:=d',toks:=t' }:=by
 obtain⟨m,⟨o,es,ep,S,r⟩,_⟩:=id I.loc;obtain⟨Z,F⟩:=u.any S I.free λz=>(G _ z).2.1 rfl;exact I.step (ch:=ch) G (λb o F Y J e n=>u.keep b o e n (λz=>(bp.mp (I.stkSub b z)).elim F Y) J) (λb o _ _ J e n=>u.any e n J) (λb o J e n=>u.free b o e n J) (λb o J e=>u.there b o e J) u.tups u.frzs u.tbls (λm' U=>by
  obtain⟨o',L,O,g,T⟩:=U;rw[S] at g;cases g;exact⟨_,L,O,F,T⟩) v W
theorem Inv.turned(I:Inv X π σ H s)(k:∀b o,b≠it->s.heap.get? b=O0 o->h'.get? b=O0 o)(L:H it=W1)(F:it≠X.env.locals)(h1:it∈X.ex∨X.s₀.heap.objs.size<=it)(U:∀x c,X.env.cells.lookup x=O0 c->c≠it)(T:∀p∈X.pn++π,p.1≠it):Inv X π σ H { s with heap:=h',toks:=t' }:=by
 have g:∀b u,H b=O0 u->b≠it:=λb u e z=>by rw[z,L] at e;cases e
 refine I.step (g':=s.gens) (d':=s.drawn) (ch:=[it]) (λb S=>?_) (λb o _ _ J e _=>k b o (λz=>J (by simp[z])) e) (λb o _ _ J e _=>⟨o.slots,k b o (λz=>J (by simp[z])) e⟩) (λ_ _ _ _ n=>n)
  (λb o J e=>⟨o,k b o (λz=>J (by simp[z])) e⟩) (λ_ _ e=>e) (λ_ _ _ e=>e) (λb Z e=>⟨#[],by rw[e];simp⟩) (λm O=>?_) (λb u e=>?_) I.bare
 .have e:b=it:=by simpa using S
  subst e;exact⟨h1,F,U,T⟩
 .obtain⟨o,W,Y,G,r⟩:=O;exact⟨o,W,Y,k _ o (ci F) G,r⟩
 .refine (I.hok b u e).stay (λc v J q=>k c v ?_ q) (λ_ q=>q) λ_ _ _ q=>q
  rcases J with z | z
  .rw[z];exact g b u e
  .exact g c _ z
theorem Inv.tok(I:Inv X π σ H s)(t:Nat):Inv X π σ H { s with toks:=t }:=I.un (h':=s.heap) (t':=t) Un.refl I.hok
theorem Inv.kept{t':Nat}(I:Inv X π σ H s)(k:∀b u,s.heap.get? b=O0 u->h'.get? b=O0 u):Inv X π σ H { s with heap:=h',toks:=t' }:=I.un (Un.kept k) (I.hok.kept k)
theorem Inv.laid{a:Addr}{o:HO}{t':Nat}(I:Inv X π σ H s)(k:∀b u,s.heap.get? b=O0 u->h'.get? b=O0 u)(z:s.heap.objs.size<=a)(new:Bg X.prog X.w (gq H a o) h' a o):
  Inv X π σ (gq H a o) { s with heap:=h',toks:=t' }:=I.un (Un.laid k z (I.hok.fresh z)) (I.hok.laid k z new)
theorem Inv.write{x e:Addr}{o:HO}{t':Nat}(I:Inv X π σ H s)(g:Mut (H x))(r:e=x∨H e=O0 (.own x))(k:∀b u,b≠e->s.heap.get? b=O0 u->h'.get? b=O0 u)(S:∃u,h'.get? e=O0 u)(new:Bg X.prog X.w (gq H x o) h' x o):Inv X π σ (gq H x o) { s with heap:=h',toks:=t' }:=I.un (Un.write g r k S) (I.hok.write g r k S new)
def Inv.pins_of{g:NU}(I:Inv X π σ H s)(h:∀p∈g,s.heap.get? p.1=O0 p.2/\H p.1=W1/\p.1≠X.env.locals/\p.1∉X.fs/\∀v,p.2.data≠.cell v):Inv X g σ H s:=
 ⟨I.ok,I.os,I.bare,I.base,I.loc,I.cell,I.free,I.freeC,λp r=>(eA.mp r).elim (λz=>I.pin p (kU _ z)) (h p),I.hok,I.len⟩
def Ph(I:N.Nodup){i j:Nat}{x:Str}(a:N[i]?=O0 x)(b:N[j]?=O0 x):i=j:=by
 obtain⟨z,r⟩:=iL.mp a;obtain⟨v,g⟩:=iL.mp b;exact (List.getElem_inj I).mp (r.trans g.symm)
def Uq(N:List Str)(x:Str):Prop:=∀i j:Nat,N[i]?=O0 x->N[j]?=O0 x->i=j
def zx(I:N.Nodup):Uq N x:=λ_ _ a b=>Ph I a b
theorem Tg{A:aT}{v:V}{Q:Unit->ai->Prop}(I:Inv X π σ H s)(hN:Uq X.N x)(hi:X.N[i]?=O0 x)(G:Loc X.env.scope x)(r:cc v u)(h:∀s',Inv X π (σ.set i (O0 v)) H s'->(∃a,ff a s.heap s'.heap/\(a=X.env.locals∨X.env.cells.lookup x=O0 a))->Q () s')(hf:X.fn x=O1∨X.env.scope.names.lookup x=O0 .local :=by first | exact .inl rfl | exact .inr rfl | assumption):ah M A (storeName X.env x u) Q E s:=by
 obtain⟨m,hn,hl⟩:=id I.loc;have S0:(X.env.scope.kind==.class||(X.env.scope.kind==.module&&X.env.locals != X.env.globals))=O2:=by rw[I.ok.kind];rfl
 have T:i<σ.length:=by rw[I.len];exact (iL.mp hi).1
 have cne:=I.cne;have g:∀{a:Addr}{h':Heap},(∃o,s.heap.get? a=O0 o/\H a=W1)->ff a s.heap h'->Qr X.prog X.w H h':=λ{a h'} ha hs b ob e=>by
  obtain⟨_,_,L⟩:=ha;refine (I.hok b ob e).stay (λc w' J q=>(hs.2 c ?_).trans q) (λ_ q=>q) λ_ _ _ q=>q;rintro rfl
  rcases J with rfl | J
  .rw[L] at e;cases e
  .rw[L] at J;cases J
 rcases G with S | S
 .refine wpAny_storeName_local S hn (λh' P1 hs=>?_) S0;obtain⟨oL,_,_,N1,_⟩:=id hn;refine h _ ⟨I.ok,I.os,I.bare,⟨λb o e n Y G=>?_,λb o e n Y G=>?_,I.base.free,λb o e G=>?_,I.base.tups,I.base.frzs,I.base.tbls⟩,⟨_,P1,λj y v' F O e3=>?_⟩,λy c e=>?_,I.free,I.freeC,λp hp=>?_,g ⟨oL,N1,I.free⟩ hs,by simpa using I.len⟩ ⟨_,hs,.inl rfl⟩
  .exact (hs.2 b (bS (fh (br e) I.ok.above))).trans (I.base.keep b o e n Y G)
  .obtain⟨sl,F⟩:=I.base.slot b o e n Y G;exact⟨sl,(hs.2 b (bS (fh (br e) I.ok.above))).trans F⟩
  .obtain⟨o',F⟩:=I.base.there b o e G;exact⟨o',(hs.2 b (bS (fh (br e) I.ok.above))).trans F⟩
  .by_cases U:j=i
   .subst U;rw[hi] at F;cases F;rw[mo T] at O;cases O;exact⟨u,r,.inl ⟨S,by simp⟩⟩
   .rw[hV (ci U)] at O;obtain⟨u',r',q⟩:=hl j y v' F O e3;refine⟨u',r',?_⟩
    rcases q with ⟨k,e⟩ | ⟨k,c,e,z⟩
    .refine .inl ⟨k,?_⟩;have:y≠x:=λe=>U (hN _ _ (e▸F) hi);simp[this,e]
    .exact .inr ⟨k,c,e,z.sameBut hs (cne y c e)⟩
  .obtain⟨w',z⟩:=I.cell y c e;exact⟨w',z.sameBut hs (cne y c e)⟩
  .obtain⟨e,n,ne,nf,d⟩:=I.pin p hp;exact⟨(hs.2 p.1 ne).trans e,n,ne,nf,d⟩
 .have W:X.fn x=O1:=by
   rcases hf with z | z
   .exact z
   .rw[z] at S;cases S
  obtain⟨c,J⟩:=I.ok.has x (.inl S);obtain⟨w',z⟩:=I.cell x c J;refine wpAny_storeName_cell I.ok.kind S J z (λh' X0 hs=>?_);obtain⟨oc,N0,Z⟩:=id z;refine h { s with heap:=h' } ⟨I.ok,I.os,I.bare,⟨λb o e n Y G=>?_,λb o e n Y G=>?_,I.base.free,λb o e G=>?_,I.base.tups,I.base.frzs,I.base.tbls⟩,⟨m,hn.sameBut hs (ci (cne x c J)),λj y v' F O e3=>?_⟩,λy c' e=>?_,I.free,I.freeC,λp hp=>?_,g ⟨oc,N0,I.freeC x c J⟩ hs,by simpa using I.len⟩ ⟨c,hs,.inr J⟩
  .exact (hs.2 b (bS (fh (br e) (I.ok.cab x c W J)))).trans (I.base.keep b o e n Y G)
  .obtain⟨sl,F⟩:=I.base.slot b o e n Y G;exact⟨sl,(hs.2 b (bS (fh (br e) (I.ok.cab x c W J)))).trans F⟩
  .obtain⟨o',F⟩:=I.base.there b o e G;exact⟨o',(hs.2 b (bS (fh (br e) (I.ok.cab x c W J)))).trans F⟩
  .by_cases U:j=i
   .subst U;rw[hi] at F;cases F;rw[mo T] at O;cases O;exact⟨u,r,.inr ⟨.inl S,c,J,X0⟩⟩
   .rw[hV (ci U)] at O;obtain⟨u',r',q⟩:=hl j y v' F O e3;refine⟨u',r',?_⟩
    rcases q with q | ⟨k,c',e,z'⟩
    .exact .inl q
    .refine .inr ⟨k,c',e,z'.sameBut hs ?_⟩;rintro rfl;exact U (hN _ _ (I.ok.inj _ _ _ e J▸F) hi)
  .by_cases T0:c'=c
   .subst T0;exact⟨_,X0⟩
   .obtain⟨w2,z2⟩:=I.cell y c' e;exact⟨w2,z2.sameBut hs T0⟩
  .obtain⟨e,n,ne,nf,d⟩:=I.pin p hp;refine⟨(hs.2 p.1 ?_).trans e,n,ne,nf,d⟩;intro q;rw[q,N0] at e;have q':oc=p.2:=cS e;exact d w' (by rw[<-q'];exact Z)
def Vm{A:aT}{v:V}{Q:Unit->ai->Prop}(I:Inv X π σ H s)(J:X.N.Nodup)(G:X.N[i]?=O0 x)(z:Loc X.env.scope x)(r:cc v u)(h:∀g,Inv X π (σ.set i (O0 v)) H g->(∃a,ff a s.heap g.heap/\(a=X.env.locals∨X.env.cells.lookup x=O0 a))->Q () g)(F:X.fn x=O1∨X.env.scope.names.lookup x=O0 .local :=by first | exact .inl rfl | exact .inr rfl | assumption):ah M A (storeName X.env x u) Q E s:=Tg I (zx J) G z r h F
def YJ{A:aT}{v:V}{Q:Unit->ai->Prop}(I:Inv X π σ H s)(J:X.N.Nodup)(G:X.N[i]?=O0 x)(z:Loc X.env.scope x)(r:cc v u)(h:∀g,Inv X π (σ.set i (O0 v)) H g->Q () g)(F:X.fn x=O1∨X.env.scope.names.lookup x=O0 .local :=by first | exact .inl rfl | exact .inr rfl | assumption):ah M A (storeName X.env x u) Q E s:=
 Vm I J G z r (λg L _=>h g L) F
theorem Inv.call'{s':ai}(I:Inv X π σ H s)(F:s'.os=s.os)(u:Un (frs X.stack) ch H H' s.heap s'.heap)(v:Qr X.prog X.w H' s'.heap)(W:ng s'.gens)(G:∀b∈ch,(b∈X.ex∨X.s₀.heap.objs.size<=b)/\b≠X.env.locals/\(∀x c,X.env.cells.lookup x=O0 c->c≠b)/\∀p∈X.pn++π,p.1≠b):Inv X π σ H' s':=by
 obtain⟨L,r,z,g,J⟩:=s';have e:J=s.os:=F;subst e;exact I.call (g':=r) (t':=g) (d':=z) u v W G
end
abbrev XK:=ac->Option Addr->Hp->Prop
abbrev St:=List (Option V)
abbrev VK:=V->Hp->Prop
abbrev TE:=St->Hp->VK->Prop
abbrev TT:=St->Hp->(Bool->Hp->Prop)->Prop
abbrev TA:=St->Hp->(List V->Hp->Prop)->Prop
structure SL where
 nx:St->Hp->Prop
 rt:VK
 bk:St->Hp->Prop:=λ_ _=>False
 ct:St->Hp->Prop:=λ_ _=>False
abbrev TS:=SL->St->Hp->Prop
def EP(X:Cx)(z:NU)(r:St)(Q:VK)(u:ac)(F:ai):Prop:=∃v g,Inv X z r g F/\cc v u/\Q v g
def TP(X:Cx)(z:NU)(r:St)(Q:Bool->Hp->Prop)(b:Bool)(v:ai):Prop:=∃g,Inv X z r g v/\Q b g
def AP(X:Cx)(z:NU)(r:St)(Q:List V->Hp->Prop)(us:List ac)(v:ai):Prop:=∃vs g,Inv X z r g v/\fc vs us/\Q vs g
def SP(X:Cx)(z:NU)(D:SL)(f:Flow)(F:ai):Prop:=
 match f with
 |.next=>∃g r,Inv X z g r F/\D.nx g r
 |.brk=>∃g r,Inv X z g r F/\D.bk g r
 |.cont=>∃g r,Inv X z g r F/\D.ct g r
 |.ret u=>∃v g r,Inv X z g r F/\cc v u/\D.rt v r
def PE(X:Cx)(e:Expr)(t:TE):Prop:=
 ∀(z:NU) (s:ai) (r:St) (H:Hp) (Q:VK),Inv X z r H s->t r H Q->ah (av X.prog X.w) X.A (eval e X.env) (EP X z r Q) X.xe s
def PT(X:Cx)(e:Expr)(t:TT):Prop:=
 ∀(z:NU) (s:ai) (r:St) (H:Hp) (Q:Bool->Hp->Prop),Inv X z r H s->t r H Q->ah (av X.prog X.w) X.A (oj e X.env (eval e X.env)) (TP X z r Q) X.xe s
def PW(X:Cx)(e:Expr)(t:TT):Prop:=
 ∀(whole:Sem ac) (z:NU) (s:ai) (r:St) (H:Hp) (Q:Bool->Hp->Prop),Inv X z r H s->t r H Q->ah (av X.prog X.w) X.A (oj e X.env whole) (TP X z r Q) X.xe s
def PW.pt{X:Cx}{t:TT}(h:PW X e t):PT X e t:=h _
def PA(X:Cx)(es:List Expr)(t:TA):Prop:=
 ∀(g:Pos) (z:NU) (s:ai) (r:St) (H:Hp) (Q:List V->Hp->Prop),Inv X z r H s->t r H Q->ah (av X.prog X.w) X.A (spliced (da g (ay es X.env))) (AP X z r Q) X.xe s
def PS(X:Cx)(st:Stmt)(t:TS):Prop:=
 ∀(z:NU) (s:ai) (r:St) (H:Hp) (D:SL),Inv X z r H s->t D r H->ah (av X.prog X.w) X.A (exec st X.env) (SP X z D) X.xe s
def UP(X:Cx)(st:List Stmt)(t:TS):Prop:=
 ∀(z:NU) (s:ai) (r:St) (H:Hp) (D:SL),Inv X z r H s->t D r H->ah (av X.prog X.w) X.A (jS st X.env) (SP X z D) X.xe s
def lu{g:Type}{t:Sem g}{Q r:g->ai->Prop}{A:aT}(h:ah M A t Q E s)(v:∀a s,Q a s->r a s):ah M A t r E s:=hZ h v λ_ _ x=>x
section
variable {X:Cx}
def TL(i:Nat):TE:=λr H Q=>∃v,r[i]?=O0 (O0 v)/\Q v H
def tC(v:V):TE:=λ_ H Q=>Q v H
def Zr(Z:X.N[i]?=O0 x)(T:XU X.env.scope x)(G:(x==("__debug__":Str))=O2:=by decide)(J:(x==("__classdict__":Str))=O2:=by decide):PE X (.Name x pos) (TL i):=by
 intro S s O H Q I h;obtain⟨v,e,h⟩:=h;obtain⟨m,U,Y⟩:=I.loc;obtain⟨u,r,l⟩:=Y i x v Z e T;have F:EP X S O Q u s:=⟨v,H,I,r,h⟩
 rcases l with ⟨z,W⟩ | ⟨z,c,L,g⟩
 .exact sT (GS I.ok.kind z U W F) G
 .rcases z with z | z
  .exact sT (GT I.ok.kind z L g F) G
  .exact sT (GU I.ok.kind z L g F J) G
def xU{i j pos}:PE X (.Constant (.int i) j pos) (tC (.int i)):=λ_ _ _ H _ I h=>C7 ⟨.int i,H,I.tok _,⟨_,rfl⟩,h⟩
def zy{b j pos}:PE X (.Constant (.bool b) j pos) (tC (.bl b)):=λ_ _ _ H _ I h=>Constant_bool ⟨.bl b,H,I,rfl,h⟩
def xV{j pos}:PE X (.Constant .none j pos) (tC .non):=λ_ _ _ H _ I h=>C8 ⟨.non,H,I,rfl,h⟩
def xW{x j pos}:PE X (.Constant (.str x) j pos) (tC (.str x)):=λ_ _ _ H _ I h=>Calls.Constant_str ⟨.str x,H,I.tok _,⟨_,rfl⟩,h⟩
def Gl(X:Cx)(x:Str):Prop:=X.env.kindOf x=O0 .globalImplicit
def Wa{r:St}{H:Hp}(I:Inv X π r H s)(W:Gl X x)(v:X.mg x=O0 u)(h:Q u s)(z:(x==("__debug__":Str))=O2:=by decide):ah (av X.prog X.w) X.A (eval (.Name x pos) X.env) Q E s:=
 GV I.ok.kind W (Calls.loadGlobal_global (by rw[I.ok.glob];exact I.mod.glob.keeps I.bk) v h) z
def Qs{r:St}{H:Hp}(I:Inv X π r H s)(W:Gl X x)(z:X.mg x=W1)(g:d4 x=O0 u)(h:Q u s)(v:x≠"__name__":=by decide)(F:(x==("__debug__":Str))=O2:=by decide):ah (av X.prog X.w) X.A (eval (.Name x pos) X.env) Q E s:=by
 obtain⟨L,J,G⟩:=I.mod.blt;exact GV I.ok.kind W (Calls.loadGlobal_builtin (by rw[I.ok.glob];exact I.mod.glob.keeps I.bk) z (by rw[I.ok.blt];exact J.keeps I.bk) ((G x v).trans g) h) F
def Kr{v:V}(W:Gl X x)(g:X.mg x=O0 u)(r:cc v u)(z:(x==("__debug__":Str))=O2:=by decide):PE X (.Name x pos) (tC v):=
 λ_ _ _ H _ I h=>Wa I W g ⟨v,H,I,r,h⟩ z
def rB{v:V}(W:Gl X x)(F:X.mg x=W1)(g:d4 x=O0 u)(r:cc v u)(z:x≠"__name__":=by decide)(G:(x==("__debug__":Str))=O2:=by decide):PE X (.Name x pos) (tC v):=
 λ_ _ _ H _ I h=>Qs I W F g ⟨v,H,I,r,h⟩ z G
def t2I(g v:TE)(k:Int->Int->Hp->Prop):St->Hp->Prop:=λr H=>g r H λx F=>v r F λy z=>∃i j,x=.int i/\y=.int j/\k i j z
variable {a b:Expr}{ta tb:TE}
def PC(X:Cx)(op:kz)(a b:Expr)(t:TE):Prop:=
 ∀(z:NU) (s:ai) (r:St) (H:Hp) (Q:VK),Inv X z r H s->t r H Q ->
  ah (av X.prog X.w) X.A (eval a X.env) (λv g=>ah (av X.prog X.w) X.A (eval b X.env) (λu G=>ah (av X.prog X.w) X.A (db op v u) (EP X z r Q) X.xe G) X.xe g) X.xe s
def YK(b:Expr){op:kz}(h:op≠.In)(g:op≠.NotIn):fw op b=O2:=by
 have v:(op==CmpOp.In)=O2:=by cases op<;>first | rfl | exact XI rfl h
 have r:(op==GW)=O2:=by cases op<;>first | rfl | exact XI rfl g
 cases b<;>simp[fw,v,r]
def tCmp(p:Int->Int->Bool)(g v:TE):TE:=λr H Q=>t2I g v (λi j z=>Q (.bl (p i j)) z) r H
abbrev tLt:TE->TE->TE:=tCmp λi j=>decide (i<j)
abbrev tGt:TE->TE->TE:=tCmp λi j=>decide (j<i)
abbrev tGe:TE->TE->TE:=tCmp λi j=>decide (j<=i)
def tIsN(g:TE):TE:=λr H Q=>g r H λx F=>Q (.bl (decide (x=.non))) F
def zz(g:TE):TE:=λr H Q=>g r H λx F=>Q (.bl (!decide (x=.non))) F
def cc.none_iff{x:V}{v:ac}(r:cc x v):(v==fF)=decide (x=.non):=by
 cases x with
 |non=>cases r;rfl
 |bl _=>cases r;rfl
 |int _=>obtain⟨t,rfl⟩:=r;rfl
 |str _=>obtain⟨t,rfl⟩:=r;rfl
 |byt _=>obtain⟨t,rfl⟩:=r;rfl
 |flt _=>obtain⟨t,rfl⟩:=r;rfl
 |ref _=>cases r;rfl
 |ty _=>cases r;rfl
def jH{j pos'}(F:PE X a ta):PC X .Is a (.Constant .none j pos') (tIsN ta):=by
 intro z s r H Q I h;refine lu (F z s r H _ I h) λv L q0=>?_;obtain⟨x,J,G,g,q1⟩:=q0;exact C8 (is_none_gen ⟨.bl _,J,G,by rw[g.none_iff];rfl,q1⟩)
def rC{j pos'}(F:PE X a ta):PC X .IsNot a (.Constant .none j pos') (zz ta):=by
 intro z s r H Q I h;refine lu (F z s r H _ I h) λv L q9=>?_;obtain⟨x,J,G,g,q1⟩:=q9;exact C8 (isnot_none_gen ⟨.bl _,J,G,by rw[g.none_iff];rfl,q1⟩)
def tB(t:TE):TT:=λr H Q=>t r H λx F=>∃c,x=.bl c/\Q c F
def xX{op:kz}{t:TE}(h:PC X op a b t)(h1:fw op b=O2:=by first | exact YK _ .(2) .(2) | rfl):PE X (.Compare a [op] [b] pos) t:=λz s r H Q I g=>wpAny_Compare1 (h z s r H Q I g) h1
def jJ{op:kz}{t:TE}(h:PC X op a b t)(h1:fw op b=O2:=by first | exact YK _ .(2) .(2) | rfl):PT X (.Compare a [op] [b] pos) (tB t):=by
 intro z s r H Q I F;refine t5 (lu (h z s r H _ I F) λv T h1=>lu h1 λu S G=>lu G λc O p0=>?_) h1;obtain⟨x,L,J,g,q1⟩:=p0;obtain⟨d,rfl,q⟩:=q1;cases g;exact jI ⟨L,J,q⟩
variable {tA tB':TT}{hQ:List Expr}
def tAnd(t u:TT):TT:=λr H Q=>t r H λc F=>if c=O1 then u r F Q else Q O2 F
def tOr(t u:TT):TT:=λr H Q=>t r H λc F=>if c=O1 then Q O1 F else u r F Q
def tNot(t:TT):TT:=λr H Q=>t r H λc F=>Q (!c) F
def rD(g:PT X a tA):PW X (.BoolOp .And [a] pos) tA:=by
 intro v z s r H Q I h;refine tf (lu (g z s r H Q I h) λc F e=>?_);cases c with
 |true=>exact C9 e
 |false=>exact e
def jK(g:PT X a tA):PW X (.BoolOp .Or [a] pos) tA:=by
 intro v z s r H Q I h;refine isTrue_or (lu (g z s r H Q I h) λc F e=>?_);cases c with
 |false=>exact isTrue_or_nil e
 |true=>exact e
def xZ(L:PT X a tA)(J:PW X (.BoolOp .And (b::hQ) pos) tB'):PW X (.BoolOp .And (a::b::hQ) pos) (tAnd tA tB'):=by
 intro v z s r H Q I h;refine tf (lu (L z s r H _ I h) λc g p9=>?_);obtain⟨F,G,q1⟩:=p9;cases c with
 |true=>exact J v z g r F Q G q1
 |false=>exact⟨F,G,q1⟩
def vP(L:PT X a tA)(J:PW X (.BoolOp .Or (b::hQ) pos) tB'):PW X (.BoolOp .Or (a::b::hQ) pos) (tOr tA tB'):=by
 intro v z s r H Q I h;refine isTrue_or (lu (L z s r H _ I h) λc g g0=>?_);obtain⟨F,G,q1⟩:=g0;cases c with
 |true=>exact⟨F,G,q1⟩
 |false=>exact J v z g r F Q G q1
def xf(g:PT X a tA):PT X (.UnaryOp .Not a pos) (tNot tA):=by
 intro z s r H Q I h;exact Cb (g z s r H (λc F=>Q (!c) F) I h)
def z_(g v:TE):TE:=λr H Q=>g r H λx F=>∃c,x=.bl c/\if c=O1 then v r F Q else Q (.bl O2) F
def tOrV(g v:TE):TE:=λr H Q=>g r H λx F=>∃c,x=.bl c/\if c=O1 then Q (.bl O1) F else v r F Q
def AAG(g:TE):TE:=λr H Q=>g r H λx F=>∃c,x=.bl c/\Q (.bl (!c)) F
def xg{op}{t:TE}(h:PE X a t):PE X (.BoolOp op [a] pos) t:=λz s r H Q I g=>BoolOp_one (h z s r H Q I g)
def xj(O:PE X a ta)(L:PE X (.BoolOp .And (b::hQ) pos) tb):PE X (.BoolOp .And (a::b::hQ) pos) (z_ ta tb):=by
 intro z s r H Q I h;refine BoolOp_and (lu (O z s r H _ I h) λv g g9=>?_);obtain⟨x,F,G,J,q1⟩:=g9;obtain⟨c,rfl,q1⟩:=q1;cases J;refine jI ?_;cases c with
 |true=>exact L z g r F Q G q1
 |false=>exact⟨.bl O2,F,G,rfl,q1⟩
def AAH(O:PE X a ta)(L:PE X (.BoolOp .Or (b::hQ) pos) tb):PE X (.BoolOp .Or (a::b::hQ) pos) (tOrV ta tb):=by
 intro z s r H Q I h;refine BoolOp_or (lu (O z s r H _ I h) λv g u0=>?_);obtain⟨x,F,G,J,q1⟩:=u0;obtain⟨c,rfl,q1⟩:=q1;cases J;refine jI ?_;cases c with
 |false=>exact L z g r F Q G q1
 |true=>exact⟨.bl O1,F,G,rfl,q1⟩
def xm(F:PE X a ta):PE X (.UnaryOp .Not a pos) (AAG ta):=by
 intro z s r H Q I h;refine UnaryOp_ (lu (F z s r H _ I h) λv L v0=>?_);obtain⟨x,J,G,g,q1⟩:=v0;obtain⟨c,rfl,q1⟩:=q1;cases g;exact not_of (jI ⟨.bl (!c),J,G,rfl,q1⟩)
def tIf(t:TT)(g v:TE):TE:=λr H Q=>t r H λc F=>if c=O1 then g r F Q else v r F Q
def jL{c:Expr}(J:PT X c tA)(L:PE X a ta)(v:PE X b tb):PE X (.IfExp c a b pos) (tIf tA ta tb):=by
 intro z s r H Q I h;refine wpAny_IfExp (lu (J z s r H _ I h) λd g w0=>?_);obtain⟨F,G,q1⟩:=w0;cases d with
 |true=>exact L z g r F Q G q1
 |false=>exact v z g r F Q G q1
end
def NS(K:aS)(H:Hp)(a:Addr)(xs:List V):Prop:=
 Rd H a (.lst xs) ∨
  ∃(o:Obj) (g:Array ac) (n:Nat),K.lookup a=O0 o/\o.cls=.type "list"/\o.dict=W1/\o.data=.seq g n/\g.size<=sizeLine/\fc xs g.toList
def NO(K:aS)(H:Hp)(a:Addr)(xs:List V):Prop:=
 Rd H a (.tup xs) ∨
  ∃(o:Obj) (g:Array ac) (n:Nat),K.lookup a=O0 o/\o.cls=.type "tuple"/\o.data=.seq g n/\g.size<=sizeLine/\fc xs g.toList
def absV:ac->Option V
 |.none=>O0 .non
 |.bool b=>O0 (.bl b)
 |.int i _=>O0 (.int i)
 |.str x _=>O0 (.str x)
 |.bytes b _=>O0 (.byt b)
 |.float b _=>O0 (.flt b)
 |.ref a=>O0 (.ref a)
 |.type n=>O0 (.ty n)
 |_=>W1
def cc.abs{x:V}(r:cc x u):absV u=O0 x:=by
 cases x with
 |non=>cases r;rfl
 |bl _=>cases r;rfl
 |int _=>obtain⟨t,rfl⟩:=r;rfl
 |str _=>obtain⟨t,rfl⟩:=r;rfl
 |byt _=>obtain⟨t,rfl⟩:=r;rfl
 |flt _=>obtain⟨t,rfl⟩:=r;rfl
 |ref _=>cases r;rfl
 |ty _=>cases r;rfl
def cc.inj{x y:V}{u:ac}(r:cc x u)(q:cc y u):x=y:=cS (r.abs.symm.trans q.abs)
theorem fc.inj:∀{xs g:List V}{us:List ac},fc xs us->fc g us->xs=g
 |_,_,_,.nil,.nil=>rfl
 |_,_,_,.cons r t,.cons O v=>by rw[r.inj O,fc.inj t v]
section
variable {X:Cx}{H:Hp}{xs ys:List V}
def NS.of{K:aS}(h:H a=O0 (.lst xs)):NS K H a xs:=.inl (.inl h)
def NO.of{K:aS}(h:H a=O0 (.tup xs)):NO K H a xs:=.inl (.inl h)
def Inv.list(I:Inv X π σ H s)(h:NS X.K H a xs):∃its:List ac,fc xs its/\PlainL s.heap a its.toArray/\xs.length<=sizeLine:=by
 rcases h with h | ⟨o,its,n,g,J,v,hs,O,r⟩
 .obtain⟨z,its,n,r,e⟩:=h.ok I.hok;exact⟨its,r,⟨_,n,e,rfl,rfl,rfl⟩,z⟩
 .refine⟨its.toList,r,⟨o,n,I.kIn a o g,J,v,by simpa using hs⟩,?_⟩;have e:=r.length;simp only[gE] at e;omega
def Inv.tuple(I:Inv X π σ H s)(h:NO X.K H a xs):∃its:List ac,fc xs its/\IsTup s.heap a its.toArray/\xs.length<=sizeLine:=by
 rcases h with h | ⟨o,its,n,g,J,hs,O,r⟩
 .obtain⟨z,its,r,p⟩:=h.ok I.hok;exact⟨its,r,p,z⟩
 .refine⟨its.toList,r,⟨o,I.kIn a o g,J,n,by simpa using hs⟩,?_⟩;have e:=r.length;simp only[gE] at e;omega
def Inv.list_inj(I:Inv X π σ H s)(h:NS X.K H a xs)(h':NS X.K H a ys):xs=ys:=by
 obtain⟨g,r,⟨o,n,e,_,_,d⟩,_⟩:=I.list h;obtain⟨its',v,⟨J,G,O,_,_,z⟩,_⟩:=I.list h';rw[e] at O;cases O;rw[d] at z;injection z with F _
 have:g=its':=by simpa using NJ Cc F
 subst this;exact r.inj v
def Inv.tuple_inj(I:Inv X π σ H s)(h:NO X.K H a xs)(h':NO X.K H a ys):xs=ys:=by
 obtain⟨g,r,⟨o,e,_,n,d⟩,_⟩:=I.tuple h;obtain⟨its',v,⟨J,O,_,G,z⟩,_⟩:=I.tuple h';rw[e] at O;cases O;rw[d] at z;injection z with F _
 have:g=its':=by simpa using NJ Cc F
 subst this;exact r.inj v
end
abbrev Cx.wish (X:Cx) (E:ac->ai->Prop):Cx:={ X with xe:=E }
abbrev Cx.nox (X:Cx):Cx:=X.wish λ_ _=>False
theorem Cx.Ok.wish{X:Cx}(ok:X.Ok)(E:ac->ai->Prop):(X.wish E).Ok:=
 ⟨ok.mod,ok.kind,ok.glob,ok.blt,ok.above,ok.inj,ok.has,ok.cab,ok.hd,ok.frames,ok.stk,ok.exf,ok.bs,ok.bsz,ok.noex,ok.exfs,ok.funs,ok.frf⟩
def Cx.Ok.unwish{X:Cx}(ok:(X.wish E).Ok):X.Ok:=
 ⟨ok.mod,ok.kind,ok.glob,ok.blt,ok.above,ok.inj,ok.has,ok.cab,ok.hd,ok.frames,ok.stk,ok.exf,ok.bs,ok.bsz,ok.noex,ok.exfs,ok.funs,ok.frf⟩
section
variable {X:Cx}{H:Hp}
theorem Inv.wish(I:Inv X π σ H s)(E:ac->ai->Prop):Inv (X.wish E) π σ H s:=⟨I.ok.wish E,I.os,I.bare,I.base,I.loc,I.cell,I.free,I.freeC,I.pin,I.hok,I.len⟩
theorem Inv.unwish(I:Inv (X.wish E) π σ H s):Inv X π σ H s:=⟨I.ok.unwish,I.os,I.bare,I.base,I.loc,I.cell,I.free,I.freeC,I.pin,I.hok,I.len⟩
theorem SP.unwish{D:SL}{f:Flow}{s':ai}(h:SP (X.wish E) π D f s'):SP X π D f s':=by
 cases f with
 |next=>obtain⟨g,z,I,q⟩:=h;exact⟨g,z,I.unwish,q⟩
 |brk=>obtain⟨g,z,I,q⟩:=h;exact⟨g,z,I.unwish,q⟩
 |cont=>obtain⟨g,z,I,q⟩:=h;exact⟨g,z,I.unwish,q⟩
 |ret u=>obtain⟨v,g,z,I,r,q⟩:=h;exact⟨v,g,z,I.unwish,r,q⟩
theorem UP.nox{st:List Stmt}{t:TS}(h:UP X.nox st t):UP X st t:=λg s r H D I v=>
 hZ (h g s r H D (I.wish _) v) (λ_ _ q=>q.unwish) λ_ _ z=>ka z
end
section
variable {X:Cx}{hQ:List Stmt}{t u:TS}{te:TE}
def AAL:TS:=λD r H=>D.nx r H
def tSeq(t u:TS):TS:=λD r H=>t { D with nx:=u D } r H
def Jq:UP X [] AAL:=λ_ _ r H _ I h=>kA ⟨r,H,I,h⟩
def MJ(h1:PS X st t)(G:UP X hQ u):UP X (st::hQ) (tSeq t u):=by
 intro z s r H D I h;refine kX (lu (h1 z s r H { D with nx:=u D } I h) λf F q=>?_);cases f with
 |next=>
  obtain⟨g,J,L,q⟩:=q;exact G z F g J D L q
 |ret v=>exact q
 |brk=>exact q
 |cont=>exact q
def Wb(h1:PS X st t):UP X [st] t:=by
 intro z s r H D I h;refine kX (lu (h1 z s r H D I h) λf g q=>?_);cases f with
 |next=>exact kA q
 |ret v=>exact q
 |brk=>exact q
 |cont=>exact q
def Inv.quiet{r:St}{H:Hp}(I:Inv X π r H s):interactive X.env=O2:=by simp[interactive,I.ok.kind]
def AAP(te:TE):TS:=λD r H=>te r H λ_ F=>D.nx r F
def Wc(g:PE X e te)(hs:eP e W1 pos.line X.env=pure O2:=by rfl):PS X (.Expr e pos) (AAP te):=by
 intro z s r H D I h;exact wpAny_Expr_any (lu (g z s r H _ I h) (by rintro v J ⟨x,F,G,L,q1⟩;exact ⟨r,F,G,q1⟩)) I.quiet hs
def tRet(te:TE):TS:=λD r H=>te r H D.rt
def jM(F:PE X e te):PS X (.Return (O0 e) pos) (tRet te):=by
 intro z s r H D I h;exact A6 (lu (F z s r H _ I h) (by rintro v L ⟨x,J,G,g,q1⟩;exact ⟨x,r,J,G,g,q1⟩))
def tIfS(c:TT)(t u:TS):TS:=λD r H=>c r H λb F=>if b=O1 then t D r F else u D r F
def jN{c:Expr}{a b:List Stmt}{tc:TT}(J:PT X c tc)(L:UP X a t)(v:UP X b u):PS X (.If c a b pos) (tIfS tc t u):=by
 intro z s r H D I h;refine w9 (lu (J z s r H _ I h) λd g q0=>?_);obtain⟨F,G,q1⟩:=q0;cases d with
 |true=>exact L z g r F D G q1
 |false=>exact v z g r F D G q1
end
abbrev TG:=V->St->Hp->(St->Hp->Prop)->Prop
abbrev TGs:=List V->St->Hp->(St->Hp->Prop)->Prop
def PG(X:Cx)(g:Expr)(t:TG):Prop:=
 ∀(F:NU) (s:ai) (z:St) (H:Hp) (v:V) (u:ac) (Q:St->Hp->Prop),Inv X F z H s->cc v u->t v z H Q ->
  ah (av X.prog X.w) X.A (mB g X.env u) (λ_ I=>∃r G,Inv X F r G I/\Q r G) X.xe s
def PGs(X:Cx)(F:List Expr)(t:TGs):Prop:=
 ∀(z:NU) (s:ai) (r:St) (H:Hp) (vs:List V) (us:List ac) (Q:St->Hp->Prop),Inv X z r H s->fc vs us->t vs r H Q ->
  ah (av X.prog X.w) X.A (assignInOrder ((i8 F X.env).map (·.2)) us) (λ_ G=>∃g v,Inv X z g v G/\Q g v) X.xe s
section
variable {X:Cx}
def Ft(i:Nat):TG:=λv r H Q=>Q (r.set i (O0 v)) H
def rF(F:X.N.Nodup)(G:X.N[i]?=O0 x)(g:Loc X.env.scope x)(z:X.fn x=O1∨X.env.scope.names.lookup x=O0 .local :=by first | exact .inl rfl | exact .inr rfl | assumption):PG X (.Name x pos) (Ft i):=by
 intro O s J H v u Q I r h;exact Cf (YJ I F G g r (λS L=>⟨_,H,L,h⟩) z)
def gNil:TGs:=λvs r H Q=>vs=[]/\Q r H
def YL(t:TG)(u:TGs):TGs:=λvs z H Q=>∃v r,vs=v::r/\t v z H λg F=>u r g F Q
def bT:PGs X [] gNil:=by
 intro z s g H F G Q I r h;obtain⟨e,h⟩:=h;subst e;cases r;exact assignInOrder_nil ⟨g,H,I,h⟩
def Th{es:List Expr}{t:TG}{u:TGs}(h1:PG X e t)(L:PGs X es u)(hs:(i8 (e::es) X.env).map (·.2)=mB e X.env::(i8 es X.env).map (·.2):=by rfl):PGs X (e::es) (YL t u):=by
 intro z s F H U W Q I r h;obtain⟨v,vr,O,h⟩:=h;subst O;cases r with
 |cons r J=>
  rw[hs];refine assignInOrder_cons (lu (h1 z s F H _ _ _ I r h) λ_ G q9=>?_);obtain⟨g,T,S,q1⟩:=q9;exact L z G g T _ _ Q S J q1
def gTup(K:aS)(n:Nat)(t:TGs):TG:=λv r H Q=>∃a xs,v=.ref a/\NO K H a xs/\xs.length=n/\t xs r H Q
theorem jO{es:List Expr}{k:Nat}{t:TGs}(Z:X.calm=O1)(h:PGs X es t)(W:(i8 es X.env).length=n:=by rfl)(z:(i8 es X.env).findIdx? (·.1)=W1:=by rfl):PG X (.Tuple es k pos) (gTup X.K n t):=by
 intro G s F H v u Q I r g;obtain⟨a,L,e1,U,Y,g⟩:=g;subst e1;cases r;obtain⟨O,J,T,hz⟩:=I.tuple U;refine assign_Tuple_tuple (I.ok.hd Z) T (by simp[W,<-Y,J.length]) z λh' S=>?_;have I1:Inv X G F H { s with heap:=h' }:=I.kept (t':=s.toks) λb o e=>S b o (bS (br e)) e;exact h G _ F H L _ Q I1 (by simpa using J) g
def WS(te:TE)(g:TG):TS:=λD r H=>te r H λx F=>g x r F D.nx
def jP{te:TE}{g:TG}(L:PE X e te)(W:PG X tg g)(hs:Co [tg] e pos.line X.env=pure O2:=by rfl)(J:Ct [tg] e X.env=pure W1:=by rfl)(h1:(i8 [tg] X.env).map (·.2)=[mB tg X.env]:=by rfl):PS X (.Assign [tg] e pos) (WS te g):=by
 intro z s r H D I h;refine wpAny_Assign_stores (lu (L z s r H _ I h) λv F p0=>?_) hs J;obtain⟨x,S,O,G,q1⟩:=p0;rw[h1];exact lu (W z F r S x v _ O G q1) λ_ T q=>q
def Zt{te:TE}(O:X.N.Nodup)(G:X.N[i]?=O0 x)(F:Loc X.env.scope x)(L:PE X e te)(hs:eP e (O0 (.Name x pos')) pos.line X.env=pure O2:=by rfl)(J:X.fn x=O1∨X.env.scope.names.lookup x=O0 .local :=by first | exact .inl rfl | exact .inr rfl | assumption):
  PS X (.Assign [.Name x pos'] e pos) (WS te (Ft i)):=by
 intro z s r H D I h;refine wpAny_Assign_Name (lu (L z s r H _ I h) λv Y p9=>?_) hs;obtain⟨y,U,T,g,q1⟩:=p9;exact YJ T O G F g (λW S=>⟨_,U,S,q1⟩) J
end
section
variable {X:Cx}
def xn(c:TT)(G:TS):TS:=λD r H=>∃W:Nat->St->Hp->Prop,(∃m,W m r H)/\∀m r H,W m r H ->
 c r H λb F=>if b=O1 then ∃N:St->Hp->Prop,(∀g z,N g z->∃v,v<m/\W v g z)/\G { D with nx:=N,ct:=N,bk:=D.nx } r F else D.nx r F
def YM{c:Expr}{tc:TT}{U:TS}(Y:qV (av X.prog X.w) X.A X.env X.xe)(hc:PT X c tc)(hb:UP X body U):PS X (.While c body [] pos) (xn tc U):=by
 intro J s σ H D I h;obtain⟨W,⟨m0,w0⟩,F⟩:=h;refine wpAny_While (codeAny_whileLoop (λn s'=>∃z H',Inv X J z H' s'/\W n z H') ?_ m0 ⟨σ,H,I,w0⟩);rintro n s1 ⟨r,H1,I1,w1⟩;refine rb Y (lu (hc J s1 r H1 _ I1 (F n r H1 w1)) λb s2 g0=>?_);obtain⟨H2,I2,q2⟩:=g0;cases b with
 |true=>
  obtain⟨N,Z,q2⟩:=q2;rw[VI rfl];refine rb Y (lu (hb J s2 r H2 _ I2 q2) λf s3 q3=>?_);cases f with
  |next=>
   obtain⟨g,G,T,n3⟩:=q3;obtain⟨O,S,L⟩:=Z g G n3;exact⟨O,S,g,G,T,L⟩
  |cont=>
   obtain⟨g,G,T,n3⟩:=q3;obtain⟨O,S,L⟩:=Z g G n3;exact⟨O,S,g,G,T,L⟩
  |brk=>exact q3
  |ret v=>exact q3
 |false=>
  rw[WI d6];exact kA ⟨r,H2,I2,q2⟩
end
structure It where
 go:Nat->Hp->Prop
 yld:Nat->Hp->V->Hp->Prop
 stop:Nat->Hp->Prop
def VX(X:Cx)(z:NU)(H:Hp)(b:Addr):Prop:=
 H b=W1/\b≠X.env.locals/\b∉X.fs/\(b∈X.ex∨X.s₀.heap.objs.size<=b)/\(∀x c,X.env.cells.lookup x=O0 c->c≠b)/\∀p∈X.pn++z,p.1≠b
def Inv.fpOk{X:Cx}{F:St}{H r:Hp}(I:Inv X π F H s)(g:s.heap.objs.size<=b)(J:r b=W1):VX X π r b:=by
 refine⟨J,ol (fh I.lt g),I.nofs g,.inr (de I.sz g),λx c e z=>?_,λp G z=>?_⟩
 .obtain⟨v,q⟩:=I.cell x c e;exact XI (fh q.lt (by rw[z];exact g)) (kx _)
 .exact XI (fh (br (I.pin p G).1) (by rw[z];exact g)) (kx _)
structure XW (P:cy) (w:bE) (K:aS) (tg:Expr) (J:It) (fp:List Addr) (it:Addr) (tn:Nat->Heap->Prop):Prop where
 mem:it∈fp
 obj:∀i h,tn i h->∀b∈fp,∃o,h.get? b=O0 o/\∀v,o.data≠.cell v
 keep:∀i h h',tn i h->(∀b∈fp,∀o,h.get? b=O0 o->h'.get? b=O0 o)->tn i h'
 item:∀(X:Cx),X.prog=P->X.w=w->X.K=K->X.calm=O1->∀(i:Nat) (π:NU) (s:ai) (σ:St) (H:Hp) (E:ac->ai->Prop),Inv X π σ H s->(∀b∈fp,VX X π H b)->tn i s.heap->J.go i H ->
  ah (av P w) X.A (gI (.ref it)) (λr s1=>∃u,r=O0 u ∧
   ah (av P w) X.A (A7 tg (.ref it) u) (λ_ s2=>∃x H',Inv X π σ H' s2/\cc x u/\J.yld i H x H'/\tn (i+1) s2.heap/\∀b∈fp,H' b=W1) E s1) E s
 done:∀(X:Cx),X.prog=P->X.w=w->X.K=K->X.calm=O1->∀(i:Nat) (π:NU) (s:ai) (σ:St) (H:Hp) (E:ac->ai->Prop),Inv X π σ H s->(∀b∈fp,VX X π H b)->tn i s.heap->J.stop i H ->
  ah (av P w) X.A (gI (.ref it)) (λr s1=>r=W1/\Inv X π σ H s1) E s
 self:∀(A:aT) (i:Nat) (s:ai) (Q:ac->ai->Prop) (E:ac->ai->Prop),tn i s.heap->Q (.ref it) s->ah (av P w) A (om (.ref it)) Q E s
abbrev TI:=St->Hp->(It->Hp->Prop)->Prop
def PIE(X:Cx)(z:NU)(F:St)(tg:Expr)(R:It->Hp->Prop)(g:ac)(S:ai):Prop:=
 ∃(it:Addr) (fp:List Addr) (v:Nat->Heap->Prop) (J:It) (r:Hp),g=.ref it/\Inv X z F r S/\XW X.prog X.w X.K tg J fp it v/\v 0 S.heap/\(∀b∈fp,VX X z r b)/\R J r
def PI(X:Cx)(tg g:Expr)(F:TI):Prop:=
 ∀(z:NU) (s:ai) (r:St) (H:Hp) (R:It->Hp->Prop),Inv X z r H s->F r H R ->
  ah (av X.prog X.w) X.A (eval g X.env) (λv G=>ah (av X.prog X.w) X.A (om v) (PIE X z r tg R) X.xe G) X.xe s
def YQ{A:aT}{n:String}{vs:Array ac}{Q:Unit->ai->Prop}(g:s.heap.get? it=O0 o)(J:o.cls=.type n)(z:o.data=.fields vs)(r:["enumerate","zip","dict_itemiterator","dict_reverseitemiterator","odict_iterator","itertools.zip_longest","itertools.pairwise"].contains n=O2)(v:Q () s):ah M A (A7 tg (.ref it) u) Q E s:=by
  unfold A7;cases tg<;>first
    |exact aw v
    | (cases u<;>first
        |exact aw v
        | (refine ag (wa g ?_)
           rw[J,z];show ah M A (if (["enumerate","zip","dict_itemiterator","dict_reverseitemiterator","odict_iterator","itertools.zip_longest","itertools.pairwise"].contains n&&vs[0]?==O0 (fN _))=O1 then _ else _) Q E s;rw[WI (by intro h;rw[r,CA] at h;cases h)];exact aw v))
def Itl(K:aS)(a:Addr):It:=
 ⟨λi H=>∃xs x,NS K H a xs/\xs[i]?=O0 x,λi H x g=>g=H/\∀xs,NS K H a xs->xs[i]?=O0 x,λi H=>∃xs,NS K H a xs/\xs.length<=i⟩
def Itt(K:aS)(a:Addr):It:=
 ⟨λi H=>∃xs x,NO K H a xs/\xs[i]?=O0 x,λi H x g=>g=H/\∀xs,NO K H a xs->xs[i]?=O0 x,λi H=>∃xs,NO K H a xs/\xs.length<=i⟩
def Itr(z:Int)(n:Nat):It:=⟨λi _=>i<n,λi H x g=>g=H/\x=.int (z+i),λi _=>n<=i⟩
theorem gJ{K:aS}(a it:Addr):XW P w K tg (Itl K a) [it] it (λi h=>h.IsListIter it a i) where
 mem:=by simp
 obj:=λi h U b g=>by
  have e:b=it:=by simpa using g
  subst e;obtain⟨o,e,c,d⟩:=U;exact⟨o,e,λv z=>by rw[d] at z;cases z⟩
 keep:=λi h L U k=>U.at λo e=>k it .(1) o e
 item:=by
  intro X hP T Y hc i π s σ H E I G U W;subst hP T Y;obtain⟨xs,x,F,S⟩:=W;obtain⟨O,J,p,hz⟩:=I.list F;obtain⟨u,hu,ru⟩:=J.get S;obtain⟨f0,f1,f2,f3,f4,Z⟩:=G it .(1);refine GY U p.isList (x:=u) (by simpa using hu) λL r sb=>?_;have I1:Inv X π σ H { s with heap:=L }:=I.turned (t':=s.toks) (λb o g e=>(sb.2 b g).trans e) f0 f1 f3 f4 Z;obtain⟨o,e,c,d⟩:=id r;exact⟨u,rfl,YQ (s:={ s with heap:=L }) e c d .(2) ⟨x,H,I1,ru,⟨rfl,λys hy=>by rw[I.list_inj hy F];exact S⟩,r,λb g=>(G b g).1⟩⟩
 done:=by
  intro X hP T Y hc i π s σ H E I G U W;subst hP T Y;obtain⟨xs,F,S⟩:=W;obtain⟨O,J,p,hz⟩:=I.list F;obtain⟨f0,f1,f2,f3,f4,Z⟩:=G it .(1);have hl:=J.length;exact HA (I.ok.hd hc) U p.isList (by simp;omega) λL eb=>⟨rfl,I.turned (t':=s.toks) (λb o g e=>eb b o g e) f0 f1 f3 f4 Z⟩
 self:=λ_ _ _ _ _ U h=>wpAny_pyIter_listiter U h
theorem Zu{K:aS}(a it:Addr):XW P w K tg (Itt K a) [it] it (λi h=>h.IsTupleIter it a i) where
 mem:=by simp
 obj:=λi h U b r=>by
  have e:b=it:=by simpa using r
  subst e;obtain⟨o,e,c,d⟩:=U;exact⟨o,e,λv z=>by rw[d] at z;cases z⟩
 keep:=λi h L U k=>U.at λo e=>k it .(1) o e
 item:=by
  intro X hP T Y hc i π s σ H E I J U W;subst hP T Y;obtain⟨xs,x,G,S⟩:=W;obtain⟨g,O,p,hz⟩:=I.tuple G;obtain⟨u,hu,ru⟩:=O.get S;obtain⟨f0,f1,f2,f3,f4,Z⟩:=J it .(1);refine wpAny_pyNext_tuple_item U (show s.heap.IsTuple a g.toArray from p) (x:=u) (by simpa using hu) λL F sb=>?_;have I1:Inv X π σ H { s with heap:=L }:=I.turned (t':=s.toks) (λb o r e=>(sb.2 b r).trans e) f0 f1 f3 f4 Z;obtain⟨o,e,c,d⟩:=id F;exact⟨u,rfl,YQ (s:={ s with heap:=L }) e c d .(2) ⟨x,H,I1,ru,⟨rfl,λys hy=>by rw[I.tuple_inj hy G];exact S⟩,F,λb r=>(J b r).1⟩⟩
 done:=by
  intro X hP T Y hc i π s σ H E I J U W;subst hP T Y;obtain⟨xs,G,S⟩:=W;obtain⟨g,O,p,hz⟩:=I.tuple G;obtain⟨f0,f1,f2,f3,f4,Z⟩:=J it .(1);have hl:=O.length;exact wpAny_pyNext_tuple_end (I.ok.hd hc) U (show s.heap.IsTuple a g.toArray from p) (by simp;omega) λL eb=>⟨rfl,I.turned (t':=s.toks) (λb o r e=>eb b o r e) f0 f1 f3 f4 Z⟩
 self:=λ_ _ _ _ _ U h=>wpAny_pyIter_tupleiter U h
theorem Zv{K:aS}(it:Addr)(F:Int)(n:Nat):XW P w K tg (Itr F n) [it] it (λi h=>IsRangeIter h it (F+(i:Nat)*1) ((n:Int)-(i:Nat)) 1) where
 mem:=by simp
 obj:=λi h U b g=>by
  have e:b=it:=by simpa using g
  subst e;exact⟨_,U,λv z=>by
   have z':CB _=CC v:=z;cases z'⟩
 keep:=λi h L U k=>k it .(1) _ U
 item:=by
  intro X hP J Y S i π s σ H E I G U O;subst hP J Y;obtain⟨f0,f1,f2,f3,T,Z⟩:=G it .(1);have W:=Walks.range (prog:=X.prog) (w:=X.w) (I.ok.hd S) it F 1 n;refine W.item i s _ _ O U λv L tk hv r kk=>?_;obtain⟨t,rfl⟩:=hv;have I1:Inv X π σ H { s with heap:=L,toks:=tk }:=I.turned (λb o g e=>kk b o (by simpa using g) e) f0 f1 f3 T Z;refine⟨_,rfl,YQ (s:={ s with heap:=L,toks:=tk }) (n:="range_iterator") r rfl rfl .(2) ⟨.int (F+i),H,I1,⟨t,?_⟩,⟨rfl,rfl⟩,r,λb g=>(G b g).1⟩⟩;rw[Int.mul_one]
 done:=by
  intro X hP J Y S i π s σ H E I G U O;subst hP J Y;obtain⟨f0,f1,f2,f3,T,Z⟩:=G it .(1);exact wpAny_pyNext_range_end (I.ok.hd S) U (by have:n<=i:=O;omega) λL eb=>⟨rfl,I.turned (t':=s.toks) (λb o g e=>eb b o g e) f0 f1 f3 T Z⟩
 self:=λ_ _ _ _ _ U h=>wpAny_pyIter_rangeiter U h
section
variable {X:Cx}
def AAQ(K:aS)(g:TE):TI:=λr H R=>g r H λx F=>∃a,x=.ref a/\(∃xs,NS K F a xs)/\R (Itl K a) F
def iTup(K:aS)(g:TE):TI:=λr H R=>g r H λx F=>∃a,x=.ref a/\(∃xs,NO K F a xs)/\R (Itt K a) F
theorem rG{l:Expr}{g:TE}(Y:PE X l g):PI X tg l (AAQ X.K g):=by
 intro F s r H R I h;refine lu (Y F s r H _ I h) λv z q0=>?_;obtain⟨x,S,G,J,q1⟩:=q0;obtain⟨a,e,⟨T,U⟩,q⟩:=q1;subst e;cases J;obtain⟨L,W,p,Z⟩:=G.list U;refine A8 p.isList ?_;refine⟨z.heap.objs.size,[z.heap.objs.size],_,_,S,rfl,G.kept (t':=z.toks) λb o e=>bo _ e,gJ a _,⟨_,ce _ rfl,rfl,rfl⟩,λb O=>?_,q⟩;have e:b=z.heap.objs.size:=by simpa using O
 subst e;exact G.fpOk (aI _) (G.hok.fresh (aI _))
theorem xq{l:Expr}{r:TE}(Y:PE X l r):PI X tg l (iTup X.K r):=by
 intro J s F H R I h;refine lu (Y J s F H _ I h) λv z q9=>?_;obtain⟨x,S,G,L,q1⟩:=q9;obtain⟨a,e,⟨T,U⟩,q⟩:=q1;subst e;cases L;obtain⟨g,W,p,Z⟩:=G.tuple U;refine wb (show z.heap.IsTuple a g.toArray from p) ?_;refine⟨z.heap.objs.size,[z.heap.objs.size],_,_,S,rfl,G.kept (t':=z.toks) λb o e=>bo _ e,Zu a _,⟨_,ce _ rfl,rfl,rfl⟩,λb O=>?_,q⟩;have e:b=z.heap.objs.size:=by simpa using O
 subst e;exact G.fpOk (aI _) (G.hok.fresh (aI _))
theorem jQ{r:St}{H:Hp}{R:It->Hp->Prop}{lo G:Int}{t u v:Tok}{tk:Nat}(I:Inv X π r H s)(h1 : -(2^62)<=lo)(J:lo<2^62)(T : -(2^62)<=G)(F:G<2^62)(q:R (Itr lo (G-lo).toNat) H):ah (av X.prog X.w) X.A (om (.ref s.heap.objs.size)) (PIE X π r tg R) E { s with heap:=s.heap.push { cls:=.type "range",data:=.fields #[.int lo t,.int G u,.int 1 v] },toks:=tk }:=by
 refine wpAny_pyIter_range (IsRange.new ..) (small_one h1 J T F) ?_;have g:Inv X π r H { s with heap:=s.heap.push { cls:=.type "range",data:=.fields #[.int lo t,.int G u,.int 1 v] },toks:=tk }:=I.kept λb o e=>bo _ e;refine⟨(s.heap.push { cls:=.type "range",data:=.fields #[.int lo t,.int G u,.int 1 v] }).objs.size,[(s.heap.push { cls:=.type "range",data:=.fields #[.int lo t,.int G u,.int 1 v] }).objs.size],_,_,H,rfl,
  g.kept (t':=tk) λb o e=>bo _ e,Zv _ lo (G-lo).toNat,?_,λb z=>?_,q⟩
 .have O:lo+((0:Nat):Int)*1=lo:=by simp
  have L:(((G-lo).toNat:Nat):Int)-((0:Nat):Int)=HC lo G 1:=by rw[rangeSize_one];split<;>omega
  show IsRangeIter _ _ (lo+((0:Nat):Int)*1) ((((G-lo).toNat:Nat):Int)-((0:Nat):Int)) 1;rw[O,L];exact ce _ rfl
 .have e:b=(s.heap.push { cls:=.type "range",data:=.fields #[.int lo t,.int G u,.int 1 v] }).objs.size:=by simpa using z
  subst e;exact g.fpOk (aI _) (g.hok.fresh (aI _))
def AAR(g:TA):TI:=λr H R=>g r H λvs F=>∃j:Int,vs=[.int j]/\-(2^62)<=j/\j<2^62/\R (Itr 0 j.toNat) F
def gK{a:Expr}{g:TA}{p:Pos}(W:Gl X "range")(G:X.mg "range"=W1)(L:PA X [a] g)(hs:ay [a] X.env=[(O2,eval a X.env)]:=by rfl):PI X tg (.Call (.Name "range" p) [a] [] pos) (AAR g):=by
 intro z s v H R I h;refine Call_ (Qs I W G boot_range (CD (lu (L pos z s v H _ I h) λT U p0=>?_) hs rfl));obtain⟨S,Y,O,F,q1⟩:=p0;obtain⟨j,e,q1,q2,q⟩:=q1;subst e;cases F with
 |cons r J=>
  cases J;obtain⟨t,rfl⟩:=r;exact call_range_1 (jQ O .(0) .(0) q1 q2 (by simpa using q))
def tFor(I:TI)(g:TG)(L:TS):TS:=λD r H=>I r H λJ S=>∃W:Nat->Nat->St->Hp->Prop,(∃m,W 0 m r S)/\∀i m r H,W i m r H ->
 (J.stop i H/\D.nx r H)∨(J.go i H/\∃N:St->Hp->Prop,(∀v z,N v z->∃G,G<m/\W (i+1) G v z)/\∀x z,J.yld i H x z->g x r z λF O=>L { D with nx:=N,ct:=N,bk:=D.nx } F O)
def Ti(fp:List Addr)(h:Heap):List (Addr×Obj):=fp.filterMap λb=>(h.get? b).map λo=>(b,o)
def Ks{fp:List Addr}(H:b∈fp)(e:h.get? b=O0 o):(b,o)∈Ti fp h:=CF.mpr ⟨b,H,by rw[e];rfl⟩
def gM{fp:List Addr}{p:Addr×Obj}(z:p∈Ti fp h):p.1∈fp/\h.get? p.1=O0 p.2:=by
 obtain⟨b,H,e⟩:=CF.mp z;cases q:h.get? b with
 |none=>rw[q] at e;cases e
 |some o=>
  rw[q] at e;have O:(b,o)=p:=cS e;subst O;exact⟨H,q⟩
def Inv.pinned{r:St}{H:Hp}{fp:List Addr}(I:Inv X π r H s)(J:∀b∈fp,VX X π H b)(G:∀b∈fp,∃o,s.heap.get? b=O0 o/\∀v,o.data≠.cell v):Inv X (π++Ti fp s.heap) r H s:=
 I.pins_of λp F=>(eA.mp F).elim (λz=>I.pin p (i6 _ z)) λz=>by
  obtain⟨g,e⟩:=gM z;obtain⟨T,S,L,_⟩:=J p.1 g;obtain⟨o,O,d⟩:=G p.1 g;rw[e] at O;cases O;exact⟨e,T,S,L,d⟩
def Inv.unpinned{pl:NU}{r:St}{H:Hp}(I:Inv X (π++pl) r H s):Inv X π r H s:=I.pins_of λp z=>I.pin p (i6 _ (kU _ z))
def Zw{O:Expr}{wi:TI}{g:TG}{tb:TS}(hp:qV (av X.prog X.w) X.A X.env X.xe)(hc:X.calm=O1)(hi:PI X tg O wi)(hg:PG X tg g)(S:UP X body tb)(hs:∀x,lc O X.env x=pure x:=by intro _;rfl):PS X (.For tg O body [] pos) (tFor wi g tb):=by
 intro π s σ H D I h;refine wpAny_For (lu (hi π s σ H _ I h) λv s1 h1=>lu h1 λY1 s2 h2=>?_) hs;obtain⟨it,fp,tn,J,H2,e,I2,T,S1,f2,W,⟨m0,w0⟩,S0⟩:=h2;subst e;have L:∀{H':Hp},(∀b∈fp,H' b=W1)->∀b∈fp,VX X π H' b:=λhn b S=>⟨hn b S,(f2 b S).2⟩;refine codeAny_forLoop_any (λn s'=>∃i G H',Inv X π G H' s'/\tn i s'.heap/\(∀b∈fp,H' b=W1)/\W i n G H') ?_ m0 ⟨0,σ,H2,I2,S1,λb S=>(f2 b S).1,w0⟩;rintro n s3 ⟨i,F,H3,I3,X0,N1,w3⟩
 rcases S0 i n F H3 w3 with ⟨T0,qn⟩ | ⟨go,N,hN,step⟩
 .refine rb hp (lu (T.done X rfl rfl rfl hc i π s3 F H3 X.xe I3 (L N1) X0 T0) λr s4 p9=>?_);obtain⟨hr,I4⟩:=p9;subst hr;exact kA ⟨F,H3,I4,qn⟩
 .refine rb hp (lu (T.item X rfl rfl rfl hc i π s3 F H3 X.xe I3 (L N1) X0 go) λr s4 g0=>?_);obtain⟨u,hr,h4⟩:=g0;subst hr;refine rb hp (lu h4 λ_ s5 g9=>?_);obtain⟨x,H5,I5,r5,y5,N0,U1⟩:=g9;have X1:=I5.pinned (L U1) (T.obj _ _ N0);refine rb hp (lu (hg _ s5 F H5 x u _ X1 r5 (step x H5 y5)) λ_ s6 u0=>?_);obtain⟨P1,H6,I6,q6⟩:=u0;refine rb hp (lu (S _ s6 P1 H6 _ I6 q6) λf s7 q7=>?_);have U:∀{z:St}{Z:Hp},Inv X (π++Ti fp s5.heap) z Z s7->N z Z->∃m,m<n/\∃i G H',Inv X π G H' s7/\tn i s7.heap/\(∀b∈fp,H' b=W1)/\W i m G H':=λ{z Z} Y n7=>by
   obtain⟨m',hm,w7⟩:=hN z Z n7;refine⟨m',hm,i+1,z,Z,Y.unpinned,T.keep _ _ _ N0 λb S o e=>(Y.pin (b,o) (i6 _ (i6 _ (Ks S e)))).1,λb S=>?_,w7⟩;obtain⟨o,e,d⟩:=T.obj _ _ N0 b S;exact (Y.pin (b,o) (i6 _ (i6 _ (Ks S e)))).2.1
  cases f with
  |next=>obtain⟨z,Z,Y,n7⟩:=q7;exact U Y n7
  |cont=>obtain⟨z,Z,Y,n7⟩:=q7;exact U Y n7
  |brk=>obtain⟨z,Z,Y,q7⟩:=q7;exact⟨z,Z,Y.unpinned,q7⟩
  |ret v=>obtain⟨x7,z,Z,Y,r7,q7⟩:=q7;exact⟨x7,z,Z,Y.unpinned,r7,q7⟩
end
abbrev R2:=V->V->Hp->VK->Prop
def NR(X:Cx)(f:ac->ac->Sem ac)(r:R2):Prop:=
 ∀(z:NU) (s:ai) (g:St) (H:Hp) (x y:V) (v u:ac) (Q:VK),Inv X z g H s->cc x v->cc y u->r x y H Q ->
  ah (av X.prog X.w) X.A (f v u) (EP X z g Q) X.xe s
def D_(X:Cx)(f:ac)(r:List V->Hp->VK->Prop):Prop:=
 ∀(z:NU) (s:ai) (g:St) (H:Hp) (xs:List V) (us:List ac) (Q:VK),Inv X z g H s->fc xs us->r xs H Q ->
  ah (av X.prog X.w) X.A (call f us) (EP X z g Q) X.xe s
def TruR(X:Cx)(r:V->Hp->(Bool->Hp->Prop)->Prop):Prop:=
 ∀(z:NU) (s:ai) (g:St) (H:Hp) (x:V) (v:ac) (Q:Bool->Hp->Prop),Inv X z g H s->cc x v->r x H Q ->
  ah (av X.prog X.w) X.A (truthy v) (TP X z g Q) X.xe s
def tOp(r:R2)(z v:TE):TE:=λg H Q=>z g H λx G=>v g G λy F=>r x y F Q
def rI(C:Int->Int->Prop)(g:Int->Int->V):R2:=λx y H Q=>∃i j,x=.int i/\y=.int j/\C i j/\Q (g i j) H
def YY(g:Int->Int->V):R2:=λx y H Q=>∃i j,x=.int i/\y=.int j/\Q (g i j) H
section
variable {X:Cx}{a b:Expr}{ta tb:TE}
def binT(Y:PE X a ta)(W:PE X b tb){F:NU}{s:ai}{r:St}{H:Hp}{R:V->V->Hp->Prop}(I:Inv X F r H s)(h:ta r H λx J=>tb r J λy z=>R x y z){Q:ac->ai->Prop}{f:ac->ac->Sem ac}(U:∀v u S x y z,Inv X F r z S->cc x v->cc y u->R x y z->ah (av X.prog X.w) X.A (f v u) Q X.xe S):
  ah (av X.prog X.w) X.A (eval a X.env) (λv g=>ah (av X.prog X.w) X.A (eval b X.env) (λu G=>ah (av X.prog X.w) X.A (f v u) Q X.xe G) X.xe g) X.xe s:=by
 refine lu (Y F s r H _ I h) λv L v0=>?_;obtain⟨x,J,I1,T,q1⟩:=v0;refine lu (W F L r J _ I1 q1) λu S y0=>?_;obtain⟨y,z,Z,O,q2⟩:=y0;exact U v u S x y z Z T O q2
def AAS{op:Operator}{r:R2}(G:NR X (i9 op) r)(L:PE X a ta)(J:PE X b tb):PE X (.BinOp a op b pos) (tOp r ta tb):=by
 intro z s g H Q I h;exact wpAny_BinOp (binT L J I h λv u S x y T O rx F q=>G z S g T x y v u Q O rx F q)
def opI{f:ac->ac->Sem ac}{C:Int->Int->Prop}{g:Int->Int->Int}(r:∀(i j:Int) (t u:Tok) (s:ai) (Q:ac->ai->Prop) (E:ac->ai->Prop),C i j->Q (.int (g i j) s.toks) { s with toks:=s.toks+1 }->ah (av X.prog X.w) X.A (f (.int i t) (.int j u)) Q E s):
  NR X f (rI C λi j=>.int (g i j)):=by
 intro L s G H x y v u Q I rx F h;obtain⟨i,j,rfl,rfl,J,q⟩:=h;obtain⟨t,rfl⟩:=rx;obtain⟨z,rfl⟩:=F;exact r i j t z s _ _ J ⟨.int (g i j),H,I.tok _,⟨_,rfl⟩,q⟩
def opI0{f:ac->ac->Sem ac}{g:Int->Int->Int}(r:∀(i j:Int) (t u:Tok) (s:ai) (Q:ac->ai->Prop) (E:ac->ai->Prop),Q (.int (g i j) s.toks) { s with toks:=s.toks+1 }->ah (av X.prog X.w) X.A (f (.int i t) (.int j u)) Q E s):
  NR X f (YY λi j=>.int (g i j)):=by
 intro J s G H x y v u Q I rx F h;obtain⟨i,j,rfl,rfl,q⟩:=h;obtain⟨t,rfl⟩:=rx;obtain⟨z,rfl⟩:=F;exact r i j t z s _ _ ⟨.int (g i j),H,I.tok _,⟨_,rfl⟩,q⟩
def opB0{f:ac->ac->Sem ac}{g:Int->Int->Bool}(r:∀(i j:Int) (t u:Tok) (s:ai) (Q:ac->ai->Prop) (E:ac->ai->Prop),Q (.bool (g i j)) s->ah (av X.prog X.w) X.A (f (.int i t) (.int j u)) Q E s):
  NR X f (YY λi j=>.bl (g i j)):=by
 intro J s G H x y v u Q I rx F h;obtain⟨i,j,rfl,rfl,q⟩:=h;obtain⟨t,rfl⟩:=rx;obtain⟨z,rfl⟩:=F;exact r i j t z s _ _ ⟨.bl (g i j),H,I,rfl,q⟩
def CDiv(i j:Int):Prop:=0<j/\j<1073741824
def CPow(i j:Int):Prop:=0<=j/\j<=1000000/\i.natAbs<2^64
def CMul(i j:Int):Prop:=(-(2^64)<i/\i<2^64)∨(-(2^64)<j/\j<2^64)
def CMul.ok{i j:Int}(h:CMul i j):IntMulOk i j:=by
 rcases h with ⟨v,g⟩ | ⟨v,g⟩
 .exact .of_left (intBits_le_64 v g)
 .exact .of_right (intBits_le_64 v g)
def Zx(k:Nat):(0:Int)<=2^k:=by
 rw[two_pow_cast];exact Int.natCast_nonneg _
def xr:NR X (i9 .Add) (YY λi j=>.int (i+j)):=opI0 λ_ _ _ _ _ _ _ q=>add_int q
def xu:NR X (i9 .Sub) (YY λi j=>.int (i-j)):=opI0 λ_ _ _ _ _ _ _ q=>sub_int q
def rH:NR X (i9 .FloorDiv) (rI CDiv λi j=>.int (i/j)):=opI λi j _ _ _ _ _ J q=>by
 have v:(0:Int)<j:=J.1;have g:j<1073741824:=J.2;exact floordiv_int .(0) (by rw[HE i .(0)];exact q) (.inl (PyProof.noPylong_small .(0)))
def xx:NR X (i9 .Mod) (rI (λ_ j=>0<j) λi j=>.int (i%j)):=opI λi j _ _ _ _ _ J q=>by
 have v:(0:Int)<j:=J;exact mod_int' .(0) (by rw[Int.fmod_eq_emod_of_nonneg i .(0)];exact q)
def jR:NR X (i9 .RShift) (rI (λ_ j=>0<=j) λi j=>.int (i/2^j.toNat)):=opI λi j _ _ _ _ _ J q=>
 rshift_int J (by rw[HE i (Zx _)];exact q)
def jT:NR X (i9 .BitAnd) (YY λi j=>.int (ti i j)):=opI0 λ_ _ _ _ _ _ _ q=>and_int q
end
def scal:V->V->Bool
 |.non,.non=>O1 | .non,.int _=>O1 | .int _,.non=>O1 | .non,.bl _=>O1 | .bl _,.non=>O1 | .non,.str _=>O1 | .str _,.non=>O1
 |.int _,.int _=>O1 | .bl _,.bl _=>O1 | .str _,.str _=>O1 | .byt _,.byt _=>O1
 |.int _,.str _=>O1 | .str _,.int _=>O1 | .bl _,.str _=>O1 | .str _,.bl _=>O1
 |_,_=>O2
def rEq:R2:=λx y H Q=>scal x y=O1/\Q (.bl (decide (x=y))) H
def rNe:R2:=λx y H Q=>scal x y=O1/\Q (.bl (!decide (x=y))) H
def bU{i j:Int}:decide (V.int i=V.int j)=(i==j):=by
 rw[ke];simp
def jU{i j:Bool}:decide (V.bl i=V.bl j)=(i==j):=by
 rw[ke];simp
def bV{i j:Str}:decide (V.str i=V.str j)=(i==j):=by
 rw[ke];simp
def bW{i j:Array UInt8}:decide (V.byt i=V.byt j)=(i.toList==j.toList):=by
 rw[ke];cases i;cases j;simp
section
variable {X:Cx}{a b c:Expr}{ta tb tc:TE}
def Bh{r:St}{H:Hp}{Q:VK}{k g:Bool}(I:Inv X π r H s)(q:Q (.bl k) H)(e:k=g):EP X π r Q (.bool g) s:=by
 subst e;exact⟨.bl k,H,I,rfl,q⟩
def AAT:NR X (db .Eq) rEq:=by
 intro z s r H x y v u Q I rx F h;obtain⟨hs,q⟩:=h;cases x with
 |non=>
  cases rx;cases y with
  |non=>cases F;exact PySem.EqNone.eq_none_none (Bh I q .(1))
  |bl j=>cases F;exact PySem.EqNone.eq_none_bool (Bh I q .(1))
  |int j=>obtain⟨g,rfl⟩:=F;exact PySem.EqNone.eq_none_int (Bh I q .(1))
  |str j=>obtain⟨g,rfl⟩:=F;exact PySem.EqNone.eq_none_str (Bh I q .(1))
  |_=>exact XI (show O2=O1 from hs) d6
 |bl i=>
  cases rx;cases y with
  |non=>cases F;exact PySem.EqNone.eq_bool_none (Bh I q .(1))
  |bl j=>cases F;exact eq_bool (Bh I q jU)
  |str j=>obtain⟨g,rfl⟩:=F;exact PySem.EqMixed.eq_bool_str (Bh I q .(1))
  |_=>exact XI (show O2=O1 from hs) d6
 |int i=>
  obtain⟨t,rfl⟩:=rx;cases y with
  |non=>cases F;exact PySem.EqNone.eq_int_none (Bh I q .(1))
  |int j=>obtain⟨g,rfl⟩:=F;exact eq_int (Bh I q bU)
  |str j=>obtain⟨g,rfl⟩:=F;exact PySem.EqMixed.eq_int_str (Bh I q .(1))
  |_=>exact XI (show O2=O1 from hs) d6
 |str i=>
  obtain⟨t,rfl⟩:=rx;cases y with
  |non=>cases F;exact PySem.EqNone.eq_str_none (Bh I q .(1))
  |bl j=>cases F;exact PySem.EqMixed.eq_str_bool (Bh I q .(1))
  |int j=>obtain⟨g,rfl⟩:=F;exact PySem.EqMixed.eq_str_int (Bh I q .(1))
  |str j=>obtain⟨g,rfl⟩:=F;exact eq_str (Bh I q bV)
  |_=>exact XI (show O2=O1 from hs) d6
 |byt i=>
  obtain⟨t,rfl⟩:=rx;cases y with
  |byt j=>obtain⟨g,rfl⟩:=F;exact PySem.W.eq_bytes (Bh I q bW)
  |_=>exact XI (show O2=O1 from hs) d6
 |_=>cases y<;>exact XI (show O2=O1 from hs) d6
def AAV:NR X (db .NotEq) rNe:=by
 intro z s r H x y v u Q I rx F h;obtain⟨hs,q⟩:=h;cases x with
 |non=>
  cases rx;cases y with
  |non=>cases F;exact PySem.EqNone.ne_none_none (Bh I q .(1))
  |bl j=>cases F;exact PySem.EqNone.ne_none_bool (Bh I q .(1))
  |int j=>obtain⟨g,rfl⟩:=F;exact PySem.EqNone.ne_none_int (Bh I q .(1))
  |str j=>obtain⟨g,rfl⟩:=F;exact PySem.EqNone.ne_none_str (Bh I q .(1))
  |_=>exact XI (show O2=O1 from hs) d6
 |bl i=>
  cases rx;cases y with
  |non=>cases F;exact PySem.EqNone.ne_bool_none (Bh I q .(1))
  |bl j=>cases F;exact ne_bool (Bh I q (NJ not jU))
  |str j=>obtain⟨g,rfl⟩:=F;exact PySem.EqMixed.ne_bool_str (Bh I q .(1))
  |_=>exact XI (show O2=O1 from hs) d6
 |int i=>
  obtain⟨t,rfl⟩:=rx;cases y with
  |non=>cases F;exact PySem.EqNone.ne_int_none (Bh I q .(1))
  |int j=>obtain⟨g,rfl⟩:=F;exact ne_int (Bh I q (NJ not bU))
  |str j=>obtain⟨g,rfl⟩:=F;exact PySem.EqMixed.ne_int_str (Bh I q .(1))
  |_=>exact XI (show O2=O1 from hs) d6
 |str i=>
  obtain⟨t,rfl⟩:=rx;cases y with
  |non=>cases F;exact PySem.EqNone.ne_str_none (Bh I q .(1))
  |bl j=>cases F;exact PySem.EqMixed.ne_str_bool (Bh I q .(1))
  |int j=>obtain⟨g,rfl⟩:=F;exact PySem.EqMixed.ne_str_int (Bh I q .(1))
  |str j=>obtain⟨g,rfl⟩:=F;exact ne_str (Bh I q (NJ not bV))
  |_=>exact XI (show O2=O1 from hs) d6
 |byt i=>
  obtain⟨t,rfl⟩:=rx;cases y with
  |byt j=>obtain⟨g,rfl⟩:=F;exact PySem.W.ne_bytes (Bh I q (NJ not bW))
  |_=>exact XI (show O2=O1 from hs) d6
 |_=>cases y<;>exact XI (show O2=O1 from hs) d6
def vQ:NR X (db .Lt) (YY λi j=>.bl (decide (i<j))):=opB0 λ_ _ _ _ _ _ _ q=>lt_int q
def AAX:NR X (db .LtE) (YY λi j=>.bl (decide (i<=j))):=opB0 λ_ _ _ _ _ _ _ q=>le_int q
def AAZ:NR X (db .Gt) (YY λi j=>.bl (decide (j<i))):=opB0 λ_ _ _ _ _ _ _ q=>gt_int q
def AAa:NR X (db .GtE) (YY λi j=>.bl (decide (j<=i))):=opB0 λ_ _ _ _ _ _ _ q=>ge_int q
def gO:NR X (db .In) (λx y H Q=>∃i j,x=.str i/\y=.str j/\Q (.bl (!(oy j i 0 j.length 1).isEmpty)) H):=by
 intro z s r H x y v u Q I rx F h;obtain⟨i,j,rfl,rfl,q⟩:=h;obtain⟨t,rfl⟩:=rx;obtain⟨g,rfl⟩:=F;exact in_str (Bh I q rfl)
def We:NR X (db .NotIn) (λx y H Q=>∃i j,x=.str i/\y=.str j/\Q (.bl (!(!(oy j i 0 j.length 1).isEmpty))) H):=by
 intro z s r H x y v u Q I rx F h;obtain⟨i,j,rfl,rfl,q⟩:=h;obtain⟨t,rfl⟩:=rx;obtain⟨g,rfl⟩:=F;exact notIn_str (Bh I q rfl)
def NR.or{f:ac->ac->Sem ac}{r O:R2}(h:NR X f r)(h':NR X f O):NR X f (λx y H Q=>r x y H Q∨O x y H Q):=by
 intro z s g H x y v u Q I rx F q
 rcases q with q | q
 .exact h z s g H x y v u Q I rx F q
 .exact h' z s g H x y v u Q I rx F q
def MK(b:Expr){op:kz}(h:op≠.In:=by decide)(g:op≠.NotIn:=by decide):fw op b=O2:=by
 have v:(op==CmpOp.In)=O2:=by cases op<;>first | rfl | exact XI rfl h
 have r:(op==GW)=O2:=by cases op<;>first | rfl | exact XI rfl g
 cases b<;>simp[fw,v,r]
def bY{op:kz}{r:R2}(G:NR X (db op) r)(O:PE X a ta)(L:PE X b tb)(J:fw op b=O2):PE X (.Compare a [op] [b] pos) (tOp r ta tb):=by
 intro z s g H Q I h;exact wpAny_Compare1 (binT O L I h λv u S x y U T rx F q=>G z S g U x y v u Q T rx F q) J
def AAb(t:TE):TT:=λr H Q=>t r H λx g=>∃k,x=.bl k/\Q k g
def bZ{op:kz}{r:R2}(T:NR X (db op) r)(Y:PE X a ta)(W:PE X b tb)(U:fw op b=O2):PT X (.Compare a [op] [b] pos) (AAb (tOp r ta tb)):=by
 intro F s g H Q I h;refine t5 (lu (Y F s g H _ I h) λv G ⟨x,H1,I1,L,q1⟩=>lu (W F G g H1 _ I1 q1) λu S ⟨y,H2,I2,O,q2⟩=>
  lu (T F S g H2 x y v u _ I2 L O q2) λc s3 ⟨z,H3,Z,J,k,e,q3⟩=>?_) U
 subst e;cases J;exact jI ⟨H3,Z,q3⟩
def TruV(K:aS)(x:V)(H:Hp)(k:Bool):Prop:=
 match x with
 |.non=>k=O2
 |.bl b=>k=b
 |.int i=>k=(i != 0)
 |.str y=>y.length<=sizeLine/\k=((y.length:Int) != 0)
 |.byt y=>y.size<=sizeLine/\k=((y.size:Int) != 0)
 |.ref p=>(∃xs,NS K H p xs/\k=!xs.isEmpty)∨(∃xs,NO K H p xs/\k=!xs.isEmpty)∨∃kvs,H p=O0 (.dK kvs)/\k=!kvs.isEmpty
 |_=>False
def Zy{g:Type}{kvs:List (g×V)}{vs:List (g×ac)}(r:KV kvs vs):(!vs.isEmpty)=!kvs.isEmpty:=by
 cases r<;>rfl
def Tj{xs:List V}(r:fc xs its):(!its.toArray.isEmpty)=!xs.isEmpty:=by
 cases r<;>simp
def Tn:(sizeLine:Nat)<2^63:=by rw[ia];decide
theorem x_:TruR X (λx H Q=>∃k,TruV X.K x H k/\Q k H):=by
 intro Z s Y H x v Q I rx h;obtain⟨k,e,q⟩:=h;have hl:=Tn;have hs:sizeLine=16777216:=ia;cases x with
 |non=>
  cases rx;have O:k=O2:=e;subst O;exact truthy_none ⟨H,I,q⟩
 |bl b=>
  cases rx;have O:k=b:=e;subst O;exact jI ⟨H,I,q⟩
 |int i=>
  obtain⟨t,rfl⟩:=rx;have O:k=(i != 0):=e;subst O;exact PySem.P.truthy_int ⟨H,I,q⟩
 |str y=>
  obtain⟨t,rfl⟩:=rx;obtain⟨T,O⟩:y.length<=sizeLine/\k=((y.length:Int) != 0):=e;subst O;exact PySem.P.truthy_str .(0) ⟨H,I.tok _,q⟩
 |byt y=>
  obtain⟨t,rfl⟩:=rx;obtain⟨T,O⟩:y.size<=sizeLine/\k=((y.size:Int) != 0):=e;subst O;exact PySem.W.truthy_bytes .(0) ⟨H,I.tok _,q⟩
 |ref p=>
  cases rx;have O:(∃F,NS X.K H p F/\k=!F.isEmpty)∨(∃F,NO X.K H p F/\k=!F.isEmpty)∨∃g,H p=O0 (.dK g)/\k=!g.isEmpty:=e
  rcases O with ⟨F,G,O⟩ | ⟨F,G,O⟩ | ⟨g,G,O⟩
  .subst O;obtain⟨L,r,J,S⟩:=I.list G;have z:=r.length;exact wpAny_truthy_list J.isList (by simp only[cE];omega) ⟨H,I.tok _,by rw[Tj r];exact q⟩
  .subst O;obtain⟨L,r,J,S⟩:=I.tuple G;have z:=r.length;exact truthy_tuple J (by simp only[cE];omega) ⟨H,I.tok _,by rw[Tj r];exact q⟩
  .subst O;obtain⟨S,U,vs,r,m⟩:g.length<=sizeLine/\(p==hU)=O2/\∃vs,KV g vs/\s.heap.DictOf (Av X.prog X.w) p vs:=I.hok p _ G;have z:g.length=vs.length:=A4 r;exact wpAny_truthy_dict U m .(0) ⟨H,I.tok _,by rw[Zy r];exact q⟩
 |_=>exact (show False from e).elim
def jV(L:PE X a ta)(J:∀whole,oj a X.env whole=(do let v <-whole;nh a.pos;lh [v] (truthy v))):
  PT X a (λr H Q=>ta r H λx g=>∃k,TruV X.K x g k/\Q k g):=by
 intro z s r H Q I h;exact isTrue_plain (lu (L z s r H _ I h) (by rintro v F ⟨x,S,O,G,q1⟩;exact x_ z F r S x v Q O G q1)) (J _)
def Zz:NR X (i9 .Add) (λx y H Q=>∃i j,x=.str i/\y=.str j/\i.length+j.length<=sizeLine/\Q (.str (i++j)) H):=by
 intro z s r H x y v u Q I rx F h;obtain⟨i,j,rfl,rfl,O,q⟩:=h;obtain⟨t,rfl⟩:=rx;obtain⟨g,rfl⟩:=F;exact add_str (λg tk=>⟨.str (i++j),H,I.tok _,⟨_,rfl⟩,q⟩) O
def Ts{x:V}(r:fc [x] us):∃u,us=[u]/\cc x u:=by
 cases r with
 |cons g O=>cases O;exact⟨_,rfl,g⟩
def vals2{x y:V}(r:fc [x,y] us):∃u w',us=[u,w']/\cc x u/\cc y w':=by
 cases r with
 |cons v O=>
  cases O with
  |cons J g=>cases g;exact⟨_,_,rfl,v,J⟩
def Qt(J:X.calm=O1):D_ X (.builtin "max") (λxs H Q=>∃i j,xs=[.int i,.int j]/\Q (.int (if j > i then j else i)) H):=by
 intro z s g H xs G Q I r h;obtain⟨i,j,rfl,q⟩:=h;obtain⟨u,v,rfl,⟨t,rfl⟩,⟨F,rfl⟩⟩:=vals2 r;refine max_two_ints (I.ok.hd J) λL tk k=>⟨_,H,I.kept k,?_,q⟩
 by_cases U:j > i
 .rw[VI U,VI U];exact⟨_,rfl⟩
 .rw[WI U,WI U];exact⟨_,rfl⟩
def Np(J:X.calm=O1):D_ X (.builtin "min") (λxs H Q=>∃i j,xs=[.int i,.int j]/\Q (.int (if j<i then j else i)) H):=by
 intro z s g H xs G Q I r h;obtain⟨i,j,rfl,q⟩:=h;obtain⟨u,v,rfl,⟨t,rfl⟩,⟨F,rfl⟩⟩:=vals2 r;refine min_two_ints (I.ok.hd J) λL tk k=>⟨_,H,I.kept k,?_,q⟩
 by_cases U:j<i
 .rw[VI U,VI U];exact⟨_,rfl⟩
 .rw[WI U,WI U];exact⟨_,rfl⟩
def LenV(K:aS)(x:V)(H:Hp)(n:Nat):Prop:=
 match x with
 |.str y=>y.length<=sizeLine/\n=y.length
 |.byt y=>y.size<=sizeLine/\n=y.size
 |.ref p=>(∃xs,NS K H p xs/\n=xs.length)∨∃xs,NO K H p xs/\n=xs.length
 |_=>False
def jW:D_ X (.builtin "len") (λxs H Q=>∃x n,xs=[x]/\LenV X.K x H n/\Q (.int n) H):=by
 intro T s S H xs U Q I r h;obtain⟨x,n,rfl,e,q⟩:=h;obtain⟨u,rfl,rx⟩:=Ts r;have Y:=Tn;have hs:sizeLine=16777216:=ia;cases x with
 |str y=>
  obtain⟨t,rfl⟩:=rx;obtain⟨L,O⟩:y.length<=sizeLine/\n=y.length:=e;subst O;exact len_str .(0) ⟨.int _,H,I.tok _,⟨_,rfl⟩,q⟩
 |byt y=>
  obtain⟨t,rfl⟩:=rx;obtain⟨L,O⟩:y.size<=sizeLine/\n=y.size:=e;subst O;exact PySem.W.len_bytes .(0) ⟨.int _,H,I.tok _,⟨_,rfl⟩,q⟩
 |ref p=>
  cases rx;have O:(∃xs,NS X.K H p xs/\n=xs.length)∨∃xs,NO X.K H p xs/\n=xs.length:=e
  rcases O with ⟨xs,F,O⟩ | ⟨xs,F,O⟩
  .subst O;obtain⟨v,g,J,G⟩:=I.list F;have z:=g.length;exact Calls.call_len_list J.isList (by simp only[cE];omega) ⟨.int xs.length,H,I.tok _,⟨_,by simp only[cE];rw[z]⟩,q⟩
  .subst O;obtain⟨v,g,J,G⟩:=I.tuple F;have z:=g.length;exact len_tuple J (by simp only[cE];omega) ⟨.int xs.length,H,I.tok _,⟨_,by simp only[cE];rw[z]⟩,q⟩
 |_=>exact (show False from e).elim
end
structure ObjM (h:Heap) (x dx C:Addr) (mA:Str->Option ac):Prop where
 obj:h.get? x=O0 (og C dx)
 ns:h.Ns1 dx mA
 ne:dx≠x
def gP{dx:Addr}{mA:Str->Option ac}(n:h.Ns1 dx mA):∃od,h.get? dx=O0 od/\∀name,A9 name od=O0 (mA name):=by
 obtain⟨o,r,L,F,H,I,_,G⟩:=n;refine⟨o,F,λname=>?_⟩;have e:=G name;unfold nsFind findBy at e;rw[<-Array.find?_toList] at e;unfold A9;rw[H];dsimp only;split
 .rename_i y q;rw[q] at e;exact NJ O0 e
 .rename_i q;rw[q] at e;have a:r.toList.any (·.refKey)=O2:=by
   rw[HG];intro y v;obtain⟨z,t,g⟩:=I y (CH.mp v);simp[DictEntry.refKey,g]
  have J:¬ r.toList.any (·.refKey)=O1:=by rw[a];exact d6
  rw[WI J];exact NJ O0 e
def ObjM.look{x dx:Addr}{mA:Str->Option ac}(I:ObjM h x dx C mA):∃od,PySem.W.InstAt h x (og C dx) C (O0 od)/\∀name,A9 name od=O0 (mA name):=
 let ⟨od,ho,hl⟩:=gP I.ns
 ⟨od,⟨I.obj,rfl,rfl,ho⟩,hl⟩
section
variable {A:aT}{K:aS}{x dx f:Addr}{mA:Str->Option ac}{name:Str}{v:ac}
def Wf{g:Bool}(X:K.In s.heap)(I:ObjM s.heap x dx C mA)(G:wc K C name=O1)(F:Ap K C=O1)(H:fA K (.ref C) name=O0 W1)(z:mA name=O0 v)(r:HI v=O1)(h:Q v { s with toks:=s.toks+1 }):
  ah (av prog w) A (getAttr (.ref x) name g) Q E s:=by
 obtain⟨L,J,Y⟩:=I.look;exact PySem.W.get_value X J (CI G).1 (PySem.W.findObj_own F H rfl (by rw[Y,z])) r h
def jX{pl:Sem Bool}{Q:ac×List ac->ai->Prop}(X:K.In s.heap)(I:ObjM s.heap x dx C mA)(g:wc K C name=O1)(G:fA K (.ref C) name=O0 (O0 (.ref f)))(O:rd K (.ref f)=O1)(z:mA name=W1)(h:Q (.ref f,[.ref x]) s):
  ah (av prog w) A (oB (.ref x) name pl) Q E s:=by
 obtain⟨r,J,Y⟩:=I.look;exact PySem.W.method_fn X J (CI g).1 (CI g).2 G (beq_iff_eq.mp O) (by show (A9 name r).map (·.isSome)=O0 O2;rw[Y,z];rfl) h
theorem rJ{O:List Str}{Q:Unit->ai->Prop}(X:K.In s.heap)(I:ObjM s.heap x dx C mA)(hs:fA K (.ref C) "__setattr__"=O0 (O0 (.builtin "object.__setattr__")))(Y:CL K C=O1)(U:CM K C name=O0 W1)(Z:Ap K C=O1)(T:C3 mA O)(hsz:O.length<=sizeLine)(h:∀h',ObjM h' x dx C (λy=>if y=name then O0 v else mA y)->ff dx s.heap h'->Q () { s with heap:=h',toks:=s.toks+2 }):
  ah (av prog w) A (setAttr (.ref x) name v) Q E s:=by
 obtain⟨od,J,hl⟩:=I.look;refine PySem.W.set_plain X J hs (PySem.W.osa_open (s:={ s with toks:=s.toks+1 }) (r:=W1) X J Y U λb=>?_);obtain⟨cd,hc,H⟩:=PySem.W.any_some Z;have S:s.heap.get? x=O0 ⟨.ref C,O0 dx,.plain,#[]⟩:=I.obj;refine ag (aw (ag (ag (wpAny_loadPart S (ag (PySem.W.Looks.here (s:={ s with toks:=s.toks+1 }) (PySem.W.looks_clsIn X hc) ?_))))));rw[H];refine aw (a:=O0 dx) (ag (aw (ag ?_)));refine wpAny_nsSet1 (s:={ s with toks:=s.toks+1 }) I.ns λh' z g=>?_;obtain⟨oD,N0,S0,F,G,L⟩:=z.count (PySem.Within.cons name v T);refine ag (wpAny_lookBehind F (by rw[G];exact pastItsLine_dict (de L (by rw[ck];omega))) ?_);exact aw (h _ ⟨(g.2 _ (ci I.ne)).trans I.obj,z,I.ne⟩ g)
def jY{R:oC->ai->Prop}(X:K.In s.heap)(z:CO K C=O1)(G:fA K (.ref C) "__init__"=O0 (O0 (.ref f)))(F:PySem.W.typeIn K (.ref f)=O0 (.type "function"))(h:gL (av prog w) (A.under (.builtin "type.__call__" ⟨.ref C::vs,kw⟩)) (.call (.ref f) ⟨.ref (s.heap.objs.size+1)::vs,kw⟩) (PySem.W.InitBack (s.heap.objs.size+1) R)
   { s with heap:=(s.heap.push nk).push (og C s.heap.objs.size) }):
  gL (av prog w) A (.call (.ref C) ⟨vs,kw⟩) R s:=by
 obtain⟨I,g,d,t,H⟩:=s;exact PySem.W.make_core (PySem.W.makes_of X z) (PySem.W.looks_findIn X G) (λr=>PySem.W.bind_fn X r F) (.inl rfl) h
end
def putF(f:Str)(v:V):List (Str×V)->List (Str×V)
 |[]=>[(f,v)]
 | (g,x)::r=>if g=f then (g,v)::r else (g,x)::putF f v r
theorem Rt(f g:Str)(v:V):∀fs:List (Str×V),(putF f v fs).lookup g=if g=f then O0 v else fs.lookup g
 |[]=>by
  show bP g [(f,v)]=_
  by_cases h:g=f
  .have H:(g==f)=O1:=beq_iff_eq.mpr h;simp only[bP,H,VI h]
  .have H:(g==f)=O2:=beq_eq_false_iff_ne.mpr h;simp only[bP,H,WI h]
 | (k,x)::r=>by
  have z:=Rt f g v r;rw[show putF f v ((k,x)::r)=(if k=f then (k,v)::r else (k,x)::putF f v r) from rfl]
  by_cases I:k=f
  .rw[VI I]
   by_cases h:g=k
   .have H:(g==k)=O1:=beq_iff_eq.mpr h;simp only[bP,H,VI (h.trans I)]
   .have H:(g==k)=O2:=beq_eq_false_iff_ne.mpr h;simp only[bP,H,WI (λe:g=f=>h (e.trans I.symm))]
  .rw[WI I]
   by_cases h:g=k
   .have H:(g==k)=O1:=beq_iff_eq.mpr h;simp only[bP,H,WI (λe:g=f=>I (h.symm.trans e))]
   .have H:(g==k)=O2:=beq_eq_false_iff_ne.mpr h;simp only[bP,H];exact z
theorem Qu(f:Str)(v:V):∀fs:List (Str×V),f∈(putF f v fs).map (·.1)/\∀g,g∈fs.map (·.1)->g∈(putF f v fs).map (·.1)
 |[]=>⟨by simp[putF],λg h=>by simp at h⟩
 | (k,x)::r=>by
  obtain⟨F,z⟩:=Qu f v r;rw[show putF f v ((k,x)::r)=(if k=f then (k,v)::r else (k,x)::putF f v r) from rfl]
  by_cases I:k=f
  .rw[VI I];subst I;exact⟨by simp,λg h=>by simpa using h⟩
  .rw[WI I];refine⟨?_,λg h=>?_⟩
   .rw[bb];exact cw _ F
   .rw[bb] at h ⊢
    rcases bp.mp h with e | e
    .exact bp.mpr (.inl e)
    .exact cw _ (z g e)
theorem Ru(f:Str)(v:V):∀fs:List (Str×V),(putF f v fs).length<=fs.length+1
 |[]=>by simp[putF]
 | (k,x)::r=>by
  have g:=Ru f v r;rw[show putF f v ((k,x)::r)=(if k=f then (k,v)::r else (k,x)::putF f v r) from rfl]
  by_cases I:k=f
  .rw[VI I,ck,ck];omega
  .rw[WI I,ck,ck];omega
def OR.some_of{v:V}{o:Option ac}(r:OR (O0 v) o):∃u,o=O0 u/\cc v u:=by
 cases o with
 |none=>exact (show False from r).elim
 |some u=>exact⟨u,rfl,r⟩
def OR.none_of{o:Option ac}(r:OR W1 o):o=W1:=by
 cases o with
 |none=>rfl
 |some u=>exact (show False from r).elim
def Qv{v:V}(r:cc v u):HI u=O1:=by
 cases v with
 |non=>cases (show u=fF from r);rfl
 |bl b=>cases (show u=qS b from r);rfl
 |int i=>obtain⟨t,e⟩:=(show ∃t,u=oa i t from r);cases e;rfl
 |str x=>obtain⟨t,e⟩:=(show ∃t,u=sQ x t from r);cases e;rfl
 |byt b=>obtain⟨t,e⟩:=(show ∃t,u=GO b t from r);cases e;rfl
 |flt b=>obtain⟨t,e⟩:=(show ∃t,u=BY b t from r);cases e;rfl
 |ref a=>cases (show u=ba a from r);rfl
 |ty n=>cases (show u=md n from r);rfl
section
variable {H:Hp}{dx:Addr}{fs:List (Str×V)}
def Nq(v:Qr P w H h)(e:H a=O0 (.ins C dx fs)):∃mA,ObjM h a dx C mA/\(∀f,OR (fs.lookup f) (mA f))/\C3 mA (fs.map (·.1))/\fs.length<=1000/\H dx=O0 (.own a):=by
 obtain⟨d,z,ne,ob,mA,n,r,q⟩:=(show Bg P w H h a (.ins C dx fs) from v a _ e);exact⟨mA,⟨ob,n,ne⟩,r,q,z,d⟩
end
structure NW (K:aS) (C:Addr):Prop where
 pg:wc K C nv=O1
 hd:Ap K C=O1
 po:CL K C=O1
 sa:fA K (.ref C) "__setattr__"=O0 (O0 (.builtin "object.__setattr__"))
def NW.get{K:aS}(c:NW K C)(f:Str):wc K C f=O1:=c.pg
def Bf(K:aS)(C:Addr)(f:Str):Prop:=fA K (.ref C) f=O0 W1
def Bf.taker{K:aS}(n:Bf K C f):CM K C f=O0 W1:=by
 unfold CM;rw[show fA K (.ref C) f=O0 W1 from n];rfl
structure Meth (K:aS) (C:Addr) (m:Str) (f:Addr):Prop where
 at_:fA K (.ref C) m=O0 (O0 (.ref f))
 fn:rd K (.ref f)=O1
 kp:ib K (.ref f)=O1
section
variable {X:Cx}{H:Hp}{dx:Addr}{fs:List (Str×V)}{v:V}{A:aT}
theorem Z0{b:Bool}(I:Inv X π σ H s)(e:H a=O0 (.ins C dx fs))(c:NW X.K C)(n:Bf X.K C f)(l:fs.lookup f=O0 v)(h:∀u g,Inv X π σ H g->cc v u->Q u g):ah (av X.prog X.w) A (getAttr (.ref a) f b) Q E s:=by
 obtain⟨mA,O,r,_,_,_⟩:=Nq I.hok e;obtain⟨u,S,z⟩:=OR.some_of (v:=v) (o:=mA f) (by rw[<-l];exact r f);exact Wf I.kIn O (c.get f) c.hd n S (Qv z) (h u _ (I.tok _) z)
def Tp{g:Addr}{pl:Sem Bool}{Q:ac×List ac->ai->Prop}(I:Inv X π σ H s)(e:H a=O0 (.ins C dx fs))(c:NW X.K C)(k:Meth X.K C m g)(l:fs.lookup m=W1)(h:Q (.ref g,[.ref a]) s):ah (av X.prog X.w) A (oB (.ref a) m pl) Q E s:=by
 obtain⟨mA,O,r,_,_,_⟩:=Nq I.hok e;have z:mA m=W1:=OR.none_of (by rw[<-l];exact r m);exact jX I.kIn O (c.get m) k.at_ k.fn z h
theorem Z1{y:V}{Q:Unit->ai->Prop}(I:Inv X π σ H s)(e:H a=O0 (.ins C dx fs))(c:NW X.K C)(n:Bf X.K C f)(hl:fs.length<1000)(T:cc y u)(h:∀J,Inv X π σ (gq H a (.ins C dx (putF f y fs))) J->Q () J):ah (av X.prog X.w) A (setAttr (.ref a) f u) Q E s:=by
 obtain⟨mA,O,r,G,_,L⟩:=Nq I.hok e;have U:(fs.map (·.1)).length<=sizeLine:=by rw[aE,ia];omega
 refine rJ I.kIn O c.sa c.po n.taker c.hd G U λh' F S=>h _ ?_;have Y:∃o,h'.get? dx=O0 o:=let ⟨o,_,_,e',_⟩:=F.ns;⟨o,e'⟩;refine I.write (x:=a) (e:=dx) (by rw[e];exact kf) (.inr L) (λb q Z z=>(S.2 b Z).trans z) Y ?_;refine⟨by rw[Am O.ne];exact L,?_,O.ne,F.obj,_,F.ns,λg=>?_,λg W=>?_⟩
 .have:=Ru f y fs;omega
 .show OR ((putF f y fs).lookup g) (if g=f then O0 u else mA g);rw[Rt]
  by_cases q:g=f
  .rw[VI q,VI q];exact T
  .rw[WI q,WI q];exact r g
 .by_cases q:g=f
  .rw[q];exact (Qu f y fs).1
  .refine (Qu f y fs).2 g (G g λz=>W ?_);show (if g=f then O0 u else mA g)=W1;rw[WI q];exact z
theorem Inv.made(I:Inv X π σ H s):Inv X π σ (gq (gq H s.heap.objs.size (.own (s.heap.objs.size+1))) (s.heap.objs.size+1) (.ins C s.heap.objs.size []))
  { s with heap:=(s.heap.push nk).push (og C s.heap.objs.size) }:=by
 have g:(s.heap.push nk).get? s.heap.objs.size=O0 nk:=ce s.heap rfl;have G:((s.heap.push nk).push (og C s.heap.objs.size)).get? (s.heap.objs.size+1)=O0 (og C s.heap.objs.size):=by
  have:=ce (s.heap.push nk) (o:=og C s.heap.objs.size) rfl
  rwa [iO] at this
 have F:(s.heap.push nk).Ns s.heap.objs.size (λ_=>W1):=⟨nk,#[],_,g,rfl,(λe z=>XI z .(1)),λ_=>rfl⟩;have J:=I.laid (a:=s.heap.objs.size) (o:=.own (s.heap.objs.size+1)) (h':=s.heap.push nk) (t':=s.toks) (λb u q=>bo _ q) (aI _) ⟨_,g⟩;refine J.laid (a:=s.heap.objs.size+1) (o:=.ins C s.heap.objs.size []) (t':=s.toks) (λb u q=>bo _ q) (CS (iO _ _)) ?_;have ne:s.heap.objs.size≠s.heap.objs.size+1:=bS (tj _);refine⟨by rw[Am ne,Ak],fE _,ne,G,λ_=>W1,(Heap.Ns1.of_empty F).at λo q=>bo _ q,λ_=>kf,λy r=>XI rfl r⟩
def Wg(r:gT e f env (eval e env)=eval e env)(h:ah (av prog w) A (eval e env) (λo g=>ah (av prog w) A (getAttr o f O1) Q E g) E s):ah (av prog w) A (eval (.Attribute e f pos) env) Q E s:=
 Attribute_any_ h (by rw[arm_eval_Attribute,r])
end
def tFld(K:aS)(g:TE)(f:Str):TE:=λr H Q=>g r H λx F=>∃a C dx fs v,x=.ref a/\F a=O0 (.ins C dx fs)/\NW K C/\Bf K C f/\fs.lookup f=O0 v/\Q v F
def sFld(K:aS)(v g:TE)(f:Str):TS:=λD r H=>g r H λy F=>v r F λx z=>∃a C dx fs,x=.ref a/\z a=O0 (.ins C dx fs)/\NW K C/\Bf K C f/\fs.length<1000 ∧
 D.nx r (gq z a (.ins C dx (putF f y fs)))
section
variable {X:Cx}{o value:Expr}{tpos:Pos}{ta tv:TE}
def Z2(F:PE X e ta)(G:gT e f X.env (eval e X.env)=eval e X.env):PE X (.Attribute e f pos) (tFld X.K ta f):=by
 intro z s r H Q I h;refine Wg G (lu (F z s r H _ I h) λu Y q0=>?_);obtain⟨x,T,O,rx,a,C,dx,fs,v,J,L,c,n,l,q⟩:=q0;subst J;obtain rfl:u=ba a:=rx;exact Z0 O L c n l λU W S g=>⟨v,T,S,g,q⟩
def jZ(J:PE X o ta)(G:PE X value tv)(hs:eP value (O0 (.Attribute o f pos')) pos.line X.env=pure O2):PS X (.Assign [.Attribute o f pos'] value pos) (sFld X.K ta tv f):=by
 intro z s r H D I h;refine plainObj_wpAny_Assign_Attribute (lu (G z s r H _ I h) λu g ⟨y,W,U,F,q⟩=>lu (J z g r W _ U q) λv Z q9=>?_) hs;obtain⟨x,H2,S,rx,a,C,dx,fs,L,O,c,n,l,q2⟩:=q9;subst L;obtain rfl:v=ba a:=rx;exact Z1 S O c n l F λY T=>⟨r,_,T,q2⟩
def rAdd:V->V->Hp->VK->Prop:=λx y H Q=>∃i j,x=.int i/\y=.int j/\Q (.int (i+j)) H
end
section
variable {X:Cx}{H:Hp}{A:aT}{c:ac}{b:Bool}
inductive Sl (K:aS) (H:Hp):V->ac->Prop where
  |non:Sl K H .non (.type "NoneType")
  |bl (x:Bool):Sl K H (.bl x) (.type "bool")
  |int (i:Int):Sl K H (.int i) (.type "int")
  |str (x:Str):Sl K H (.str x) (.type "str")
  |flt (x:UInt64):Sl K H (.flt x) (.type "float")
  |lst {a:Addr}{xs:List V}(e:H a=O0 (.lst xs)):Sl K H (.ref a) (.type "list")
  |frz {a:Addr}{o:Obj}{xs:List V}(e:H a=O0 (.frz o (.lst xs))):Sl K H (.ref a) (.type "list")
  |tup {a:Addr}{xs:List V}(e:H a=O0 (.tup xs)):Sl K H (.ref a) (.type "tuple")
  |dK {a:Addr}{kvs:List (Key×V)}(e:H a=O0 (.dK kvs)):Sl K H (.ref a) (.type "dict")
  |dT {a:Addr}{kvs:List (List Key×V)}(e:H a=O0 (.dT kvs)):Sl K H (.ref a) (.type "dict")
  |ins {a C dx:Addr}{fs:List (Str×V)}(e:H a=O0 (.ins C dx fs)) (cl:NW K C) (ha:fA K (.ref C) "__class__"=O0 (O0 (.builtin "object.__class__")))
      (hn:CU K (.builtin "object.__class__") "__get__"=O0 (O0 (.builtin "getset_descriptor.__get__"))) (htk:PySem.W.takesIn K (.builtin "object.__class__")=O0 O1)
      (hm:PySem.W.mroIn K C (.type "object")=O0 O1):Sl K H (.ref a) (.ref C)
def gQ{x:V}{t:ac}(I:Inv X π σ H s)(rx:cc x u)(ty:Sl X.K H x t)(e:tm X.K t c=O0 b)(h:∀tk,Q (.bool b) { s with toks:=tk }):
  ah (av X.prog X.w) A (call (.builtin "isinstance") [u,c]) Q E s:=by
 cases ty with
 |non=>cases (show u=fF from rx);exact kg PySem.W.kitx_none I.kIn kf e (λz=>nomatch z) h
 |bl y=>cases (show u=qS y from rx);exact kg PySem.W.kitx_bool I.kIn kf e (λz=>nomatch z) h
 |int i=>obtain⟨t,q⟩:=(show ∃t,u=oa i t from rx);cases q;exact kg PySem.W.kitx_int I.kIn kf e (λz=>nomatch z) h
 |str y=>obtain⟨t,q⟩:=(show ∃t,u=sQ y t from rx);cases q;exact kg PySem.W.kitx_str I.kIn kf e (λz=>nomatch z) h
 |flt y=>obtain⟨t,q⟩:=(show ∃t,u=BY y t from rx);cases q;exact kg PySem.W.kitx_float I.kIn kf e (λz=>nomatch z) h
 | @lst a r L=>
  cases (show u=ba a from rx);obtain⟨_,_,n,_,v⟩:=(show Bg X.prog X.w H s.heap a (.lst r) from I.hok a _ L);exact kg CY I.kIn ⟨_,v,rfl⟩ e (λz=>nomatch z) h
 | @frz a ob r L=>
  cases (show u=ba a from rx);obtain⟨_,_,_,n,_,v⟩:=(show Bg X.prog X.w H s.heap a (.frz ob (.lst r)) from I.hok a _ L);exact kg CY I.kIn ⟨_,v,rfl⟩ e (λz=>nomatch z) h
 | @tup a r L=>
  cases (show u=ba a from rx);obtain⟨_,_,_,p⟩:=(show Bg X.prog X.w H s.heap a (.tup r) from I.hok a _ L);obtain⟨o,v,F,_⟩:=p;exact kg HK I.kIn ⟨o,v,F⟩ e (λz=>nomatch z) h
 | @dK a g L=>
  cases (show u=ba a from rx);obtain⟨_,_,vs,_,p⟩:=(show Bg X.prog X.w H s.heap a (.dK g) from I.hok a _ L);obtain⟨o,Z,ep,v,F,_⟩:=p;exact kg HL I.kIn ⟨o,v,F.1⟩ e (λz=>nomatch z) h
 | @dT a g L=>
  cases (show u=ba a from rx);obtain⟨_,_,r,_,o,Z,ep,v,F,_⟩:=(show Bg X.prog X.w H s.heap a (.dT g) from I.hok a _ L);exact kg HL I.kIn ⟨o,v,F.1⟩ e (λz=>nomatch z) h
 | @ins a C dx fs L S Y T G U=>
  cases (show u=ba a from rx);obtain⟨mA,O,_⟩:=Nq I.hok L;obtain⟨od,J,_⟩:=O.look;exact kg (PySem.W.kitx_own (S.get _) S.hd Y T G U) I.kIn J e (λz=>nomatch z) h
end
structure Room (k:Nat) (A:aT):Prop where
 hd:A.handled=W1
 dp:A.depth+3*k+5<recursionLimit
 un:A.units+16*k+200<bv
def Room.mono{k:Nat}{A:aT}(r:Room k A)(h:j<=k):Room j A:=⟨r.hd,by have:=r.dp;omega,by have:=r.un;omega⟩
theorem Room.deeper{k:Nat}{A:aT}(r:Room (k+1) A)(env:Env):Room k (A.deeper env):=
 ⟨r.hd,by have:=r.dp;show A.depth+1+3*k+5<_;omega,by have:=r.un;show A.units+3+16*k+200<_;omega⟩
def Z3{A:aT}:(A.under (.builtin "type.__call__" ⟨.ref C::us,kw⟩)).depth=A.depth+1:=by
 first | rfl | simp[D0,Code.weight,Code.isCreation,Code.isGuard,Code.isCaller,HM,D1,guardIds]
def Z4{A:aT}:(A.under (.builtin "type.__call__" ⟨.ref C::us,kw⟩)).units=A.units+1:=by
 first | rfl | simp[D0,Code.cUnits,HM,D1]
def Room.make{k:Nat}{A:aT}(r:Room (k+1) A)(C:Addr)(us:List ac)(g:List (Str×ac)):Room k (A.under (.builtin "type.__call__" ⟨.ref C::us,g⟩)):=
 ⟨r.hd,by have:=r.dp;rw[Z3];omega,by have:=r.un;rw[Z4];omega⟩
theorem Room.depth{k:Nat}{A:aT}(r:Room k A):A.depth<recursionLimit:=by have:=r.dp;omega
theorem Room.units{k:Nat}{A:aT}(r:Room k A):A.units+64<bv:=by have:=r.un;omega
def tNil:TA:=λ_ H Q=>Q [] H
def YS(g:TE)(tr:TA):TA:=λr H Q=>g r H λx F=>tr r F λxs z=>Q (x::xs) z
section
variable {X:Cx}{es:List Expr}{te:TE}{t:TA}
def Ei:PA X [] tNil:=λ_ _ _ _ H Q I h=>Calls.spliced_nil ⟨[],H,I,.nil,h⟩
def Ca(L:PE X e te)(J:PA X es t)(hs:ay (e::es) X.env=(O2,eval e X.env)::ay es X.env:=by rfl):PA X (e::es) (YS te t):=by
 intro g z s r H Q I h;rw[hs];show ah _ _ (spliced ((O2,eval e X.env)::da g (ay es X.env))) _ _ s;refine Calls.spliced_cons (lu (L z s r H _ I h) λu F q0=>?_);obtain⟨x,W,T,G,q1⟩:=q0;exact lu (J g z F r W _ T q1) (by rintro Y Z ⟨v,U,S,O,q2⟩;exact ⟨x::v,U,S,.cons G O,q2⟩)
def tTup(t:TA):TE:=λr H Q=>t r H λxs F=>xs.length<=sizeLine/\∀p,F p=W1->Q (.ref p) (gq F p (.tup xs))
def tLst(t:TA):TE:=λr H Q=>t r H λxs F=>xs.length<=sizeLine/\∀p,F p=W1->Q (.ref p) (gq F p (.lst xs))
theorem Z5{x1}(h:PA X es t):PE X (.Tuple es x1 pos) (tTup t):=by
 intro J s v H Q I U;refine wpAny_Tuple_spliced (lu (h pos J s v H _ I U) λO g ⟨L,F,G,r,z,q⟩=>⟨by rw[<-r.length];exact z,?_⟩);have S:F g.heap.objs.size=W1:=G.hok.fresh (aI _);refine⟨.ref g.heap.objs.size,gq F g.heap.objs.size (.tup L),G.laid (t':=g.toks) (λb u e=>bo _ e) (aI _) ?_,rfl,q _ S⟩;exact⟨z,O,r,⟨_,ce _ rfl,rfl,_,rfl⟩⟩
theorem jb(h:PA X es t):PE X (.List es pos) (tLst t):=by
 intro J s v H Q I U;refine wpAny_List_spliced (lu (h pos J s v H _ I U) λO g ⟨L,F,G,r,z,q⟩=>⟨by rw[<-r.length];exact z,?_⟩);have S:F g.heap.objs.size=W1:=G.hok.fresh (aI _);refine⟨.ref g.heap.objs.size,gq F g.heap.objs.size (.lst L),G.laid (t':=g.toks) (λb u e=>bo _ e) (aI _) ?_,rfl,q _ S⟩;exact⟨z,O,0,r,ce _ rfl⟩
end
abbrev Sp:=List V->Hp->VK->XK->Prop
abbrev CXT:=List Env->Hp->ai->XK->ac->ai->Prop
structure Env0 (P:cy) (w:bE) (K:aS) (mg:Str->Option ac) (base:Heap) (A:aT) (outer:List Env) (s:ai) (H:Hp):Prop where
 frames:A.frames=O0 outer
 mod:Mod K mg base
 bs:∀b o,base.get? b=O0 o->s.heap.get? b=O0 o/\H b=W1
 bsz:base.objs.size<=s.heap.objs.size
 funs:s.heap.FunFrames base outer
 frf:∀b∈frs outer,H b=W1
 hok:Qr P w H s.heap
 bare:ng s.gens
def CE(g:List Env)(P:cy)(w:bE)(H:Hp)(s:ai)(Q:VK)(u:ac)(r:ai):Prop:=
 ∃v z,r.os=s.os/\ng r.gens/\Un (frs g) [] H z s.heap r.heap/\Qr P w z r.heap/\cc v u/\Q v z
def CR(CX:CXT)(g:List Env)(P:cy)(w:bE)(H:Hp)(s:ai)(Q:VK)(E:XK)(r:oC)(v:ai):Prop:=
 match r with
 |.ok (.ret u)=>CE g P w H s Q u v
 |.ok _=>False
 |.error e=>CX g H s E e v
structure gn (P:cy) (w:bE) (K:aS) (mg:Str->Option ac) (base:Heap) (CX:CXT) (k:Nat) (f:Addr) (fd:li) (ps:List Str) (sp:Sp):Prop where
 len:∀vs H Q E,sp vs H Q E->vs.length=ps.length
 run:∀(A:aT) (outer:List Env) (s:ai) (H:Hp) (args:Args) (us:List ac) (vs:List V) (Q:VK) (E:XK),Room k A->Env0 P w K mg base A outer s H->wf s fd args (ps.zip us)->fc vs us->sp vs H Q E ->
  gL (av P w) A (.call (.ref f) args) (CR CX outer P w H s Q E) s
theorem gn.mono{P:cy}{w:bE}{K:aS}{v:Str->Option ac}{base:Heap}{CX:CXT}{j k:Nat}{f:Addr}{z:li}{ps:List Str}{sp:Sp}(F:gn P w K v base CX j f z ps sp)(h:j<=k):
  gn P w K v base CX k f z ps sp:=⟨F.len,λA g s H r I G Q E J=>F.run A g s H r I G Q E (J.mono h)⟩
def gn.imp{K:aS}{base:Heap}{CX:CXT}{k:Nat}{f:Addr}{sp sp':Sp}(F:gn P w K mg base CX k f fd ps sp)(h:∀vs H Q E,sp' vs H Q E->sp vs H Q E):gn P w K mg base CX k f fd ps sp':=
 ⟨λvs H Q E q=>F.len vs H Q E (h _ _ _ _ q),λA g s H r G vs Q E J z I v hs=>F.run A g s H r G vs Q E J z I v (h _ _ _ _ hs)⟩
def Env0.make{K:aS}{base:Heap}{A:aT}{g:List Env}{H:Hp}(e:Env0 P w K mg base A g s H)(C:Addr)(us:List ac)(r:List (Str×ac)):
  Env0 P w K mg base (A.under (.builtin "type.__call__" ⟨.ref C::us,r⟩)) g s H:=⟨by first | exact e.frames | (simpa [D0,Code.envs,D1,pushEnvs] using e.frames),e.mod,e.bs,e.bsz,e.funs,e.frf,e.hok,e.bare⟩
section
variable {X:Cx}{H:Hp}{s':ai}
def Inv.env0(I:Inv X π σ H s):Env0 X.prog X.w X.K X.mg X.base X.A X.stack s H:=
 ⟨I.ok.frames,I.ok.mod,I.bs,de I.ok.bsz I.sz,I.stack,I.stkFree,I.hok,I.bare⟩
theorem Inv.after{Q:VK}(I:Inv X π σ H s)(h:CE X.stack X.prog X.w H s Q u s'):EP X π σ Q u s':=by
 obtain⟨v,O,os,F,un,J,r,q⟩:=h;obtain⟨L,g,d,t,G⟩:=s';obtain rfl:G=s.os:=os;exact⟨v,O,I.call (h':=L) (g':=g) (d':=d) (t':=t) (ch:=[]) un J F (λb z=>XI z .(1)),r,q⟩
end
def AAc(sp:Sp)(g:List V)(E:XK)(t:TA):TE:=λr H Q=>t r H λvs F=>sp (vs++g) F Q E
def vR(C:Addr)(m:Str)(sp:Sp)(g:List V)(E:XK)(v:TE)(t:TA):TE:=λr H Q=>v r H λx F=>∃a dx fs,x=.ref a/\F a=O0 (.ins C dx fs)/\fs.lookup m=W1 ∧
 t r F λvs z=>sp (x::(vs++g)) z Q E
def AAd(C:Addr)(sp:Sp)(g:List V)(E:XK)(t:TA):TE:=λr H Q=>t r H λvs F=>∀x dx,F x=W1->F dx=W1->dx≠x ->
 sp (.ref x::(vs++g)) (gq (gq F dx (.own x)) x (.ins C dx [])) (λv z=>v=.non/\Q (.ref x) z) E
def MU(K:aS)(z:li)(ps:List Str)(ds:List ac):Prop:=
 ∀(s:ai) (us:List ac),K.In s.heap->(us++ds).length=ps.length->wf s z ⟨us,[]⟩ (ps.zip (us++ds))
def MU.all{K:aS}(h:∀us:List ac,us.length=ps.length->wq fd ⟨us,[]⟩=pure (ps.zip us)):MU K fd ps []:=λs us _ Y=>by
 rw[fI] at Y ⊢;exact .of_eq (h us Y)
def Ox(CX:CXT)(X:Cx)(E:XK):Prop:=∀(z:NU) (r:St) (H:Hp) (s:ai) (e:ac) (g:ai),Inv X z r H s->CX X.stack H s E e g->X.xe e g
section
variable {X:Cx}{CX:CXT}{k:Nat}{f:Addr}{sp:Sp}{dvs:List V}{ds:List ac}{E:XK}{p:Pos}{o:Expr}{es:List Expr}{ta:TE}{t:TA}
def Z6{g:St}{H:Hp}{Q:VK}{vs:List V}(F:gn X.prog X.w X.K X.mg X.base CX k f fd ps sp)(J:Room k X.A)(L:MU X.K fd ps ds)(G:fc dvs ds)(z:Ox CX X E)(I:Inv X π g H s)(r:fc vs us)(h:sp (vs++dvs) H Q E):ah (av X.prog X.w) X.A (call (.ref f) us) (EP X π g Q) X.xe s:=by
 have O:fc (vs++dvs) (us++ds):=r.append G;have Y:(us++ds).length=ps.length:=by rw[<-O.length];exact F.len _ _ _ _ h
 refine D2 (re (F.run X.A X.stack s H ⟨us,[]⟩ (us++ds) (vs++dvs) Q E J I.env0 (L s us I.kIn Y) O h) λr v U=>?_);cases r with
 |error e=>exact z π g H s e v I U
 |ok S=>
  cases S with
  |ret u=>exact I.after U
  |next=>exact ka U
  |brk=>exact ka U
  |cont=>exact ka U
def bh(F:gn X.prog X.w X.K X.mg X.base CX k f fd ps sp)(O:Room k X.A)(W:Gl X x)(S:X.mg x=O0 (.ref f))(T:ib X.K (.ref f)=O1)(Z:MU X.K fd ps ds)(Y:fc dvs ds)(L:Ox CX X E)(ha:PA X (e::es) t)(v:(x==("__debug__":Str))=O2:=by decide)(U:ay (e::es) X.env=(O2,eval e X.env)::ay es X.env:=by rfl)(g:(da pos (ay es X.env)).any (·.1)=O2:=by rfl):
  PE X (.Call (.Name x p) (e::es) [] pos) (AAc sp dvs E t):=by
 intro J s z H Q I h;refine wv (Wa I W S ?_ v);refine D3 (h₀:=X.base) I.ok.mod.kin T (lu (ha pos J s z H _ I h) λus s1 ⟨vs,H1,G,r,q⟩=>⟨G.kIn,?_⟩) U g;exact Z6 F O Z Y L G r q
theorem Wh{pl:Sem Bool}(he:PE X o ta)(c:NW X.K C)(O:Meth X.K C m f)(F:gn X.prog X.w X.K X.mg X.base CX k f fd ps sp)(Z:Room k X.A)(hb:MU X.K fd ps ds)(hd:fc dvs ds)(W:Ox CX X E)(ha:PA X (e::es) t)(z:ay (e::es) X.env=(O2,eval e X.env)::ay es X.env:=by rfl)(g:(da pos (ay es X.env)).any (·.1)=O2:=by rfl)(Y:eval (.Call (.Attribute o m apos) (e::es) [] pos) X.env=(do
   let ov <-eval o X.env
   nh apos.atName
   let (f,first) <-lh [ov] (oB ov m pl)
   rf pos f first (da pos (ay (e::es) X.env)) (kB pos (ii [] X.env))):=by rfl):
  PE X (.Call (.Attribute o m apos) (e::es) [] pos) (vR C m sp dvs E ta t):=by
 intro G s v H Q I h;refine HP (pl:=pl) (lu (he G s v H _ I h) λu U q0=>?_) Y;obtain⟨x,H1,T,rx,a,dx,fs,ex,ea,l,q⟩:=q0;subst ex;obtain rfl:u=ba a:=rx;refine Tp T ea c O l ?_;refine D3 (first:=[.ref a]) (h₀:=X.base) I.ok.mod.kin O.kp (lu (ha pos G U v H1 _ T q) λL s2 ⟨J,H2,S,r,q2⟩=>⟨S.kIn,?_⟩) z g;exact Z6 (us:=.ref a::L) (vs:=.ref a::J) F Z hb hd W S (.cons rfl r) q2
theorem jc{pl:Sem Bool}(L:PE X o ta)(c:NW X.K C)(v:Meth X.K C m f)(F:gn X.prog X.w X.K X.mg X.base CX k f fd ps sp)(J:Room k X.A)(T:MU X.K fd ps ds)(S:fc dvs ds)(g:Ox CX X E)(O:eval (.Call (.Attribute o m apos) [] [] pos) X.env=(do
   let ov <-eval o X.env
   nh apos.atName
   let (f,first) <-lh [ov] (oB ov m pl)
   rf pos f first (da pos (ay [] X.env)) (kB pos (ii [] X.env))):=by rfl):
  PE X (.Call (.Attribute o m apos) [] [] pos) (vR C m sp dvs E ta tNil):=by
 intro z s r H Q I h;refine HP (pl:=pl) (lu (L z s r H _ I h) λu Z q9=>?_) O;obtain⟨x,H1,G,rx,a,dx,fs,U,Y,l,q⟩:=q9;subst U;obtain rfl:u=ba a:=rx;refine Tp G Y c v l ?_;exact PySem.W.callWith_K0 (first:=[.ref a]) G.kIn v.kp (Z6 (us:=[.ref a]) (vs:=[.ref a]) F J T S g G (.cons rfl .nil) q)
structure Mk (K:aS) (C f:Addr):Prop where
 makes:CO K C=O1
 init:fA K (.ref C) "__init__"=O0 (O0 (.ref f))
 fn:rd K (.ref f)=O1
 kp:ib K (.ref C)=O1
def jd{z:St}{H:Hp}{Q:VK}{vs:List V}(M:Mk X.K C f)(F:gn X.prog X.w X.K X.mg X.base CX k f fd ps sp)(T:Room (k+1) X.A)(Z:MU X.K fd ps ds)(W:fc dvs ds)(L:Ox CX X E)(I:Inv X π z H s)(r:fc vs us)(h:∀x dx,H x=W1->H dx=W1->dx≠x->sp (.ref x::(vs++dvs)) (gq (gq H dx (.own x)) x (.ins C dx [])) (λv H2=>v=.non/\Q (.ref x) H2) E):
  ah (av X.prog X.w) X.A (call (.ref C) us) (EP X π z Q) X.xe s:=by
 have U:=h (s.heap.objs.size+1) s.heap.objs.size (I.hok.fresh (lj _)) (I.hok.fresh (aI _)) (bS (tj _));have S:=Inv.made (C:=C) I;have O:fc (V.ref (s.heap.objs.size+1)::(vs++dvs)) (ba (s.heap.objs.size+1)::(us++ds)):=.cons rfl (r.append W);have Y:(ba (s.heap.objs.size+1)::us++ds).length=ps.length:=by
  have e:=O.length;rw[F.len _ _ _ _ U] at e;exact e.symm
 refine D2 (jY (f:=f) I.kIn M.makes M.init (beq_iff_eq.mp M.fn) (re (F.run _ X.stack _ _ ⟨ba (s.heap.objs.size+1)::us,[]⟩ (ba (s.heap.objs.size+1)::(us++ds)) _ _ E (T.make C us [])
  (S.env0.make C us []) (Z _ (ba (s.heap.objs.size+1)::us) S.kIn Y) O U) λr G g=>?_))
 cases r with
 |error e=>exact L π z _ _ e G S g
 |ok fl=>
  cases fl with
  |ret u=>
   obtain⟨v,H',I3,J,ev,q3⟩:=S.after g;subst ev;exact⟨J,⟨V.ref (s.heap.objs.size+1),H',I3,rfl,q3⟩⟩
  |next=>exact ka g
  |brk=>exact ka g
  |cont=>exact ka g
def bj(M:Mk X.K C f)(F:gn X.prog X.w X.K X.mg X.base CX k f fd ps sp)(O:Room (k+1) X.A)(W:Gl X x)(S:X.mg x=O0 (.ref C))(Y:MU X.K fd ps ds)(U:fc dvs ds)(L:Ox CX X E)(Z:PA X (e::es) t)(v:(x==("__debug__":Str))=O2:=by decide)(T:ay (e::es) X.env=(O2,eval e X.env)::ay es X.env:=by rfl)(g:(da pos (ay es X.env)).any (·.1)=O2:=by rfl):
  PE X (.Call (.Name x p) (e::es) [] pos) (AAd C sp dvs E t):=by
 intro J s z H Q I h;refine wv (Wa I W S ?_ v);refine D3 (h₀:=X.base) I.ok.mod.kin M.kp (lu (Z pos J s z H _ I h) λus s1 ⟨vs,H1,G,r,q⟩=>⟨G.kIn,?_⟩) T g;exact jd M F O Y U L G r q
end
def PK(X:Cx)(v:List mE)(t:TA):Prop:=
 ∀(g:Pos) (z:NU) (s:ai) (r:St) (H:Hp) (Q:List V->Hp->Prop),Inv X z r H s->t r H Q->ah (av X.prog X.w) X.A (evalAll ((kB g (ii v X.env)).map (·.2))) (AP X z r Q) X.xe s
section
variable {X:Cx}{CX:CXT}{k:Nat}{f:Addr}{ks:List Str}{sp:Sp}{E:XK}{p kpos:Pos}{es:List Expr}{kws:List mE}{te:TE}{t tk:TA}{nm:Option Str}
def yC:PK X [] tNil:=λ_ _ _ _ H Q I h=>wpAny_evalAll_nil ⟨[],H,I,.nil,h⟩
theorem rK(S:PE X e te)(L:PK X kws t):PK X (⟨nm,e,kpos⟩::kws) (YS te t):=by
 intro g z s r H Q I h;show ah _ _ (evalAll ((do let v <-eval e X.env;nh g;pure v)::(kB g (ii kws X.env)).map (·.2))) _ _ s;refine wpAny_evalAll_cons (ag (lu (S z s r H _ I h) λu G ⟨x,Y,U,J,q1⟩=>ag (As (aw ?_))));exact lu (L g z G r Y _ U q1) (by rintro Z s2 ⟨F,W,T,O,q2⟩;exact ⟨x::F,W,T,.cons J O,q2⟩)
variable {g:List ac->List ac->List ac}{gV:List V->List V->List V}
end
structure am (N P:List Str) (sc:kS):Prop where
 kind:sc.kind=.function
 co:sc.isCoroutine=O2
 gen:sc.isGenerator=O2
 nd:N.Nodup
 pre:N.take P.length=P
 par:∀x∈P,sc.names.lookup x=O0 .local ∨sc.names.lookup x=O0 .cell
 nofree:∀y∈sc.names,y.2≠.free
theorem Vn{g:Str->Option lx}{x:Str}:∀{binds:List (Str×ac)}{m:Str->Option ac},(∀v,(x,v)∉binds)->oP g binds m x=m x
 |[],_,_=>rfl
 | (n,v)::r,m,h=>by
  unfold oP;rw[Vn λw z=>h w (cw _ z)];split
  .have:x≠n:=by rintro rfl;exact h v df
   simp[this]
  .rfl
theorem Vo{g:Str->Option lx}{x:Str}:∀{binds:List (Str×ac)}{m:Str->Option ac},(∀v,(x,v)∉binds)->oQ g binds m x=m x
 |[],_,_=>rfl
 | (n,v)::r,m,h=>by
  unfold oQ;rw[Vo λw z=>h w (cw _ z)];split
  .rfl
  .have:x≠n:=by rintro rfl;exact h v df
   simp[this]
theorem Vp{g:Str->Option lx}{x:Str}{v:ac}:∀{P:List Str}{vs:List ac}{i:Nat}{m:Str->Option ac},P.Nodup->P[i]?=O0 x->vs[i]?=O0 v->g x=O0 .local ->
  oP g (P.zip vs) m x=O0 v
 |[],_,_,_,_,h,_,_=>by simp at h
 |_::_,[],_,_,_,_,h,_=>by simp at h
 |p::P,w::vs,0,m,F,z,r,I=>by
  simp at z r;subst z;subst r;show oP g ((p,w)::P.zip vs) m p=_;unfold oP;rw[Vn λv G=>(ly.mp F).1 (D4 G).1,VI I];simp
 |p::P,w::vs,i+1,m,F,z,r,I=>by
  show oP g ((p,w)::P.zip vs) m x=_;unfold oP;exact Vp (i:=i) (ly.mp F).2 (by simpa using z) (by simpa using r) I
theorem Vq{g:Str->Option lx}{x:Str}{v:ac}:∀{P:List Str}{vs:List ac}{i:Nat}{m:Str->Option ac},P.Nodup->P[i]?=O0 x->vs[i]?=O0 v->g x≠O0 .local ->
  oQ g (P.zip vs) m x=O0 v
 |[],_,_,_,_,h,_,_=>by simp at h
 |_::_,[],_,_,_,_,h,_=>by simp at h
 |p::P,w::vs,0,m,F,z,r,I=>by
  simp at z r;subst z;subst r;show oQ g ((p,w)::P.zip vs) m p=_;unfold oQ;rw[Vo λv G=>(ly.mp F).1 (D4 G).1,WI I];simp
 |p::P,w::vs,i+1,m,F,z,r,I=>by
  show oQ g ((p,w)::P.zip vs) m x=_;unfold oQ;exact Vq (i:=i) (ly.mp F).2 (by simpa using z) (by simpa using r) I
def start(N:List Str)(vs:List V):St:=vs.map O0++wx (N.length-vs.length) W1
def Qb(CX:CXT)(P:cy)(w:bE)(K:aS)(mg:Str->Option ac)(base:Heap)(N:List Str)(r:Str)(g:kS)(f:Addr)(z:ac)(A:aT)(outer:List Env)(s:ai)(H:Hp)(E:XK):Cx where
 prog:=P
 w:=w
 K:=K
 mg:=mg
 base:=base
 A:=A.deeper (fR r g s.heap.objs.size f z)
 N:=N
 s₀:=s
 H₀:=H
 env:=fR r g s.heap.objs.size f z
 outer:=outer
 stack:=fR r g s.heap.objs.size f z::outer
 ex:=[]
 calm:=O1
 fn:=λ_=>O1
 pn:=[]
 xe:=λe F=>ah (av P w) (A.deeper (fR r g s.heap.objs.size f z)) (leaving (fR r g s.heap.objs.size f z) e) (λ_ v=>CX outer H s E e v) (λO v=>CX outer H s E O v) F
def YT(h:sc.names.lookup x=O0 .cell):∃c,(cellsFrom n sc.names []).lookup x=O0 c:=by
 have q:=HU sc.names n [] (.inl h);exact D5.mp q
theorem gR{CX:CXT}{K:aS}{base:Heap}{f:Addr}{W:ac}{A:aT}{g:List Env}{s1:ai}{H:Hp}{E:XK}{vs:List V}(S:am N ps scope)(hd:A.handled=W1)(G:Env0 P w K mg base A g s H)(hl:vs.length=ps.length)(r:fc vs us)(x:InCallC s s.heap.objs.size (oP (fR qual scope s.heap.objs.size f W).kindOf (ps.zip us) λ_=>W1) (cellsFrom (s.heap.objs.size+1) scope.names []) (oQ (fR qual scope s.heap.objs.size f W).kindOf (ps.zip us) λ_=>W1) s1):
  Inv (Qb CX P w K mg base N qual scope f W A g s H E) [] (start N vs) H s1:=by
 have N0:ps.length<=N.length:=by have:=NJ eJ S.pre;rw[ij] at this;omega
 obtain⟨U,tk,rfl,Y⟩:=x.done;have I:∀b:Addr,b∉(Qb CX P w K mg base N qual scope f W A g s H E).ex:=λb z=>XI (show b∈([]:List Addr) from z) .(1);refine⟨⟨G.mod,S.kind,rfl,rfl,aI _,λy z c U F=>?_,λy J=>?_,λy c _ h=>?_,λ_=>hd,Around.frames_deeper G.frames,.inr ⟨rfl,rfl⟩,λb z=>XI z (I b),G.bs,G.bsz,λb _ _=>I b,λb z=>XI z (I b),G.funs,G.frf⟩,
  rfl,G.bare,Un.kept Y,⟨_,x.toInCall.ns,λi y v U F h3=>?_⟩,λy c h=>⟨_,x.cell y c h⟩,G.hok.fresh (aI _),λy c h=>?_,λp O=>XI (show p∈([]:NU) from O) .(1),G.hok.kept Y,?_⟩
 .exact name_of_addr x.apart (xa U) (xa F)
 .have J:scope.names.lookup y=O0 .cell ∨scope.names.lookup y=O0 .free :=J
  rcases J with J | J
  .exact YT J
  .exact XI rfl (S.nofree _ (xa J))
 .exact sR (x.above y c (xa h))
 .have T:i<vs.length:=by
   unfold start at F
   by_cases T:i<vs.length
   .exact T
   .rw[ja (by simpa using T)] at F;rw[Au] at F;split at F<;>cases F
  have ha:vs[i]?=O0 v:=by
   unfold start at F;rw[ko (by simpa using T),cb] at F;cases e:vs[i]? with
   |none=>rw[e] at F;cases F
   |some a=>rw[e] at F;cases F;rfl
  obtain⟨u,X,Z⟩:=r.get ha;have O:ps[i]?=O0 y:=by
   rw[<-S.pre,D6 .(0)];exact U
  have L:ps.Nodup:=by rw[<-S.pre];exact S.nd.sublist (D7 _ _)
  refine⟨u,Z,?_⟩
  rcases S.par y (oS O) with k | k
  .exact .inl ⟨k,Vp L O X k⟩
  .obtain⟨c,e⟩:=YT (n:=s.heap.objs.size+1) k;refine .inr ⟨.inl k,c,e,?_⟩;have q:=x.cell y c e;rw[Vq L O X (by show scope.names.lookup y≠_;rw[k];decide)] at q;exact q
 .exact G.hok.fresh (sR (x.above y c (xa h)))
 .unfold start;show _=N.length;rw[eB,aE,xb];omega
def je{CX:CXT}{K:aS}{base:Heap}{k:Nat}{f:Addr}{name:Str}{z:Arguments}{dV kV:ac}{sp:Sp}(lk:K.lookup f=O0 ⟨oc,od,.func (io name qual z body scope dV kV doc pm an cdv ct),osl⟩)(N0:pd K cdv qual=O1)(S:am N ps scope)(len:∀vs H Q E,sp vs H Q E->vs.length=ps.length)(O:∀(A:aT) (g:List Env) (s:ai) (H:Hp) (vs:List V) (Q:VK) (E:XK),Room k (A.deeper (fR qual scope s.heap.objs.size f cdv))->sp vs H Q E ->
   ∃t,UP (Qb CX P w K mg base N qual scope f cdv A g s H E) body t/\t { nx:=λ_ G=>Q .non G,rt:=Q } (start N vs) H):
  gn P w K mg base CX (k+1) f (io name qual z body scope dV kV doc pm an cdv ct) ps sp:=by
 refine⟨len,λA g s H S0 us vs Q E hr X hb r T=>?_⟩;have hl:=len _ _ _ _ T;have KX:K.In s.heap:=X.mod.kin.keeps λb o e=>(X.bs b o e).1;have Z:s.heap.NoLimit:=X.mod.nolimit.keeps λb o e=>(X.bs b o e).1;have L:∀y∈ps.zip us,scope.names.lookup y.1=O0 .local ∨(scope.names.lookup y.1=O0 .cell /\((cellsFrom (s.heap.objs.size+1) scope.names []).lookup y.1).isSome=O1):=by
  rintro ⟨n,v⟩ hy
  rcases S.par n (D4 hy).1 with q | q
  .exact .inl q
  .exact .inr ⟨q,HU _ _ _ (.inl q)⟩
 refine codeAny_call_function hr.depth (KX _ _ lk) rfl S.co S.gen rfl (PySem.W.codeRec_of KX N0) (hb _ _ _ _ ?_);refine wpAny_newFunctionEnv_cells S.kind L λT0 he s1 x=>?_;subst he;refine⟨Z.keeps x.toInCall.keep,codeAny_func ?_⟩;obtain⟨t,ht,hq⟩:=O A g s H vs Q E (hr.deeper _) T;have I:Inv (Qb CX P w K mg base N qual scope f cdv A g s H E) [] (start N vs) H s1:=gR S hr.hd X hl r x;refine hZ (ht [] s1 (start N vs) H _ I hq) (λfl s' hs=>?_) λe s' hs=>hs;have U:∀{F:St}{G:Hp}{v:V}{u:ac},Inv (Qb CX P w K mg base N qual scope f cdv A g s H E) [] F G s'->cc v u->Q v G->CE g P w H s Q u s':=
  λ{F G v u} J Y q=>⟨v,G,J.os,J.bare,J.base,J.hok,Y,q⟩
 cases fl with
 |ret u=>
  obtain⟨v,F,G,J,Y,q⟩:=hs;exact U J Y q
 |next=>
  obtain⟨F,G,J,q⟩:=hs;exact U (v:=V.non) (u:=fF) J rfl q
 |brk=>
  obtain⟨_,_,_,q⟩:=hs;exact ka q
 |cont=>
  obtain⟨_,_,_,q⟩:=hs;exact ka q
end L2
variable {xs ys:List L2.V}{H H' H1 F2 F1 He Hf Hb:L2.Hp}{v:L2.V}{X:L2.Cx}{σ:L2.St}{tc:L2.TT}{CX:L2.CXT}{r:List L2.V->L2.Hp->L2.VK->Prop}{kvs:List (List L2.Key×L2.V)}{ks:List (List L2.Key)}{F:List (List L2.Key)->Int}
namespace L2
open PySem PySem.Spec PyProof.Rows
section
variable {p:Pos}{es:List Expr}{t:TA}{id T:String}
def tCB(r:List V->Hp->VK->Prop)(t:TA):TE:=λg H Q=>t g H λvs z=>r vs z Q
def MN(hc:D_ X (.builtin id) r)(hg:Gl X x)(Z:X.mg x=W1)(W:d4 x=O0 (.builtin id))(ha:PA X (e::es) t)(Y:x≠"__name__":=by decide)(z:(x==("__debug__":Str))=O2:=by decide)(he:ay (e::es) X.env=(O2,eval e X.env)::ay es X.env:=by rfl)(g:(da pos (ay es X.env)).any (·.1)=O2:=by rfl):PE X (.Call (.Name x p) (e::es) [] pos) (tCB r t):=by
 intro J s G H Q I h;refine wv (Qs I hg Z W ?_ Y z);exact PyProof.Rows.callWith_builtin1 (lu (ha pos J s G H _ I h) (by rintro O S ⟨L,H1,I1,U,q1⟩;exact hc J S G H1 L O Q I1 U q1)) he g
def HQ(hc:D_ X (.type T) r)(hg:Gl X x)(Z:X.mg x=W1)(W:d4 x=O0 (.type T))(ha:PA X (e::es) t)(Y:x≠"__name__":=by decide)(z:(x==("__debug__":Str))=O2:=by decide)(he:ay (e::es) X.env=(O2,eval e X.env)::ay es X.env:=by rfl)(g:(da pos (ay es X.env)).any (·.1)=O2:=by rfl):PE X (.Call (.Name x p) (e::es) [] pos) (tCB r t):=by
 intro J s G H Q I h;refine wv (Qs I hg Z W ?_ Y z);exact CD (lu (ha pos J s G H _ I h) (by rintro O S ⟨L,H1,I1,U,q1⟩;exact hc J S G H1 L O Q I1 U q1)) he g
end
end L2
namespace HT
open PySem PyProof.Rows
section
open PySem.SeqAt
open PySem.AutoSeq1 (wpAny_loadPart')
open PySem.MeetsSeq PySem.MeetsSeq2 PySem.MeetsSeq3
end
section
variable {A:aT}
def rM{t:Addr}{g:List ac}(ht:IsTup s.heap t vs.toArray)(hb:IsTup s.heap b g.toArray)(U:vs≠[])(h1:g=[]->Q (.ref t) s)(h2:g≠[]->Q (.ref s.heap.objs.size) { s with heap:=s.heap.push { cls:=.type "tuple",data:=.seq (vs++g).toArray } })(hsz:vs.length+g.length<=sizeLine):ah (av prog w) A (i9 .Add (.ref t) (.ref b)) Q E s:=by
 obtain⟨⟨cls,dd,data,Z⟩,S,Y,n,W⟩:=id ht;obtain⟨⟨N0,L,T,G⟩,z,J,n2,I⟩:=id hb;simp only at Y W J I;subst Y W J I;have e:vs.toArray++g.toArray=(vs++g).toArray:=by simp
 by_cases O:g=[]
 .exact AA ⟨_,S,rfl⟩ ⟨_,z,rfl⟩ D8 D9 Da DA (DB _ _)
   (tuple_addW1 t b vs.toArray g.toArray n n2 dd L Z G (by simpa using U) (by simp[O])) ⟨S,z,h1 O⟩
 .refine AA ⟨_,S,rfl⟩ ⟨_,z,rfl⟩ D8 D9 Da DA (DB _ _)
   (tuple_addW2 t b vs.toArray g.toArray n n2 dd L Z G (by simpa using U) (by simpa using O) (by rw[cE,cE];exact hsz)) ⟨S,z,?_⟩
  rw[e];exact h2 O
def sIx(n d:Nat):Option Int->Nat
 |none=>d
 |some v=>if v<0 then (v+(n:Int)).toNat else min v.toNat n
def rN(n d k:Nat):sIx n d (O0 (k:Int))=min k n:=by
 show (if (k:Int)<0 then ((k:Int)+(n:Int)).toNat else min (k:Int).toNat n)=min k n;rw[WI .(0),g9]
def yD(n d:Nat)(z:d<=n)(o:Option Int):sIx n d o<=n:=by
 cases o with
 |none=>exact z
 |some v=>
  show (if v<0 then (v+(n:Int)).toNat else min v.toNat n)<=n
  by_cases g:v<0
  .rw[VI g];omega
  .rw[WI g];exact Nat.min_le_right _ _
def bu(v:Int)(n d:Nat):(if v<0 then max (v+(n:Int)) 0 else min v (n:Int))=((sIx n d (O0 v):Nat):Int):=by
 show (if v<0 then max (v+(n:Int)) 0 else min v (n:Int))=(((if v<0 then (v+(n:Int)).toNat else min v.toNat n):Nat):Int)
 by_cases g:v<0
 .simp only[VI g];omega
 .simp only[WI g];omega
def Z7(z G:Option Int)(n:Nat):DC z G 1 (n:Int)=(((sIx n 0 z:Nat):Int),((sIx n n G:Nat):Int)):=by
 have g:¬ ((1:Int)<0):=by omega
 unfold DC;simp only[g,UK];refine rh ?_ ?_
 .cases z with
  |none=>rfl
  |some v=>exact bu v n 0
 .cases G with
  |none=>rfl
  |some v=>exact bu v n n
def Z8(i j:Nat):AB (i:Int) (j:Int) 1=j-i:=by
 unfold AB;have g:(1:Int) > 0:=by omega
 simp only[g,TK,HV];split<;>omega
def Tq{v:ac}{o:Option Int}{Q:Option Int->ai->Prop}(p:pe v o)(h:Q o s):ah (av prog w) A (Builtin.Slice.slicePartIndex v) Q E s:=by
 cases p with
 |none=>exact slicePart_none h
 |int i t=>exact slicePart_int h
theorem Qw{sl:Addr}{L J:ac}{z G:Option Int}{Q:Int×Int×Nat->ai->Prop}(hs:s.heap.IsSliceOf sl L J .none)(pl:pe L z)(pu:pe J G)(h:Q (((sIx n 0 z:Nat):Int),1,sIx n n G-sIx n 0 z) s):ah (av prog w) A (HZ (.ref sl) (pure (n:Int))) Q E s:=by
 obtain⟨S,g,O,I⟩:=id hs;unfold HZ Builtin.Slice.sliceFields;refine ag (ag (kq g I (x:=L) rfl (ag (kq g I (x:=J) rfl (ag (kq g I (x:=.none) rfl (aw ?_)))))));refine ag (slicePart_none ?_);show ah _ _ (if ((1:Int)==0)=O1 then _ else _) _ _ s;rw[WI .(2)];refine ag (Tq pl (ag (Tq pu (ag (aw ?_)))));show ah _ _ (match DC z G 1 (n:Int) with | (z,G)=>pure (z,(1:Int),AB z G 1)) _ _ s;rw[Z7 z G n];show ah _ _ (pure (((sIx n 0 z:Nat):Int),(1:Int),AB ((sIx n 0 z:Nat):Int) ((sIx n n G:Nat):Int) 1)) _ _ s;rw[Z8];exact aw h
def jf(xs:Array ac)(i k:Nat):((bg k).filterMap λ(m:Nat)=>xs[((i:Int)+(m:Int)*1).toNat]?).toArray=((xs.toList.drop i).take k).toArray:=by
 have e:(λ(m:Nat)=>xs[((i:Int)+(m:Int)*1).toNat]?)=λm=>xs[i+m]?:=by
  funext m;have:((i:Int)+(m:Int)*1).toNat=i+m:=by omega
  rw[this]
 rw[e];have:=pick_run xs i k;rw[DD] at this;have g:((λx=>xs[x]?) ∘ λx=>i+x)=λm=>xs[i+m]?:=rfl;rw[g] at this;rw[this]
theorem Pj{t sl:Addr}{items:Array ac}{U T:ac}{z G:Option Int}(O:IsTup s.heap t items)(hs:s.heap.IsSliceOf sl U T .none)(pl:pe U z)(pu:pe T G)(Y:¬ (sIx items.size 0 z=0/\sIx items.size items.size G=items.size))(h:Q (.ref s.heap.objs.size) { s with heap:=s.heap.push { cls:=.type "tuple",data:=.seq ((items.toList.drop (sIx items.size 0 z)).take (sIx items.size items.size G-sIx items.size 0 z)).toArray } })(hsz:items.size<=sizeLine):ah (av prog w) A (nw (.ref t) (.ref sl)) Q E s:=by
 have g:sizeOk (.seq ((items.toList.drop (sIx items.size 0 z)).take (sIx items.size items.size G-sIx items.size 0 z)).toArray):=by
  show ((items.toList.drop (sIx items.size 0 z)).take (sIx items.size items.size G-sIx items.size 0 z)).toArray.size<=sizeLine;rw[cE,ij,ri,gE];omega
 have hj:sIx items.size items.size G<=items.size:=yD _ _ (aI _) G;obtain⟨W,I,L,Z⟩:=id hs;have S:s.TypeIs (.ref sl) "slice":=⟨W,I,L⟩;unfold nw
 try with_reducible refine wpAny_holding ?_
 first | refine ag (aw ?_) | skip
 refine ag (wpAny_sequenceKey O.typeIs .(2) ?_);refine ag (rj (name:=dE "__getitem__") O.typeIs DE
  (iF DE O.typeIs entry_tuple_getitem ?_ (args_tuple_getitem _ _)))
 show ah _ _ (GA (.ref t) >>= _) _ _ s;refine ag (tupleItemsOf_ O ?_);refine ag (xh S ?_);rw[VI .(2)];refine ag (Qw hs pl pu ?_);have J:¬ ((((sIx items.size 0 z:Nat):Int)==0&&(1:Int)==1&&(sIx items.size items.size G-sIx items.size 0 z)==items.size)=O1):=by
  intro q;rw[eI,eI] at q;have q1:((sIx items.size 0 z:Nat):Int)=0:=eq_of_beq q.1.1;have q2:sIx items.size items.size G-sIx items.size 0 z=items.size:=eq_of_beq q.2;exact Y ⟨by omega,by omega⟩
 show ah _ _ (if (((sIx items.size 0 z:Nat):Int)==0&&(1:Int)==1&&(sIx items.size items.size G-sIx items.size 0 z)==items.size)=O1 then _ else _) _ _ s;rw[WI J,jf]
 first
  |exact ag (m:=AC _) (kD (aw ⟨_,rfl,aw h⟩) g)
  |exact ag (m:=AC _) (kD (ag (aw (aw ⟨_,rfl,aw h⟩))) g)
  |exact ag (ag (m:=AC _) (kD (aw (aw ⟨_,rfl,aw h⟩)) g))
  |exact ag (ag (m:=AC _) (kD (aw ⟨_,rfl,aw h⟩) g))
end
end HT
namespace L2
open PySem PySem.Spec PyProof.Rows
abbrev TO:=St->Hp->(Option Int->Hp->Prop)->Prop
def PO(X:Cx)(e:Option Expr)(t:TO):Prop:=
 ∀(z:NU) (s:ai) (g:St) (H:Hp) (Q:Option Int->Hp->Prop),Inv X z g H s->t g H Q ->
  ah (av X.prog X.w) X.A (evalPart e X.env) (λu I=>∃o G,Inv X z g G I/\pe u o/\Q o G) X.xe s
def rP:TO:=λ_ H Q=>Q W1 H
def AAe(t:TE):TO:=λg H Q=>t g H λx z=>∃i,x=.int i/\Q (O0 i) z
section
variable {te:TE}{lo hi:Option Expr}{tl th:TO}
def rQ:PO X W1 rP:=by
 intro z s g H Q I h;rw[evalPart_none];exact aw ⟨W1,H,I,.none,h⟩
def rT(h:PE X e te):PO X (O0 e) (AAe te):=by
 intro z s g H Q I J;rw[evalPart_some];refine lu (h z s g H _ I J) λu S q0=>?_;obtain⟨x,O,L,G,q1⟩:=q0;obtain⟨i,rfl,q⟩:=q1;obtain⟨t,rfl⟩:=G;exact⟨O0 i,O,L,.int i t,q⟩
def SlR(X:Cx)(r:V->Option Int->Option Int->Hp->VK->Prop):Prop:=
 ∀(z:NU) (s:ai) (g:St) (H:Hp) (x:V) (v L J:ac) (G I:Option Int) (sl:Addr) (Q:VK),Inv X z g H s->cc x v->s.heap.IsSliceOf sl L J .none->pe L G->pe J I->r x G I H Q ->
  ∃T id,DF (.type T) "__getitem__"=pure (O0 (.builtin id))/\s.TypeIs v T/\ah (av X.prog X.w) X.A (nw v (.ref sl)) (EP X z g Q) X.xe s
def SlR.or{r O:V->Option Int->Option Int->Hp->VK->Prop}(h:SlR X r)(h':SlR X O):SlR X (λx lo hi H Q=>r x lo hi H Q∨O x lo hi H Q):=by
 intro z s g H x v L J lo hi Z Q I rx hs G pu q
 rcases q with q | q
 .exact h z s g H x v L J lo hi Z Q I rx hs G pu q
 .exact h' z s g H x v L J lo hi Z Q I rx hs G pu q
def tSl(r:V->Option Int->Option Int->Hp->VK->Prop)(te:TE)(z G:TO):TE:=λg H Q=>te g H λx L=>z g L λl J=>G g J λu I=>r x l u I Q
theorem jg{r:V->Option Int->Option Int->Hp->VK->Prop}(hr:SlR X r)(he:PE X e te)(hl:PO X lo tl)(Z:PO X hi th):PE X (.Subscript e (.Slice lo hi W1 p2) pos) (tSl r te tl th):=by
 intro z s g H Q I h;refine DH (lu (he z s g H _ I h) λv U q9=>?_);obtain⟨x,H1,I1,W,q1⟩:=q9;refine wpAny_Slice (lu (hl z U g H1 _ I1 q1) λL S ⟨l,H2,I2,Y,q2⟩=>lu (Z z S g H2 _ I2 q2) λJ O p0=>?_);obtain⟨u,G,I3,pu,q3⟩:=p0;rw[evalPart_none];refine aw ?_;have I4:Inv X z g G { O with heap:=O.heap.push { cls:=.type "slice",data:=.fields #[L,J,.none] } }:=I3.kept (t':=O.toks) λb ob q=>bo _ q;obtain⟨T,id,hT,ht,hg⟩:=hr z { O with heap:=O.heap.push { cls:=.type "slice",data:=.fields #[L,J,.none] } } g G x v L J l u O.heap.objs.size Q I4 W (Heap.IsSliceOf.new ..) Y pu q3;show ah (av X.prog X.w) X.A (AD e (.Slice lo hi W1 p2) v (.ref O.heap.objs.size)) (EP X z g Q) X.xe { O with heap:=O.heap.push { cls:=.type "slice",data:=.fields #[L,J,.none] } };exact tail_any (ops:=[.ref O.heap.objs.size,v]) ht hT hg (by with_unfolding_all rfl)
def cutV(xs:List V)(z G:Option Int):List V:=(xs.drop (HT.sIx xs.length 0 z)).take (HT.sIx xs.length xs.length G-HT.sIx xs.length 0 z)
def Rv(xs:List V)(z G:Option Int):(cutV xs z G).length<=xs.length:=by
 unfold cutV;rw[ij,ri];omega
def rSlT(K:aS):V->Option Int->Option Int->Hp->VK->Prop:=λx z G H Q=>∃a xs,x=.ref a/\NO K H a xs ∧
 ¬ (HT.sIx xs.length 0 z=0/\HT.sIx xs.length xs.length G=xs.length)/\∀p,H p=W1->Q (.ref p) (gq H p (.tup (cutV xs z G)))
theorem yE:SlR X (rSlT X.K):=by
 intro Z s Y H x v vl vu G L sl Q I rx hs T pu h;obtain⟨a,g,rfl,U,W,q⟩:=h;cases rx;obtain⟨J,r,S,O⟩:=I.tuple U;have z:J.toArray.size=g.length:=by rw[cE];exact r.length.symm
 refine⟨"tuple",_,DE.lookup,S.typeIs,?_⟩;refine HT.Pj S hs T pu (by rw[z];exact W) ?_ (by rw[z];exact O);rw[z];refine⟨.ref s.heap.objs.size,_,I.laid (t':=s.toks) (o:=.tup (cutV g G L)) (λb ob q=>bo _ q) (aI _) ?_,rfl,q _ (I.hok.fresh (aI _))⟩;exact⟨de (Rv g G L) O,_,(r.drop (HT.sIx g.length 0 G)).take (HT.sIx g.length g.length L-HT.sIx g.length 0 G),DI _ _⟩
def fc.nil_iff(r:fc xs us):us=[]↔xs=[]:=by
 cases r with
 |nil=>simp
 |cons _ _=>simp
end
def ixN(n:Nat)(i:Int):Option Nat:=if 0<=i then (if i<n then O0 i.toNat else W1) else if -(n:Int)<=i then O0 (i+n).toNat else W1
def atI{α:Type}(xs:List α)(i:Int):Option α:=(ixN xs.length i).bind λj=>xs[j]?
def rU{i:Int}(h:ixN n i=O0 j):seqIndex? i n=O0 j/\j<n/\-(n:Int)<=i/\i<n:=by
 unfold ixN at h
 by_cases J:0<=i
 .rw[VI J] at h
  by_cases g:i<n
  .rw[VI g] at h;have e:i.toNat=j:=cS h;exact⟨by rw[seqIndex_of J g,e],by omega,by omega,g⟩
  .rw[WI g] at h;cases h
 .rw[WI J] at h
  by_cases g : -(n:Int)<=i
  .rw[VI g] at h;have e:(i+n).toNat=j:=cS h;exact⟨by rw[seqIndex_neg .(0) g,e],by omega,g,by omega⟩
  .rw[WI g] at h;cases h
def Wi{g:Type}{xs:List g}{i:Int}{v:g}(h:atI xs i=O0 v):∃j,seqIndex? i xs.length=O0 j/\xs[j]?=O0 v/\j<xs.length/\-(xs.length:Int)<=i/\i<xs.length:=by
 unfold atI at h;cases e:ixN xs.length i with
 |none=>rw[e] at h;cases h
 |some j=>
  rw[e] at h;obtain⟨I,G,T,z⟩:=rU e;exact⟨j,I,h,G,T,z⟩
def Pk(b:Expr):Prop:=∀o i,xi b O2 o i=operate [o,i] (nw o i)
def IxR(X:Cx)(r:R2):Prop:=
 ∀(z g:Expr) (I:NU) (s:ai) (G:St) (H:Hp) (x y:V) (v u:ac) (Q:VK),Inv X I G H s->cc x v->cc y u->r x y H Q ->
  xi g O2 v u=operate [v,u] (nw v u)->ah (av X.prog X.w) X.A (AD z g v u) (EP X I G Q) X.xe s
def MtR(X:Cx)(id:String)(r:V->List V->Hp->VK->Prop):Prop:=
 ∀(z:NU) (s:ai) (g:St) (H:Hp) (x:V) (xs:List V) (v:ac) (us:List ac) (Q:VK),Inv X z g H s->cc x v->fc xs us->r x xs H Q ->
  ah (av X.prog X.w) X.A (call (.builtin id) (v::us)) (EP X z g Q) X.xe s
section
variable {a b:Expr}{ta tb:TE}
def IxR.or{r O:R2}(h:IxR X r)(h':IxR X O):IxR X (λx y H Q=>r x y H Q∨O x y H Q):=by
 intro z g J s G H x y v u Q I rx L q hs
 rcases q with q | q
 .exact h z g J s G H x y v u Q I rx L q hs
 .exact h' z g J s G H x y v u Q I rx L q hs
def vV{r:R2}(J:IxR X r)(O:PE X a ta)(L:PE X b tb)(hs:Pk b):PE X (.Subscript a b pos) (tOp r ta tb):=by
 intro z s g H Q I h;exact DH (binT O L I h λv u S x y U T rx G q=>J a b z S g U x y v u Q T rx G q (hs _ _))
def rIxL(K:aS):R2:=λx y H Q=>∃p xs i v,x=.ref p/\y=.int i/\NS K H p xs/\atI xs i=O0 v/\Q v H
def rIxT(K:aS):R2:=λx y H Q=>∃p xs i v,x=.ref p/\y=.int i/\NO K H p xs/\atI xs i=O0 v/\Q v H
def rIxS:R2:=λx y H Q=>∃z i c,x=.str z/\y=.int i/\z.length<=sizeLine/\atI z.cps.toList i=O0 c/\Q (.str ⟨#[c]⟩) H
def rW:IxR X (rIxL X.K):=by
 intro J L Y s W H x y v u Q I rx ry h hs;obtain⟨p,xs,i,z,rfl,rfl,hq,he,q⟩:=h;cases rx;obtain⟨t,rfl⟩:=ry;obtain⟨T,r,S,hz⟩:=I.list hq;obtain⟨j,G,h2,h3,h4,h5⟩:=Wi he;obtain⟨w,ew,O⟩:=r.get h2;have hl:=r.length;have hn:=Tn;have g:EP X Y W Q w s:=⟨z,H,I,O,q⟩
 by_cases Z:0<=i
 .have U:i.toNat=j:=by
   rw[seqIndex_of Z h5] at G;exact cS G
  exact item_listR S.isList Z .(0) (by rw[U];simpa using ew) g hs
 .have U:(i+(T.toArray.size:Int)).toNat=j:=by
   rw[seqIndex_neg .(0) h4] at G;rw[cE,<-hl];exact cS G
  exact Ic (x:=w) S.isList.typeIs Iq.lookup
   (wpAny_getItem_list_neg (Q:=λr s'=>r=w/\EP X Y W Q r s') S.isList .(0) (by rw[cE]<;>omega) .(0) (by rw[U];simpa using ew) ⟨rfl,g⟩) hs
def yF:IxR X (rIxT X.K):=by
 intro g G S s L H x y v u Q I rx W h hs;obtain⟨p,xs,i,z,rfl,rfl,Z,he,q⟩:=h;cases rx;obtain⟨t,rfl⟩:=W;obtain⟨Y,r,T,hz⟩:=I.tuple Z;obtain⟨j,h1,h2,h3,h4,h5⟩:=Wi he;obtain⟨w,ew,O⟩:=r.get h2;have hl:=r.length;have hn:=Tn;have J:EP X S L Q w s:=⟨z,H,I,O,q⟩;exact Ic (x:=w) T.typeIs slot_tuple_getitem.lookup
  (getItem_tuple (j:=j) (Q:=λr U=>r=w/\EP X S L Q r U) T .(0) .(0) (by rw[cE,<-hl];exact h1) (by simpa using ew) ⟨rfl,J⟩) hs
def Qx:IxR X rIxS:=by
 intro g G π s σ H x y v u Q I rx L h hs;obtain⟨z,i,c,rfl,rfl,hz,O,q⟩:=h;obtain⟨t,rfl⟩:=rx;obtain⟨t',rfl⟩:=L;obtain⟨j,J,U,h3,T,S⟩:=Wi O;have Y:z.cps.toList.length=z.length:=by simp[DJ]
 rw[Y] at J T S;have hn:=Tn;exact tail_any (DL s z t) slot_str_getitem.lookup (getItem_str (c:=c) (by
  have Z:decide (i < -(2^63:Int))=O2:=YI .(0);have W:decide (i≥2^63)=O2:=YI .(0);rw[Z,W,Bool.or_false]) (by rw[J];simpa using U) ⟨.str ⟨#[c]⟩,H,I.tok _,⟨_,rfl⟩,q⟩) hs
def rIx(K:aS):R2:=λx y H Q=>rIxL K x y H Q∨rIxT K x y H Q∨rIxS x y H Q
def jh:IxR X (rIx X.K):=rW.or (yF.or Qx)
def Wj(z G:Option Int)(n:Nat):(rl z G W1 n).1=((HT.sIx n 0 z:Nat):Int)/\(rl z G W1 n).2.1=((HT.sIx n n G:Nat):Int)/\(rl z G W1 n).2.2=1:=by
 refine⟨?_,?_,rfl⟩
 .cases z with
  |none=>simp[rl,HT.sIx]
  |some i=>
   simp only[rl,HT.sIx,Iy,show (1:Int) > 0 by decide,TK]
   by_cases h:i<0
   .simp only[h,TK]<;>omega
   .simp only[h,UK]<;>omega
 .cases G with
  |none=>simp[rl,HT.sIx]
  |some i=>
   simp only[rl,HT.sIx,Iy,show (1:Int) > 0 by decide,TK]
   by_cases h:i<0
   .simp only[h,TK]<;>omega
   .simp only[h,UK]<;>omega
def Vf(g:List ac)(z G:Option Int):slicePick g.toArray z G W1=((g.drop (HT.sIx g.length 0 z)).take (HT.sIx g.length g.length G-HT.sIx g.length 0 z)).toArray:=by
 obtain⟨J,I,T⟩:=Wj z G g.toArray.size;unfold slicePick;rw[J,I,T];simp only[sliceRange_one,pick_run,cE]<;>rfl
def rSlL(K:aS):V->Option Int->Option Int->Hp->VK->Prop:=λx z G H Q=>∃a xs,x=.ref a/\NS K H a xs/\∀p,H p=W1->Q (.ref p) (gq H p (.lst (cutV xs z G)))
theorem rY:SlR X (rSlL X.K):=by
 intro Y s W H x v vl Z G J sl Q I rx hs L pu h;obtain⟨a,g,rfl,U,q⟩:=h;cases rx;obtain⟨S,r,O,T⟩:=I.list U;have z:=r.length;refine⟨"list",_,Iq.lookup,O.isList.typeIs,?_⟩;refine wpAny_getItem_list_slice O.isList hs L pu .none .(1) ?_ (by rw[cE]<;>omega);rw[Vf,<-z];refine⟨.ref s.heap.objs.size,_,I.laid (t':=s.toks) (o:=.lst (cutV g G J)) (λb ob q=>bo _ q) (aI _) ?_,rfl,q _ (I.hok.fresh (aI _))⟩;exact⟨de (Rv g G J) T,_,0,(r.drop (HT.sIx g.length 0 G)).take (HT.sIx g.length g.length J-HT.sIx g.length 0 G),ce _ rfl⟩
def Lg:V->Bool
 |.non=>O1
 |.bl _=>O1
 |.int _=>O1
 |.str _=>O1
 |_=>O2
def TZ:V->V->Bool
 |.non,.non=>O1
 |.bl a,.bl b=>a==b
 |.bl a,.int b=>(if a then 1 else 0)==b
 |.int a,.bl b=>a==(if b then 1 else 0)
 |.int a,.int b=>a==b
 |.str a,.str b=>a==b
 |_,_=>O2
def ji{A:aT}{y x:V}{v:ac}(z:cc y u)(rx:cc x v)(I:Lg y=O1)(G:Lg x=O1):mI A s u v (TZ y x):=by
 cases y with
 |non=>
  cases z;cases x with
  |non=>cases rx;exact DM _
  |bl b=>cases rx;exact SeqAt.EqAt.none_bool b
  |int b=>obtain⟨t,rfl⟩:=rx;exact SeqAt.EqAt.none_int b t
  |str b=>obtain⟨t,rfl⟩:=rx;exact SeqAt.EqAt.none_str b t
  |_=>exact XI (show O2=O1 from G) d6
 |bl a=>
  cases z;cases x with
  |non=>cases rx;exact SeqAt.EqAt.bool_none a
  |bl b=>cases rx;exact SeqAt.EqAt.bool_bool a b
  |int b=>obtain⟨t,rfl⟩:=rx;exact SeqAt.EqAt.bool_int a b t
  |str b=>obtain⟨t,rfl⟩:=rx;exact SeqAt.EqAt.bool_str a b t
  |_=>exact XI (show O2=O1 from G) d6
 |int a=>
  obtain⟨g,rfl⟩:=z;cases x with
  |non=>cases rx;exact SeqAt.EqAt.int_none a g
  |bl b=>cases rx;exact SeqAt.EqAt.int_bool a g b
  |int b=>obtain⟨t,rfl⟩:=rx;exact SeqAt.EqAt.int_int a g b t
  |str b=>obtain⟨t,rfl⟩:=rx;exact GL a g b t
  |_=>exact XI (show O2=O1 from G) d6
 |str a=>
  obtain⟨g,rfl⟩:=z;cases x with
  |non=>cases rx;exact SeqAt.EqAt.str_none a g
  |bl b=>cases rx;exact SeqAt.EqAt.str_bool a g b
  |int b=>obtain⟨t,rfl⟩:=rx;exact GN a g b t
  |str b=>obtain⟨t,rfl⟩:=rx;exact SeqAt.EqAt.str_str a g b t
  |_=>exact XI (show O2=O1 from G) d6
 |_=>exact XI (show O2=O1 from I) d6
def eqU(x:V)(u:ac):Bool:=match u with
 |.none=>TZ .non x
 |.bool b=>TZ (.bl b) x
 |.int i _=>TZ (.int i) x
 |.str z _=>TZ (.str z) x
 |_=>O2
def jk{x y:V}(r:cc y u)(f:Lg y=O1):eqU x u=TZ y x:=by
 cases y with
 |non=>cases r;rfl
 |bl b=>cases r;rfl
 |int i=>obtain⟨t,rfl⟩:=r;rfl
 |str z=>obtain⟨t,rfl⟩:=r;rfl
 |_=>exact XI (show O2=O1 from f) d6
theorem Pn{x:V}:∀{xs:List V}{us:List ac},fc xs us->xs.all Lg=O1->us.any (eqU x)=xs.any λy=>TZ y x
 |_,_,.nil,_=>rfl
 |y::xs,u::us,.cons r t,f=>by
  rw[tq,eI] at f;rw[ro,ro,jk r f.1,Pn t f.2]
theorem MP{A:aT}{s:ai}{x:V}{v:ac}(rx:cc x v)(G:Lg x=O1):∀{xs:List V}{us:List ac},fc xs us->xs.all Lg=O1->∀u∈us,mI A s u v (eqU x u)
 |_,_,.nil,_=>λu S=>by cases S
 |y::xs,u::us,.cons r t,f=>λU S=>by
  rw[tq,eI] at f
  rcases bp.mp S with rfl | S
  .rw[jk r f.1];exact ji r rx f.1 G
  .exact MP rx G t f.2 U S
def YR(x:V)(xs:List V):Bool:=xs.any λy=>TZ y x
def rIn(K:aS)(g:Bool):R2:=λx y H Q=>∃p xs,y=.ref p/\(NS K H p xs∨NO K H p xs)/\Lg x=O1/\xs.all Lg=O1/\Q (.bl (if g then !YR x xs else YR x xs)) H
def gU:NR X (db .In) (rIn X.K O2):=by
 intro T s S H x y v u Q I rx L h;obtain⟨p,W,rfl,U,G,fs,q⟩:=h;cases L
 rcases U with U | U
 .obtain⟨g,r,J,O⟩:=I.list U;refine IA (eqU x) J.isList (λw z=>MP rx G r fs w (by simpa using z)) ⟨.bl _,H,I,rfl,?_⟩;rw[show g.toArray.any (eqU x)=g.any (eqU x) by simp,Pn r fs];exact q
 .obtain⟨g,r,J,O⟩:=I.tuple U;refine SeqAt.in_tupleAt (eqU x) J (λw z=>MP rx G r fs w (by simpa using z)) ⟨.bl _,H,I,rfl,?_⟩;rw[show g.toArray.any (eqU x)=g.any (eqU x) by simp,Pn r fs];exact q
def Wk:NR X (db .NotIn) (rIn X.K O1):=by
 intro T s S H x y v u Q I rx L h;obtain⟨p,W,rfl,U,G,fs,q⟩:=h;cases L
 rcases U with U | U
 .obtain⟨g,r,J,O⟩:=I.list U;refine IB (eqU x) J.isList (λw z=>MP rx G r fs w (by simpa using z)) ⟨.bl _,H,I,rfl,?_⟩;rw[show g.toArray.any (eqU x)=g.any (eqU x) by simp,Pn r fs];exact q
 .obtain⟨g,r,J,O⟩:=I.tuple U;refine SeqAt.notIn_tupleAt (eqU x) J (λw z=>MP rx G r fs w (by simpa using z)) ⟨.bl _,H,I,rfl,?_⟩;rw[show g.toArray.any (eqU x)=g.any (eqU x) by simp,Pn r fs];exact q
def D_.or{f:ac}{O:List V->Hp->VK->Prop}(h:D_ X f r)(h':D_ X f O):D_ X f (λxs H Q=>r xs H Q∨O xs H Q):=by
 intro z s g H xs G Q I J q
 rcases q with q | q
 .exact h z s g H xs G Q I J q
 .exact h' z s g H xs G Q I J q
theorem Ku:D_ X (.type "list") (λxs H Q=>∃p ys,xs=[.ref p]/\(NS X.K H p ys∨NO X.K H p ys)/\∀l,H l=W1->Q (.ref l) (gq H l (.lst ys))):=by
  intro π s σ H xs us Q I r h;obtain⟨p,ys,rfl,U,q⟩:=h;obtain⟨u,rfl,rx⟩:=Ts r;cases rx;have T:∀(g:List ac),fc ys g->ys.length<=sizeLine->∀(L:Heap) (z:Nat),(∀b o',s.heap.get? b=O0 o'->L.get? b=O0 o') ->
      L.get? s.heap.objs.size=O0 { cls:=.type "list",dict:=W1,data:=.seq g.toArray z,slots:=#[] }->EP X π σ Q (.ref s.heap.objs.size) { s with heap:=L }:=λg O J L z G e=>
    ⟨.ref s.heap.objs.size,_,I.laid (t':=s.toks) G (aI _) (show Bg X.prog X.w _ L _ (.lst ys) from⟨J,g,z,O,e⟩),rfl,q _ (I.hok.fresh (aI _))⟩
  rcases U with U | U
  . obtain⟨g,O,W,J⟩:=I.list U
    have S:=O.length;obtain⟨o,Y,hc,n,Z⟩:=W.isList;exact call_list_seq p (.inl rfl) Y hc Z (λL z G e=>T g O J L z G e) (by simp only[cE]<;>omega)
  . obtain⟨g,O,W,J⟩:=I.tuple U
    have S:=O.length;obtain⟨o,Y,hc,n,Z⟩:=W;exact call_list_seq p (.inr rfl) Y hc Z (λL z G e=>T g O J L z G e) (by simp only[cE]<;>omega)
theorem OD:D_ X (.type "tuple") (λxs H Q=>∃p ys,xs=[.ref p]/\((NS X.K H p ys/\∀l,H l=W1->Q (.ref l) (gq H l (.tup ys)))∨(NO X.K H p ys/\Q (.ref p) H))):=by
 intro G s z H xs us Q I r h;obtain⟨p,ys,rfl,h⟩:=h;obtain⟨u,rfl,rx⟩:=Ts r;cases rx
 rcases h with ⟨U,q⟩ | ⟨U,q⟩
 .obtain⟨g,O,J,S⟩:=I.list U;have T:=O.length;refine call_tuple_list J.isList (λL Y=>?_) (by simp only[cE]<;>omega);have W:Inv X G z H { s with heap:=L }:=I.kept (t':=s.toks) Y;have Z:Inv X G z (gq H L.objs.size (.tup ys)) { s with heap:=L.push { cls:=.type "tuple",data:=.seq g.toArray } }:=
   W.laid (t':=s.toks) (λb o e=>bo _ e) (aI _) (show Bg X.prog X.w _ _ _ (.tup ys) from⟨S,g,O,DI _ _⟩)
  exact⟨.ref L.objs.size,_,Z,rfl,q _ (W.hok.fresh (aI _))⟩
 .obtain⟨g,O,J,S⟩:=I.tuple U;exact call_tuple_same J ⟨.ref p,H,I,rfl,q⟩
def tyV(K:aS)(T:String)(x:V)(H:Hp):Prop:=match x with
  |.str _=>T="str"
  |.int _=>T="int"
  |.ref p=>(T="list"/\∃xs,NS K H p xs)∨(T="tuple"/\∃o,K.lookup p=O0 o/\o.cls=.type "tuple"/\o.dict=W1) ∨
      (T="dict"/\((∃kvs,H p=O0 (.dK kvs))∨∃kvs,H p=O0 (.dT kvs)))∨(T="set"/\∃S n,H p=O0 (.set S n))
  |_=>False
def yG{T:String}{x:V}{v:ac}(I:Inv X π σ H s)(r:cc x v)(ty:tyV X.K T x H):
  s.TypeIs v T/\∀a,v=.ref a->∃ob,s.heap.get? a=O0 ob/\ob.dict=W1:=by
 cases x with
 |str z=>
  obtain⟨t,rfl⟩:=r;cases (show T="str" from ty);exact⟨DL s z t,λ_ e=>nomatch e⟩
 |int i=>
  obtain⟨t,rfl⟩:=r;cases (show T="int" from ty);exact⟨typeIs_int s i t,λ_ e=>nomatch e⟩
 |ref p=>
  cases r
  rcases ty with ⟨rfl,xs,Y⟩ | ⟨rfl,o,g,Z,L⟩ | ⟨rfl,g⟩ | ⟨rfl,S,n,g⟩
  .obtain⟨W,_,U,_⟩:=I.list Y;refine⟨U.isList.typeIs,λa e=>?_⟩;cases e;obtain⟨o,n,e,c,L,_⟩:=U;exact⟨o,e,L⟩
  .refine⟨⟨o,I.kIn p o g,Z⟩,λa e=>?_⟩;cases e;exact⟨o,I.kIn _ o g,L⟩
  .have z:∃o,s.heap.get? p=O0 o/\o.ExactDict:=by
    rcases g with ⟨G,g⟩ | ⟨G,g⟩
    .obtain⟨_,_,_,_,o,_,_,e,J,_⟩:=I.hok p _ g;exact⟨o,e,J⟩
    .obtain⟨_,_,_,_,o,_,_,e,J,_⟩:=I.hok p _ g;exact⟨o,e,J⟩
   obtain⟨o,e,J⟩:=z;refine⟨⟨o,e,J.1⟩,λa O=>?_⟩;cases O;exact⟨o,e,J.2.1⟩
  .obtain⟨o,_,_,_,e,J,_⟩:=I.hok p _ g;refine⟨⟨o,e,J.1⟩,λa O=>?_⟩;cases O;exact⟨o,e,J.2.1⟩
 |_=>exact ka ty
def tBM(K:aS)(T:String)(r:V->List V->Hp->VK->Prop)(G:TE)(t:TA):TE:=λg H Q=>G g H λx z=>tyV K T x z/\t g z λxs I=>r x xs I Q
variable {o:Expr}{es:List Expr}{to:TE}{t:TA}{name:Str}{cpos:Pos}{T id:String}{r:V->List V->Hp->VK->Prop}
def vW(pa:PlainAttrs T)(S:Slot T name id)(U:typeOf (.builtin id)=pure (.type "method_descriptor"))(hm:MtR X id r)(ho:PE X o to)(ha:PA X (e::es) t)(G:gT o name X.env (eval o X.env)=eval o X.env:=by rfl)(J:((da cpos (ay (e::es) X.env)).all (λx=>!x.1)&&(kB cpos (ii [] X.env)).all (λx=>x.1.isSome)
   && decide ((e::es).length+([]:List mE).length+(if ([]:List mE).isEmpty then 0 else 1)<30))=O1:=by rfl)(z:(apos.endLine==cpos.line)=O1:=by rfl)(hs:ay (e::es) X.env=(O2,eval e X.env)::ay es X.env:=by rfl)(g:(da cpos (ay es X.env)).any (·.1)=O2:=by rfl):
  PE X (.Call (.Attribute o name apos) (e::es) [] cpos) (tBM X.K T r to t):=by
 intro O s L H Q I h;refine wpAny_Call_method_late G J z rfl (lu (ho O s L H _ I h) λv s1 q0=>?_);obtain⟨x,H1,Z,W,ty,q1⟩:=q0;obtain⟨h1,h2⟩:=yG Z W ty;refine⟨T,id,pa,S,U,h1,h2,?_⟩;have Y:=ha cpos O s1 L H1 _ Z q1;rw[hs] at Y ⊢;refine Calls.callWith_builtin (by show (O2||(da cpos (ay es X.env)).any (·.1))=O2;rw[g]<;>rfl) (Calls.evalArgs_plain ?_);exact lu Y (by rintro us s2 ⟨vs,H2,I2,r2,q2⟩;exact hm O s2 L H2 x vs v us Q I2 W r2 q2)
end
def MtM(X:Cx)(id:String)(r:V->List V->Hp->VK->Prop):Prop:=
 ∀(z:NU) (s:ai) (g:St) (H:Hp) (x:V) (xs:List V) (v:ac) (us:List ac) (Q:VK),Inv X z g H s->cc x v->fc xs us->r x xs H Q ->
  ah (av X.prog X.w) X.A (call (.builtin id) (v::us)) (EP X z g Q) X.xe s
def fc.one:∀{x:V}{us:List ac},fc [x] us->∃u,us=[u]/\cc x u
 |_,_,.cons r .nil=>⟨_,rfl,r⟩
section
variable {l:Addr}
theorem Inv.lset{its':List ac}{f:Array ac->Array ac}(I:Inv X π σ H s)(J:H l=O0 (.lst xs))(e:s.heap.get? l=O0 { cls:=.type "list",data:=.seq its.toArray n })(G:f its.toArray=its'.toArray)(g:fc ys its')(hz:ys.length<=sizeLine):
  Inv X π σ (gq H l (.lst ys)) { s with heap:=s.heap.update l (kG f),toks:=t' }:=by
 have q:=PySem.IsL.update e f;rw[G] at q;refine I.write (x:=l) (e:=l) (by rw[J];exact trivial) (.inl rfl) (λL u z S=>(lI s.heap (kG f) (ci z)).trans S) ⟨_,q⟩ ?_;exact⟨hz,its',_,g,q⟩
def Inv.lnew(I:Inv X π σ H s)(g:fc ys its)(hz:ys.length<=sizeLine):
  Inv X π σ (gq H s.heap.objs.size (.lst ys)) { s with heap:=s.heap.push { cls:=.type "list",data:=.seq its.toArray },toks:=t' }:=
 I.laid (λ_ _ q=>bo _ q) (aI _) ⟨hz,its,0,g,ce _ rfl⟩
theorem Inv.fresh(I:Inv X π σ H s):H s.heap.objs.size=W1:=I.hok.fresh (aI _)
def Inv.lstM(I:Inv X π σ H s)(J:H l=O0 (.lst xs)):xs.length<=sizeLine/\∃(its:List ac) (n:Nat),fc xs its/\xs.length=its.length/\s.heap.get? l=O0 { cls:=.type "list",data:=.seq its.toArray n }:=by
 obtain⟨z,its,n,r,e⟩:=I.hok l _ J;exact⟨z,its,n,r,r.length,e⟩
end
section
def bw:V->List V->Hp->VK->Prop:=λx vs H Q=>∃l xs y,x=.ref l/\vs=[y]/\H l=O0 (.lst xs)/\xs.length<sizeLine/\Q .non (gq H l (.lst (xs++[y])))
theorem Qy:MtM X "list.append" bw:=by
 intro S s O H x U v W Q I rx G h;obtain⟨l,T,y,rfl,rfl,J,Y,q⟩:=h;cases rx;obtain⟨u,rfl,L⟩:=G.one;obtain⟨z,g,n,r,Z,e⟩:=I.lstM J;refine call_meets F.slot_list_append ⟨_,e,rfl⟩ F.entry_list_append (F.args_list_append_2 _ _) (PySem.list_append l g.toArray n u (by rw[cE];omega)) ⟨e,?_⟩;refine⟨.non,_,I.lset (its':=g++[u]) J e .(1) (r.append (.cons L .nil)) ?_,rfl,q⟩;rw[eB,xk];omega
end
section
variable {κ:Type} [DecidableEq κ]
def Pl(kvs:List (κ×V))(k:κ):Option V:=(kvs.find? λg=>decide (g.1=k)).map (·.2)
def Pm(kvs:List (κ×V))(k:κ)(v:V):List (κ×V):=
 if (kvs.any λg=>decide (g.1=k))=O1 then kvs.map (λg=>if g.1=k then (g.1,v) else g) else kvs++[(k,v)]
def Pq{p:κ×V}{r:List (κ×V)}{k:κ}(e:p.1=k):Pl (p::r) k=O0 p.2:=by simp[Pl,rq,e]
def Pu{p:κ×V}{r:List (κ×V)}{k:κ}(e:¬ p.1=k):Pl (p::r) k=Pl r k:=by simp[Pl,rq,e]
theorem Tr(k:κ):∀kvs:List (κ×V),(kvs.any λg=>decide (g.1=k))=(Pl kvs k).isSome
 |[]=>rfl
 |p::r=>by
  rw[ro]
  by_cases e:p.1=k
  .simp only[Pq e,ZI e,Bool.true_or,Option.isSome_some]
  .rw[Pu e,YI e,IC];exact Tr k r
def Rw(kvs:List (κ×V))(k:κ)(v:V):(Pm kvs k v).length<=kvs.length+1:=by
 unfold Pm;split
 .rw[aE];omega
 .rw[eB,ck,nE];omega
def OR.isSome_eq{o:Option V}{u:Option ac}(r:OR o u):o.isSome=u.isSome:=by
 cases o with
 |none=>cases u with
  |none=>rfl
  |some _=>exact (show False from r).elim
 |some _=>cases u with
  |none=>exact (show False from r).elim
  |some _=>rfl
def KV.val{kvs:List (κ×V)}{vs:List (κ×ac)}(r:KV kvs vs)(k:κ):OR (Pl kvs k) (rL vs k):=by
 unfold KV at r
 induction r with
 |nil=>exact kf
 | @cons p q L g h t I=>
  obtain⟨G,J⟩:=h
  by_cases e:p.1=k
  .have O:q.1=k:=G.symm.trans e;have b:rL (q::g) k=O0 q.2:=by simp[rL,rq,O]
   rw[Pq e,b];exact J
  .have O:¬ q.1=k:=λz=>e (G.trans z);have b:rL (q::g) k=rL g k:=by simp[rL,rq,O]
   rw[Pu e,b];exact I
theorem KV.any{kvs:List (κ×V)}{vs:List (κ×ac)}(r:KV kvs vs)(k:κ):(kvs.any λg=>decide (g.1=k))=vs.any λg=>decide (g.1=k):=by
 unfold KV at r
 induction r with
 |nil=>rfl
 |cons h t z=>rw[ro,ro,z,h.1]
def KV.repl{kvs:List (κ×V)}{vs:List (κ×ac)}(r:KV kvs vs)(k:κ){y:V}{u:ac}(I:cc y u):
  KV (kvs.map λg=>if g.1=k then (g.1,y) else g) (vs.map λg=>if g.1=k then (g.1,u) else g):=by
 unfold KV at r ⊢
 induction r with
 |nil=>exact .nil
 | @cons p q S O h t J=>
  rw[bb,bb];refine .cons ?_ J;obtain⟨G,L⟩:=h
  by_cases e:p.1=k
  .rw[VI e,VI (G.symm.trans e)];exact⟨G,I⟩
  .rw[WI e,WI (λz=>e (G.trans z))];exact⟨G,L⟩
def KV.put{kvs:List (κ×V)}{vs:List (κ×ac)}(r:KV kvs vs)(k:κ){y:V}{u:ac}(g:cc y u):KV (Pm kvs k y) (stored vs k u):=by
 unfold Pm stored;rw[r.any k]
 by_cases e:(vs.any λz=>decide (z.1=k))=O1
 .rw[VI e,VI e];exact r.repl k g
 .rw[WI e,WI e];exact ID r ⟨rfl,g⟩
theorem KV.length{kvs:List (κ×V)}{vs:List (κ×ac)}(r:KV kvs vs):kvs.length=vs.length:=A4 r
end
def YW{k:Key}(r:cc (kV k) u):(Av P w).is k u=O1:=by
 cases k with
 |inl i=>obtain⟨t,e⟩:=(show ∃t,u=oa i t from r);subst e;exact YG P w i t
 |inr x=>obtain⟨t,e⟩:=(show ∃t,u=sQ x t from r);subst e;exact YH P w x t
theorem Qz{P:cy}{w:bE}:∀{ks:List Key}{us:List ac},fc (ks.map kV) us->ItemsAre (Av P w) ks us
 |[],_,r=>by rw[gg] at r;cases r;exact .nil
 |k::ks,_,r=>by
  rw[bb] at r;cases r with
  |cons h t=>exact .cons (YW h) (Qz t)
abbrev KT (H:Hp):List (List Key×V)->List (List Key×Addr×ac)->Prop:=mh λp q=>p.1=q.1/\H q.2.1=O0 (.tup (p.1.map kV))/\cc p.2 q.2.2
def KT.val{xs:List (List Key×Addr×ac)}(r:KT H kvs xs)(k:List Key):OR (Pl kvs k) ((dA xs k).map (·.2)):=by
 induction r with
 |nil=>exact kf
 | @cons p q L g h t I=>
  obtain⟨G,_,J⟩:=h
  by_cases e:p.1=k
  .have O:q.1=k:=G.symm.trans e;have b:dA (q::g) k=O0 q.2:=by simp[dA,rq,O]
   rw[Pq e,b];exact J
  .have O:¬ q.1=k:=λz=>e (G.trans z);have b:dA (q::g) k=dA g k:=by simp[dA,rq,O]
   rw[Pu e,b];exact I
def KT.repl{xs:List (List Key×Addr×ac)}(r:KT H kvs xs)(k:List Key){y:V}{u:ac}(J:cc y u):
  KT H (kvs.map λG=>if G.1=k then (G.1,y) else G) (xs.map (putAt k u)):=by
 induction r with
 |nil=>exact .nil
 | @cons p q S O h t L=>
  rw[bb,bb];refine .cons ?_ L;obtain⟨g,I,T⟩:=h;unfold putAt
  by_cases e:p.1=k
  .rw[VI e,VI (g.symm.trans e)];exact⟨g,I,J⟩
  .rw[WI e,WI (λz=>e (g.trans z))];exact⟨g,I,T⟩
def KT.put{xs:List (List Key×Addr×ac)}(r:KT H kvs xs)(k:List Key){b:Addr}{y:V}{u:ac}(G:H b=O0 (.tup (k.map kV)))(g:cc y u):
  KT H (Pm kvs k y) (xl xs k b u):=by
 have e:(kvs.any λz=>decide (z.1=k))=(dA xs k).isSome:=by
  rw[Tr,(r.val k).isSome_eq,xo]
 unfold Pm xl;rw[e]
 by_cases q:(dA xs k).isSome=O1
 .rw[VI q,VI q];exact r.repl k g
 .rw[WI q,WI q];exact ID r ⟨rfl,G,g⟩
def KT.keeps{xs:List (List Key×Addr×ac)}(r:KT H kvs xs)(O:∀b ys,H b=O0 (.tup ys)->H' b=O0 (.tup ys)):KT H' kvs xs:=
 Paired.mapP r λ_ _ z=>⟨z.1,O _ _ z.2.1,z.2.2⟩
section
def vX{u:HO}(ok:Qr P w H h)(e:Rd H a u):Bg P w H h a u:=e.ok ok
def Px{kvs:List (Key×V)}(ok:Qr P w H h)(e:Rd H a (.dK kvs)):kvs.length<=sizeLine/\(a==hU)=O2/\∃vs,KV kvs vs/\h.DictOf (Av P w) a vs:=
 show Bg P w H h a (.dK kvs) from vX ok e
def vY{kvs:List (Key×V)}(ok:Qr P w H h)(e:H a=O0 (.dK kvs)):kvs.length<=sizeLine/\(a==hU)=O2/\∃vs,KV kvs vs/\h.DictOf (Av P w) a vs:=Px ok (.inl e)
def Tt{ks:List Key}(ok:Qr P w H h)(e:H a=O0 (.tup (ks.map kV))):(vT (Av P w)).is h ks a:=by
 obtain⟨_,g,r,o,G,z,n,T⟩:=(show Bg P w H h a (.tup (ks.map kV)) from ok a _ e);exact⟨o,g.toArray,n,G,z,T,by simpa using Qz r⟩
def YX(ok:Qr P w H h)(e:Rd H a (.dT kvs)):kvs.length<=sizeLine/\(a==hU)=O2 ∧
  ∃xs,KT H kvs xs/\h.DictOfH (vT (Av P w)) a xs:=by
 obtain⟨z,y,xs,r,o,O,W,L,J,T,I,S⟩:=(show Bg P w H h a (.dT kvs) from vX ok e);refine⟨z,y,xs,r,o,O,W,L,J,T,I,λx g=>?_,S⟩;have all:∀{l:List (List Key×V)}{m:List (List Key×Addr×ac)},KT H l m->∀x∈m,(vT (Av P w)).is h x.1 x.2.1:=by
  intro l m q
  induction q with
  |nil=>intro x g;exact nomatch g
  | @cons p q Z Y U t G=>
   intro x g
   rcases bp.mp g with e | g
   .subst e;exact Tt ok (by rw[<-U.1];exact U.2.1)
   .exact G x g
 exact all r x g
def AAf(ok:Qr P w H h)(e:H a=O0 (.dT kvs)):kvs.length<=sizeLine/\(a==hU)=O2 ∧
  ∃xs,KT H kvs xs/\h.DictOfH (vT (Av P w)) a xs:=YX ok (.inl e)
end
def DGet(H:Hp)(a:Addr)(y:V)(r:Option V):Prop:=
 (∃kvs k,Rd H a (.dK kvs)/\y=kV k/\r=Pl kvs k)∨∃kvs k b,Rd H a (.dT kvs)/\y=.ref b/\H b=O0 (.tup (k.map kV))/\r=Pl kvs k
def Ya(H:Hp)(a:Addr)(y v:V)(g:Hp):Prop:=
 (∃kvs k,H a=O0 (.dK kvs)/\y=kV k/\kvs.length<sizeLine/\g=gq H a (.dK (Pm kvs k v))) ∨
 ∃kvs k b,H a=O0 (.dT kvs)/\y=.ref b/\H b=O0 (.tup (k.map kV))/\kvs.length<sizeLine/\g=gq H a (.dT (Pm kvs k v))
theorem Ya.k{H:Hp}{a:Addr}{kvs:List (Key×V)}{k:Key}{v:V}(e:H a=O0 (.dK kvs))(Y:kvs.length<sizeLine):Ya H a (kV k) v (gq H a (.dK (Pm kvs k v))):=.inl ⟨kvs,k,e,rfl,Y,rfl⟩
def Ya.t{k:List Key}(e:H a=O0 (.dT kvs))(g:H b=O0 (.tup (k.map kV)))(Y:kvs.length<sizeLine):
  Ya H a (.ref b) v (gq H a (.dT (Pm kvs k v))):=.inr ⟨kvs,k,b,e,rfl,g,Y,rfl⟩
section
variable {y:V}{r:ac}{o:Option V}{A:aT}
def Inv.big(I:Inv X π σ H s):hU<s.heap.objs.size:=by
 have h:gy<s.heap.objs.size:=(I.mod.glob.keeps I.bk).lt;exact IE .(2) h
theorem gW(hu:A.units+1<bv)(I:Inv X π σ H s)(g:DGet H a y (O0 v))(Z:cc y u)(h:∀J Y,Inv X π σ H Y->cc v J->Q J Y):
  ah (av X.prog X.w) A (nw (.ref a) u) Q E s:=by
 rcases g with ⟨L,k,e,U,l⟩ | ⟨L,k,b,e,U,eb,l⟩
 .subst U;obtain⟨z,hd,vs,G,W⟩:=Px I.hok e;obtain⟨J,S,O⟩:=OR.some_of (v:=v) (o:=rL vs k) (by rw[l];exact G.val k);exact wpAny_getItem_of (YW Z) W.mapOf S (h J _ (I.tok _) O)
 .subst U;cases (show u=ba b from Z);obtain⟨z,hd,xs,G,W⟩:=YX I.hok e;obtain⟨J,S,O⟩:=OR.some_of (v:=v) (o:=(dA xs k).map (·.2)) (by rw[l];exact G.val k);obtain⟨p,hp,T⟩:=ku.mp S;refine IF (AE hu) (Tt I.hok eb) W hp ?_;rw[T];exact h J _ (I.tok _) O
def d_in(T:A.units+1<bv)(I:Inv X π σ H s)(g:DGet H a y o)(S:cc y u)(h:∀O,Inv X π σ H O->Q (.bool o.isSome) O):
  ah (av X.prog X.w) A (db .In u (.ref a)) Q E s:=by
 rcases g with ⟨J,k,e,U,l⟩ | ⟨J,k,b,e,U,Y,l⟩
 .subst U;obtain⟨z,L,vs,G,W⟩:=Px I.hok e;refine wpAny_in_of (YW S) L W.mapOf ?_;rw[<-(G.val k).isSome_eq,<-l];exact h _ (I.tok _)
 .subst U;cases (show u=ba b from S);obtain⟨z,L,Z,G,W⟩:=YX I.hok e;refine wpAny_in_heap (AE T) (Tt I.hok Y) L W ?_;have q:=(G.val k).isSome_eq;rw[xo] at q;rw[<-q,<-l];exact h _ (I.tok _)
def rZ(T:A.units+1<bv)(I:Inv X π σ H s)(g:DGet H a y o)(S:cc y u)(h:∀O,Inv X π σ H O->Q (.bool (!o.isSome)) O):
  ah (av X.prog X.w) A (db .NotIn u (.ref a)) Q E s:=by
 rcases g with ⟨J,k,e,U,l⟩ | ⟨J,k,b,e,U,Y,l⟩
 .subst U;obtain⟨z,L,vs,G,W⟩:=Px I.hok e;refine wpAny_notIn_of (YW S) L W.mapOf ?_;rw[<-(G.val k).isSome_eq,<-l];exact h _ (I.tok _)
 .subst U;cases (show u=ba b from S);obtain⟨z,L,Z,G,W⟩:=YX I.hok e;refine wpAny_notIn_heap (AE T) (Tt I.hok Y) L W ?_;have q:=(G.val k).isSome_eq;rw[xo] at q;rw[<-q,<-l];exact h _ (I.tok _)
theorem Sq{ob:HO}(I:Inv X π σ H s)(g:Mut (H a))(hs:ff a s.heap h')(G:∃q,h'.get? a=O0 q)(new:Bg X.prog X.w (gq H a ob) h' a ob):
  Inv X π σ (gq H a ob) { s with heap:=h',toks:=t' }:=
 I.write (x:=a) (e:=a) g (.inl rfl) (λb q J z=>(hs.2 b J).trans z) G new
def jo{kvs:List (Key×V)}{vs:List (Key×ac)}(z:kvs.length<=sizeLine)(g:(a==hU)=O2)(G:KV kvs vs)(W:h'.DictOf (Av P w) a vs):
  Bg P w H' h' a (.dK kvs):=⟨z,g,vs,G,W⟩
def gY{Q:Unit->ai->Prop}(hu:A.units+1<bv)(I:Inv X π σ H s)(g:Ya H a y v H')(ry:cc y u)(rv:cc v r)(h:∀s',Inv X π σ H' s'->Q () s'):
  ah (av X.prog X.w) A (setItem (.ref a) u r) Q E s:=by
 rcases g with ⟨J,k,e,T,l,W⟩ | ⟨J,k,b,e,T,eb,l,W⟩
 .subst T W;obtain⟨z,S,vs,G,Z⟩:=vY I.hok e;have O:vs.length<=sizeLine:=by rw[<-G.length];exact z
  have Y:(Pm J k v).length<=sizeLine:=by have:=Rw J k v;omega
  refine wpAny_setItem_pairs (hsz:=O) (YW ry) Z λh' L hs=>h _ ?_;have he:∃q,h'.get? a=O0 q:=let ⟨q,_,_,U,_⟩:=L;⟨q,U⟩;exact Sq I (by rw[e];exact kf) hs he (jo Y S (G.put k rv) L)
 .subst T W;cases (show u=ba b from ry);obtain⟨z,S,xs,G,Z⟩:=AAf I.hok e;have O:xs.length<=sizeLine:=by rw[<-A4 G];exact z
  have Y:(Pm J k v).length<=sizeLine:=by have:=Rw J k v;omega
  refine IG (hsz:=O) (AE hu) (Tt I.hok eb) Z λh' L hs=>h _ ?_;obtain⟨q,es,ep,U,h2,h3,h4,_,h5⟩:=L;refine Sq I (by rw[e];exact kf) hs ⟨q,U⟩ ⟨Y,S,_,(G.put k eb rv).keeps λc ys ec=>?_,q,es,ep,U,h2,h3,h4,h5⟩;rw[Am (vO ec e (λz=>nomatch z))];exact ec
end
section
variable {kvs:List (Key×V)}{k:Key}{A:aT}
def AAg(I:Inv X π σ H s)(e:Rd H a (.dK kvs))(h:∀t g,Inv X π σ H g->Q (.int kvs.length t) g):ah (av X.prog X.w) A (call (.builtin "len") [.ref a]) Q E s:=by
 obtain⟨z,J,L,G,W⟩:=Px I.hok e;refine call_len_dict J W (by rw[<-G.length];rw[ia] at z;omega) ?_;rw[<-G.length];exact h _ _ (I.tok _)
end
def NoSl(i:Expr):Prop:=∀g z,xi i O2 g z=operate [g,z] (nw g z)
def bx{A:aT}{z g:Expr}{T id:String}(Y:DF (.type T) "__getitem__"=pure (O0 (.builtin id)))(hs:NoSl g)(h:ah (av prog w) A (eval z env) (λo J=>ah (av prog w) A (eval g env) (λi s₂=>s₂.TypeIs o T/\ah (av prog w) A (nw o i) Q E s₂) E J) E s):
  ah (av prog w) A (eval (.Subscript z g pos) env) Q E s:=by
 refine DH (hZ h (λo J S=>hZ S (λi s₂ G=>?_) λ_ _ x=>x) λ_ _ x=>x);obtain⟨U,G⟩:=G;unfold AD;refine ag ?_;rw[IH U.not_modules];refine ag (n9 U Y ?_);have L:ah (av prog w) A (xi g O2 o i) (λr I=>ah (av prog w) A (letTemporaryGo z o r >>= λ_=>pure r) Q E I) E s₂:=by
  rw[hs o i];exact wpAny_operating (hZ G (λr I O=>ag (II (aw O))) λ_ _ x=>x)
 first
  |exact aw (ag L)
  |exact ag (aw (ag L))
  |exact ag L
def YZ{y:V}{o:Option V}(I:Inv X π σ H s)(g:DGet H a y o):s.TypeIs (.ref a) "dict":=by
 rcases g with ⟨z,k,e,_,_⟩ | ⟨z,k,b,e,_,_,_⟩
 .obtain⟨_,_,J,_,W⟩:=Px I.hok e;exact W.typeIs
 .obtain⟨_,_,G,_,W⟩:=YX I.hok e;exact W.typeIs
def AAh(I ty G:TE):TS:=λD g H=>G g H λv O=>I g O λx L=>ty g L λy J=>∃a z,x=.ref a/\Ya J a y v z/\D.nx g z
section
variable {o i value:Expr}{tpos:Pos}{td ty tv:TE}
def Wm(U:X.A.units+1<bv)(W:PE X o td)(Y:PE X i ty)(T:PE X value tv)(hs:eP value (O0 (.Subscript o i pos')) pos.line X.env=pure O2):
  PS X (.Assign [.Subscript o i pos'] value pos) (AAh td ty tv):=by
 intro G s z H D I h;refine AF (lu (T G s z H _ I h) λr J ⟨v,H1,I1,O,q1⟩=>lu (W G J z H1 _ I1 q1) λu S ⟨x,H2,I2,rx,q2⟩=>lu (Y G S z H2 _ I2 q2) λiv s3 q0=>?_) hs;obtain⟨y,H3,I3,L,a,H4,Z,g,q3⟩:=q0;subst Z;obtain rfl:u=ba a:=rx;exact gY U I3 g L O λs4 I4=>⟨z,H4,I4,q3⟩
end
def Yb(h:Heap)(g:hU<h.objs.size):Bg P w H (h.push { cls:=.type "dict",data:=.dict #[] }) h.objs.size (.dK []):=
 ⟨fE _,beq_eq_false_iff_ne.mpr (ci (bS g)),[],.nil,Heap.DictOf.new h⟩
def jq(h:Heap)(g:hU<h.objs.size):Bg P w H (h.push { cls:=.type "dict",data:=.dict #[] }) h.objs.size (.dT []):=
 ⟨fE _,beq_eq_false_iff_ne.mpr (ci (bS g)),[],.nil,_,#[],0,ce _ rfl,⟨rfl,rfl,rfl⟩,rfl,rfl,IJ⟩
def yH:TE:=λ_ H Q=>∀p,H p=W1->Q (.ref p) (gq H p (.dK []))
def yI:TE:=λ_ H Q=>∀p,H p=W1->Q (.ref p) (gq H p (.dT []))
section
theorem jr:PE X (.Dict [] [] pos) yH:=λz s g H Q I h=>
 DO ⟨.ref s.heap.objs.size,_,I.laid (a:=s.heap.objs.size) (o:=.dK []) (t':=s.toks) (λ_ _ q=>bo _ q) (aI _) (Yb s.heap I.big),rfl,h _ (I.hok.fresh (aI _))⟩
theorem jt:PE X (.Dict [] [] pos) yI:=λz s g H Q I h=>
 DO ⟨.ref s.heap.objs.size,_,I.laid (a:=s.heap.objs.size) (o:=.dT []) (t':=s.toks) (λ_ _ q=>bo _ q) (aI _) (jq s.heap I.big),rfl,h _ (I.hok.fresh (aI _))⟩
end
section
variable {kvs:List (Key×V)}{A:aT}
theorem ju(I:Inv X π σ H s)(e:Rd H a (.dK kvs))(h:∀p g,H p=W1->Inv X π σ (gq H p (.dK kvs)) g->Q (.ref p) g):ah (av X.prog X.w) A (call (.type "dict") [.ref a]) Q E s:=by
 obtain⟨z,J,O,G,W⟩:=Px I.hok e;refine kt_call_dict J W (by rw[<-G.length];exact z) λS L hs=>?_;refine h _ _ (I.hok.fresh (aI _)) (I.laid (a:=s.heap.objs.size) (o:=.dK kvs) (t':=s.toks) (λb q U=>?_) (aI _) (jo z (beq_eq_false_iff_ne.mpr (ci (bS I.big))) G L));exact (hs.2 b (bS (br U))).trans (bo _ U)
end
end L2
namespace Att
open PySem PySem.W PySem.Calls PyProof.Rows
def SM{P:Params}:∀(ns:List Int) (vs:List ac),WellAll P h vs (ns.map tz)->xp vs ns:=by
 intro ns
 induction ns with
 |nil=>
  intro vs w;rw[gg] at w;cases w;exact .nil
 |cons n ns g=>
  intro vs w;rw[bb] at w;cases w with
  |cons a b=>
   cases a;exact .cons _ _ (g _ b)
def gZ{l:OpenLaw}(hn:l.most=O0 n){P:Params}{h:Heap}{args:List WData}{g:List ac}(z:l.row.toRowW.claim.pre args=O1)(L:WellAll P h g args):
  ∃a vs O,g=[ba a]/\args=[WData.list (O.map tz)]/\h.get? a=O0 { cls:=.type "list",data:=.seq vs.toArray }/\xp vs O/\O.length<=n:=by
 have T:WShape.hasAll [] args [.list .int]=O1:=(pre_splitW z).1;have U:l.pre.holds [] { args:=args }=O1:=(pre_splitW z).2;obtain⟨d,r,rfl,h1,h2⟩:=hasAllW_cons T;obtain rfl:=hasAllW_nil h2;obtain⟨xs,rfl,h3⟩:=hasW_list h1;obtain⟨O,rfl⟩:=items_int h3;have G:O.length<=n:=by
  unfold OpenLaw.pre at U;have J:(WTm.not (.lt (.lit (.int (n:Int))) (.len (.arg 0)))).holds [] { args:=[.list (O.map .int)] }=O1:=by
   have J:=(holds_andW U).1;rw[hn] at J;exact J
  have S:=condW_of J (w_not (w_lt w_lit (w_len_list (w_arg rfl))));rw[aE] at S;refine Nat.le_of_not_lt λq=>?_;have Z:(n:Int)<((O.length:Nat):Int):=by omega
  first
   | (rw[ZI Z] at S;exact XI S .(2))
   | (simp at S;omega)
 cases L with
 |cons Y W=>
  cases W;cases Y with
  |list ho I=>exact⟨_,_,O,rfl,rfl,ho,SM O _ I,G⟩
theorem gf(l:OpenLaw)(args:List WData):l.row.toRowW.claim.post args (.bool O1) args=O1:=
 postW_of (r:=l.row.toRowW) (X:=(O1==O1))
  (show IL [] (.bool O1) .bool=O1 by first | rfl | decide | simp[IL,WShape.arms,WShape.armsAll])
  (show (WTm.eq .res (.lit (.bool O1))).value [] { args:=args,res:=O0 (.bool O1),after:=args }=O0 (.bool (O1==O1)) from w_eq_bool (w_res rfl) w_lit) rfl
end Att
namespace L2
open PySem PySem.Spec PyProof.Rows
theorem Vr:∀{vs:List ac}{O:List Int},xp vs O->fc (O.map V.int) vs
 |_,_,.nil=>.nil
 |_,_,.cons n t h=>.cons ⟨t,rfl⟩ (Vr h)
def Only(H:Hp):Prop:=∀b,H b=W1∨∃o xs,H b=O0 (.frz o (.lst xs))
def jw{K:aS}{mb:Str->Option ac}{k:Nat}{fa:Addr}{sp:Sp}{s₁:ai}{T:List Int}(KX:K.In s₁.heap)(Z:s₁.heap.Ns gy mg)(G:s₁.heap.Ns C5 mb)(P1:∀x:Str,x≠"__name__"->mb x=d4 x)(N0:s₁.heap.NoLimit)(hg:s₁.gens=#[])(ha:s₁.heap.get? a=O0 { cls:=.type "list",data:=.seq vs.toArray })(hi:xp vs T)(hl:T.length<=sizeLine)(hr:Room k rS)(F:∀base:Heap,K.In base->base.Ns gy mg->gn P w K mg base CX k fa fd [x] sp)(O:∀(s:ai) (u:ac),wf s fd ⟨[u],[]⟩ [(x,u)])(N1:∀H:Hp,Only H->NS K H a (T.map V.int)->sp [.ref a] H (λv _=>v=.bl O1) λ_ _ _=>False)(S1:∀H e I,CX [] H s₁ (λ_ _ _=>False) e I->False):
    gL (av P w) rS (.call (.ref fa) ⟨[.ref a],[]⟩) (λr I=>r=.ok (.ret (.bool O1))/\OldK s₁.heap I.heap/\I.os=s₁.os/\ng I.gens) s₁:=by
  have rv:=Vr hi;have U:=hi.length;have L:∀H:Hp,Only H->NS K H a (T.map V.int)->Qr P w H s₁.heap->(∀b,H b≠W1->b=a)->(H a≠W1->K.lookup a=W1) ->
      gL (av P w) rS (.call (.ref fa) ⟨[.ref a],[]⟩) (λr I=>r=.ok (.ret (.bool O1))/\OldK s₁.heap I.heap/\I.os=s₁.os/\ng I.gens) s₁:=by
    intro H hO hS Y hA hK;have g:∀{b:Addr}{o:Obj},s₁.heap.get? b=O0 o->H b=W1->(XO s₁.heap H).get? b=O0 o:=λe n=>jG e n;have X0:∀{b:Addr}{o:Obj}{es:Array xt}{ep:Nat},s₁.heap.get? b=O0 o->o.data=.dict es ep->H b=W1:=λ{b o es ep} e d=>by
      cases q:H b with
      |none=>rfl
      |some u=>
        have e':b=a:=hA b (by rw[q];simp);subst e';rw[ha] at e;cases e;have d':Data.seq vs.toArray _=Data.dict es ep:=d;cases d'
    have J:∀{b:Addr}{m:Str->Option ac},s₁.heap.Ns b m->(XO s₁.heap H).Ns b m:=λ{b m} ⟨o,es,ep,e,d,r⟩=>⟨o,es,ep,g e (X0 e d),d,r⟩;have S0:K.In (XO s₁.heap H):=λb o e=>g (KX b o e) (by
      cases q:H b with
      |none=>rfl
      |some u=>
        have e':b=a:=hA b (by rw[q];simp);subst e';rw[hK (by rw[q];simp)] at e;cases e)
    have hM:Mod K mg (XO s₁.heap H):=⟨S0,J Z,⟨mb,J G,P1⟩,let ⟨mc,h1,h2⟩:=N0;⟨mc,J h1,h2⟩⟩;have e0:Env0 P w K mg (XO s₁.heap H) rS [] s₁ H:=⟨rfl,hM,λb o e=>q_ e,CS (gH _ _),trivial,λb G=>XI (show b∈([]:List Addr) from G) .(1),Y,.of_eq hg⟩;refine re ((F _ S0 (J Z)).run rS [] s₁ H ⟨[.ref a],[]⟩ [.ref a] [.ref a] _ _ hr e0 (O s₁ (.ref a)) (.cons rfl .nil) (N1 H hO hS)) λr I h=>?_;cases r with
    |error e=>exact (S1 H e I h).elim
    |ok fl=>
      cases fl with
      |next=>exact ka h
      |brk=>exact ka h
      |cont=>exact ka h
      |ret u=>
        obtain⟨v,H',os,T0,un,W,r',q⟩:=h;have q':v=.bl O1:=q;subst q';obtain rfl:u=qS O1:=r';refine⟨rfl,OldK.of_keep λb o e=>?_,os,T0⟩;cases q:H b with
        |none=>exact un.keep b o e q (by intro z;exact XI (show b∈([]:List Addr) from z) .(1)) .(1)
        |some u=>
          rcases hO b with z | ⟨ob,xs,z⟩
          . rw[q] at z;cases z
          . have z2:=un.frzs b ob _ z
            obtain⟨e1,_⟩:=Y b _ z;obtain⟨e2,_⟩:=W b _ z2;rw[e] at e1;cases e1;exact e2
  cases hk:K.lookup a with
  |some o=>
    have e:=KX a o hk;rw[ha] at e;cases e;refine L (λ_=>W1) (λ_=>.inl rfl) (.inr ⟨_,vs.toArray,_,hk,rfl,rfl,rfl,by rw[cE,U];exact hl,by simpa using rv⟩) (λb u z=>by have S:(W1:Option HO)=O0 u:=z;cases S) (λb z=>XI rfl z) λz=>XI rfl z
  |none=>
    refine L (λb=>if b=a then O0 (.frz { cls:=.type "list",data:=.seq vs.toArray } (.lst (T.map V.int))) else W1) (λb=>?_) (.inl (.inr ⟨{ cls:=.type "list",data:=.seq vs.toArray },VI rfl⟩)) (λb u z=>?_) (λb z=>?_) λ_=>hk
    . by_cases G:b=a
      . exact .inr ⟨_,_,VI G⟩
      . exact .inl (WI G)
    . by_cases G:b=a
      . have S:=(VI G).symm.trans z
        cases S;subst G;exact⟨ha,by rw[aE];exact hl,vs,_,rv,ha⟩
      . have S:=(WI G).symm.trans z
        cases S
    . by_cases G:b=a
      . exact G
      . exact XI (WI G) z
abbrev KOf {K:aS}{h:Heap}(_:K.In h):aS:=K
def nq(s:Stmt)(j:Nat):Stmt:=match s with
 |.ClassDef _ _ _ g _ _ _ _ _ _ _=>g.getD j (.Pass ⟨0,0,0,0⟩)
 |_=>.Pass ⟨0,0,0,0⟩
def FJ(s:Stmt):Arguments:=match s with
 |.FunctionDef _ a _ _ _ _ _ _ _ _=>a
 |_=>{ posonlyargs:=[],args:=[],vararg:=W1,kwonlyargs:=[],kw_defaults:=[],kwarg:=W1,defaults:=[] }
def Bo(s:Stmt):List Stmt:=match s with
 |.FunctionDef _ _ b _ _ _ _ _ _ _=>b
 |_=>[]
def Ab(s:Stmt):kS:=match s with
 |.FunctionDef _ _ _ _ _ _ sc _ _ _=>sc
 |_=>{ kind:=.function,names:=[],isGenerator:=O2,isCoroutine:=O2 }
abbrev CX0:CXT:=λ_ _ _ _ _ _=>False
abbrev E0:XK:=λ_ _ _=>False
def Ry:Ox CX0 X E0:=λ_ _ _ _ _ _ _ h=>h.elim
structure Fun (K:aS) (x qual:Str) (st:Stmt) (f:Addr) (fd:li):Prop where
 ex:∃(oc:ac) (od:Option Addr) (kV doc pm:ac) (an:Option Addr) (cdv ct:ac) (osl:Array (Option ac)),
  fd=io x qual (FJ st) (Bo st) (Ab st) .none kV doc pm an cdv ct/\K.lookup f=O0 ⟨oc,od,.func fd,osl⟩/\pd K cdv qual=O1
 kp:ib K (.ref f)=O1
section
variable {K:aS}{base:Heap}
def Fun.ok{f:Addr}{k:Nat}{sp:Sp}(F:Fun K x qual st f fd)(S:am N ps (Ab st))(len:∀vs H Q E,sp vs H Q E->vs.length=ps.length)(O:∀(cdv:ac) (A:aT) (g:List Env) (s:ai) (H:Hp) (vs:List V) (Q:VK) (E:XK),Room k (A.deeper (fR qual (Ab st) s.heap.objs.size f cdv))->sp vs H Q E ->
   ∃t,UP (Qb CX0 P w K mg base N qual (Ab st) f cdv A g s H E).nox (Bo st) t/\t { nx:=λ_ H'=>Q .non H',rt:=Q } (start N vs) H):gn P w K mg base CX0 (k+1) f fd ps sp:=by
 obtain⟨Y,W,kV,L,U,an,cdv,Z,z,rfl,G,J⟩:=F.ex;refine je G J S len λA g s H vs Q E I T=>?_;obtain⟨t,h,q⟩:=O cdv A g s H vs Q E I T;exact⟨t,h.nox,q⟩
def Fun.binds{f:Addr}(F:Fun K x qual st f fd)(h:∀(kV doc pm:ac) (an:Option Addr) (cdv ct:ac) (us:List ac),us.length=ps.length->wq (io x qual (FJ st) (Bo st) (Ab st) .none kV doc pm an cdv ct) ⟨us,[]⟩=pure (ps.zip us)):MU K fd ps []:=by
 obtain⟨Y,g,kV,doc,pm,an,cdv,ct,z,rfl,G,J⟩:=F.ex;exact .all (h kV doc pm an cdv ct)
def Tv{f:Addr}{kV:ac}(l:K.lookup f=O0 ⟨oc,od,.func (io x qual (FJ st) (Bo st) (Ab st) .none kV doc pm an cdv ct),osl⟩)(c:pd K cdv qual=O1)(k:ib K (.ref f)=O1):Fun K x qual st f (io x qual (FJ st) (Bo st) (Ab st) .none kV doc pm an cdv ct):=⟨⟨oc,od,kV,doc,pm,an,cdv,ct,osl,rfl,l,c⟩,k⟩
end
def Ip{A:aT}{k:Nat}(J:Room k A):A.units+1<bv:=nI (Nat.add_le_add_left (by decide:1<=64) _) J.units
section
def pv(i:Nat){x:Str}{g:Pos}(I:X.N[i]?=O0 x:=by rfl)(z:XU X.env.scope x:=by first | exact dn rfl | exact cr (dn rfl) | exact cr (cr rfl))(G:(x==("__debug__":Str))=O2:=by decide)(J:(x==("__classdict__":Str))=O2:=by decide):PE X (.Name x g) (TL i):=Zr I z G J
end
def VT{A B:Prop}(h:B):if O2=O1 then A else B:=by
 rw[WI d6];exact h
def Xs{A B:Prop}(h:A):if O1=O1 then A else B:=by
 rw[VI rfl];exact h
def af(H g:Hp):Prop:=∀b o,H b=O0 o->g b=O0 o
def af.refl(H:Hp):af H H:=λ_ _ h=>h
def af.trans{H2:Hp}(a:af H H1)(b:af H1 H2):af H H2:=λc o h=>b c o (a c o h)
def af.free(e:af H H'){l:Addr}(h:H' l=IM):H l=IM:=by
 cases q:H l with
 |none=>rfl
 |some o=>
  rw[e l o q] at h;cases h
def af.seq{K:aS}(e:af H H')(h:NS K H a xs):NS K H' a xs:=by
 rcases h with (h | ⟨o,h⟩) | h
 .exact .inl (.inl (e _ _ h))
 .exact .inl (.inr ⟨o,e _ _ h⟩)
 .exact .inr h
def OX(cells:List (Str×Addr)):List (Str×lx)->List (Str×Addr)->List (Str×Addr)
 |[],cs=>cs
 |y::r,cs=>if y.2==.free then OX cells r ((y.1,(cells.lookup y.1).getD 0)::cs) else OX cells r cs
theorem Tw{cells:List (Str×Addr)}{x:Str}{c:Addr}:∀{names:List (Str×lx)}{cs:List (Str×Addr)},(∀y∈names,y.2=.free ->∃c,cells.lookup y.1=O0 c) ->
  (OX cells names cs).lookup x=O0 c->cs.lookup x=O0 c∨cells.lookup x=O0 c
 |[],_,_,h=>.inl h
 |y::r,cs,G,h=>by
  unfold OX at h;split at h
  .rename_i I;have g:y.2=.free :=by simpa using I
   obtain⟨S,J⟩:=G y df g
   rcases Tw (λz O=>G z (cw _ O)) h with q | q
   .rw[bX] at q;split at q
    .rename_i e;have L:x=y.1:=by simpa using e
     rw[J] at q;subst L;right;rw[J];simpa using q
    .exact .inl q
   .exact .inr q
  .exact Tw (λz O=>G z (cw _ O)) h
theorem Q0{cells:List (Str×Addr)}{x:Str}:∀{names:List (Str×lx)}{cs:List (Str×Addr)},(∃c,cs.lookup x=O0 c)->∃c,(OX cells names cs).lookup x=O0 c
 |[],_,h=>h
 |y::r,cs,h=>by
  unfold OX;split
  .apply Q0;rw[bX];split
   .exact⟨_,rfl⟩
   .exact h
  .exact Q0 h
theorem MT{cells:List (Str×Addr)}{x:Str}:∀{names:List (Str×lx)}{cs:List (Str×Addr)},(x,tJ)∈names->∃c,(OX cells names cs).lookup x=O0 c
 |[],_,h=>by cases h
 |y::r,cs,h=>by
  unfold OX
  rcases bp.mp h with e | h
  .subst e;rw[VI (by rfl)];apply Q0;rw[bX];simp
  .split
   .exact MT h
   .exact MT h
theorem bz{env:Env}:∀(names:List (Str×lx)) (cs:List (Str×Addr)),(∀y∈names,y.2=.free ->∃c,env.cells.lookup y.1=O0 c) ->
  (forIn names cs (λx r=>match x with
   | (name,g)=>if (g==tJ)=O1 then do let a <-cellOf env name;pure (ua ((name,a)::r)) else pure (ua r)):Sem (List (Str×Addr)))=pure (OX env.cells names cs)
 |[],_,_=>rfl
 | (n,k)::r,cs,L=>by
  have J:=λcs=>bz r cs (λz O=>L z (cw _ O));rw[List.forIn_cons]
  by_cases I:(k==tJ)=O1
  .obtain⟨c,S⟩:=L (n,k) df (by simpa using I);have G:env.cells.lookup n=O0 c:=S;have e:cellOf env n=pure c:=by unfold cellOf;rw[G]
   simp only[I,TK,e];show (forIn r ((n,c)::cs) _:Sem _)=_;rw[J]
   conv=>rhs;unfold OX
   simp only[I,TK,G,Option.getD_some]
  .simp only[I,UK];show (forIn r cs _:Sem _)=_;rw[J]
   conv=>rhs;unfold OX
   simp only[I,UK];rfl
def OJ(G:∀y∈scope.names,y.2=.free ->∃c,env.cells.lookup y.1=O0 c):closureFor scope env=pure (OX env.cells scope.names []):=by
 have h:=bz (env:=env) scope.names [] G;unfold closureFor;show ((forIn scope.names [] _:Sem _) >>= λr=>pure r)=_;exact (NJ (λm=>m >>= λr=>pure r) h)
theorem Gg{env:Env}{x:Str}{k:lx}:∀{names:List (Str×lx)},(names.map λ(n,k)=>if (k==tJ&&env.scope.kind==.function&&env.kindOf n==O0 .cell) then (n,NameKind.cell) else (n,k)).lookup x=O0 k ->
  ∃k',(x,k')∈names/\(k'=k∨(k'=.free /\k=.cell))
 |[],h=>by simp at h
 | (n,g)::r,h=>by
  rw[bb] at h;have L:=@Gg env x k r
  by_cases J:(g==tJ&&env.scope.kind==.function&&env.kindOf n==O0 .cell)=O1
  .simp only[J,TK] at h;rw[bX] at h;split at h
   .rename_i e;have O:x=n:=by simpa using e
    subst O;have z:g=.free :=by
     rw[eI,eI] at J;simpa using J.1.1
    cases h;exact⟨g,df,.inr ⟨z,rfl⟩⟩
   .obtain⟨k',I,G⟩:=L h;exact⟨k',cw _ I,G⟩
  .simp only[J,UK] at h;rw[bX] at h;split at h
   .rename_i e;have O:x=n:=by simpa using e
    subst O;cases h;exact⟨g,df,.inl rfl⟩
   .obtain⟨k',I,G⟩:=L h;exact⟨k',cw _ I,G⟩
def CG(g N:List Str):List Str:=N.map λy=>if y∈g then nv else y
abbrev Ej (t:Str) (N:List Str):List Str:=CG [t] N
abbrev Bp (X:Cx) (scope:kS) (N2:List Str) (s2:ai) (H2:Hp) (fp:List Addr):Cx:=
 { X with N:=N2,s₀:=s2,H₀:=H2,env:=compEnvC scope (OX X.env.cells scope.names []) (s2.heap.objs.size+1) X.env,outer:=X.stack,ex:=fp,fn:=λ_=>O2,pn:=[],xe:=λ_ _=>False }
structure oo (X:Cx) (scope:kS) (ts:List Str):Prop where
 nocell:∀y∈scope.names,y.2≠.cell
 kind:scope.kind=.function
 names:∀y∈scope.names,y.2=.local ->scope.names.lookup y.1=O0 .local
 tl:∀t∈ts,scope.names.lookup t=O0 .local
 loc:∀y∈scope.names,y.2=.local ->y.1∈ts∨y.1∉X.N
 fre:∀y∈scope.names,y.2=.free ->X.env.kindOf y.1=O0 .cell ∨X.env.kindOf y.1=O0 .free
 emp:∀y∈scope.names,y.1≠nv
 nd:∀t∈ts,Uq (CG ts X.N++ts) t
section
variable {t:Str}{ts:List Str}
theorem oo.cells(c:oo X scope ts)(ok:X.Ok):∀y∈scope.names,y.2=.free ->∃c,X.env.cells.lookup y.1=O0 c:=λy g G=>ok.has y.1 (c.fre y g G)
def oo.sub(c:oo X scope ts)(ok:X.Ok){x:Str}{a:Addr}(h:(OX X.env.cells scope.names []).lookup x=O0 a):X.env.cells.lookup x=O0 a:=by
 rcases Tw (c.cells ok) h with q | q
 .simp at q
 .exact q
theorem oo.inv{fp:List Addr}{h1:Heap}{tk:Nat}(c:oo X scope ts)(I:Inv X π σ H s)(hf:∀b∈fp,VX X π H b)(ho:∀b∈fp,∃o,s.heap.get? b=O0 o)(N1:h1.Ns (s.heap.objs.size+1) (λ_=>W1))(kp:∀b o,s.heap.get? b=O0 o->h1.get? b=O0 o)(Z:h1.get? s.heap.objs.size=O0 { cls:=.type "list",data:=.seq #[] }):
  Inv (Bp X scope (CG ts X.N++ts) s H fp) [] (σ++wx ts.length W1) (gq H s.heap.objs.size (.lst [])) { s with heap:=h1,toks:=tk }:=by
 have L:∀b o,s.heap.get? b=O0 o->b<s.heap.objs.size:=λb o e=>br e;have T0:(Bp X scope (CG ts X.N++ts) s H fp).Ok:=by
  refine⟨I.ok.mod,c.kind,I.ok.glob,I.ok.blt,lj _,λx y a h1 h2=>I.ok.inj x y a (c.sub I.ok h1) (c.sub I.ok h2),λx hx=>?_,λx a h _=>XI (show O2=O1 from h) d6,I.ok.hd,I.ok.frames,.inl rfl,λb W=>⟨?_,λx a h=>?_⟩,I.bs,de I.ok.bsz I.sz,λb o e W=>?_,λb W hs=>?_,I.stack,I.stkFree⟩
  .have X0:(nL scope X.env).names.lookup x=O0 .cell ∨(nL scope X.env).names.lookup x=O0 .free :=hx;have go:∀k,(nL scope X.env).names.lookup x=O0 k->(k=.cell ∨k=.free)->(x,tJ)∈scope.names:=λk hk U=>by
    obtain⟨J,m,e⟩:=Gg hk
    rcases e with e | ⟨e,_⟩
    .subst e
     rcases U with z | z
     .exact XI z (c.nocell _ m)
     .rw[<-z];exact m
    .rw[<-e];exact m
   rcases X0 with h | h
   .exact MT (go _ h (.inl rfl))
   .exact MT (go _ h (.inr rfl))
  .obtain⟨o,e⟩:=ho b W;exact bS (mN (L b o e))
  .exact (hf b W).2.2.2.2.1 x a (c.sub I.ok h)
  .rcases (hf b W).2.2.2.1 with z | z
   .exact I.ok.noex b o e z
   .exact XI (fh (br e) (de I.ok.bsz z)) (kx _)
  .rcases bp.mp (I.stkSub b hs) with z | z
   .exact (hf b W).2.1 z
   .exact (hf b W).2.2.1 z
 have fr:H s.heap.objs.size=W1:=I.hok.fresh (aI _);have new:Bg X.prog X.w (gq H s.heap.objs.size (.lst [])) h1 s.heap.objs.size (.lst []):=⟨fE _,[],0,.nil,Z⟩;refine⟨T0,rfl,I.bare,Un.laid kp (aI _) fr,⟨_,N1,λi x v e1 e2 e3=>?_⟩,λx a h=>?_,?_,λx a h=>?_,λp hp=>XI (show p∈([]:NU) from hp) .(1),I.hok.laid kp (aI _) new,?_⟩
 .have S0:(CG ts X.N++ts)[i]?=O0 x:=e1;have Y:i<σ.length:=by
   by_cases z:i<σ.length
   .exact z
   .rw[ja .(0),Au] at e2;split at e2<;>cases e2
  have X1:σ[i]?=O0 (O0 v):=by rw[ko Y] at e2;exact e2
  have hN:i<X.N.length:=by rw[<-I.len];exact Y
  have g:(CG ts X.N)[i]?=O0 x:=by rw[ko (by unfold CG;rw[aE];exact hN)] at S0;exact S0
  unfold CG at g;rw[cb] at g;have U1:(nL scope X.env).names.lookup x=O0 .local ∨(nL scope X.env).names.lookup x=O0 .cell ∨(nL scope X.env).names.lookup x=O0 .free :=e3;have P1:∃J,(x,J)∈scope.names/\(J=.local ∨J=.free)/\(J=.free ->(nL scope X.env).names.lookup x=O0 .cell ∨(nL scope X.env).names.lookup x=O0 .free):=by
   rcases U1 with z | z | z
   .obtain⟨J,m,e⟩:=Gg z
    rcases e with e | ⟨_,e⟩
    .exact⟨J,m,.inl e,λq=>by rw[q] at e;cases e⟩
    .cases e
   .obtain⟨J,m,e⟩:=Gg z
    rcases e with e | ⟨e,_⟩
    .exact XI e (c.nocell _ m)
    .exact⟨J,m,.inr e,λ_=>.inl z⟩
   .obtain⟨J,m,e⟩:=Gg z
    rcases e with e | ⟨e,q⟩
    .exact⟨J,m,.inr e,λ_=>.inr z⟩
    .cases q
  cases ey:X.N[i]? with
  |none=>rw[ey] at g;cases g
  |some y=>
   rw[ey] at g;have O:(if y∈ts then nv else y)=x:=cS g;obtain⟨J,m,G,S1⟩:=P1
   by_cases T:y∈ts
   .rw[VI T] at O;exact XI O.symm (c.emp _ m)
   .rw[WI T] at O;subst O
    rcases G with G | G
    .rcases c.loc _ m G with z | z
     .exact XI z T
     .exact XI (oS ey) z
    .have U:=c.fre _ m G;have S:X.env.kindOf y=O0 .cell ∨X.env.kindOf y=O0 .free :=U;obtain⟨mm,hn,hl⟩:=I.loc;have hv:XU X.env.scope y:=by
      rcases S with z | z
      .exact .inr (.inl z)
      .exact .inr (.inr z)
     obtain⟨u,r,l⟩:=hl i y v ey X1 hv;refine⟨u,r,.inr ⟨S1 G,?_⟩⟩
     rcases l with ⟨kl,_⟩ | ⟨_,a,ea,hc⟩
     .rcases S with z | z
      .rw[kl] at z;cases z
      .rw[kl] at z;cases z
     .rw[G] at m;obtain⟨a',N0⟩:=MT (cells:=X.env.cells) (cs:=[]) m;refine⟨a',N0,?_⟩;have:=c.sub I.ok N0;rw[ea] at this;cases this;obtain⟨o,e,d⟩:=hc;exact⟨o,kp _ _ e,d⟩
 .obtain⟨v,o,e,d⟩:=I.cell x a (c.sub I.ok h);exact⟨v,o,kp _ _ e,d⟩
 .show gq H s.heap.objs.size (.lst []) (s.heap.objs.size+1)=W1;rw[Am (IN _)];exact I.hok.fresh (lj _)
 .have ha:=c.sub I.ok h;obtain⟨v,o,e,d⟩:=I.cell x a ha;rw[Am (bS (L _ _ e))];exact I.freeC x a ha
 .show (σ++wx ts.length W1).length=(CG ts X.N++ts).length;unfold CG;rw[eB,eB,aE,I.len,xb]
def Z9(n:Nat)(wi:TI)(g:TG)(tc:TT)(te:TE):TE:=λO H Q=>wi O H λJ L=>∀p,L p=W1->∃W:Nat->Nat->List V->Hp->Prop,(∃m,W 0 m [] (gq L p (.lst []))) ∧
 ∀i m G H,W i m G H->(J.stop i H/\Q (.ref p) H)∨(J.go i H/\∀x Z,J.yld i H x Z->∀S:List (Option V),S.length=n->g x (O++S) Z λz L=>(∃T,z=O++T/\T.length=n)/\tc z L λb Y=>
  if b=O1 then te z Y λy U=>U p=O0 (.lst G)/\G.length<sizeLine/\∃I,I<m/\W (i+1) I (G++[y]) (gq U p (.lst (G++[y]))) else ∃I,I<m/\W (i+1) I G Y)
def PTs(X:Cx)(z:List Expr)(tc:TT):Prop:=
 ∀(G:NU) (s:ai) (g:St) (H:Hp) (Q:Bool->Hp->Prop),Inv X G g H s->tc g H Q ->
  ah (av X.prog X.w) X.A (forIn z O1 λc r=>if r=O1 then do let ok <-oj c X.env (eval c X.env);pure (ua ok) else pure (ua r)) (TP X G g Q) X.xe s
def sE:PTs X [] (λ_ H Q=>Q O1 H):=λ_ _ _ H _ I h=>wpAny_tests_nil ⟨H,I,h⟩
def sG(h:PT X e tc):PTs X [e] tc:=λz s g H Q I q=>wpAny_tests_one (h z s g H Q I q)
variable {elt iter:Expr}{ifs:List Expr}{px:Pos}{wi:TI}{te:TE}{g:TG}
def Z_{A:aT}{R:oC->ai->Prop}{z G:ac}(J:Nat->ai->Prop)(E:ac->ai->Prop)(hE:E=notedBy (av prog w) A env λe W=>R (.error e) W)(go:∀n s,J n s->ah (av prog w) A (gI z) (λr s1=>match r with
      |none=>R (.ok .next) s1
      |some v=>ah (av prog w) A (A7 tg z v) (λ_ T=>ah (av prog w) A (mB tg env v) (λ_ S=>
          ah (av prog w) A (forIn ifs O1 λc r=>if r=O1 then do let ok <-oj c env (eval c env);pure (ua ok) else pure (ua r)) (λok I=>
            if ok=O1 then ah (av prog w) A (eval elt env) (λx O=>ah (av prog w) A (call (.builtin "list.append") [G,x]) (λ_ L=>∃m,m<n/\J m L) E O) E I else ∃m,m<n/\J m I) E S) E T) E s1) E s)(n:Nat)(j0:J n s):gL (av prog w) A (.compLoop (.ListComp elt [⟨tg,iter,ifs,0⟩] scope pos) 0 z G env) R s:=by
  subst hE;refine codeAny_loop rfl J (λn s jn=>?_) n j0;show ah _ A (Sem.onRaise (compTurn (.ListComp elt [⟨tg,iter,ifs,0⟩] scope pos) 0 z G env) (λx=>do noteFrame x env;theTreesLotGoes x)) _ _ s;refine wpAny_noted ?_;rw[compTurn_list];refine ag (As (ag (lu (go n s jn) λr s1 q1=>?_)));cases r with
  |none=>exact aw q1
  |some v=>
    refine ag (lu q1 λ_ T q2=>ag (lu q2 λ_ S q3=>ag (lu q3 λok I U=>?_)));cases ok with
    |false=>exact aw ⟨rfl,U⟩
    |true=>exact ag (ag (lu U λx O Z=>ag (lu Z λ_ L Y=>aw (aw ⟨rfl,Y⟩))))
def Tz{Q:VK}{fp:List Addr}{tn:Nat->Heap->Prop}{J:It}{RR:ac->Addr->oC->ai->Prop}(c:oo X scope ts)(hc:X.calm=O1)(I:Inv X π σ H s)(T:XW X.prog X.w X.K tg J fp it tn)(X2:tn 0 s.heap)(hf:∀b∈fp,VX X π H b)(hG:∀s2 H2 fp,PG (Bp X scope (CG ts X.N++ts) s2 H2 fp) tg g)(hI:∀s2 H2 fp,PTs (Bp X scope (CG ts X.N++ts) s2 H2 fp) ifs tc)(hE:∀s2 H2 fp,PE (Bp X scope (CG ts X.N++ts) s2 H2 fp) elt te)(h:∀p,H p=W1->∃W:Nat->Nat->List V->Hp->Prop,(∃m,W 0 m [] (gq H p (.lst []))) ∧
      ∀i m ys H,W i m ys H->(J.stop i H/\Q (.ref p) H)∨(J.go i H/\∀x H',J.yld i H x H'->∀os:List (Option V),os.length=ts.length->g x (σ++os) H' λX0 H1=>(∃o2,X0=σ++o2/\o2.length=ts.length)/\tc X0 H1 λb H2=>
        if b=O1 then te X0 H2 λy H3=>H3 p=O0 (.lst ys)/\ys.length<sizeLine/\∃m',m'<m/\W (i+1) m' (ys++[y]) (gq H3 p (.lst (ys++[y]))) else ∃m',m'<m/\W (i+1) m' ys H2))(f8:∀p C s' H' m,Inv X π σ H' s'->H' C=W1->C≠X.env.locals->X.s₀.heap.objs.size<=C->(∀x a,X.env.cells.lookup x=O0 a->a≠C)->(∀q∈X.pn++π,q.1≠C)->s'.heap.Ns C m->Q (.ref p) H'->RR (.ref p) C (.ok .next) s'):
    ah (av X.prog X.w) X.A (xv []) (λN4 s₃=>ah (av X.prog X.w) X.A (newFunctionEnv scope X.env.globals (OX X.env.cells scope.names []) [] X.env.qual W1 .none (O0 X.env)) (λS0 Q2=>
      gL (av X.prog X.w) X.A (.compStart (.ListComp elt [⟨tg,iter,ifs,0⟩] scope pos) 0 (.ref it) N4 { S0 with scope:=nL scope X.env }) (RR N4 S0.locals) Q2) E s₃) E s:=by
  refine kD (wpAny_newFunctionEnv c.nocell (by intro y hy;simp at hy) (λh₁ L G=>?_) c.kind);dsimp only at L G ⊢;generalize S1:s.heap.push { cls:=.type "list",dict:=W1,data:=.seq ([]:List ac).toArray }=G2 at L G ⊢;have hC:G2.objs.size=s.heap.objs.size+1:=by rw[<-S1,iO]
  rw[hC] at L G ⊢;have kp:∀b o,s.heap.get? b=O0 o->h₁.get? b=O0 o:=λb o e=>G.extBut b o (bS (mN (br e))) (bo _ (S1▸bo _ e));have P3:h₁.get? s.heap.objs.size=O0 { cls:=.type "list",data:=.seq #[] }:=G.extBut _ _ (bS (tj _)) (bo _ (S1▸ce _ rfl));have P1:∀b∈fp,∃o,s.heap.get? b=O0 o:=λb O=>let ⟨o,e,_⟩:=T.obj 0 _ X2 b O;⟨o,e⟩;have I0:=c.inv (fp:=fp) (h1:=h₁) (tk:=s.toks+([]:List (Str×ac)).length) I hf P1 (by simpa using L) kp P3;have fr:H s.heap.objs.size=W1:=I.hok.fresh (aI _);obtain⟨W,⟨m0,w0⟩,X1⟩:=h _ fr;have U2:tn 0 h₁:=T.keep 0 _ _ X2 λb _ o e=>kp b o e;generalize S:Bp X scope (CG ts X.N++ts) s H fp=Y at I0;have N3:Y.calm=O1:=by rw[<-S];exact hc
  have U:∀{H':Hp},(∀b∈fp,H' b=W1)->∀b∈fp,VX Y [] H' b:=λ{H'} hn b O=>by
    obtain⟨o,e⟩:=P1 b O;refine⟨hn b O,?_,?_,.inl ?_,λx a e'=>?_,λp hp=>?_⟩
    . rw[<-S];exact bS (mN (br e))
    . intro z
      exact I0.ok.exfs b (by rw[<-S];exact O) z
    . rw[<-S];exact O
    . exact (I0.ok.exf b (by rw[<-S];exact O)).2 x a e'
    . rw[<-S] at hp
      exact XI (show p∈([]:NU) from hp) .(1)
  have P9:∀b∈fp,gq H s.heap.objs.size (.lst []) b=W1:=λb O=>by
    obtain⟨o,e⟩:=P1 b O;rw[Am (bS (br e))];exact (hf b O).1
  have Z:Y.env=compEnvC scope (OX X.env.cells scope.names []) (s.heap.objs.size+1) X.env:=by rw[<-S]
  have pY:Y.prog=X.prog:=by rw[<-S]
  have wY:Y.w=X.w:=by rw[<-S]
  have aY:Y.A=X.A:=by rw[<-S]
  have kY:Y.K=X.K:=by rw[<-S]
  have xY:Y.xe=λ_ _=>False:=by rw[<-S]
  have u8:PTs Y ifs tc:=by rw[<-S];exact hI s H fp
  have r9:PE Y elt te:=by rw[<-S];exact hE s H fp
  have P8:PG Y tg g:=by rw[<-S];exact hG s H fp
  have N0:∀s₃:ai,s₃={ s with heap:=h₁,toks:=s.toks+([]:List (Str×ac)).length } ->
      gL (av X.prog X.w) X.A (.compLoop (.ListComp elt [⟨tg,iter,ifs,0⟩] scope pos) 0 (.ref it) (.ref s.heap.objs.size) (compEnvC scope (OX X.env.cells scope.names []) (s.heap.objs.size+1) X.env)) (RR (.ref s.heap.objs.size) (s.heap.objs.size+1)) s₃:=by
    rintro s₃ rfl;rw[<-Z];refine Z_ (λn s'=>∃i ys os H',os.length=ts.length/\Inv Y [] (σ++os) H' s'/\tn i s'.heap/\(∀b∈fp,H' b=W1)/\W i n ys H') _ rfl ?_ m0 ⟨0,[],_,_,xb,I0,U2,P9,w0⟩;rintro n s3 ⟨i,ys,os,H3,P6,I3,T2,S3,w3⟩
    rcases X1 i n ys H3 w3 with ⟨S2,qn⟩ | ⟨go,step⟩
    . have d:=T.done Y pY wY kY N3 i [] s3 _ H3 (λ_ _=>False) I3 (U S3) T2 S2
      rw[aY] at d;refine hZ d (λr s4 q0=>?_) λ_ _ z=>z.elim;obtain⟨hr,I4⟩:=q0;subst hr;have cN:=I4.free;have X9:H3 (s.heap.objs.size+1)=W1:=by rw[Z] at cN;exact cN
      have un:=I4.base;obtain⟨m,hm,_⟩:=I4.loc;have P7:s4.heap.Ns (s.heap.objs.size+1) m:=by rw[Z] at hm;exact hm
      have P4:Un (frs X.stack) fp H H3 s.heap s4.heap:=by rw[<-S] at un;exact un
      have S4:s4.os=s.os:=by have:=I4.os;rw[<-S] at this;exact this
      have Y2:Qr X.prog X.w H3 s4.heap:=by have:=I4.hok;rw[<-S] at this;exact this
      have U1:=I4.bare;have IX:Inv X π σ H3 s4:=I.call' S4 P4 Y2 U1 λb O=>⟨(hf b O).2.2.2.1,(hf b O).2.1,(hf b O).2.2.2.2.1,(hf b O).2.2.2.2.2⟩;refine f8 _ _ _ _ m IX X9 (ol (mN I.lt)) (de I.sz (lj _)) (λx a e z=>?_) (λq hq z=>?_) P7 qn
      . obtain⟨v,oc,e',_⟩:=I.cell x a e
        have q2:a<s.heap.objs.size:=br e';have z':a=s.heap.objs.size+1:=z;exact XI (z'▸q2) (kH.mpr (lj _))
      . have q2:q.1<s.heap.objs.size:=br (I.pin q hq).1
        have z':q.1=s.heap.objs.size+1:=z;exact XI (z'▸q2) (kH.mpr (lj _))
    . have d:=T.item Y pY wY kY N3 i [] s3 _ H3 (λ_ _=>False) I3 (U S3) T2 go
      rw[aY] at d;refine hZ d (λr s4 q9=>?_) λ_ _ z=>z.elim;obtain⟨u,hr,h4⟩:=q9;subst hr;refine hZ h4 (λ_ s4 p0=>?_) λ_ _ z=>z.elim;obtain⟨x,H5,I5,r5,y5,N1,N9⟩:=p0;have I5':=I5.pinned (U N9) (T.obj _ _ N1);have Y3:=P8 _ s4 _ H5 x u _ I5' r5 (step x H5 y5 os P6);rw[aY,pY,wY,xY] at Y3;refine hZ Y3 (λ_ s6 p9=>?_) λ_ _ z=>z.elim;obtain⟨σ6,H6,I6,⟨o2,e6,l6⟩,q⟩:=p9;subst e6;have Y1:=u8 _ s6 _ H6 _ I6 q;rw[aY,pY,wY,xY] at Y1;refine hZ Y1 (λb s7 g0=>?_) λ_ _ z=>z.elim;obtain⟨H7,I7,q7⟩:=g0;have T0:∀{H8:Hp}{s8:ai},Inv Y ([]++Ti fp s4.heap) (σ++o2) H8 s8->tn (i+1) s8.heap/\∀b∈fp,H8 b=W1:=λ{H8 s8} I8=>by
        refine⟨T.keep _ _ _ N1 λb O ob e=>(I8.pin (b,ob) (i6 _ (i6 _ (Ks O e)))).1,λb O=>?_⟩;obtain⟨ob,e,d⟩:=T.obj _ _ N1 b O;exact (I8.pin (b,ob) (i6 _ (i6 _ (Ks O e)))).2.1
      cases b with
      |false=>
        rw[WI d6] at q7 ⊢;obtain⟨m',hm,w7⟩:=q7;obtain⟨t7,f7⟩:=T0 I7;exact⟨m',hm,i+1,ys,o2,H7,l6,I7.unpinned,t7,f7,w7⟩
      |true=>
        rw[VI rfl] at q7 ⊢;have ev:=r9 _ s7 _ H7 _ I7 q7;rw[aY,pY,wY,xY] at ev;refine hZ ev (λy s8 g9=>?_) λ_ _ z=>z.elim;obtain⟨yv,H8,I8,r8,r6,P5,m',hm,w8⟩:=g9;have ap:=Qy (X:=Y) _ s8 _ H8 (.ref s.heap.objs.size) [yv] (.ref s.heap.objs.size) [y] (λ_ H9=>H9=gq H8 s.heap.objs.size (.lst (ys++[yv]))) I8 rfl (.cons r8 .nil) ⟨_,ys,yv,rfl,rfl,r6,P5,rfl⟩;rw[aY,pY,wY,xY] at ap;refine hZ ap (λ_ s9 u0=>?_) λ_ _ z=>z.elim;obtain⟨_,H9,I9,_,e9⟩:=u0;subst e9;obtain⟨t9,f9⟩:=T0 I9;exact⟨m',hm,i+1,_,o2,_,l6,I9.unpinned,t9,f9,w8⟩
  exact codeAny_compStart_list (N0 _ rfl) (T.self X.A 0 _ _ _ U2 (N0 _ rfl))
theorem jz(c:oo X scope ts)(hc:X.calm=O1)(hi:PI X tg iter wi)(hG:∀S z fp,PG (Bp X scope (CG ts X.N++ts) S z fp) tg g)(hI:∀S z fp,PTs (Bp X scope (CG ts X.N++ts) S z fp) ifs tc)(hE:∀S z fp,PE (Bp X scope (CG ts X.N++ts) S z fp) elt te)(hs:∀x,lc iter X.env x=pure x:=by intro _;rfl):PE X (.ListComp elt [⟨tg,iter,ifs,0⟩] scope pos) (Z9 ts.length wi g tc te):=by
 intro O s L H Q I h;rw[eval_ListComp];refine IP (use:=W1) rfl hs (OJ (c.cells I.ok)) c.kind c.names (lu (hi O s L H _ I h) λv s1 h1=>lu h1 λN0 S h2=>?_);obtain⟨it,fp,tn,J,z,e,I2,T,G,f2,q⟩:=h2;subst e;refine Tz (Q:=Q) c hc I2 T G f2 hG hI hE q λp C W H' m I' n1 n2 n3 n4 Z hm Y=>?_;exact⟨m,hm,λh' U=>⟨.ref p,H',I'.turned (t':=W.toks) (λb o hb e=>(U.2 b hb).trans e) n1 (ci (ci n2)) (.inr n3) n4 Z,rfl,Y⟩⟩
theorem j5(c:oo X scope ts)(hc:X.calm=O1)(hN:X.N.Nodup)(Y:X.N[i]?=O0 y)(hx:Loc X.env.scope y)(hi:PI X tg iter wi)(hG:∀S G fp,PG (Bp X scope (CG ts X.N++ts) S G fp) tg g)(hI:∀S G fp,PTs (Bp X scope (CG ts X.N++ts) S G fp) ifs tc)(hE:∀S G fp,PE (Bp X scope (CG ts X.N++ts) S G fp) elt te)(W:eP (.ListComp elt [⟨tg,iter,ifs,0⟩] scope pos) (O0 (.Name y py)) spos.line X.env=pure O1:=by rfl)(hf:X.fn y=O1∨X.env.scope.names.lookup y=O0 .local :=by first | exact .inl rfl | exact .inr rfl | assumption)(hs:∀x,lc iter X.env x=pure x:=by intro _;rfl):
  PS X (.Assign [.Name y py] (.ListComp elt [⟨tg,iter,ifs,0⟩] scope pos) spos) (WS (Z9 ts.length wi g tc te) (Ft i)):=by
 intro π s σ H D I h;rw[exec_Assign_Name_used _ _ _ _ W];refine ag (As (ag ?_));show ah _ X.A (do let _ <-comprehension (.ListComp elt [⟨tg,iter,ifs,0⟩] scope pos) scope X.env _ (xv []) O2 (eval iter X.env) (O0 (mB (.Name y py) X.env))) _ _ s;refine ag (hZ (IP (use:=O0 (mB (.Name y py) X.env)) (Q:=λ_ U=>SP X π D .next U) rfl hs (OJ (c.cells I.ok)) c.kind c.names
  (lu (hi π s σ H _ I h) λv s1 h1=>lu h1 λN0 S h2=>?_)) (λ_ U hq=>aw (aw hq)) λ_ _ e=>e)
 obtain⟨it,fp,tn,J,G,e,I2,T,L,f2,q⟩:=h2;subst e;refine Tz (Q:=λx H1=>Ft i x σ H1 D.nx) c hc I2 T L f2 hG hI hE q λp C U H' m I' n1 n2 n3 n4 n5 hm q'=>?_;show ah _ X.A (mB (.Name y py) X.env (.ref p)) _ _ _;refine Cf (Vm (v:=.ref p) I' hN Y hx rfl (λs3 I3 v0=>?_) hf);obtain⟨a,sb,ha⟩:=v0;have Z:C≠a:=by
  rcases ha with z | z
  .rw[z];exact n2
  .exact ci (n4 _ _ z)
 exact⟨m,hm.sameBut sb Z,λh' O=>⟨_,H',I3.turned (t':=s3.toks) (λb o hb e=>(O.2 b hb).trans e) n1 n2 (.inr n3) n4 n5,q'⟩⟩
abbrev Q3 (X:Cx) (scope:kS) (t:Str):Prop:=oo X scope [t]
abbrev T3 (X:Cx) (scope:kS) (t:Str) (s2:ai) (H2:Hp) (fp:List Addr):Cx:=Bp X scope (Ej t X.N++[t]) s2 H2 fp
def T4(L:Uq X.N x)(G:X.N[i]?=O0 x)(z:Loc X.env.scope x)(J:X.fn x=O1∨X.env.scope.names.lookup x=O0 .local):PG X (.Name x pos) (Ft i):=by
 intro T s S H v u Q I r h;exact Cf (Tg I L G z r (λU O _=>⟨_,H,O,h⟩) J)
def gOne(c:Q3 X scope t)(S:ai)(z:Hp)(fp:List Addr):PG (T3 X scope t S z fp) (.Name t px) (Ft X.N.length):=
 T4 (c.nd t (mP.mpr rfl)) (by show (Ej t X.N++[t])[X.N.length]?=O0 t;unfold Ej CG;rw[ja (by rw[aE];exact aI _),aE,rX];rfl) (.inl (AG (c.tl t (mP.mpr rfl)))) (.inr (AG (c.tl t (mP.mpr rfl))))
def vZ(X:Cx)(L:TI):TI:=λz H R=>∃G,L z H G/\∀J I,z.length=X.N.length->G J I->R J I
def b_(Z:PI X tg iter wi):PI X tg iter (vZ X wi):=λL s G H R I ⟨R0,h0,Y⟩=>
 lu (Z L s G H R0 I h0) λv s1 h1=>lu h1 (by rintro S s2 ⟨W,fp,O,J,z,e,I',T,U,f,r⟩;exact ⟨W,fp,O,J,z,e,I',T,U,f,Y J z I.len r⟩)
end
end L2
namespace PV
open PySem L2
set_option genInjectivity true in
inductive D where
 |non | bl (b:Bool) | int (i:Int) | str (x:Str) | tup (ds:List D) | lst (ds:List D)
 |dk (kvs:List (Key×D)) | dt (kvs:List (List Key×D)) | ob (c:Str) (fs:List (Str×D)) | adr (a:Addr) | exc (c:Str) (fs:List (Str×D)) | err (c:Str) (fs:List (Str×D)) | mem (F:List (List Key)->Int)
set_option genInjectivity true in
inductive Slot where
 |un | fz (d:D) | ow (d:D)
abbrev Rho:=List Slot
abbrev FE:=Rho->Option D
abbrev FA:=Rho->Option (List D)
abbrev FT:=Rho->Option Bool
abbrev FO:=Rho->Option (Option Int)
abbrev FI:=Rho->Option (List D)
def vF(i:Nat):FE:=λρ=>match ρ[i]? with | some (.fz d)=>O0 d | _=>W1
def vU(i:Nat):FE:=λρ=>match ρ[i]? with | some (.fz d)=>O0 d | some (.ow d)=>O0 d | _=>W1
def kF(d:D):FE:=λ_=>O0 d
def bF(g:D->D->Option D)(G z:FE):FE:=λρ=>(G ρ).bind λx=>(z ρ).bind λy=>g x y
def uF(g:D->Option D)(G:FE):FE:=λρ=>(G ρ).bind g
def ui(f:FE):FT:=λρ=>match f ρ with | some (.bl b)=>O0 b | _=>W1
def ZU(g:Int->Int->Option D):D->D->Option D:=λx y=>match x,y with | .int i,.int j=>g i j | _,_=>W1
instance (i j:Int):Decidable (CMul i j):=by unfold CMul;infer_instance
instance (i j:Int):Decidable (CDiv i j):=by unfold CDiv;infer_instance
instance (i j:Int):Decidable (CPow i j):=by unfold CPow;infer_instance
def SU:=ZU λi j=>O0 (.int (i-j))
def Oa(i j:Int):Prop:=CMul i j∨(i7 i<=4194304/\i7 j<=4194304)
instance (i j:Int):Decidable (Oa i j):=by unfold Oa;infer_instance
def CShl(i j:Int):Prop:=0<=j/\j<=1000000/\i7 i<=4194304
instance (i j:Int):Decidable (CShl i j):=by unfold CShl;infer_instance
def Si:=ZU λi j=>if Oa i j then O0 (.int (i*j)) else W1
def Hu:=ZU λi j=>if CDiv i j then O0 (.int (i/j)) else W1
def MR:=ZU λi j=>if 0<j then O0 (.int (i%j)) else W1
def shlD:=ZU λi j=>if CShl i j then O0 (.int (i*2^j.toNat)) else W1
def shrD:=ZU λi j=>if 0<=j then O0 (.int (i/2^j.toNat)) else W1
def cA:=ZU λi j=>O0 (.int (ti i j))
def ltD:=ZU λi j=>O0 (.bl (decide (i<j)))
def leD:=ZU λi j=>O0 (.bl (decide (i<=j)))
def gtD:=ZU λi j=>O0 (.bl (decide (j<i)))
def geD:=ZU λi j=>O0 (.bl (decide (j<=i)))
def tx:D->D->Option D:=λx y=>match x,y with
 |.int i,.int j=>O0 (.int (i+j))
 |.str i,.str j=>if i.length+j.length<=sizeLine then O0 (.str (i++j)) else W1
 |.lst i,.lst j=>if i.length+j.length<=sizeLine then O0 (.lst (i++j)) else W1
 |_,_=>W1
def OY(G z:FE):FE:=λρ=>match G ρ with | some (.bl O1)=>z ρ | some (.bl O2)=>O0 (.bl O2) | _=>W1
def orF(G z:FE):FE:=λρ=>match G ρ with | some (.bl O1)=>O0 (.bl O1) | some (.bl O2)=>z ρ | _=>W1
def VS(G:FE):FE:=λρ=>match G ρ with | some (.bl b)=>O0 (.bl (!b)) | _=>W1
def andT(G z:FT):FT:=λρ=>match G ρ with | some O1=>z ρ | some O2=>O0 O2 | none=>W1
def orT(G z:FT):FT:=λρ=>match G ρ with | some O1=>O0 O1 | some O2=>z ρ | none=>W1
def OV(G:FT):FT:=λρ=>(G ρ).map (!·)
def truD:D->Option Bool
 |.non=>O0 O2
 |.bl b=>O0 b
 |.int i=>O0 (i != 0)
 |.str y=>if y.length<=sizeLine then O0 ((y.length:Int) != 0) else W1
 |.lst ds=>O0 (!ds.isEmpty)
 |.tup ds=>O0 (!ds.isEmpty)
 |_=>W1
def Yf(f:FE):FT:=λρ=>(f ρ).bind truD
def ifF(t:FT)(G z:FE):FE:=λρ=>match t ρ with | some O1=>G ρ | some O2=>z ρ | none=>W1
def ab:FA:=λ_=>O0 []
def Aa(G:FE)(fs:FA):FA:=λρ=>(G ρ).bind λd=>(fs ρ).map (d::·)
def OT(fs:FA):FE:=λρ=>(fs ρ).bind λds=>if ds.length<=sizeLine then O0 (.tup ds) else W1
def rz(fs:FA):FE:=λρ=>(fs ρ).bind λds=>if ds.length<=sizeLine then O0 (.lst ds) else W1
def ixD:D->D->Option D:=λx y=>match x,y with
 |.lst ds,.int i=>atI ds i
 |.tup ds,.int i=>atI ds i
 |.str z,.int i=>if z.length<=sizeLine then (atI z.cps.toList i).map λc=>.str ⟨#[c]⟩ else W1
 |_,_=>W1
def noO:FO:=λ_=>O0 W1
def Pv(f:FE):FO:=λρ=>match f ρ with | some (.int i)=>O0 (O0 i) | _=>W1
def Oy{α:Type}(ds:List α)(z G:Option Int):List α:=(ds.drop (HT.sIx ds.length 0 z)).take (HT.sIx ds.length ds.length G-HT.sIx ds.length 0 z)
def cutS(z:Str)(g G:Option Int):Str:=⟨(Oy z.cps.toList g G).toArray⟩
def slD(x:D)(g G:Option Int):Option D:=match x with
 |.lst ds=>O0 (.lst (Oy ds g G))
 |.tup ds=>if HT.sIx ds.length 0 g=0/\HT.sIx ds.length ds.length G=ds.length then W1 else O0 (.tup (Oy ds g G))
 |.str z=>if z.length<=sizeLine then O0 (.str (cutS z g G)) else W1
 |_=>W1
def slF(f:FE)(l h:FO):FE:=λρ=>(f ρ).bind λx=>(l ρ).bind λz=>(h ρ).bind λG=>slD x z G
def UY:D->Option V
 |.non=>O0 .non
 |.bl b=>O0 (.bl b)
 |.int i=>O0 (.int i)
 |.str x=>O0 (.str x)
 |_=>W1
def OO:List D->Option (List V)
 |[]=>O0 []
 |d::r=>(UY d).bind λv=>(OO r).map (v::·)
def inD(g:Bool):D->D->Option D:=λx y=>match x,y with
 |.str i,.str j=>O0 (.bl (if g then !(!(oy j i 0 j.length 1).isEmpty) else !(oy j i 0 j.length 1).isEmpty))
 |x,.lst ds=>(UY x).bind λv=>(OO ds).map λvs=>.bl (if g then !YR v vs else YR v vs)
 |x,.tup ds=>(UY x).bind λv=>(OO ds).map λvs=>.bl (if g then !YR v vs else YR v vs)
 |_,_=>W1
def OZ(f:D->D->Option Bool):List D->List D->Option Bool
 |[],[]=>O0 O1
 |x::xs,y::g=>match f x y,OZ f xs g with | some a,O0 b=>O0 (a&&b) | _,_=>W1
 |_,_=>W1
def flD(x y:D):Option Bool:=(UY x).bind λu=>(UY y).map λv=>TZ u v
def eqS(f:D->D->Option Bool):D->D->Option Bool
 |.lst xs,.lst g=>if xs.length=g.length then OZ f xs g else O0 O2
 |.tup xs,.tup g=>if xs.length=g.length then OZ f xs g else W1
 |x,y=>flD x y
def Sk:Nat->D->D->Option Bool
 |0=>flD
 |n+1=>eqS (Sk n)
def TU(x y:D):Option Bool:=match x,y with
 |.int i,.int j=>O0 (decide (i=j))
 |.str i,.str j=>O0 (decide (i=j))
 |.bl i,.bl j=>O0 (decide (i=j))
 |.lst xs,.lst g=>if xs.length=g.length then OZ (Sk 180) xs g else O0 O2
 |.tup xs,.tup g=>if xs.length=g.length then OZ (Sk 180) xs g else W1
 |_,_=>W1
def mf(g:Bool)(x y:D):Option D:=(TU x y).map λb=>.bl (if g then !b else b)
def SW:D->Option D
 |.str y=>if y.length<=sizeLine then O0 (.int y.length) else W1
 |.lst ds=>O0 (.int ds.length)
 |.tup ds=>O0 (.int ds.length)
 |_=>W1
def ZN:=ZU λi j=>O0 (.int (if j > i then j else i))
def WV:=ZU λi j=>O0 (.int (if j<i then j else i))
def j6:D->Option D
 |.lst ds=>O0 (.lst ds)
 |.tup ds=>O0 (.lst ds)
 |_=>W1
def seqI(f:FE):FI:=λρ=>match f ρ with | some (.lst ds)=>O0 ds | some (.tup ds)=>O0 ds | _=>W1
def MX(n:Nat):List D:=(bg n).map λ(i:Nat)=>.int i
def Nc(f:FE):FI:=λρ=>match f ρ with | some (.int j)=>if -(2^62)<=j/\j<2^62 then O0 (MX j.toNat) else W1 | _=>W1
set_option genInjectivity true in
inductive So where
 |nx (ρ:Rho) | rt (d:D) (ρ:Rho) | bk (ρ:Rho) | ct (ρ:Rho)
abbrev FS:=Rho->Option So
def PR:FS:=λρ=>O0 (.nx ρ)
def cx(g L:FS):FS:=λρ=>match g ρ with | some (.nx z)=>L z | o=>o
def Pe(t:FT)(g L:FS):FS:=λρ=>match t ρ with | some O1=>g ρ | some O2=>L ρ | none=>W1
def ll(i:Nat)(f:FE):FS:=λρ=>(f ρ).map λd=>.nx (ρ.set i (.fz d))
def fx(f:FE):FS:=λρ=>(f ρ).map λd=>.rt d ρ
def Fo(f:FE):FS:=λρ=>(f ρ).map λ_=>.nx ρ
def badF:FS:=λ_=>W1
def vb(b:D->FS):List D->FS
 |[],ρ=>O0 (.nx ρ)
 |d::r,ρ=>match b d ρ with
  |some (.nx z)=>vb b r z
  |some (.ct z)=>vb b r z
  |some (.bk z)=>O0 (.nx z)
  |some (.rt e z)=>O0 (.rt e z)
  |none=>W1
abbrev FG:=D->Rho->Option Rho
def Be(i:Nat):FG:=λd ρ=>O0 (ρ.set i (.fz d))
def PM(tg:FG)(b:FS):D->FS:=λd ρ=>(tg d ρ).bind b
def Nw(g:FI)(tg:FG)(b:FS):FS:=λρ=>(g ρ).bind λds=>vb (PM tg b) ds ρ
def HR(c:FT)(b:FS):Nat->FS
 |0,_=>W1
 |n+1,ρ=>match c ρ with
  |some O2=>O0 (.nx ρ)
  |some O1=>(match b ρ with
   |some (.nx z)=>HR c b n z
   |some (.ct z)=>HR c b n z
   |some (.bk z)=>O0 (.nx z)
   |some (.rt e z)=>O0 (.rt e z)
   |none=>W1)
  |none=>W1
def Aj(g:List D->Option D)(fs:FA):FE:=λρ=>(fs ρ).bind g
def DK(n:Nat)(ds:List D):Rho:=ds.map .fz++wx (n-ds.length) .un
def il(n g:Nat)(b:FS)(ds:List D):Option D:=if ds.length=g then (match b (DK n ds) with | some (.rt d _)=>O0 d | some (.nx _)=>O0 .non | _=>W1) else W1
def KD(ρ:Rho)(ga:FT)(fe:FE):List D->Option (List D)
 |[]=>O0 []
 |d::r=>match ga (ρ++[.fz d]) with
  |some O1=>(fe (ρ++[.fz d])).bind λy=>(KD ρ ga fe r).map (y::·)
  |some O2=>KD ρ ga fe r
  |none=>W1
def Bc(g:FI)(ga:FT)(fe:FE):FE:=λρ=>(g ρ).bind λds=>if ds.length<=sizeLine then (KD ρ ga fe ds).map .lst else W1
def pp:FT:=λ_=>O0 O1
def mxN(val:Nat->Int):Nat->Int
 |0=>val 0
 |k+1=>if val (k+1) > mxN val k then val (k+1) else mxN val k
def KH:List D->Option (List Int)
 |[]=>O0 []
 |.int i::r=>(KH r).map (i::·)
 |_::_=>W1
def Yc(x y:D):Option D:=match x with
 |.lst ds=>(KH ds).map λO=>if O=[] then y else .int (mxN (λi=>O.getD i 0) (O.length-1))
 |_=>W1
def Ob:List D->Option (List Str)
 |[]=>O0 []
 |.str i::r=>(Ob r).map (i::·)
 |_::_=>W1
def tyD:D->Option String
 |.non=>O0 "NoneType"
 |.bl _=>O0 "bool"
 |.int _=>O0 "int"
 |.str _=>O0 "str"
 |.lst _=>O0 "list"
 |.tup _=>O0 "tuple"
 |_=>W1
def isiD(T:String)(x:D):Option D:=(tyD x).map λn=>.bl (n==T||(n=="bool"&&T=="int"))
def ltS(a b:Str):Bool:=decide (a.cps.toList<b.cps.toList)
def ZT(x:Str):List Str->List Str
 |[]=>[x]
 |y::r=>if ltS x y then x::y::r else if x=y then y::r else y::ZT x r
def Gh(xs:List Str):List Str:=xs.foldr ZT []
def setW(i:Nat)(f:FE):FS:=λρ=>(f ρ).map λd=>.nx (ρ.set i (.ow d))
def Zl(ρ:Rho)(i:Nat):Option D:=match ρ[i]? with | some (.ow d)=>O0 d | _=>W1
def VU(x v:D):Option D:=match x with | .lst ds=>if ds.length<sizeLine then O0 (.lst (ds++[v])) else W1 | _=>W1
def Zs(g:D->D->Option D)(i:Nat)(f:FE):FS:=λρ=>(f ρ).bind λv=>(Zl ρ i).bind λx=>(g x v).map λy=>.nx (ρ.set i (.ow y))
def frz1(ρ:Rho)(i:Nat):Rho:=match ρ[i]? with | some (.ow d)=>ρ.set i (.fz d) | _=>ρ
def fzS(z:List Nat)(g:FS):FS:=λρ=>g (z.foldl frz1 ρ)
end PV
namespace EX
open PySem PySem.Spec L2
open PyProof.Rows hiding St
def tbV:Option Addr->ac
 |none=>.none
 |some T=>.ref T
def ExcP(a C:Addr)(J g:Option Addr):Heap->Prop:=λh=>∃o vs,h.get? a=O0 o/\o.cls=.ref C/\o.dict=J/\o.data=.fields vs/\vs.size=6/\vs[1]?=O0 (tbV g)
abbrev excO (a C:Addr) (od tb:Option Addr):HO:=.ext (ExcP a C od tb)
end EX
namespace PV
open PySem PySem.Spec L2
open PyProof.Rows hiding St
structure Gx where
 K:aS
 cl:Str->Option Addr
 xcl:Str->Option Addr:=λ_=>W1
 lent:Option Addr:=W1
def EY{K:aS}(e:af H H')(h:NO K H a xs):NO K H' a xs:=by
 rcases h with (h | ⟨o,h⟩) | h
 .exact .inl (.inl (e _ _ h))
 .exact .inl (.inr ⟨o,e _ _ h⟩)
 .exact .inr h
def Al(h:H p=W1)(o:HO):af H (gq H p o):=λb u q=>by rw[Am (Dv q h)];exact q
def FsV(fs:List (Str×V))(L:List (Str×D)):Prop:=fs.map (λp=>(p.1,O0 p.2))=L.map λp=>(p.1,UY p.2)
def XdA(H:Hp)(J:Option Addr)(fs:List (Str×V)):Prop:=match J with | some dx=>H dx=O0 (.xd fs) | none=>fs=[]
def XdA.mono{fs:List (Str×V)}(h:XdA H od fs)(s:af H H'):XdA H' od fs:=by
 cases od with
 |none=>exact h
 |some dx=>exact s _ _ h
inductive jl (G:Gx) (H:Hp):V->D->Prop
 |non:jl G H .non .non
 |bl (b:Bool):jl G H (.bl b) (.bl b)
 |int (i:Int):jl G H (.int i) (.int i)
 |str (x:Str):jl G H (.str x) (.str x)
 |tup {a:Addr}{xs:List V}{ds:List D}:NO G.K H a xs->xs.length=ds.length->(∀(i:Nat) x d,xs[i]?=O0 x->ds[i]?=O0 d->jl G H x d)->jl G H (.ref a) (.tup ds)
 |lst {a:Addr}{xs:List V}{ds:List D}:NS G.K H a xs->xs.length=ds.length->(∀(i:Nat) x d,xs[i]?=O0 x->ds[i]?=O0 d->jl G H x d)->jl G H (.ref a) (.lst ds)
 |dk {a:Addr}{o:Obj}{kvs:List (Key×V)}{kds:List (Key×D)}:H a=O0 (.frz o (.dK kvs))->kvs.map (·.1)=kds.map (·.1)->(∀(i:Nat) x d,(kvs.map (·.2))[i]?=O0 x->(kds.map (·.2))[i]?=O0 d->jl G H x d)->jl G H (.ref a) (.dk kds)
 |dt {a:Addr}{o:Obj}{kvs:List (List Key×V)}{kds:List (List Key×D)}:H a=O0 (.frz o (.dT kvs))->kvs.map (·.1)=kds.map (·.1)->(∀(i:Nat) x d,(kvs.map (·.2))[i]?=O0 x->(kds.map (·.2))[i]?=O0 d->jl G H x d)->jl G H (.ref a) (.dt kds)
 |adr (a:Addr):jl G H (.ref a) (.adr a)
 |ob {a C dx:Addr}{c:Str}{fs:List (Str×V)}{gs:List (Str×D)}:G.cl c=O0 C->H a=O0 (.ins C dx fs)->fs.map (·.1)=gs.map (·.1)->(∀(i:Nat) x d,(fs.map (·.2))[i]?=O0 x->(gs.map (·.2))[i]?=O0 d->jl G H x d)->jl G H (.ref a) (.ob c gs)
 |err {a C:Addr}{od tb:Option Addr}{c:Str}{fs:List (Str×V)}{gs:List (Str×D)}:G.xcl c=O0 C->H a=O0 (EX.excO a C od tb)->XdA H od fs->FsV fs gs->jl G H (.ref a) (.err c gs)
 |mem {a:Addr}{F:List (List Key)->Int}:H a=O0 (.mem F G.K)->jl G H (.ref a) (.mem F)
def bc(G:Gx)(H:Hp)(xs:List V)(ds:List D):Prop:=xs.length=ds.length/\∀(i:Nat) x d,xs[i]?=O0 x->ds[i]?=O0 d->jl G H x d
theorem jl.mono{G:Gx}{H z:Hp}{v:V}{d:D}(r:jl G H v d)(s:af H z):jl G z v d:=by
 induction r with
 |non=>exact .non
 |bl b=>exact .bl b
 |int i=>exact .int i
 |str x=>exact .str x
 |tup h l _ g=>exact .tup (EY s h) l g
 |lst h l _ g=>exact .lst (s.seq h) l g
 |dk h l _ g=>exact .dk (s _ _ h) l g
 |dt h l _ g=>exact .dt (s _ _ h) l g
 |adr a=>exact .adr a
 |ob c h l _ g=>exact .ob c (s _ _ h) l g
 |err c h q f=>exact .err c (s _ _ h) (q.mono s) f
 |mem h=>exact .mem (s _ _ h)
theorem bc.mono{G:Gx}{H g:Hp}{xs:List V}{ds:List D}(r:bc G H xs ds)(s:af H g):bc G g xs ds:=⟨r.1,λi x d a b=>(r.2 i x d a b).mono s⟩
def bc.nil{G:Gx}:bc G H [] []:=⟨rfl,λi x d h=>by simp at h⟩
def bc.cons{G:Gx}{H:Hp}{x:V}{d:D}{xs:List V}{ds:List D}(r:jl G H x d)(J:bc G H xs ds):bc G H (x::xs) (d::ds):=
 ⟨by simp[J.1],λi y e z g=>by
  cases i with
  |zero=>simp at z g;subst z;subst g;exact r
  |succ i=>simp at z g;exact J.2 i y e z g⟩
def bc.uncons{G:Gx}{d:D}{ds:List D}(r:bc G H xs (d::ds)):∃x ys,xs=x::ys/\jl G H x d/\bc G H ys ds:=by
 obtain⟨l,h⟩:=r;cases xs with
 |nil=>simp at l
 |cons x ys=>exact⟨x,ys,rfl,h 0 x d rfl rfl,by simpa using l,λi y e z g=>h (i+1) y e (by simpa using z) (by simpa using g)⟩
def bc.nil_inv{G:Gx}(r:bc G H xs []):xs=[]:=by
 have:=r.1;cases xs with
 |nil=>rfl
 |cons x g=>simp at this
def bc.append{G:Gx}{ds es:List D}(a:bc G H xs ds)(b:bc G H ys es):bc G H (xs++ys) (ds++es):=by
 refine⟨by rw[eB,eB,a.1,b.1],λi x d I z=>?_⟩
 by_cases g:i<xs.length
 .rw[ko g] at I;rw[ko (by rw[<-a.1];exact g)] at z;exact a.2 i x d I z
 .rw[ja (kH.mp g)] at I;rw[ja (by rw[<-a.1];exact kH.mp g),<-a.1] at z;exact b.2 _ x d I z
theorem bc.drop{G:Gx}{ds:List D}(a:bc G H xs ds)(n:Nat):bc G H (xs.drop n) (ds.drop n):=
 ⟨by rw[ri,ri,a.1],λi x d z g=>by rw[DS] at z g;exact a.2 _ x d z g⟩
theorem bc.take{G:Gx}{ds:List D}(a:bc G H xs ds)(n:Nat):bc G H (xs.take n) (ds.take n):=
 ⟨by rw[ij,ij,a.1],λi x d g I=>by
  rw[List.getElem?_take] at g I;split at g
  .rename_i z;rw[VI z] at I;exact a.2 _ x d g I
  .cases g⟩
def bc.get{G:Gx}{ds:List D}(a:bc G H xs ds){i:Nat}{d:D}(h:ds[i]?=O0 d):∃x,xs[i]?=O0 x/\jl G H x d:=by
 have g:i<ds.length:=(iL.mp h).1;have Y:i<xs.length:=by rw[a.1];exact g
 exact⟨xs[i],by simp[Y],a.2 i _ d (by simp[Y]) h⟩
theorem bc.atI{G:Gx}{H:Hp}{xs:List V}{ds:List D}(a:bc G H xs ds){i:Int}{d:D}(h:L2.atI ds i=O0 d):∃x,L2.atI xs i=O0 x/\jl G H x d:=by
 unfold L2.atI at h ⊢;rw[<-a.1] at h;cases e:ixN xs.length i with
 |none=>rw[e] at h;cases h
 |some j=>
  rw[e] at h;obtain⟨x,z,g⟩:=a.get (show ds[j]?=O0 d from h);exact⟨x,z,g⟩
def be(A:List Addr)(H:Hp):Hp:=λb=>if b∈A then W1 else H b
def BP(s:af H H'):af (be A H) (be A H'):=λb o h=>by
 unfold be at h ⊢;split at h
 .cases h
 .rename_i g;rw[WI g];exact s b o h
def Ao:af (be A H) H:=λb o h=>by
 unfold be at h;split at h
 .cases h
 .exact h
def DW(h:∀a∈A,a∈B):af (be B H) (be A H):=λb o q=>by
 unfold be at q ⊢;split at q
 .cases q
 .rename_i g;rw[WI (λz=>g (h b z))];exact q
def A_(h:p∉A):be A H p=H p:=by unfold be;rw[WI h]
theorem Eo{o:HO}(h:p∈A):be A (gq H p o)=be A H:=by
 funext b;unfold be
 by_cases g:b∈A
 .rw[VI g,VI g]
 .rw[WI g,WI g,Am (λe:b=p=>g (by rw[e];exact h))]
def Nd(G:Gx)(A:List Addr)(H:Hp)(a:Addr):D->Prop
 |.lst ds=>∃xs,H a=O0 (.lst xs)/\bc G (be A H) xs ds
 |.dk g=>∃kvs,H a=O0 (.dK kvs)/\kvs.map (·.1)=g.map (·.1)/\bc G (be A H) (kvs.map (·.2)) (g.map (·.2))
 |.dt g=>∃kvs,H a=O0 (.dT kvs)/\kvs.map (·.1)=g.map (·.1)/\bc G (be A H) (kvs.map (·.2)) (g.map (·.2))
 |.ob c L=>∃C dx fs,H a=O0 (.ins C dx fs)/\(G.cl c=O0 C/\fs.map (·.1)=L.map (·.1))/\bc G (be A H) (fs.map (·.2)) (L.map (·.2))
 |_=>False
theorem Nd.mono{G:Gx}{A:List Addr}{H I:Hp}{a:Addr}{d:D}(t:Nd G A H a d)(s:af H I):Nd G A I a d:=by
 cases d with
 |lst z=>obtain⟨g,h,r⟩:=t;exact⟨g,s _ _ h,r.mono (BP s)⟩
 |dk z=>obtain⟨g,h,k,r⟩:=t;exact⟨g,s _ _ h,k,r.mono (BP s)⟩
 |dt z=>obtain⟨g,h,k,r⟩:=t;exact⟨g,s _ _ h,k,r.mono (BP s)⟩
 |ob c L=>obtain⟨C,dx,g,h,k,r⟩:=t;exact⟨C,dx,g,s _ _ h,k,r.mono (BP s)⟩
 |_=>exact t.elim
structure Nt (x:Option HO):Prop where
 ne:x≠W1
 tup:∀xs,x≠O0 (.tup xs)
def Nt.mono{x y:Option HO}(h:Nt x)(k:∀u,x=O0 u->y=O0 u):Nt y:=by
 cases x with
 |none=>exact XI rfl h.ne
 |some u=>rw[k u rfl];exact h
theorem Nt.lst{xs:List V}:Nt (O0 (.lst xs)):=⟨λz=>(nomatch z),λ_ z=>(nomatch z)⟩
theorem Nt.dK{xs:List (Key×V)}:Nt (O0 (.dK xs)):=⟨λz=>(nomatch z),λ_ z=>(nomatch z)⟩
theorem Nt.dT{xs:List (List Key×V)}:Nt (O0 (.dT xs)):=⟨λz=>(nomatch z),λ_ z=>(nomatch z)⟩
theorem Nt.ins{C dx:Addr}{xs:List (Str×V)}:Nt (O0 (.ins C dx xs)):=⟨λz=>(nomatch z),λ_ z=>(nomatch z)⟩
structure Pi (G:Gx) (A:List Addr) (σ:St) (H:Hp) (ρ:Rho):Prop where
 len:σ.length=ρ.length
 live:∀a∈A,Nt (H a)
 fz:∀(i:Nat) (d:D),ρ[i]?=O0 (.fz d)->∃v,σ[i]?=O0 (O0 v)/\jl G (be A H) v d
 ow:∀(i:Nat) (d:D),ρ[i]?=O0 (.ow d)->∃a,σ[i]?=O0 (O0 (.ref a))/\a∈A/\Nd G A H a d
 inj:∀(i j:Nat) (d e:D) (a:Addr),ρ[i]?=O0 (.ow d)->ρ[j]?=O0 (.ow e)->σ[i]?=O0 (O0 (.ref a))->σ[j]?=O0 (O0 (.ref a))->i=j
theorem Pi.mono{G:Gx}{A:List Addr}{g:St}{H z:Hp}{ρ:Rho}(o:Pi G A g H ρ)(s:af H z):Pi G A g z ρ:=
 ⟨o.len,λa I=>(o.live a I).mono λu e=>s _ _ e,
  λi d h=>let ⟨v,h1,h2⟩:=o.fz i d h;⟨v,h1,h2.mono (BP s)⟩,λi d h=>let ⟨a,h1,h2,h3⟩:=o.ow i d h;⟨a,h1,h2,h3.mono s⟩,o.inj⟩
def rc(G:Gx)(A:List Addr)(H:Hp)(v:V)(d:D):Prop:=jl G (be A H) v d∨∃a,v=.ref a/\Nd G A H a d
theorem rc.mono{G:Gx}{A:List Addr}{H g:Hp}{v:V}{d:D}(r:rc G A H v d)(s:af H g):rc G A g v d:=by
 rcases r with r | ⟨a,e,r⟩
 .exact .inl (r.mono (BP s))
 .exact .inr ⟨a,e,r.mono s⟩
theorem rc.lst{G:Gx}{A:List Addr}{H:Hp}{v:V}{ds:List D}(r:rc G A H v (.lst ds)):∃a xs,v=.ref a/\NS G.K H a xs/\bc G (be A H) xs ds:=by
 rcases r with r | ⟨a,e,xs,h,r⟩
 .cases r with
  |lst h l r=>exact⟨_,_,rfl,Ao.seq h,l,r⟩
 .exact⟨a,xs,e,.of h,r⟩
theorem rc.tup{G:Gx}{A:List Addr}{H:Hp}{v:V}{ds:List D}(r:rc G A H v (.tup ds)):∃a xs,v=.ref a/\NO G.K H a xs/\bc G (be A H) xs ds:=by
 rcases r with r | ⟨a,e,r⟩
 .cases r with
  |tup h l r=>exact⟨_,_,rfl,EY Ao h,l,r⟩
 .exact r.elim
theorem rc.int{G:Gx}{i:Int}(r:rc G A H v (.int i)):v=.int i:=by
 rcases r with r | ⟨a,e,r⟩
 .cases r;rfl
 .exact r.elim
theorem rc.str{G:Gx}{i:Str}(r:rc G A H v (.str i)):v=.str i:=by
 rcases r with r | ⟨a,e,r⟩
 .cases r;rfl
 .exact r.elim
theorem rc.bl{G:Gx}{i:Bool}(r:rc G A H v (.bl i)):v=.bl i:=by
 rcases r with r | ⟨a,e,r⟩
 .cases r;rfl
 .exact r.elim
theorem rc.non{G:Gx}(r:rc G A H v .non):v=.non:=by
 rcases r with r | ⟨a,e,r⟩
 .cases r;rfl
 .exact r.elim
theorem rc.dk{G:Gx}{A:List Addr}{H:Hp}{v:V}{g:List (Key×D)}(r:rc G A H v (.dk g)):∃a kvs,v=.ref a/\Rd H a (.dK kvs)/\kvs.map (·.1)=g.map (·.1)/\bc G (be A H) (kvs.map (·.2)) (g.map (·.2)):=by
 rcases r with r | ⟨a,e,kvs,h,k,r⟩
 .cases r with
  |dk h k r=>
   refine⟨_,_,rfl,.inr ⟨_,Ao _ _ h⟩,k,?_,r⟩;have:=NJ eJ k;rw[aE,aE] at this ⊢;exact this
 .exact⟨a,kvs,e,.of h,k,r⟩
def Vs(live:∀a∈A,Nt (H a))(g:H p=W1)(o:HO):be A (gq H p o) p=O0 o:=by
 rw[A_ (λz=>(live p z).ne g),Ak]
def Ep{G:Gx}{ds:List D}(live:∀a∈A,Nt (H a))(z:H p=W1)(r:bc G (be A H) xs ds):jl G (be A (gq H p (.lst xs))) (.ref p) (.lst ds):=
 let q:=r.mono (BP (Al z (.lst xs)));.lst (.of (Vs live z _)) q.1 q.2
def Gb{G:Gx}{ds:List D}(live:∀a∈A,Nt (H a))(z:H p=W1)(r:bc G (be A H) xs ds):jl G (be A (gq H p (.tup xs))) (.ref p) (.tup ds):=
 let q:=r.mono (BP (Al z (.tup xs)));.tup (.of (Vs live z _)) q.1 q.2
def tF(G:Gx)(A:List Addr)(f:FE):TE:=λz H Q=>∃ρ d,Pi G A z H ρ/\f ρ=O0 d/\∀v g,af H g->jl G (be A g) v d->Q v g
def tT(G:Gx)(A:List Addr)(f:FE):TE:=λz H Q=>∃ρ d,Pi G A z H ρ/\f ρ=O0 d/\∀v g,af H g->rc G A g v d->Q v g
def PF(X:Cx)(G:Gx)(e:Expr)(f:FE):Prop:=∀⦃A⦄,PE X e (tF G A f)
def PU(X:Cx)(G:Gx)(e:Expr)(f:FE):Prop:=∀⦃A⦄,PE X e (tT G A f)
def CT{t t':TE}(h:PE X e t)(w:∀σ H Q,t' σ H Q->t σ H Q):PE X e t':=λz s σ H Q I q=>h z s σ H Q I (w σ H Q q)
def PF.pu{G:Gx}{f:FE}(h:PF X G e f):PU X G e f:=λA=>CT (@h A) (by rintro I H Q ⟨g,d,o,e,k⟩;exact ⟨g,d,o,e,λv z s r=>k v z s (.inl r)⟩)
def tFA(G:Gx)(A:List Addr)(f:FA):TA:=λz H Q=>∃ρ ds,Pi G A z H ρ/\f ρ=O0 ds/\∀vs g,af H g->bc G (be A g) vs ds->Q vs g
def To(X:Cx)(G:Gx)(es:List Expr)(f:FA):Prop:=∀⦃A⦄,PA X es (tFA G A f)
def vd{e:List Expr}{t t':TA}(h:PA X e t)(w:∀σ H Q,t' σ H Q->t σ H Q):PA X e t':=λg z s σ H Q I q=>h g z s σ H Q I (w σ H Q q)
def tFT(G:Gx)(A:List Addr)(f:FT):TT:=λz H Q=>∃ρ b,Pi G A z H ρ/\f ρ=O0 b/\∀g,af H g->Q b g
def Sn(X:Cx)(G:Gx)(e:Expr)(f:FT):Prop:=∀⦃A⦄,PT X e (tFT G A f)
def YU(X:Cx)(G:Gx)(e:Expr)(f:FT):Prop:=∀⦃A⦄,PW X e (tFT G A f)
def Yd{t t':TT}(h:PT X e t)(w:∀σ H Q,t' σ H Q->t σ H Q):PT X e t':=λz s σ H Q I q=>h z s σ H Q I (w σ H Q q)
def j7{t t':TT}(h:PW X e t)(w:∀σ H Q,t' σ H Q->t σ H Q):PW X e t':=λg z s σ H Q I q=>h g z s σ H Q I (w σ H Q q)
section
variable {G:Gx}{a b c:Expr}{fa fb:FE}
def yJ(i:Nat){x:Str}(h:PE X (.Name x pos) (TL i)):PF X G (.Name x pos) (vF i):=λA=>CT h<|by
 rintro I H Q ⟨J,d,o,e,k⟩
 unfold vF at e;split at e
 .rename_i O L;cases e;obtain⟨v,z,g⟩:=o.fz i _ L;exact⟨v,z,k v H (af.refl H) g⟩
 .cases e
theorem yK(i:Nat){x:Str}(h:PE X (.Name x pos) (TL i)):PU X G (.Name x pos) (vU i):=λA=>CT h<|by
 rintro J H Q ⟨O,d,o,e,k⟩
 unfold vU at e;split at e
 .rename_i I L;cases e;obtain⟨v,z,g⟩:=o.fz i _ L;exact⟨v,z,k v H (af.refl H) (.inl g)⟩
 .rename_i I L;cases e;obtain⟨p,z,_,g⟩:=o.ow i _ L;exact⟨.ref p,z,k _ H (af.refl H) (.inr ⟨p,rfl,g⟩)⟩
 .cases e
def JH{d:D}(h:PE X a (tC v))(r:jl G (λ_=>W1) v d):PF X G a (kF d):=λA=>CT h<|by
 rintro g H Q ⟨I,J,o,e,k⟩
 cases e;exact k v H (af.refl H) (r.mono λb o z=>nomatch z)
def Q4{i j}:PF X G (.Constant (.int i) j pos) (kF (.int i)):=JH xU (.int i)
def HJ{b j}:PF X G (.Constant (.bool b) j pos) (kF (.bl b)):=JH zy (.bl b)
def yL{j}:PF X G (.Constant .none j pos) (kF .non):=JH xV .non
def yM{x j}:PF X G (.Constant (.str x) j pos) (kF (.str x)):=JH xW (.str x)
def Ea(G:Gx)(r:R2)(g:D->D->Option D):Prop:=∀(A:List Addr) (H:Hp) (x y:V) (dx I d:D) (Q:VK),(∀a∈A,Nt (H a))->rc G A H x dx->rc G A H y I->g dx I=O0 d->(∀v z,af H z->jl G (be A z) v d->Q v z)->r x y H Q
def Wn{g:D->D->Option D}{ρ:Rho}{d:D}(h:bF g fa fb ρ=O0 d):∃x y,fa ρ=O0 x/\fb ρ=O0 y/\g x y=O0 d:=by
 unfold bF at h;cases I:fa ρ with
 |none=>rw[I] at h;cases h
 |some x=>
  rw[I] at h;cases z:fb ρ with
  |none=>simp[z] at h
  |some y=>simp[z] at h;exact⟨x,y,rfl,rfl,h⟩
def T5{r:R2}{g:D->D->Option D}(s:Ea G r g){A:List Addr}{I:St}{H:Hp}{Q:VK}(h:tF G A (bF g fa fb) I H Q):tOp r (tT G A fa) (tT G A fb) I H Q:=by
 obtain⟨J,d,o,e,k⟩:=h;obtain⟨x,y,Z,Y,W⟩:=Wn e;exact⟨J,x,o,Z,λv H1 z U=>⟨J,y,o.mono z,Y,λu H2 S T=>s A H2 v u x y d Q ((o.mono z).mono S).live (U.mono S) T W λw H3 O L=>k w H3 (z.trans (S.trans O)) L⟩⟩
def HS{op:Operator}{r:R2}{g:D->D->Option D}(z:NR X (i9 op) r)(s:Ea G r g)(ha:PU X G a fa)(hb:PU X G b fb):PF X G (.BinOp a op b pos) (bF g fa fb):=
 λA=>CT (AAS z (@ha A) (@hb A)) λ_ _ _ h=>T5 s h
def Wo{op:kz}{r:R2}{g:D->D->Option D}(z:NR X (db op) r)(s:Ea G r g)(ha:PU X G a fa)(hb:PU X G b fb)(I:fw op b=O2):PF X G (.Compare a [op] [b] pos) (bF g fa fb):=
 λA=>CT (bY z (@ha A) (@hb A) I) λ_ _ _ h=>T5 s h
def T6{f:FE}{ρ:Rho}{b:Bool}(h:ui f ρ=O0 b):f ρ=O0 (.bl b):=by
 unfold ui at h;split at h
 .rename_i e;cases h;exact e
 .cases h
def JK{op:kz}{r:R2}{g:D->D->Option D}(J:NR X (db op) r)(s:Ea G r g)(ha:PU X G a fa)(hb:PU X G b fb)(L:fw op b=O2):Sn X G (.Compare a [op] [b] pos) (ui (bF g fa fb)):=
 λA=>Yd (bZ J (@ha A) (@hb A) L) λT H Q ⟨z,d,o,e,k⟩=>T5 s ⟨z,.bl d,o,T6 e,λv S I O=>by cases O;exact⟨d,rfl,k S I⟩⟩
def Py{g:Int->Int->Option D}{x y d:D}(h:ZU g x y=O0 d):∃i j,x=.int i/\y=.int j/\g i j=O0 d:=by
 unfold ZU at h;split at h
 .exact⟨_,_,rfl,rfl,h⟩
 .cases h
def Q5{g:Int->Int->V}{g':Int->Int->D}(e:∀i j H,jl G H (g i j) (g' i j)):Ea G (YY g) (ZU λi j=>O0 (g' i j)):=by
 intro A H x y dx J d Q I rx z h k;obtain⟨i,j,rfl,rfl,h⟩:=Py h;cases h;exact⟨i,j,rx.int,z.int,k _ H (af.refl H) (e i j _)⟩
def T7{C:Int->Int->Prop}{g:Int->Int->V}{g':Int->Int->D}[∀i j,Decidable (C i j)](e:∀i j H,jl G H (g i j) (g' i j)):Ea G (rI C g) (ZU λi j=>if C i j then O0 (g' i j) else W1):=by
 intro A H x y dx O d Q I rx z h k;obtain⟨i,j,rfl,rfl,L⟩:=Py h
 by_cases J:C i j
 .rw[VI J] at L;cases L;exact⟨i,j,rx.int,z.int,J,k _ H (af.refl H) (e i j _)⟩
 .rw[WI J] at L;cases L
def sH:Ea G (YY λi j=>.int (i-j)) SU:=Q5 λi j H=>.int _
theorem Oa.ok{i j:Int}(h:Oa i j):IntMulOk i j:=by
 rcases h with h | h
 .exact h.ok
 .exact IntMulOk.of_le h.1 h.2 .(2)
def sI:NR X (i9 .Mult) (rI Oa λi j=>.int (i*j)):=opI λ_ _ _ _ _ _ _ J q=>mul_int q J.ok
def Wq:NR X (i9 .LShift) (rI CShl λi j=>.int (i*2^j.toNat)):=opI λi j _ _ _ _ _ J q=>lshift_int J.1 (by have z:=J.2.1;have g:=J.2.2;omega) q
def sJ:Ea G (rI Oa λi j=>.int (i*j)) Si:=T7 λi j H=>.int _
def j8:Ea G (rI CDiv λi j=>.int (i/j)) Hu:=T7 λi j H=>.int _
theorem sO:Ea G (rI (λ_ j=>0<j) λi j=>.int (i%j)) MR:=T7 (C:=λ_ j=>0<j) λi j H=>.int _
def Wr:Ea G (rI CShl λi j=>.int (i*2^j.toNat)) shlD:=T7 λi j H=>.int _
theorem cB:Ea G (rI (λ_ j=>0<=j) λi j=>.int (i/2^j.toNat)) shrD:=T7 (C:=λ_ j=>0<=j) λi j H=>.int _
def Ye:Ea G (YY λi j=>.int (ti i j)) cA:=Q5 λi j H=>.int _
def j9:Ea G (YY λi j=>.bl (decide (i<j))) ltD:=Q5 λi j H=>.bl _
def yN:Ea G (YY λi j=>.bl (decide (i<=j))) leD:=Q5 λi j H=>.bl _
def yO:Ea G (YY λi j=>.bl (decide (j<i))) gtD:=Q5 λi j H=>.bl _
def yP:Ea G (YY λi j=>.bl (decide (j<=i))) geD:=Q5 λi j H=>.bl _
def vf(K:aS):R2:=λx y H Q=>∃l b xs g,x=.ref l/\y=.ref b/\NS K H l xs/\NS K H b g/\xs.length+g.length<=sizeLine/\∀p,H p=W1->Q (.ref p) (gq H p (.lst (xs++g)))
theorem sS:NR X (i9 .Add) (vf X.K):=by
 intro π s σ H x y v u Q I rx ry h;obtain⟨l,b,xs,zs,rfl,rfl,hl,hb,hz,q⟩:=h;cases rx;cases ry;obtain⟨J,r,pl,z⟩:=I.list hl;obtain⟨g,Z,U,z2⟩:=I.list hb;have e1:=r.length;have e2:=Z.length;obtain⟨⟨cls,dd,N0,sl⟩,ho,hc,n,hd⟩:=pl.isList;obtain⟨⟨S0,W,Y,T⟩,L,S,n2,O⟩:=U.isList;simp only at hc hd S O;subst hc hd S O;refine AA ⟨_,ho,rfl⟩ ⟨_,L,rfl⟩ noFill_list_add seq_list_add PySem.F.slot_list_add PySem.F.entry_list_add (PySem.F.args_list_add_2 _ _) (list_addW l b J.toArray g.toArray n n2 dd W sl T (by rw[cE,cE];omega)) ⟨ho,L,?_⟩;have ea:J.toArray++g.toArray=(J++g).toArray:=by simp
 rw[ea];exact⟨.ref _,_,I.lnew (t':=s.toks) (r.append Z) (by rw[eB];omega),rfl,q _ I.fresh⟩
def rAdd(K:aS):R2:=λx y H Q=>(YY λi j=>.int (i+j)) x y H Q∨((λx y H Q=>∃i j,x=.str i/\y=.str j/\i.length+j.length<=sizeLine/\Q (.str (i++j)) H) x y H Q∨vf K x y H Q)
def sU:NR X (i9 .Add) (rAdd X.K):=xr.or (Zz.or sS)
def sV:Ea G (rAdd G.K) tx:=by
 intro A H x y dx Y d Q T rx g h k;unfold tx at h;split at h
 .cases h;exact .inl ⟨_,_,rx.int,g.int,k _ H (af.refl H) (.int _)⟩
 .split at h
  .rename_i O;cases h;exact .inr (.inl ⟨_,_,rx.str,g.str,O,k _ H (af.refl H) (.str _)⟩)
  .cases h
 .split at h
  .rename_i O;cases h;obtain⟨l,S,rfl,W,I⟩:=rx.lst;obtain⟨m,L,rfl,U,z⟩:=g.lst;exact .inr (.inr ⟨l,m,S,L,rfl,rfl,W,U,by rw[I.1,z.1];exact O,λp J=>k _ _ (Al J _) (Ep T J (I.append z))⟩)
  .cases h
 .cases h
def Q6{op:BoolOp}(h:PF X G a fa):PF X G (.BoolOp op [a] pos) fa:=λA=>xg (@h A)
def Oz{hQ:List Expr}(ha:PF X G a fa)(hb:PF X G (.BoolOp .And (b::hQ) pos) fb):PF X G (.BoolOp .And (a::b::hQ) pos) (OY fa fb):=λA=>CT (xj (@ha A) (@hb A))<|by
 rintro U H Q ⟨g,d,o,e,k⟩
 unfold OY at e;split at e
 .rename_i J;refine⟨g,_,o,J,λv L z I=>?_⟩;cases I;refine⟨O1,rfl,?_⟩;rw[VI rfl];exact⟨g,d,o.mono z,e,λv T S O=>k v T (z.trans S) O⟩
 .rename_i J;refine⟨g,_,o,J,λv L z I=>?_⟩;cases I;refine⟨O2,rfl,?_⟩;rw[WI d6];cases e;exact k _ L z (.bl O2)
 .cases e
def AAi{hQ:List Expr}(ha:PF X G a fa)(hb:PF X G (.BoolOp .Or (b::hQ) pos) fb):PF X G (.BoolOp .Or (a::b::hQ) pos) (orF fa fb):=λA=>CT (AAH (@ha A) (@hb A))<|by
 rintro U H Q ⟨g,d,o,e,k⟩
 unfold orF at e;split at e
 .rename_i J;refine⟨g,_,o,J,λv L z I=>?_⟩;cases I;refine⟨O1,rfl,?_⟩;rw[VI rfl];cases e;exact k _ L z (.bl O1)
 .rename_i J;refine⟨g,_,o,J,λv L z I=>?_⟩;cases I;refine⟨O2,rfl,?_⟩;rw[WI d6];exact⟨g,d,o.mono z,e,λv T S O=>k v T (z.trans S) O⟩
 .cases e
def aA(ha:PF X G a fa):PF X G (.UnaryOp .Not a pos) (VS fa):=λA=>CT (xm (@ha A))<|by
 rintro O H Q ⟨g,d,o,e,k⟩
 unfold VS at e;split at e
 .rename_i b J;refine⟨g,_,o,J,λv L z I=>?_⟩;cases I;cases e;exact⟨b,rfl,k _ L z (.bl _)⟩
 .cases e
variable {ga gb:FT}
theorem YU.pt(h:YU X G a ga):Sn X G a ga:=λA=>(@h A).pt
def T8(h:Sn X G a ga):YU X G (.BoolOp .And [a] pos) ga:=λA=>rD (@h A)
def Gd(h:Sn X G a ga):YU X G (.BoolOp .Or [a] pos) ga:=λA=>jK (@h A)
def Ws{hQ:List Expr}(ha:Sn X G a ga)(hb:YU X G (.BoolOp .And (b::hQ) pos) gb):YU X G (.BoolOp .And (a::b::hQ) pos) (andT ga gb):=λA=>j7 (xZ (@ha A) (@hb A))<|by
 rintro O H Q ⟨g,d,o,e,k⟩
 unfold andT at e;split at e
 .rename_i I;exact⟨g,_,o,I,λJ z=>Xs ⟨g,d,o.mono z,e,λL S=>k L (z.trans S)⟩⟩
 .rename_i I;cases e;exact⟨g,_,o,I,λJ z=>VT (k J z)⟩
 .cases e
def Kv{hQ:List Expr}(ha:Sn X G a ga)(hb:YU X G (.BoolOp .Or (b::hQ) pos) gb):YU X G (.BoolOp .Or (a::b::hQ) pos) (orT ga gb):=λA=>j7 (vP (@ha A) (@hb A))<|by
 rintro O H Q ⟨g,d,o,e,k⟩
 unfold orT at e;split at e
 .rename_i I;cases e;exact⟨g,_,o,I,λJ z=>Xs (k J z)⟩
 .rename_i I;exact⟨g,_,o,I,λJ z=>VT ⟨g,d,o.mono z,e,λL S=>k L (z.trans S)⟩⟩
 .cases e
def Hk(ha:Sn X G a ga):Sn X G (.UnaryOp .Not a pos) (OV ga):=λA=>Yd (xf (@ha A))<|by
 rintro L H Q ⟨z,d,o,e,k⟩
 unfold OV at e;cases g:ga z with
 |none=>rw[g] at e;cases e
 |some b=>rw[g] at e;cases e;exact⟨z,b,o,g,λJ I=>k J I⟩
def Rz{I z:Type}{xs:List I}{g:List z}(h:xs.length=g.length):xs.isEmpty=g.isEmpty:=by
 cases xs<;>cases g<;>simp at h ⊢
def Gi(ha:PU X G a fa)(W:G.K=X.K)(U:∀whole,oj a X.env whole=(do let v <-whole;nh a.pos;lh [v] (truthy v)):=by intro _;rfl):Sn X G a (λρ=>(fa ρ).bind truD):=λA=>Yd (jV (@ha A) U)<|by
 rintro σ H Q ⟨ρ,b,o,e,k⟩
 cases L:fa ρ with
 |none=>simp[L] at e
 |some d=>
  have O:truD d=O0 b:=by simpa [L] using e
  refine⟨ρ,d,o,L,λv Z S g=>⟨b,?_,k Z S⟩⟩;rw[<-W];cases d with
  |non=>rw[g.non];exact (cS O).symm
  |bl b'=>rw[g.bl];exact (cS O).symm
  |int i=>rw[g.int];exact (cS O).symm
  |str y=>
   rw[g.str];simp only[truD] at O;split at O
   .rename_i T;exact⟨T,(cS O).symm⟩
   .cases O
  |lst Y=>
   obtain⟨p,z,rfl,J,I⟩:=g.lst;refine .inl ⟨z,J,?_⟩;rw[Rz I.1];exact (cS O).symm
  |tup Y=>
   obtain⟨p,z,rfl,J,I⟩:=g.tup;refine .inr (.inl ⟨z,J,?_⟩);rw[Rz I.1];exact (cS O).symm
  |_=>cases O
def j_(ht:Sn X G c ga)(ha:PF X G a fa)(hb:PF X G b fb):PF X G (.IfExp c a b pos) (ifF ga fa fb):=λA=>CT (jL (@ht A) (@ha A) (@hb A))<|by
 rintro T H Q ⟨g,d,o,e,k⟩
 unfold ifF at e;split at e
 .rename_i I;exact⟨g,_,o,I,λL z=>Xs ⟨g,d,o.mono z,e,λv J S O=>k v J (z.trans S) O⟩⟩
 .rename_i I;exact⟨g,_,o,I,λL z=>VT ⟨g,d,o.mono z,e,λv J S O=>k v J (z.trans S) O⟩⟩
 .cases e
variable {es:List Expr}{fs:FA}
def Ac:To X G [] ab:=λA=>vd Ei<|by rintro g H Q ⟨z,I,o,e,k⟩;cases e;exact k [] H (af.refl H) bc.nil
def Af(ha:PF X G a fa)(hr:To X G es fs)(hs:ay (a::es) X.env=(O2,eval a X.env)::ay es X.env:=by rfl):To X G (a::es) (Aa fa fs):=λA=>vd (Ca (@ha A) (@hr A) hs)<|by
 rintro W H Q ⟨g,Z,o,e,k⟩
 unfold Aa at e;cases z:fa g with
 |none=>simp[z] at e
 |some d=>
  cases I:fs g with
  |none=>simp[z,I] at e
  |some J=>
   simp[z,I] at e;subst e;exact⟨g,d,o,z,λv H1 L T=>⟨g,J,o.mono L,I,λY U S O=>k _ U (L.trans S) (.cons (T.mono (BP S)) O)⟩⟩
def Gj{x1}(h:To X G es fs):PF X G (.Tuple es x1 pos) (OT fs):=λA=>CT (Z5 (@h A))<|by
 rintro U H Q ⟨I,d,o,e,k⟩
 unfold OT at e;cases g:fs I with
 |none=>simp[g] at e
 |some z=>
  rw[g] at e;have O:(if z.length<=sizeLine then O0 (D.tup z) else W1)=O0 d:=e;split at O
  .rename_i T;cases O;exact⟨I,z,o,g,λW Y J L=>⟨by rw[L.1];exact T,λp S=>k _ _ (J.trans (Al S _)) (Gb (o.mono J).live S L)⟩⟩
  .cases O
def DN(h:To X G es fs):PF X G (.List es pos) (rz fs):=λA=>CT (jb (@h A))<|by
 rintro U H Q ⟨I,d,o,e,k⟩
 unfold rz at e;cases g:fs I with
 |none=>simp[g] at e
 |some z=>
  rw[g] at e;have O:(if z.length<=sizeLine then O0 (D.lst z) else W1)=O0 d:=e;split at O
  .rename_i T;cases O;exact⟨I,z,o,g,λW Y J L=>⟨by rw[L.1];exact T,λp S=>k _ _ (J.trans (Al S _)) (Ep (o.mono J).live S L)⟩⟩
  .cases O
def kE:Ea G (rIx G.K) ixD:=by
 intro A H x y dx W d Q U rx I h k;unfold ixD at h;split at h
 .obtain⟨p,g,rfl,S,J⟩:=rx.lst;obtain⟨v,L,O⟩:=J.atI h;exact .inl ⟨p,g,_,v,rfl,I.int,S,L,k v H (af.refl H) O⟩
 .obtain⟨p,g,rfl,S,J⟩:=rx.tup;obtain⟨v,L,O⟩:=J.atI h;exact .inr (.inl ⟨p,g,_,v,rfl,I.int,S,L,k v H (af.refl H) O⟩)
 .split at h
  .rename_i z i T;cases e:atI z.cps.toList i with
   |none=>rw[e] at h;cases h
   |some c=>
    rw[e] at h;cases h;exact .inr (.inr ⟨z,i,c,rx.str,I.int,T,e,k _ H (af.refl H) (.str _)⟩)
  .cases h
 .cases h
theorem AAj(W:G.K=X.K)(ha:PU X G a fa)(hb:PU X G b fb)(hs:Pk b):PF X G (.Subscript a b pos) (bF ixD fa fb):=
 λA=>CT (vV (r:=rIx X.K) jh (@ha A) (@hb A) hs) λ_ _ _ h=>T5 (by rw[<-W];exact kE) h
def tFO(G:Gx)(A:List Addr)(f:FO):TO:=λz H Q=>∃ρ o,Pi G A z H ρ/\f ρ=O0 o/\∀g,af H g->Q o g
def PFO(X:Cx)(G:Gx)(e:Option Expr)(f:FO):Prop:=∀⦃A⦄,PO X e (tFO G A f)
def vg{e:Option Expr}{t t':TO}(h:PO X e t)(w:∀σ H Q,t' σ H Q->t σ H Q):PO X e t':=λz s σ H Q I q=>h z s σ H Q I (w σ H Q q)
def Ma:PFO X G W1 noO:=λA=>vg rQ<|by rintro g H Q ⟨z,o,ok,e,k⟩;cases e;exact k H (af.refl H)
def JL(h:PU X G a fa):PFO X G (O0 a) (Pv fa):=λA=>vg (rT (@h A))<|by
 rintro O H Q ⟨g,o,ok,e,k⟩
 unfold Pv at e;split at e
 .rename_i i J;cases e;exact⟨g,_,ok,J,λv L z I=>⟨i,I.int,k L z⟩⟩
 .cases e
def bc.cut{ds:List D}(r:bc G H xs ds)(z g:Option Int):bc G H (cutV xs z g) (Oy ds z g):=by
 unfold cutV Oy;rw[r.1];exact (r.drop _).take _
end
end PV
def L2.Room.unitsW{k:Nat}{A:PySem.Around}(r:L2.Room k A):A.units+190<PySem.cLine:=by have:=r.un;omega
namespace PV
open PySem PySem.Spec L2
open PyProof.Rows hiding St
section
variable {G:Gx}{a b c:Expr}{fa fb:FE}
section
open Builtin.Str
def Yg(n:Nat)(v:Option Int)(d:Nat)(z:d<=n):(match v with | none=>(d:Int) | some i=>max 0 (min (if i<0 then i+(n:Int) else i) (n:Int)))=(HT.sIx n d v:Int):=by
 cases v with
 |none=>rfl
 |some i=>
  simp only[HT.sIx];split<;>omega
def sX(n d:Nat)(v:Option Int)(z:d<=n):HT.sIx n d v<=n:=by
 cases v with
 |none=>exact z
 |some i=>simp only[HT.sIx];split<;>omega
theorem aB(z g:Option Int)(n:Nat):strSliceIndices z g 1 n=(bg (HT.sIx n n g-HT.sIx n 0 z)).map (λk=>HT.sIx n 0 z+k):=by
 have O:=Yg n z 0 (fE _);have L:=Yg n g n (aI _);have I:((1:Int) > 0):=by decide
 have e:strSliceIndices z g 1 n=DT (HT.sIx n 0 z:Int) (HT.sIx n n g:Int) 1:=by
  unfold strSliceIndices;simp only[I,TK];exact congrFun (congr (NJ DT O) L) 1
 rw[e];unfold DT;simp only[I,TK];generalize HT.sIx n 0 z=a;generalize HT.sIx n n g=b;have J:(if (a:Int)<(b:Int) then ((b:Int)-a+1-1)/1 else 0).toNat=b-a:=by
  split
  .rw[HV];omega
  .omega
 rw[J];apply pj;intro k _;omega
theorem gj(x:Str)(z hi:Option Int):AH x z hi=cutS x z hi:=by
 have U:=sX x.length x.length hi (aI _);have L:x.cps.toList.length=x.length:=by simp[DJ]
 unfold AH cutS Oy;rw[aB,L];generalize HT.sIx x.length 0 z=a at *;generalize HT.sIx x.length x.length hi=b at *;rw[aE,lP];split
 .rename_i h;simp only[eI,SK] at h;have O:b-a=x.length:=h.2
  by_cases W:x.length=0
  .have:x.cps.toList=[]:=pw.mp .(0);cases x with
   |mk c=>
    simp at this;subst this;simp
  .have S:a=0:=by omega
   subst S;have:b=x.length:=by omega
   subst this;rw[IQ,Nat.sub_zero,DU .(0)]
 .congr 1;apply NJ;apply IR;intro i;rw[DD];have g:∀m,m<=b-a->(List.filterMap ((λk=>x.cps[k]?) ∘ λk=>a+k) (bg m))=((x.cps.toList.drop a).take m):=by
   intro m
   induction m with
   |zero=>intro _;simp
   |succ m J=>
    intro T;rw[DV,List.filterMap_append,J .(0)];have I:a+m<x.cps.size:=by have:x.length=x.cps.size:=rfl;omega
    rw[List.take_succ_eq_append_getElem (by simp;omega)];simp[I]
  rw[g _ (aI _)]
end
def rSlS:V->Option Int->Option Int->Hp->VK->Prop:=λx g I H Q=>∃z,x=.str z/\z.length<=sizeLine/\Q (.str (AH z g I)) H
theorem yQ:SlR X rSlS:=by
 intro π s σ H x v vl vu W Z sl Q I rx hs pl pu h;obtain⟨z,rfl,hz,q⟩:=h;obtain⟨t,rfl⟩:=rx;obtain⟨o,O,L,J⟩:=hs;have g:∀T k,EP X π σ Q (.str (AH z W Z) T) { s with toks:=k }:=λT k=>⟨.str _,H,I.tok _,⟨T,rfl⟩,q⟩;have Y:=de (Txt.slice_le z W Z) hz;refine⟨"str",_,PySem.F.slot_str_getitem.lookup,DL _ _ _,?_⟩;cases pl with
 |none=>
  cases pu with
  |none=>exact AI (l:=W1) (u:=W1) (st:=W1) ⟨o,O,L,J⟩ rfl (AJ ⟨Y,g⟩)
  |int j S=>exact AI (l:=W1) (u:=O0 (j,S)) (st:=W1) ⟨o,O,L,J⟩ rfl (AJ ⟨Y,g⟩)
 |int i U=>
  cases pu with
  |none=>exact AI (l:=O0 (i,U)) (u:=W1) (st:=W1) ⟨o,O,L,J⟩ rfl (AJ ⟨Y,g⟩)
  |int j S=>exact AI (l:=O0 (i,U)) (u:=O0 (j,S)) (st:=W1) ⟨o,O,L,J⟩ rfl (AJ ⟨Y,g⟩)
def rSl(K:aS):V->Option Int->Option Int->Hp->VK->Prop:=λx z g H Q=>rSlL K x z g H Q∨(rSlT K x z g H Q∨rSlS x z g H Q)
def yR:SlR X (rSl X.K):=rY.or (yE.or yQ)
def KJ{lo hi:Option Expr}{gl gh:FO}(hG:G.K=X.K)(ha:PU X G a fa)(hl:PFO X G lo gl)(hh:PFO X G hi gh):PF X G (.Subscript a (.Slice lo hi W1 p2) pos) (slF fa gl gh):=λA=>CT (jg (yR (X:=X)) (@ha A) (@hl A) (@hh A))<|by
 rintro σ H Q ⟨g,d,o,e,k⟩
 unfold slF at e;cases z:fa g with
 |none=>simp[z] at e
 |some x=>
  cases J:gl g with
  |none=>simp[z,J] at e
  |some l=>
   cases e3:gh g with
   |none=>simp[z,J,e3] at e
   |some h=>
    have O:slD x l h=O0 d:=by simpa [z,J,e3] using e
    refine⟨g,x,o,z,λv H1 I r1=>⟨g,l,o.mono I,J,λH2 S=>⟨g,h,(o.mono I).mono S,e3,λH3 T=>?_⟩⟩⟩;have Y:=(r1.mono S).mono T;have o3:=((o.mono I).mono S).mono T;have W:=I.trans (S.trans T);unfold slD at O;split at O
    .cases O;obtain⟨p,L,rfl,Z,r⟩:=Y.lst;exact .inl ⟨p,L,rfl,by rw[<-hG];exact Z,λq U=>k _ _ (W.trans (Al U _)) (Ep o3.live U (r.cut _ _))⟩
    .split at O
     .cases O
     .rename_i hw;cases O;obtain⟨p,L,rfl,Z,r⟩:=Y.tup;exact .inr (.inl ⟨p,L,rfl,by rw[<-hG];exact Z,by rw[r.1];exact hw,λq U=>k _ _ (W.trans (Al U _)) (Gb o3.live U (r.cut _ _))⟩)
    .split at O
     .rename_i hz;cases O;refine .inr (.inr ⟨_,Y.str,hz,?_⟩);rw[gj];exact k _ _ W (.str _)
     .cases O
    .cases O
def Wt{u:V}{d:D}(r:rc G A H v d)(h:UY d=O0 u):v=u/\Lg v=O1:=by
 cases d with
 |non=>cases h;rw[r.non];exact⟨rfl,rfl⟩
 |bl b=>cases h;rw[r.bl];exact⟨rfl,rfl⟩
 |int b=>cases h;rw[r.int];exact⟨rfl,rfl⟩
 |str b=>cases h;rw[r.str];exact⟨rfl,rfl⟩
 |_=>cases h
theorem Yh{H:Hp}:∀{ds:List D}{xs us:List V},bc G H xs ds->OO ds=O0 us->xs=us/\xs.all Lg=O1
 |[],xs,us,r,h=>by cases h;rw[r.nil_inv];exact⟨rfl,rfl⟩
 |d::ds,xs,us,r,h=>by
  obtain⟨x,T,rfl,S,O⟩:=r.uncons;unfold OO at h;cases g:UY d with
  |none=>simp[g] at h
  |some v=>
   cases I:OO ds with
   |none=>simp[g,I] at h
   |some U=>
    simp[g,I] at h;subst h;have q:jl G (be [] H) x d:=S.mono λb o z=>z;obtain⟨Z,Y⟩:=Wt (A:=[]) (.inl q) g;obtain⟨L,J⟩:=Yh O I;subst Z;subst L;exact⟨rfl,by rw[tq,Y,J];rfl⟩
def rInA(K:aS)(g:Bool):R2:=λx y H Q=>rIn K g x y H Q∨∃i j,x=.str i/\y=.str j/\Q (.bl (if g then !(!(oy j i 0 j.length 1).isEmpty) else !(oy j i 0 j.length 1).isEmpty)) H
def kI:NR X (db .In) (rInA X.K O2):=gU.or gO
def gk:NR X (db .NotIn) (rInA X.K O1):=Wk.or We
def yS(g:Bool):Ea G (rInA G.K g) (inD g):=by
 intro A H x y dx dy d Q lv rx O h k;have seq:∀{J:List D}{p:Addr}{z:List V},y=.ref p->(NS G.K H p z∨NO G.K H p z)->bc G (be A H) z J->((UY dx).bind λv=>(OO J).map λL=>D.bl (if g then !YR v L else YR v L))=O0 d->rIn G.K g x y H Q:=λ{J p z} ey hq r h=>by
  cases I:UY dx with
  |none=>simp[I] at h
  |some v=>
   cases T:OO J with
   |none=>simp[I,T] at h
   |some L=>
    rw[I,T] at h;cases h;obtain⟨Z,Y⟩:=Wt rx I;obtain⟨W,U⟩:=Yh r T;subst Z;subst W;exact⟨p,z,ey,hq,Y,U,k _ H (af.refl H) (.bl _)⟩
 unfold inD at h;split at h
 .cases h;exact .inr ⟨_,_,rx.str,O.str,k _ H (af.refl H) (.bl _)⟩
 .obtain⟨p,z,e,S,r⟩:=O.lst;exact .inl (seq e (.inl S) r h)
 .obtain⟨p,z,e,S,r⟩:=O.tup;exact .inl (seq e (.inr S) r h)
 .cases h
def eAt(f:D->D->Option Bool)(xs g:List D)(j:Nat):Bool:=match xs[j]?,g[j]? with | some x,O0 y=>(f x y).getD O2 | _,_=>O2
theorem Q7{f:D->D->Option Bool}:∀{xs ys:List D}{b:Bool},OZ f xs ys=O0 b->xs.length=ys.length/\(∀(j:Nat) x y,xs[j]?=O0 x->ys[j]?=O0 y->f x y=O0 (eAt f xs ys j))/\b=(bg xs.length).all (eAt f xs ys)
 |[],[],b,h=>by cases h;exact⟨rfl,λj x y h=>by simp at h,rfl⟩
 |[],_::_,b,h=>by cases h
 |_::_,[],b,h=>by cases h
 |x::xs,y::ys,b,h=>by
  unfold OZ at h;split at h
  .rename_i a c I O;cases h;obtain⟨L,J,T⟩:=Q7 O;refine⟨by simp[L],λj u v S g=>?_,?_⟩
   .cases j with
    |zero=>simp at S g;subst S;subst g;rw[I];simp[eAt,I]
    |succ j=>
     have:=J j u v (by simpa using S) (by simpa using g);rw[this];simp[eAt]
   .rw[ck,IS,tq,List.all_map];have z:eAt f (x::xs) (y::ys) 0=a:=by simp[eAt,I]
    rw[z,T];rfl
  .cases h
def kJ{u:V}(h:Lg u=O1):TZ u u=O1:=by
 cases u<;>simp[TZ]<;>cases h
theorem Ss{d:D}{u:V}(r:jl G H v d)(h:UY d=O0 u):v=u/\Lg v=O1:=Wt (A:=[]) (.inl (r.mono λb o z=>by rw[A_ IT];exact z)) h
section
def Yi(I:Inv X π σ H s)(W:G.K=X.K):∀(n:Nat) {x y:D}{v:V}{b:Bool},Sk n x y=O0 b->jl G H v x->jl G H v y->b=O1:=by
 have J:∀{x y:D}{v:V}{b:Bool},flD x y=O0 b->jl G H v x->jl G H v y->b=O1:=λ{x y v b} h rx g=>by
  unfold flD at h;cases e1:UY x with
  |none=>simp[e1] at h
  |some u=>
   cases e2:UY y with
   |none=>simp[e1,e2] at h
   |some w=>
    simp[e1,e2] at h;obtain⟨z1,z2⟩:=Ss rx e1;obtain⟨z3,_⟩:=Ss g e2;rw[<-h,<-z1,<-z3];exact kJ z2
 intro n
 induction n with
 |zero=>intro x y v b h rx g;exact J h rx g
 |succ n ih=>
  have items:∀{Y:List V}{U es:List D}{b:Bool},OZ (Sk n) U es=O0 b->bc G H Y U->bc G H Y es->b=O1:=λ{Y U es b} h z S=>by
   obtain⟨T,O,h3⟩:=Q7 h;rw[h3,eS];intro j hj;have L:j<U.length:=cf.mp hj;have hx:Y[j]?=O0 (Y[j]'(by rw[z.1];exact L)):=by simp[z.1,L]
   have hd:U[j]?=O0 U[j]:=by simp[L]
   have he:es[j]?=O0 (es[j]'(by omega)):=dc .(0);exact ih (O j _ _ hd he) (z.2 j _ _ hx hd) (S.2 j _ _ hx he)
  intro x y v b h rx g;unfold Sk eqS at h;split at h
  .split at h
   .cases rx with
    |lst T l1 z=>
     cases g with
     |lst O Z S=>
      have e:=I.list_inj (by rw[<-W];exact T) (by rw[<-W];exact O);subst e;exact items h ⟨l1,z⟩ ⟨Z,S⟩
   .rename_i N0;cases rx with
    |lst T l1 z=>
     cases g with
     |lst O Z S=>
      have e:=I.list_inj (by rw[<-W];exact T) (by rw[<-W];exact O);subst e;exact XI (l1.symm.trans Z) N0
  .split at h
   .cases rx with
    |tup T l1 z=>
     cases g with
     |tup O Z S=>
      have e:=I.tuple_inj (by rw[<-W];exact T) (by rw[<-W];exact O);subst e;exact items h ⟨l1,z⟩ ⟨Z,S⟩
   .cases h
  .exact J h rx g
def KN{A:aT}{ds es:List D}{b:Bool}{g:List ac}(ih:∀{x y:D}{v w:V}{u1 u2:ac}{b:Bool},Sk n x y=O0 b->jl G H v x->jl G H w y->cc v u1->cc w u2->mI A s u1 u2 b)(h:OZ (Sk n) ds es=O0 b)(L:bc G H xs ds)(J:bc G H ys es)(I:fc xs its)(z:fc ys g):
  its.toArray.size=g.toArray.size/\b=(bg its.toArray.size).all (eAt (Sk n) ds es)/\∀j (h1:j<its.toArray.size) (h2:j<g.toArray.size),mI A s its.toArray[j] g.toArray[j] (eAt (Sk n) ds es j):=by
 obtain⟨h1,h2,h3⟩:=Q7 h;have l1:=I.length;have l2:=z.length;have q1:=L.1;have q2:=J.1;have z1:its.toArray.size=ds.length:=by rw[cE];omega
 refine⟨by rw[cE,cE];omega,by rw[z1];exact h3,λj T S=>?_⟩;rw[cE] at T S;have jx:j<xs.length:=by omega
 have jy:j<ys.length:=by omega
 have W:xs[j]?=O0 xs[j]:=by simp[jx]
 have U:ys[j]?=O0 ys[j]:=by simp[jy]
 have Z:ds[j]?=O0 (ds[j]'(by omega)):=dc .(0);have Y:es[j]?=O0 (es[j]'(by omega)):=dc .(0);obtain⟨u,eu,ru⟩:=I.get W;obtain⟨w,ew,O⟩:=z.get U;have a1:its.toArray[j]=u:=by simpa [dc T] using eu
 have a2:g.toArray[j]=w:=by simpa [dc S] using ew
 rw[a1,a2];exact ih (h2 j _ _ Z Y) (L.2 j _ _ W Z) (J.2 j _ _ U Y) ru O
def Wu{ds es:List D}{g:List ac}(h:ds.length≠es.length)(J:bc G H xs ds)(O:bc G H ys es)(I:fc xs its)(z:fc ys g):(its.toArray.size != g.toArray.size)=O1:=by
 have L:=I.length;have Z:=z.length;have q1:=J.1;have q2:=O.1;rw[cE,cE];exact bne_iff_ne.mpr .(0)
def T9(I:Inv X π σ H s)(W:G.K=X.K):∀(n:Nat) (A:aT),A.units+n<bv->∀{x y:D}{v w:V}{u1 u2:ac}{b:Bool},Sk n x y=O0 b->jl G H v x->jl G H w y->cc v u1->cc w u2->mI A s u1 u2 b:=by
 have J:∀{A:aT}{x y:D}{v w:V}{u1 u2:ac}{b:Bool},flD x y=O0 b->jl G H v x->jl G H w y->cc v u1->cc w u2->mI A s u1 u2 b:=λ{A x y v w u1 u2 b} h rx z q1 q2=>by
  unfold flD at h;cases e1:UY x with
  |none=>simp[e1] at h
  |some u=>
   cases e2:UY y with
   |none=>simp[e1,e2] at h
   |some w=>
    simp[e1,e2] at h;obtain⟨Z,z2⟩:=Ss rx e1;obtain⟨Y,z4⟩:=Ss z e2;rw[<-h,<-Z,<-Y];exact ji q1 q2 z2 z4
 intro n
 induction n with
 |zero=>intro A hu x y v w u1 u2 b h rx z q1 q2;exact J h rx z q1 q2
 |succ n ih=>
  intro A hu x y v w u1 u2 b h rx z q1 q2;have h':=h;have T0:A.in1.units+n<bv:=by show A.units+1+n<bv;omega
  have L:A.units<bv:=by omega
  unfold Sk eqS at h;split at h
  .cases rx with
   | @lst a _ _ h1 U S=>
    cases z with
    | @lst c _ _ h2 T O=>
     obtain rfl:u1=.ref a:=q1;obtain rfl:u2=.ref c:=q2;obtain⟨S0,v1,p1,_⟩:=I.list (by rw[<-W];exact h1);obtain⟨N0,v2,p2,_⟩:=I.list (by rw[<-W];exact h2)
     by_cases g:a=c
     .subst g;have:=Yi I W (n+1) h' (.lst h1 U S) (.lst h2 T O);subst this;exact DM _
     .split at h
      .obtain⟨Z,z2,Y⟩:=KN (λq=>ih A.in1 T0 q) h ⟨U,S⟩ ⟨T,O⟩ v1 v2;rw[z2];exact DZ g (IU p1.isList p2.isList Z L Y)
      .rename_i X0;cases h;exact DZ g (IY p1.isList p2.isList (Wu X0 ⟨U,S⟩ ⟨T,O⟩ v1 v2) L)
  .cases rx with
   | @tup a _ _ h1 U S=>
    cases z with
    | @tup c _ _ h2 T O=>
     obtain rfl:u1=.ref a:=q1;obtain rfl:u2=.ref c:=q2;obtain⟨S0,v1,p1,_⟩:=I.tuple (by rw[<-W];exact h1);obtain⟨N0,v2,p2,_⟩:=I.tuple (by rw[<-W];exact h2)
     by_cases g:a=c
     .subst g;have:=Yi I W (n+1) h' (.tup h1 U S) (.tup h2 T O);subst this;exact DM _
     .split at h
      .obtain⟨Z,z2,Y⟩:=KN (λq=>ih A.in1 T0 q) h ⟨U,S⟩ ⟨T,O⟩ v1 v2;have q:=IZ (show s.heap.IsTuple a S0.toArray from p1) (show s.heap.IsTuple c N0.toArray from p2) L Y;rw[Z,E1,NL,AK,<-Z,<-z2] at q;exact DZ g q
      .cases h
  .exact J h rx z q1 q2
end
def rEqP(G:Gx)(g:Bool):R2:=λx y H Q=>∃(A:List Addr) (ds es:List D) (b:Bool),TU (.lst ds) (.lst es)=O0 b/\((rc G A H x (.lst ds)/\rc G A H y (.lst es))∨(ds.length=es.length/\rc G A H x (.tup ds)/\rc G A H y (.tup es)))/\Q (.bl (if g then !b else b)) H
def yU(W:G.K=X.K)(hu:X.A.units+190<bv):NR X (db .Eq) (rEqP G O2):=by
 intro π s σ H x y v u Q I rx ry h;obtain⟨A,ds,es,b,e,hr,k⟩:=h;have g:EP X π σ Q (.bool b) s:=⟨.bl b,H,I,rfl,k⟩;simp only[TU] at e
 rcases hr with ⟨r1,r2⟩ | ⟨hl,r1,r2⟩
 .obtain⟨a,xs,rfl,h1,q1⟩:=r1.lst;obtain⟨c,ys,rfl,h2,q2⟩:=r2.lst;cases rx;cases ry;obtain⟨J,O,T,_⟩:=I.list (by rw[<-W];exact h1);obtain⟨z,L,S,_⟩:=I.list (by rw[<-W];exact h2);split at e
  .obtain⟨Z,Y,U⟩:=KN (λq=>T9 I W 180 X.A.in1 (by show X.A.units+1+180<bv;omega) q) e (q1.mono Ao) (q2.mono Ao) O L;exact IU T.isList S.isList Z .(0) U _ _ _ _ (by rw[<-Y];exact g)
  .rename_i N0;cases e;exact IY T.isList S.isList (Wu N0 q1 q2 O L) .(0) _ _ _ _ g
 .obtain⟨a,xs,rfl,h1,q1⟩:=r1.tup;obtain⟨c,ys,rfl,h2,q2⟩:=r2.tup;cases rx;cases ry;obtain⟨J,O,T,_⟩:=I.tuple (by rw[<-W];exact h1);obtain⟨z,L,S,_⟩:=I.tuple (by rw[<-W];exact h2);rw[VI hl] at e;obtain⟨Z,Y,U⟩:=KN (λq=>T9 I W 180 X.A.in1 (by show X.A.units+1+180<bv;omega) q) e (q1.mono Ao) (q2.mono Ao) O L;have q:=IZ (show s.heap.IsTuple a J.toArray from T) (show s.heap.IsTuple c z.toArray from S) .(0) U;rw[Z,E1,NL,AK,<-Z,<-Y] at q;exact q _ _ _ _ g
def yV(W:G.K=X.K)(hu:X.A.units+190<bv):NR X (db .NotEq) (rEqP G O1):=by
 intro π s σ H x y v u Q I rx ry h;obtain⟨A,ds,es,b,e,hr,k⟩:=h;have g:EP X π σ Q (.bool (!b)) s:=⟨.bl (!b),H,I,rfl,k⟩;simp only[TU] at e
 rcases hr with ⟨r1,r2⟩ | ⟨hl,r1,r2⟩
 .obtain⟨a,xs,rfl,h1,q1⟩:=r1.lst;obtain⟨c,ys,rfl,h2,q2⟩:=r2.lst;cases rx;cases ry;obtain⟨J,O,T,_⟩:=I.list (by rw[<-W];exact h1);obtain⟨z,L,S,_⟩:=I.list (by rw[<-W];exact h2);split at e
  .obtain⟨Z,Y,U⟩:=KN (λq=>T9 I W 180 X.A.in1 (by show X.A.units+1+180<bv;omega) q) e (q1.mono Ao) (q2.mono Ao) O L;exact SeqAt.RcNeAt.lists T.isList S.isList Z .(0) U _ _ _ _ (by rw[<-Y];exact g)
  .rename_i N0;cases e;exact SeqAt.RcNeAt.lists_lengths T.isList S.isList (Wu N0 q1 q2 O L) .(0) _ _ _ _ g
 .obtain⟨a,xs,rfl,h1,q1⟩:=r1.tup;obtain⟨c,ys,rfl,h2,q2⟩:=r2.tup;cases rx;cases ry;obtain⟨J,O,T,_⟩:=I.tuple (by rw[<-W];exact h1);obtain⟨z,L,S,_⟩:=I.tuple (by rw[<-W];exact h2);rw[VI hl] at e;obtain⟨Z,Y,U⟩:=KN (λq=>T9 I W 180 X.A.in1 (by show X.A.units+1+180<bv;omega) q) e (q1.mono Ao) (q2.mono Ao) O L;have q:=SeqAt.RcNeAt.tuples (show s.heap.IsTuple a J.toArray from T) (show s.heap.IsTuple c z.toArray from S) .(0) U;rw[Z,E1,NL,AK,<-Z,<-Y] at q;exact q _ _ _ _ g
def rEqA(G:Gx)(g:Bool):R2:=λx y H Q=>(λx y H Q=>scal x y=O1/\Q (.bl (if g then !decide (x=y) else decide (x=y))) H) x y H Q∨rEqP G g x y H Q
def kO(W:G.K=X.K)(S:X.A.units+190<bv):NR X (db .Eq) (rEqA G O2):=AAT.or (yU W S)
def yW(W:G.K=X.K)(S:X.A.units+190<bv):NR X (db .NotEq) (rEqA G O1):=AAV.or (yV W S)
def Wv{g I:Type}[DecidableEq g][DecidableEq I]{f:g->I}(h:∀a b,f a=f b->a=b)(a b:g):decide (f a=f b)=decide (a=b):=by
 by_cases e:a=b
 .subst e;simp
 .rw[YI e,YI λz=>e (h a b z)]
theorem aC(I:Bool):Ea G (rEqA G I) (mf I):=by
 intro A H x y dx J d Q L rx g h k;unfold mf at h;cases e:TU dx J with
 |none=>simp[e] at h
 |some b=>
  simp only[e,iq] at h;cases h;unfold TU at e;split at e
  .cases e;rw[rx.int,g.int];refine .inl ⟨rfl,?_⟩;rw[Wv (f:=V.int) (λa b z=>by cases z;rfl)];exact k _ H (af.refl H) (.bl _)
  .cases e;rw[rx.str,g.str];refine .inl ⟨rfl,?_⟩;rw[Wv (f:=V.str) (λa b z=>by cases z;rfl)];exact k _ H (af.refl H) (.bl _)
  .cases e;rw[rx.bl,g.bl];refine .inl ⟨rfl,?_⟩;rw[Wv (f:=V.bl) (λa b z=>by cases z;rfl)];exact k _ H (af.refl H) (.bl _)
  .exact .inr ⟨A,_,_,b,e,.inl ⟨rx,g⟩,k _ H (af.refl H) (.bl _)⟩
  .split at e
   .rename_i Y;exact .inr ⟨A,_,_,b,(by simp only[TU];rw[VI Y];exact e),.inr ⟨Y,rx,g⟩,k _ H (af.refl H) (.bl _)⟩
   .cases e
  .cases e
def XY(G:Gx)(r:List V->Hp->VK->Prop)(g:D->Option D):Prop:=∀(A:List Addr) (H:Hp) (x:V) (dx d:D) (Q:VK),(∀a∈A,Nt (H a))->rc G A H x dx->g dx=O0 d->(∀v z,af H z->jl G (be A z) v d->Q v z)->r [x] H Q
def cC(G:Gx)(r:List V->Hp->VK->Prop)(g:D->D->Option D):Prop:=∀(A:List Addr) (H:Hp) (x y:V) (dx I d:D) (Q:VK),(∀a∈A,Nt (H a))->rc G A H x dx->rc G A H y I->g dx I=O0 d->(∀v z,af H z->jl G (be A z) v d->Q v z)->r [x,y] H Q
def Gk{g:D->Option D}{ρ:Rho}{d:D}(h:uF g fa ρ=O0 d):∃x,fa ρ=O0 x/\g x=O0 d:=by
 unfold uF at h;cases e:fa ρ with
 |none=>simp[e] at h
 |some x=>exact⟨x,rfl,by simpa [e] using h⟩
def kW{g:D->Option D}(s:XY G r g){A:List Addr}{z:St}{H:Hp}{Q:VK}(h:tF G A (uF g fa) z H Q):tCB r (YS (tT G A fa) tNil) z H Q:=by
 obtain⟨J,d,o,e,k⟩:=h;obtain⟨x,U,T⟩:=Gk e;exact⟨J,x,o,U,λv Y I L=>s A Y v x d Q (o.mono I).live L T λw W S O=>k w W (I.trans S) O⟩
def sY{g:D->D->Option D}(s:cC G r g){A:List Addr}{I:St}{H:Hp}{Q:VK}(h:tF G A (bF g fa fb) I H Q):tCB r (YS (tT G A fa) (YS (tT G A fb) tNil)) I H Q:=by
 obtain⟨J,d,o,e,k⟩:=h;obtain⟨x,y,Z,Y,W⟩:=Wn e;exact⟨J,x,o,Z,λv H1 z U=>⟨J,y,o.mono z,Y,λu H2 S T=>s A H2 v u x y d Q ((o.mono z).mono S).live (U.mono S) T W λw H3 O L=>k w H3 (z.trans (S.trans O)) L⟩⟩
def BK{p:Pos}{id:String}{g:D->Option D}(S:D_ X (.builtin id) r)(s:XY G r g)(W:Gl X x)(O:X.mg x=W1)(J:d4 x=O0 (.builtin id))(ha:PU X G a fa)(L:x≠"__name__":=by decide)(z:(x==("__debug__":Str))=O2:=by decide)(I:ay [a] X.env=[(O2,eval a X.env)]:=by rfl):PF X G (.Call (.Name x p) [a] [] pos) (uF g fa):=
 λA=>CT (MN S W O J (Ca (@ha A) Ei I) L z I rfl) λ_ _ _ h=>kW s h
def JM{p:Pos}{id:String}{g:D->D->Option D}(T:D_ X (.builtin id) r)(s:cC G r g)(W:Gl X x)(S:X.mg x=W1)(L:d4 x=O0 (.builtin id))(ha:PU X G a fa)(hb:PU X G b fb)(O:x≠"__name__":=by decide)(I:(x==("__debug__":Str))=O2:=by decide)(J:ay [a,b] X.env=(O2,eval a X.env)::ay [b] X.env:=by rfl)(z:ay [b] X.env=[(O2,eval b X.env)]:=by rfl):PF X G (.Call (.Name x p) [a,b] [] pos) (bF g fa fb):=
 λA=>CT (MN T W S L (Ca (@ha A) (Ca (@hb A) Ei z) J) O I J (by rw[z];rfl)) λ_ _ _ h=>sY s h
def Q8{p:Pos}{T:String}{g:D->Option D}(S:D_ X (.type T) r)(s:XY G r g)(W:Gl X x)(O:X.mg x=W1)(J:d4 x=O0 (.type T))(ha:PU X G a fa)(L:x≠"__name__":=by decide)(z:(x==("__debug__":Str))=O2:=by decide)(I:ay [a] X.env=[(O2,eval a X.env)]:=by rfl):PF X G (.Call (.Name x p) [a] [] pos) (uF g fa):=
 λA=>CT (HQ S W O J (Ca (@ha A) Ei I) L z I rfl) λ_ _ _ h=>kW s h
def Sv:XY G (λxs H Q=>∃x n,xs=[x]/\LenV G.K x H n/\Q (.int n) H) SW:=by
 intro A H x dx d Q I rx h k;unfold SW at h;split at h
 .split at h
  .rename_i O;cases h;rw[rx.str];exact⟨_,_,rfl,⟨O,rfl⟩,k _ H (af.refl H) (.int _)⟩
  .cases h
 .cases h;obtain⟨p,xs,rfl,g,r⟩:=rx.lst;exact⟨_,_,rfl,.inl ⟨xs,g,rfl⟩,by rw[r.1];exact k _ H (af.refl H) (.int _)⟩
 .cases h;obtain⟨p,xs,rfl,g,r⟩:=rx.tup;exact⟨_,_,rfl,.inr ⟨xs,g,rfl⟩,by rw[r.1];exact k _ H (af.refl H) (.int _)⟩
 .cases h
def BX(W:G.K=X.K):D_ X (.builtin "len") (λxs H Q=>∃x n,xs=[x]/\LenV G.K x H n/\Q (.int n) H):=by rw[W];exact jW
def T_:cC G (λxs H Q=>∃i j,xs=[.int i,.int j]/\Q (.int (if j > i then j else i)) H) ZN:=by
 intro A H x y dx z d Q I rx g h k;obtain⟨i,j,rfl,rfl,h⟩:=Py h;cases h;exact⟨i,j,by rw[rx.int,g.int],k _ H (af.refl H) (.int _)⟩
def Pz:cC G (λxs H Q=>∃i j,xs=[.int i,.int j]/\Q (.int (if j<i then j else i)) H) WV:=by
 intro A H x y dx z d Q I rx g h k;obtain⟨i,j,rfl,rfl,h⟩:=Py h;cases h;exact⟨i,j,by rw[rx.int,g.int],k _ H (af.refl H) (.int _)⟩
def kZ:XY G (λxs H Q=>∃p ys,xs=[.ref p]/\(NS G.K H p ys∨NO G.K H p ys)/\∀l,H l=W1->Q (.ref l) (gq H l (.lst ys))) j6:=by
 intro A H x dx d Q I rx h k;unfold j6 at h;split at h
 .cases h;obtain⟨p,xs,rfl,g,r⟩:=rx.lst;exact⟨p,xs,rfl,.inl g,λl Y=>k _ _ (Al Y _) (Ep I Y r)⟩
 .cases h;obtain⟨p,xs,rfl,g,r⟩:=rx.tup;exact⟨p,xs,rfl,.inr g,λl Y=>k _ _ (Al Y _) (Ep I Y r)⟩
 .cases h
end
def vh(G:Gx)(z H g:Hp)(x:V)(d:D):Prop:=af H g/\∀B:List Addr,(∀a∈B,Nt (H a))->af z (be B H)->jl G (be B g) x d
def UG{G:Gx}{x:V}{d:D}(h:H'=H/\jl G F2 x d):vh G F2 H H' x d:=by
 obtain⟨rfl,r⟩:=h;exact⟨af.refl _,λB _ g=>r.mono g⟩
structure Src (G:Gx) (J:It) (ds:List D) (F1 F2:Hp):Prop where
 go:∀i H,af F1 H->i<ds.length->J.go i H
 yld:∀i H x H' d,af F1 H->ds[i]?=O0 d->J.yld i H x H'->vh G F2 H H' x d
 stop:∀i H,af F1 H->ds.length<=i->J.stop i H
def tI(G:Gx)(A:List Addr)(top:Bool)(f:FI):TI:=λz H R=>∃ρ ds,Pi G A z H ρ/\f ρ=O0 ds/\∀J g,af H g->Src G J ds (if top then g else be A g) (be A g)->R J g
def Sa(X:Cx)(G:Gx)(top:Bool)(tg e:Expr)(f:FI):Prop:=∀⦃A⦄,PI X tg e (tI G A top f)
def UJ{t t':TI}(h:PI X tg e t)(w:∀σ H Q,t' σ H Q->t σ H Q):PI X tg e t':=λz s σ H Q I q=>h z s σ H Q I (w σ H Q q)
def piOr{t t':TI}(h:PI X tg e t)(h':PI X tg e t'):PI X tg e (λσ H R=>t σ H R∨t' σ H R):=λz s σ H Q I q=>by
 rcases q with q | q
 .exact h z s σ H Q I q
 .exact h' z s σ H Q I q
section
variable {G:Gx}{a:Expr}{fa:FE}
def sZ{ds:List D}(h:NO G.K F1 p xs)(r:bc G F2 xs ds):Src G (Itt G.K p) ds F1 F2 where
 go:=λi H s g=>⟨xs,xs[i]'(by rw[r.1];exact g),EY s h,by simp[r.1,g]⟩
 yld:=λi H x I d s z y=>UG ⟨y.1,r.2 i x d (y.2 xs (EY s h)) z⟩
 stop:=λi H s g=>⟨xs,EY s h,by rw[r.1];exact g⟩
def su(W:G.K=X.K)(h:PF X G a fa):Sa X G O2 tg a (seqI fa):=λA=>UJ (piOr (rG (@h A)) (xq (@h A)))<|by
 rintro U H R ⟨S,Y,o,e,k⟩
 unfold seqI at e;split at e
 .rename_i L J;cases e;refine .inl ⟨S,_,o,J,λv O z g=>?_⟩;cases g with
  |lst h l r=>exact⟨_,rfl,⟨_,by rw[<-W];exact Ao.seq h⟩,by rw[<-W];exact k _ O z { go:=λi H s I=>⟨_,_,s.seq h,by simp[l,I];rfl⟩,yld:=λi H x Z d s T y=>UG ⟨y.1,r i x d (y.2 _ (s.seq h)) T⟩,stop:=λi H s I=>⟨_,s.seq h,by rw[l];exact I⟩ }⟩
 .rename_i L J;cases e;refine .inr ⟨S,_,o,J,λv O z g=>?_⟩;cases g with
  |tup h l r=>exact⟨_,rfl,⟨_,by rw[<-W];exact EY Ao h⟩,by rw[<-W];exact k _ O z (sZ h ⟨l,r⟩)⟩
 .cases e
def kh{d:D}(h:(MX n)[i]?=O0 d):d=.int i:=by
 unfold MX at h;rw[cb] at h;cases e:(bg n)[i]? with
 |none=>rw[e] at h;cases h
 |some j=>
  rw[e] at h;have:=(iL.mp e);obtain⟨z,g⟩:=this;rw[List.getElem_range] at g;subst g;exact (cS h).symm
def tD:Src G (Itr 0 n) (MX n) F1 F2 where
 go:=λi H s g=>by unfold MX at g;show i<n;simpa using g
 yld:=λi H x J d s I y=>by
  obtain⟨z,Z⟩:=y;rw[kh I,Z,Int.zero_add];exact UG ⟨z,.int _⟩
 stop:=λi H s g=>by unfold MX at g;show n<=i;simpa using g
def GD{top:Bool}{p:Pos}(W:Gl X "range")(J:X.mg "range"=W1)(h:PU X G a fa)(hs:ay [a] X.env=[(O2,eval a X.env)]:=by rfl):Sa X G top tg (.Call (.Name "range" p) [a] [] pos) (Nc fa):=λA=>UJ (gK W J (Ca (@h A) Ei hs) hs)<|by
 rintro S H R ⟨g,T,o,e,k⟩
 unfold Nc at e;split at e
 .rename_i j L;split at e
  .rename_i U;cases e;exact⟨g,_,o,L,λv O z I=>⟨j,by rw[I.int],U.1,U.2,k _ O z tD⟩⟩
  .cases e
 .cases e
end
structure ON (G:Gx) (A0:List Addr) (He:Hp) (A:List Addr) (σ:St) (H:Hp) (ρ:Rho):Prop where
 same:af He H
 sub:∀a∈A0,a∈A
 fr:∀a∈A,a∈A0∨He a=W1
 l0:∀a∈A0,He a≠W1
 ok:Pi G A σ H ρ
 ow0:∀(i:Nat) (d:D) (a:Addr),ρ[i]?=O0 (.ow d)->σ[i]?=O0 (O0 (.ref a))->a∉A0
 lt:∀(x:Addr) (d:D),G.lent=O0 x->ρ[0]?=O0 (.ow d)->σ[0]?=O0 (O0 (.ref x))
def XZ(G:Gx)(A0:List Addr)(z:Hp)(g:St)(H:Hp)(ρ:Rho):Prop:=∃A,ON G A0 z A g H ρ
def UL(G:Gx)(A0:List Addr)(z:Hp)(D:SL):So->Prop
 |.nx ρ=>∀g H,XZ G A0 z g H ρ->D.nx g H
 |.rt d ρ=>∀v g H A,ON G A0 z A g H ρ->jl G (be A H) v d->D.rt v H
 |.bk ρ=>∀g H,XZ G A0 z g H ρ->D.bk g H
 |.ct ρ=>∀g H,XZ G A0 z g H ρ->D.ct g H
def tS(G:Gx)(A0:List Addr)(z:Hp)(g:FS):TS:=λD I H=>∃ρ o,XZ G A0 z I H ρ/\g ρ=O0 o/\UL G A0 z D o
def UR(X:Cx)(G:Gx)(st:Stmt)(g:FS):Prop:=∀⦃A0⦄ He,PS X st (tS G A0 He g)
def RY(X:Cx)(G:Gx)(st:List Stmt)(g:FS):Prop:=∀⦃A0⦄ He,UP X st (tS G A0 He g)
theorem Pi.set{G:Gx}{A:List Addr}{L:St}{H:Hp}{ρ:Rho}{v:V}{d:D}(o:Pi G A L H ρ)(r:jl G (be A H) v d)(i:Nat):Pi G A (L.set i (O0 v)) H (ρ.set i (.fz d)):=by
 have I:∀(j:Nat) (z:Slot),(ρ.set i (.fz d))[j]?=O0 z->(j=i/\z=.fz d/\i<ρ.length)∨(j≠i/\ρ[j]?=O0 z):=λj z h=>by
  by_cases U:j=i
  .subst U
   by_cases Y:j<ρ.length
   .rw[mo Y] at h;exact .inl ⟨rfl,(cS h).symm,Y⟩
   .rw[pE (by simpa using kH.mp Y)] at h;cases h
  .rw[hV (ci U)] at h;exact .inr ⟨U,h⟩
 have g:∀(j:Nat),j≠i->(L.set i (O0 v))[j]?=L[j]?:=λj U=>hV (ci U);refine⟨by rw[sd,sd];exact o.len,o.live,λj e h=>?_,λj e h=>?_,λj k e f p h1 Z T S=>?_⟩
 .rcases I j _ h with ⟨U,O,Y⟩ | ⟨U,O⟩
  .cases O;subst U;exact⟨v,by rw[mo (by rw[o.len];exact Y)],r⟩
  .obtain⟨u,q1,q2⟩:=o.fz j e O;exact⟨u,by rw[g j U];exact q1,q2⟩
 .rcases I j _ h with ⟨U,O,Y⟩ | ⟨U,O⟩
  .cases O
  .obtain⟨u,q1,q2⟩:=o.ow j e O;exact⟨u,by rw[g j U];exact q1,q2⟩
 .rcases I j _ h1 with ⟨_,O,_⟩ | ⟨U,O⟩
  .cases O
  .rcases I k _ Z with ⟨_,J,_⟩ | ⟨W,J⟩
   .cases J
   .rw[g j U] at T;rw[g k W] at S;exact o.inj j k e f p O J T S
theorem ON.mono{G:Gx}{A0:List Addr}{z:Hp}{A:List Addr}{g:St}{H I:Hp}{ρ:Rho}(o:ON G A0 z A g H ρ)(s:af H I):ON G A0 z A g I ρ:=⟨o.same.trans s,o.sub,o.fr,o.l0,o.ok.mono s,o.ow0,o.lt⟩
theorem ON.set{G:Gx}{A0:List Addr}{S:Hp}{A:List Addr}{I:St}{H:Hp}{ρ:Rho}{v:V}{d:D}(o:ON G A0 S A I H ρ)(r:jl G (be A H) v d)(i:Nat):ON G A0 S A (I.set i (O0 v)) H (ρ.set i (.fz d)):=⟨o.same,o.sub,o.fr,o.l0,o.ok.set r i,λj e a g O=>by
  have U:j≠i:=by
   intro z;subst z
   by_cases Y:j<ρ.length
   .rw[mo Y] at g;cases g
   .rw[pE (by simpa using kH.mp Y)] at g;cases g
  rw[hV (ci U)] at g O;exact o.ow0 j e a g O,λx e T J=>by
  by_cases L:i=0
  .subst L;cases ρ with
   |nil=>cases J
   |cons a r=>cases J
  .rw[hV L] at J ⊢;exact o.lt x e T J⟩
def ON.base{G:Gx}{ρ:Rho}(o:ON G A0 Hf A σ H ρ)(s:af He Hf)(g:∀a∈A0,He a≠W1):ON G A0 He A σ H ρ:=
 ⟨s.trans o.same,o.sub,λa I=>(o.fr a I).imp id λz=>s.free z,g,o.ok,o.ow0,o.lt⟩
def ON.here{G:Gx}{ρ:Rho}(o:ON G A0 He A σ H ρ):af He (be (A.filter λa=>decide (a∉A0)) H)/\ON G A0 (be (A.filter λa=>decide (a∉A0)) H) A σ H ρ:=by
 have I:∀b,b∈(A.filter λa=>decide (a∉A0))↔b∈A/\b∉A0:=λb=>by simp[dS]
 have J:af He (be (A.filter λa=>decide (a∉A0)) H):=λb u h=>by
  rw[A_]
  .exact o.same b u h
  .intro z;obtain⟨Z,Y⟩:=(I b).mp z
   rcases o.fr b Z with q | q
   .exact Y q
   .rw[q] at h;cases h
 refine⟨J,Ao,o.sub,λa g=>?_,λa g h=>?_,o.ok,o.ow0,o.lt⟩
 .by_cases O:a∈A0
  .exact .inl O
  .right;unfold be;rw[VI ((I a).mpr ⟨g,O⟩)]
 .rw[A_ (λz=>((I a).mp z).2 g)] at h;exact (o.ok.live a (o.sub a g)).ne h
def ON.plain{G:Gx}{ρ:Rho}(sub:∀a∈A0,a∈B)(o:ON G A0 (be (B.filter λa=>decide (a∉A0)) H1) A σ H ρ):af (be B H1) (be A H):=λb u h=>by
 unfold be at h;split at h
 .cases h
 .rename_i g;have e:be (B.filter λa=>decide (a∉A0)) H1 b=O0 u:=by
   rw[A_ (λz=>g (dS.mp z).1)];exact h
  rw[A_]
  .exact o.same b u e
  .intro z
   rcases o.fr b z with q | q
   .exact g (sub b q)
   .rw[q] at e;cases e
section
variable {G:Gx}{a b c:Expr}{fa:FE}{ga:FT}{hQ:List Stmt}{g gs gb:FS}
def Bd:RY X G [] PR:=by
 rintro S O J s z H D I ⟨L,o,ok,e,k⟩
 cases e;exact Jq J s z H D I (k z H ok)
theorem Ad(h1:UR X G st g)(h2:RY X G hQ gs):RY X G (st::hQ) (cx g gs):=by
 rintro T S Y s W H D I ⟨O,o,ok,e,k⟩
 refine MJ (@h1 T S) (@h2 T S) Y s W H D I ?_;unfold cx at e;split at e
 .rename_i z Z;exact⟨O,_,ok,Z,λU H' J=>⟨z,o,J,e,k⟩⟩
 .rename_i L;refine⟨O,o,ok,e,?_⟩;cases o with
  |nx z=>exact XI e (L z)
  |rt d z=>exact k
  |bk z=>exact k
  |ct z=>exact k
def Ae(h1:UR X G st g):RY X G [st] g:=λS z=>Wb (@h1 S z)
def By{S:List Stmt}(ht:Sn X G c ga)(h1:RY X G s1 g)(h2:RY X G S gs):UR X G (.If c s1 S pos) (Pe ga g gs):=by
 rintro O L U s T H D I ⟨z,o,⟨A,w⟩,e,k⟩
 refine jN (@ht A) (@h1 O L) (@h2 O L) U s T H D I ?_;unfold Pe at e;split at e
 .rename_i J;exact⟨z,_,w.ok,J,λW s1=>Xs ⟨z,o,⟨A,w.mono s1⟩,e,k⟩⟩
 .rename_i J;exact⟨z,_,w.ok,J,λW s1=>VT ⟨z,o,⟨A,w.mono s1⟩,e,k⟩⟩
 .cases e
def kj{ρ:Rho}{o:So}{D:SL}(w:ON G A0 He A σ H ρ)(e:ll i fa ρ=O0 o)(k:UL G A0 He D o):WS (tF G A fa) (Ft i) D σ H:=by
 unfold ll at e;cases z:fa ρ with
 |none=>simp[z] at e
 |some d=>
  simp only[z,iq] at e;cases e;exact⟨ρ,d,w.ok,z,λv L I J=>k _ _ ⟨A,(w.mono I).set J i⟩⟩
def tG{p:Pos}(h:∀te,PE X a te->PS X (.Assign [.Name x p] a pos) (WS te (Ft i)))(ha:PF X G a fa):UR X G (.Assign [.Name x p] a pos) (ll i fa):=λS O J s z H D I ⟨L,o,⟨A,w⟩,e,k⟩=>
 h _ (@ha A) J s z H D I (kj w e k)
def Ag(ha:PF X G a fa):UR X G (.Return (O0 a) pos) (fx fa):=by
 rintro Y W O s J H D I ⟨L,o,⟨A,w⟩,e,k⟩
 refine jM (@ha A) O s J H D I ?_;unfold fx at e;cases z:fa L with
 |none=>simp[z] at e
 |some d=>
  simp only[z,iq] at e;cases e;exact⟨L,d,w.ok,z,λv U S T=>k v J U A (w.mono S) T⟩
def Dm(ha:PF X G a fa)(hs:eP a W1 pos.line X.env=pure O2:=by rfl):UR X G (.Expr a pos) (Fo fa):=by
 rintro Y U O s L H D I ⟨J,o,⟨A,w⟩,e,k⟩
 refine Wc (@ha A) hs O s L H D I ?_;unfold Fo at e;cases z:fa J with
 |none=>simp[z] at e
 |some d=>
  simp only[z,iq] at e;cases e;exact⟨J,d,w.ok,z,λv W S T=>k _ _ ⟨A,w.mono S⟩⟩
def JB:UR X G st badF:=by rintro S O L s z H D I ⟨J,o,ok,e,k⟩;cases e
def tGD(G:Gx)(A0:List Addr)(J:Hp)(g:FG):TG:=λv O H Q=>∃A ρ d I,ON G A0 J A O H ρ/\jl G (be A H) v d/\g d ρ=O0 I/\∀z L,XZ G A0 J z L I->Q z L
def PGD(X:Cx)(G:Gx)(tg:Expr)(g:FG):Prop:=∀⦃A0⦄ He,PG X tg (tGD G A0 He g)
def Cd(h:PG X tg (Ft i)):PGD X G tg (Be i):=by
 rintro U T L s z H v u Q I r ⟨A,S,d,J,w,O,e,k⟩
 cases e;exact h L s z H v u Q I r (k _ _ ⟨A,w.set O i⟩)
theorem UL.base{A0:List Addr}{L O:Hp}{D:SL}{o:So}(k:UL G A0 L D o)(s:af L O)(I:∀a∈A0,L a≠W1):UL G A0 O D o:=by
 cases o with
 |nx J=>rintro z H ⟨A,w⟩;exact k z H ⟨A,w.base s I⟩
 |rt d J=>exact λv z H A w r=>k v z H A (w.base s I) r
 |bk J=>rintro z H ⟨A,w⟩;exact k z H ⟨A,w.base s I⟩
 |ct J=>rintro z H ⟨A,w⟩;exact k z H ⟨A,w.base s I⟩
theorem Cg{it:Expr}{T0:FI}{fg:FG}(hp:qV (av X.prog X.w) X.A X.env X.xe)(hc:X.calm=O1)(hi:Sa X G O2 tg it T0)(hg:PGD X G tg fg)(hb:RY X G body gb)(hs:∀x,lc it X.env x=pure x:=by intro _;rfl):UR X G (.For tg it body [] pos) (Nw T0 fg gb):=by
 rintro S He π s σ H D I ⟨W,o,⟨A,w⟩,e,k⟩
 cases e1:T0 W with
 |none=>simp[Nw,e1] at e
 |some z=>
  have e':vb (λd W=>(fg d W).bind gb) z W=O0 o:=by
   have e2:vb (PM fg gb) z W=O0 o:=by simpa [Nw,e1] using e
   exact e2
  have X1:UP X body (λD σ H=>∃S He,tS G S He gb D σ H):=(by rintro π s σ H D I ⟨S,He,q⟩;exact @hb S He π s σ H D I q);have U1:PG X tg (λv σ H Q=>∃S He,tGD G S He fg v σ H Q):=(by rintro π s σ H v u Q I r ⟨S,He,q⟩;exact @hg S He π s σ H v u Q I r q);refine Zw hp hc (@hi A) U1 X1 hs π s σ H D I ⟨W,z,w.ok,e1,λJ H1 s1 sr=>?_⟩;obtain⟨N1,w2⟩:=(w.mono s1).here;have k2:=k.base N1 w.l0;generalize Y1:be (A.filter λa=>decide (a∉S)) H1=Hf at N1 w2 k2;refine⟨λi m L Z=>m=z.length-i/\i<=z.length/\∃U,XZ G S Hf L Z U/\vb (λd W=>(fg d W).bind gb) (z.drop i) U=O0 o,⟨z.length,by simp,fE _,W,⟨A,w2⟩,by simpa using e'⟩,?_⟩;rintro i m P1 H3 ⟨rfl,S2,X0,⟨B,w3⟩,O⟩;have pl:af (be A H1) (be B H3):=by rw[<-Y1] at w3;exact ON.plain w.sub w3
  by_cases N0:i<z.length
  .right;have hd:z[i]?=O0 z[i]:=by simp[N0]
   have ed:z.drop i=z[i]::z.drop (i+1):=ub N0;rw[ed] at O;unfold vb at O;refine⟨sr.go i H3 (pl.trans Ao) N0,λL Z=>∃U,XZ G S Hf L Z U/\vb (λd W=>(fg d W).bind gb) (z.drop (i+1)) U=O0 o,λL Z q=>⟨z.length-(i+1),by omega,rfl,N0,q⟩,λx Z y=>?_⟩;obtain⟨sy,rx⟩:=sr.yld i H3 x Z _ (pl.trans Ao) hd y;refine⟨S,Hf,B,X0,z[i],?_⟩;cases e4:fg z[i] X0 with
   |none=>simp[e4] at O
   |some S0=>
    refine⟨S0,w3.mono sy,rx B w3.ok.live pl,rfl,λQ2 H5 S1=>⟨S,Hf,S0,?_⟩⟩;cases e5:gb S0 with
    |none=>simp[e4,e5] at O
    |some o5=>
     refine⟨o5,S1,rfl,?_⟩;cases o5 with
     |nx T=>
      simp only[e4,e5,dL] at O;exact λL Z Y=>⟨T,Y,O⟩
     |ct T=>
      simp only[e4,e5,dL] at O;exact λL Z Y=>⟨T,Y,O⟩
     |bk T=>
      simp only[e4,e5,dL] at O;cases O;exact λL Z Y=>k2 L Z Y
     |rt d5 T=>
      simp only[e4,e5,dL] at O;cases O;exact k2
  .left;have ei:i=z.length:=by omega
   subst ei;rw[AL] at O;cases O;exact⟨sr.stop _ H3 (pl.trans Ao) (aI _),k2 P1 H3 ⟨B,w3⟩⟩
theorem gr(n:Nat)(hp:qV (av X.prog X.w) X.A X.env X.xe)(ht:Sn X G c ga)(hb:RY X G body gb):UR X G (.While c body [] pos) (HR ga gb n):=by
 rintro A0 He π s W H D I ⟨ρ,o,ok,e,k⟩
 have S0:PT X c (λW H Q=>∃A,tFT G A ga W H Q):=(by rintro π s W H Q I ⟨A,q⟩;exact @ht A π s W H Q I q);refine YM hp S0 (@hb A0 He) π s W H D I ⟨λm z U=>∃L,XZ G A0 He z U L/\HR ga gb m L=O0 o,⟨n,ρ,ok,e⟩,?_⟩;rintro m N0 H1 ⟨S,⟨A,w1⟩,J⟩;cases m with
 |zero=>cases J
 |succ m=>
  unfold HR at J;cases Z:ga S with
  |none=>simp[Z] at J
  |some t=>
   refine⟨A,S,t,w1.ok,Z,λH2 s2=>?_⟩;cases t with
   |false=>
    refine VT ?_;simp only[Z] at J;cases J;exact k N0 H2 ⟨A,w1.mono s2⟩
   |true=>
    refine Xs ⟨λz U=>∃L,XZ G A0 He z U L/\HR ga gb m L=O0 o,λz U q=>⟨m,tj m,q⟩,S,?_⟩;simp only[Z] at J;cases Y:gb S with
    |none=>simp[Y] at J
    |some o3=>
     refine⟨o3,⟨A,w1.mono s2⟩,rfl,?_⟩;cases o3 with
     |nx T=>simp only[Y] at J;exact λz U O=>⟨T,O,J⟩
     |ct T=>simp only[Y] at J;exact λz U O=>⟨T,O,J⟩
     |bk T=>simp only[Y] at J;cases J;exact λz U O=>k z U O
     |rt d5 T=>simp only[Y] at J;cases J;exact k
end
def MS(G:Gx)(g:List D->Option D):Sp:=λvs H Q _=>∃A ds d,(∀a∈A,Nt (H a))/\bc G (be A H) vs ds/\g ds=O0 d/\∀v z,af H z->jl G (be A z) v d->Q v z
section
variable {G:Gx}{a:Expr}{es:List Expr}{fs:FA}{p:Pos}
def AAk{k:Nat}{f:Addr}{g:List D->Option D}(F:gn X.prog X.w X.K X.mg X.base CX0 k f fd ps (MS G g))(Y:Room k X.A)(hg:Gl X x)(Z:X.mg x=O0 (.ref f))(hk:ib X.K (.ref f)=O1)(hb:MU X.K fd ps [])(ha:To X G (a::es) fs)(I:(x==("__debug__":Str))=O2:=by decide)(he:ay (a::es) X.env=(O2,eval a X.env)::ay es X.env:=by rfl)(z:(da pos (ay es X.env)).any (·.1)=O2:=by rfl):
  PF X G (.Call (.Name x p) (a::es) [] pos) (Aj g fs):=λA=>CT (bh F Y hg Z hk hb .nil Ry (@ha A) I he z)<|by
 rintro σ H Q ⟨O,d,o,e,k⟩
 unfold Aj at e;cases J:fs O with
 |none=>simp[J] at e
 |some L=>
  have e':g L=O0 d:=by simpa [J] using e
  refine⟨O,L,o,J,λvs H1 S W=>⟨A,L,d,(o.mono S).live,by rw[fI];exact W,e',λv H2 T U=>k v H2 (S.trans T) U⟩⟩
end
def Mf{G:Gx}{vs:List V}{ds:List D}(live:∀a∈A,Nt (H a))(r:bc G (be A H) vs ds)(U:vs.length<=N.length):XZ G A H (start N vs) H (DK N.length ds):=by
 have g:∀(i:Nat) (z:Slot),(DK N.length ds)[i]?=O0 z->(∃d,z=.fz d/\ds[i]?=O0 d)∨z=.un:=λi z h=>by
  unfold DK at h
  by_cases L:i<ds.length
  .rw[ko (by simpa using L),cb] at h;cases e:ds[i]? with
   |none=>rw[e] at h;cases h
   |some d=>rw[e] at h;exact .inl ⟨d,(cS h).symm,rfl⟩
  .rw[ja (by simpa using kH.mp L),Au] at h;split at h
   .exact .inr (cS h).symm
   .cases h
 refine⟨A,af.refl H,λ_ h=>h,λa h=>.inl h,λa S=>(live a S).ne,⟨?_,live,λi d h=>?_,λi d h=>?_,λi j d e a h _ _ _=>?_⟩,λi d a h _=>?_,λx d _ h=>?_⟩
 .unfold L2.start DK;rw[eB,eB,aE,aE,xb,xb,r.1]
 .rcases g i _ h with ⟨J,e,I⟩ | e
  .cases e;obtain⟨v,O,T⟩:=r.get I;refine⟨v,?_,T⟩;unfold L2.start;rw[ko (by rw[aE];exact (iL.mp O).1),cb,O];rfl
  .cases e
 .rcases g i _ h with ⟨J,e,I⟩ | e
  .cases e
  .cases e
 .rcases g i _ h with ⟨J,e,I⟩ | e
  .cases e
  .cases e
 .rcases g i _ h with ⟨J,e,I⟩ | e
  .cases e
  .cases e
 .rcases g 0 _ h with ⟨J,e,I⟩ | e
  .cases e
  .cases e
theorem Ta{G:Gx}{base:Heap}{f:Addr}{k:Nat}{b:FS}(F:Fun G.K x qual st f fd)(S:am N ps (Ab st))(hl:ps.length<=N.length)(hb:∀(cdv:ac) (A:aT) (g:List Env) (s:ai) (H:Hp) (E:XK),Room k (A.deeper (fR qual (Ab st) s.heap.objs.size f cdv))->RY (Qb CX0 P w G.K mg base N qual (Ab st) f cdv A g s H E).nox G (Bo st) b):
  gn P w G.K mg base CX0 (k+1) f fd ps (MS G (il N.length ps.length b)):=by
 refine F.ok S (λY H Q E h=>?_) (λcdv A g s H Y Q E hr h=>?_)
 .obtain⟨A,I,d,T,r,e,_⟩:=h;unfold il at e;split at e
  .rename_i O;rw[r.1];exact O
  .cases e
 .obtain⟨A0,I,d,T,r,e,k⟩:=h;unfold il at e;split at e
  .rename_i O;have hzz:=hb cdv A g s H E hr;refine⟨_,@hzz A0 H,DK N.length I,?_⟩;cases z:b (DK N.length I) with
   |none=>simp[z] at e
   |some o=>
    refine⟨o,Mf T r (by rw[r.1,O];exact hl),rfl,?_⟩;cases o with
    |nx L=>
     simp only[z] at e;cases e;rintro U J ⟨A,w⟩;exact k _ J w.same .non
    |rt d' W=>
     simp only[z] at e;cases e;exact λv U J A w Z=>k v J w.same (Z.mono (DW w.sub))
    |bk L=>simp[z] at e
    |ct L=>simp[z] at e
  .cases e
section
variable {G:Gx}{a b c:Expr}{px:Pos}{t:Str}{elt iter:Expr}{ifs:List Expr}{ga:FT}{fe:FE}{src:FI}
def PFTs(X:Cx)(G:Gx)(z:List Expr)(f:FT):Prop:=∀⦃A⦄,PTs X z (tFT G A f)
def Cr:PFTs X G [] pp:=by
 rintro A z s g H Q I ⟨J,b,o,e,k⟩
 cases e;exact sE z s g H Q I (k H (af.refl H))
def P0(h:Sn X G a ga):PFTs X G [a] ga:=λA=>sG (@h A)
theorem Pi.fill{Hc:Hp}{ρ:Rho}(o:Pi G A σ H ρ)(s:af H Hc)(S:H p=W1)(U:Nt (Hc p)):Pi G (p::A) σ Hc ρ:=by
 have I:af (be A H) (be (p::A) Hc):=λb u h=>by
  unfold be at h;split at h
  .cases h
  .rename_i W;rw[A_]
   .exact s b u h
   .intro z
    rcases bp.mp z with z | z
    .rw[z,S] at h;cases h
    .exact W z
 refine⟨o.len,λa Y=>?_,λi d h=>?_,λi d h=>?_,o.inj⟩
 .rcases bp.mp Y with z | z
  .rw[z];exact U
  .exact (o.mono s).live a z
 .obtain⟨v,L,J⟩:=o.fz i d h;exact⟨v,L,J.mono I⟩
 .obtain⟨a,L,J,T⟩:=o.ow i d h;refine⟨a,L,cw _ J,?_⟩;cases d with
  |lst O=>obtain⟨g,q1,q2⟩:=T;exact⟨g,s _ _ q1,q2.mono I⟩
  |dk O=>obtain⟨g,q1,q2,q3⟩:=T;exact⟨g,s _ _ q1,q2,q3.mono I⟩
  |dt O=>obtain⟨g,q1,q2,q3⟩:=T;exact⟨g,s _ _ q1,q2,q3.mono I⟩
  |ob c Z=>obtain⟨C,dx,g,q1,q2,q3⟩:=T;exact⟨C,dx,g,s _ _ q1,q2,q3.mono I⟩
  |_=>exact T.elim
theorem Pi.snoc{ρ:Rho}{d:D}(o:Pi G A σ H ρ)(r:jl G (be A H) v d):Pi G A (σ++[O0 v]) H (ρ++[.fz d]):=by
 have I:∀(j:Nat) (z:Slot),(ρ++[.fz d])[j]?=O0 z->(j=ρ.length/\z=.fz d)∨(j<ρ.length/\ρ[j]?=O0 z):=λj z h=>by
  by_cases U:j<ρ.length
  .rw[ko U] at h;exact .inr ⟨U,h⟩
  .rw[ja (kH.mp U)] at h;cases q:j-ρ.length with
   |zero=>rw[q] at h;exact .inl ⟨by omega,(cS h).symm⟩
   |succ n=>rw[q] at h;cases h
 have g:∀(j:Nat),j<ρ.length->(σ++[O0 v])[j]?=σ[j]?:=λj U=>ko (by rw[o.len];exact U);refine⟨by rw[eB,eB,o.len];rfl,o.live,λj e h=>?_,λj e h=>?_,λj k e f p Y W T L=>?_⟩
 .rcases I j _ h with ⟨U,O⟩ | ⟨U,O⟩
  .cases O;subst U;exact⟨v,by rw[ja (by rw[o.len];exact aI _),o.len,rX];rfl,r⟩
  .obtain⟨u,q1,q2⟩:=o.fz j e O;exact⟨u,by rw[g j U];exact q1,q2⟩
 .rcases I j _ h with ⟨U,O⟩ | ⟨U,O⟩
  .cases O
  .obtain⟨u,q1,q2⟩:=o.ow j e O;exact⟨u,by rw[g j U];exact q1,q2⟩
 .rcases I j _ Y with ⟨_,O⟩ | ⟨U,O⟩
  .cases O
  .rcases I k _ W with ⟨_,J⟩ | ⟨S,J⟩
   .cases J
   .rw[g j U] at T;rw[g k S] at L;exact o.inj j k e f p O J T L
theorem Pi.snocs{A:List Addr}{H:Hp}:∀{vs:List V}{es:List D}{σ:St}{ρ:Rho},Pi G A σ H ρ->bc G (be A H) vs es->Pi G A (σ++vs.map O0) H (ρ++es.map .fz)
 |[],[],σ,ρ,o,_=>by simpa using o
 |[],_::_,_,_,_,r=>by have:=r.1;simp at this
 |_::_,[],_,_,_,r=>by have:=r.1;simp at this
 |v::vs,e::es,σ,ρ,o,r=>by
  obtain⟨x,z,h,g,O⟩:=r.uncons;cases h;simpa using (o.snoc g).snocs O
def Fp(g:D->Option (List D))(ρ:Rho)(ga:FT)(fe:FE):List D->Option (List D)
 |[]=>O0 []
 |d::r=>(g d).bind λes=>match ga (ρ++es.map .fz) with
  |some O1=>(fe (ρ++es.map .fz)).bind λy=>(Fp g ρ ga fe r).map (y::·)
  |some O2=>Fp g ρ ga fe r
  |none=>W1
def JN(z:D->Option (List D))(g:FI)(ga:FT)(fe:FE):FE:=λρ=>(g ρ).bind λds=>if ds.length<=sizeLine then (Fp z ρ ga fe ds).map .lst else W1
def bd1(d:D):Option (List D):=O0 [d]
theorem Yj(ρ:Rho)(ga:FT)(fe:FE):∀ds,KD ρ ga fe ds=Fp bd1 ρ ga fe ds
 |[]=>rfl
 |d::r=>by
  unfold KD Fp;rw[Yj ρ ga fe r];rfl
def Yk(g:FI)(ga:FT)(fe:FE):Bc g ga fe=JN bd1 g ga fe:=by
 funext ρ;unfold Bc JN;congr 1;funext ds;rw[Yj]
def Bnd(G:Gx)(N n:Nat)(J:D->Option (List D))(g:TG):Prop:=∀(A:List Addr) (z I:St) (H:Hp) (x:V) (d:D) (es:List D) (Q:St->Hp->Prop),z.length=N->I.length=n->J d=O0 es->jl G (be A H) x d->(∀vs,vs.length=n->bc G (be A H) vs es->Q (z++vs.map O0) H)->g x (z++I) H Q
def bnd1{N:Nat}:Bnd G N 1 bd1 (Ft N):=λA g J H x d L Q Y I e r k=>by
 cases e;obtain⟨o,rfl⟩:=List.length_eq_one_iff.mp I;have z:(g++[o]).set N (O0 x)=g++[O0 x]:=by rw[<-Y,E4 _ _ (aI _),rX];rfl
 show Q ((g++[o]).set N (O0 x)) H;rw[z];exact k [x] rfl (.cons r .nil)
def tN(G:Gx)(A:List Addr)(f:FE):TE:=λz H Q=>∃ρ d,Pi G A z H ρ/\f ρ=O0 d/\∀p g,af H g->H p=W1->Nd G (p::A) g p d->Q (.ref p) g
def Yl{N:Nat}{bd:D->Option (List D)}{g:TG}(hX:X.N.length=N)(hB:Bnd G N n bd g){A:List Addr}{W:St}{H:Hp}{Q:VK}(h:tN G A (JN bd src ga fe) W H Q):Z9 n (vZ X (tI G A O1 src)) g (λW H Q=>∃A,tFT G A ga W H Q) (λW H Q=>∃A,tF G A fe W H Q) W H Q:=by
 obtain⟨ρ,d,o,e,k⟩:=h;unfold JN at e;cases e1:src ρ with
 |none=>simp[e1] at e
 |some I=>
  rw[e1] at e;have e':(if I.length<=sizeLine then (Fp bd ρ ga fe I).map D.lst else W1)=O0 d:=e;split at e'
  .rename_i hz;cases e2:Fp bd ρ ga fe I with
   |none=>simp[e2] at e'
   |some S0=>
    simp only[e2,iq] at e';cases e';refine⟨λJ H1=>af H H1/\Src G J I H1 (be A H1),⟨ρ,I,o,e1,λJ H1 s1 sr=>⟨s1,sr⟩⟩,λJ H1 N1 q0 p hp=>?_⟩;obtain⟨s1,sr⟩:=q0;have o1:=o.mono s1;refine⟨λi m ys U=>m=I.length-i/\i<=I.length/\U p=O0 (.lst ys)/\af H1 U/\ys.length<=i/\∃es hQ,bc G (be (p::A) U) ys es/\Fp bd ρ ga fe (I.drop i)=O0 hQ/\es++hQ=S0,
     ⟨I.length,by simp,fE _,Ak,Al hp _,aI _,[],S0,bc.nil,by simpa using e2,rfl⟩,?_⟩
    rintro i m ys U ⟨rfl,X1,O,T,hy,es,hQ,rr,L,eo⟩
    by_cases S:i<I.length
    .right;have hd:I[i]?=O0 I[i]:=by simp[S]
     have ed:I.drop i=I[i]::I.drop (i+1):=ub S;rw[ed] at L;unfold Fp at L;refine⟨sr.go i U T S,λx H' y os ho=>?_⟩;obtain⟨sy,rx⟩:=sr.yld i U x H' _ T hd y;have T0:Pi G (p::A) W U ρ:=o1.fill T hp (by rw[O];exact Nt.lst);have sm:af (be A H1) (be (p::A) U):=λb u h=>by
      unfold be at h;split at h
      .cases h
      .rename_i hb;rw[A_]
       .exact T b u h
       .intro z
        rcases bp.mp z with z | z
        .rw[z,hp] at h;cases h
        .exact hb z
     cases N0:bd I[i] with
     |none=>simp[N0] at L
     |some bs=>
     simp only[N0,dL] at L;refine hB (p::A) W os H' x I[i] bs _ (N1.trans hX) ho N0 (rx _ T0.live sm) λvs S1 P1=>⟨⟨_,rfl,by rw[aE];exact S1⟩,?_⟩;have X0:=(T0.mono sy).snocs P1;have O:=sy _ _ O;have rr:=rr.mono (BP sy);have T:=T.trans sy;cases eg:ga (ρ++bs.map .fz) with
     |none=>simp[eg] at L
     |some b=>
      refine⟨p::A,_,b,X0,eg,λH2 Y=>?_⟩;cases b with
      |false=>
       refine VT ⟨I.length-(i+1),by omega,rfl,S,Y _ _ O,T.trans Y,AM hy,es,hQ,rr.mono (BP Y),by simpa [eg] using L,eo⟩
      |true=>
       simp only[eg] at L;cases ee:fe (ρ++bs.map .fz) with
       |none=>simp[ee] at L
       |some yd=>
        cases ec:Fp bd ρ ga fe (I.drop (i+1)) with
        |none=>simp[ee,ec] at L
        |some Z=>
         simp only[ee,ec,dL,iq] at L;cases L;refine Xs ⟨p::A,_,yd,X0.mono Y,ee,λyv H3 s3 r3=>?_⟩;have U1:=s3 _ _ (Y _ _ O);refine⟨U1,by omega,I.length-(i+1),by omega,rfl,S,Ak,λb u q=>?_,by rw[eB];simp;omega,es++[yd],Z,?_,ec,by rw[E5];exact eo⟩
         .have hb:b≠p:=Dv q hp;rw[Am hb];exact s3 _ _ (Y _ _ (T _ _ q))
         .rw[Eo df];exact (rr.mono (BP (Y.trans s3))).append (.cons r3 .nil)
    .left;have ei:i=I.length:=by omega
     subst ei;rw[AL] at L;simp only[Fp] at L;cases L;rw[fI] at eo;subst eo;exact⟨sr.stop _ U T (aI _),k p U (s1.trans T) (s1.free hp) ⟨ys,O,rr⟩⟩
  .cases e'
def vm{J:D->Option (List D)}{Q:VK}(h:tF G A (JN J src ga fe) σ H Q):tN G A (JN J src ga fe) σ H Q:=by
 obtain⟨I,d,o,e,k⟩:=h;have O:=e;unfold JN at O;cases T:src I with
 |none=>simp[T] at O
 |some L=>
  rw[T] at O;have g:(if L.length<=sizeLine then (Fp J I ga fe L).map D.lst else W1)=O0 d:=O;split at g
  .cases S:Fp J I ga fe L with
   |none=>rw[S] at g;cases g
   |some W=>
    rw[S] at g;cases g;refine⟨I,_,o,e,λp H' U Y ⟨xs,h1,h2⟩=>k _ H' U ?_⟩;have q:=h2.mono (DW (A:=A) λa Z=>cw _ Z);exact .lst (.of (by rw[A_ (λz=>(o.live p z).ne Y)];exact h1)) q.1 q.2
  .cases g
section
variable {bd:D->Option (List D)}{g:TG}{ts:List Str}
theorem Ym(L:List Str)(eN:CG ts X.N++ts=L)(c:oo X scope ts)(T:X.calm=O1)(hi:Sa X G O1 tg iter src)(W:∀S z fp,PG (Bp X scope L S z fp) tg g)(Z:Bnd G X.N.length ts.length bd g)(U:∀S z fp,PFTs (Bp X scope L S z fp) G ifs ga)(Y:∀S z fp,PF (Bp X scope L S z fp) G elt fe)(hs:∀x,lc iter X.env x=pure x:=by intro _;rfl)(A:List Addr):PE X (.ListComp elt [⟨tg,iter,ifs,0⟩] scope pos) (tN G A (JN bd src ga fe)):=by
 subst eN;refine CT (jz (tc:=λJ H Q=>∃A,tFT G A ga J H Q) (te:=λJ H Q=>∃A,tF G A fe J H Q) c T (b_ (@hi A)) W (λS z fp=>?_) (λS z fp=>?_) hs) λ_ _ _ h=>Yl rfl Z h
 .rintro O s J H Q I ⟨A,q⟩;exact U S z fp O s J H Q I q
 .rintro O s J H Q I ⟨A,q⟩;exact Y S z fp O s J H Q I q
theorem km(O:List Str)(eN:CG ts X.N++ts=O)(c:oo X scope ts)(Z:X.calm=O1)(hN:X.N.Nodup)(Y:X.N[i]?=O0 y)(T:Loc X.env.scope y)(hi:Sa X G O1 tg iter src)(hG:∀S J fp,PG (Bp X scope O S J fp) tg g)(hB:Bnd G X.N.length ts.length bd g)(hI:∀S J fp,PFTs (Bp X scope O S J fp) G ifs ga)(hE:∀S J fp,PF (Bp X scope O S J fp) G elt fe)(W:eP (.ListComp elt [⟨tg,iter,ifs,0⟩] scope pos) (O0 (.Name y py)) spos.line X.env=pure O1)(U:X.fn y=O1∨X.env.scope.names.lookup y=O0 .local)(hs:∀x,lc iter X.env x=pure x)(A:List Addr){L:NU}{s:ai}{z:St}{H:Hp}{D:SL}(I:Inv X L z H s)(h:WS (tN G A (JN bd src ga fe)) (Ft i) D z H):
  ah (av X.prog X.w) X.A (exec (.Assign [.Name y py] (.ListComp elt [⟨tg,iter,ifs,0⟩] scope pos) spos) X.env) (SP X L D) X.xe s:=by
 subst eN;refine j5 (tc:=λz H Q=>∃A,tFT G A ga z H Q) (te:=λz H Q=>∃A,tF G A fe z H Q) c Z hN Y T (b_ (@hi A)) hG (λS J fp=>?_) (λS J fp=>?_) W U hs L s z H D I (Yl rfl hB h)
 .rintro L s z H Q I ⟨A,q⟩;exact hI S J fp L s z H Q I q
 .rintro L s z H Q I ⟨A,q⟩;exact hE S J fp L s z H Q I q
end
def vo{L:List Str}(g:Ej t X.N++[t]=L)(c:Q3 X scope t)(S:ai)(z:Hp)(fp:List Addr):PG (Bp X scope L S z fp) (.Name t px) (Ft X.N.length):=by
 subst g;exact gOne c S z fp
def Dk(L:List Str)(g:Ej t X.N++[t]=L)(c:Q3 X scope t)(J:X.calm=O1)(I:Sa X G O1 (.Name t px) iter src)(U:∀S z fp,PFTs { T3 X scope t S z fp with N:=L } G ifs ga)(Y:∀S z fp,PF { T3 X scope t S z fp with N:=L } G elt fe)(hs:∀x,lc iter X.env x=pure x:=by intro _;rfl):PF X G (.ListComp elt [⟨.Name t px,iter,ifs,0⟩] scope pos) (Bc src ga fe):=λA=>by
 rw[Yk];exact CT (Ym L g c J I (vo g c) bnd1 U Y hs A) λ_ _ _ h=>vm h
def Yn(L:List Str)(g:Ej t X.N++[t]=L)(c:Q3 X scope t)(U:X.calm=O1)(Z:X.N.Nodup)(Y:X.N[i]?=O0 y)(J:Loc X.env.scope y)(O:Sa X G O1 (.Name t px) iter src)(hI:∀S z fp,PFTs { T3 X scope t S z fp with N:=L } G ifs ga)(hE:∀S z fp,PF { T3 X scope t S z fp with N:=L } G elt fe)(W:eP (.ListComp elt [⟨.Name t px,iter,ifs,0⟩] scope pos) (O0 (.Name y py)) spos.line X.env=pure O1:=by rfl)(T:X.fn y=O1∨X.env.scope.names.lookup y=O0 .local :=by first | exact .inl rfl | exact .inr rfl | assumption)(hs:∀x,lc iter X.env x=pure x:=by intro _;rfl):
  UR X G (.Assign [.Name y py] (.ListComp elt [⟨.Name t px,iter,ifs,0⟩] scope pos) spos) (ll i (Bc src ga fe)):=by
 rintro A0 He π s σ H D I ⟨ρ,o,⟨A,w⟩,e,k⟩
 rw[Yk] at e;exact km L g c U Z Y J O (vo g c) bnd1 hI hE W T hs A I (vm (kj w e k))
end
section
variable {A:aT}{R:oC->ai->Prop}{I:Addr}{fp wr:List Addr}{P:Nat->ac->Prop}{Sx:Nat->Heap->Prop}
def mmL:String->kz->eK:=by
 apply (λ(f:String->kz->eK) (_:f "max" .Gt=eK.«max.loop»)=>f);delta eK.«max.loop»;exact rfl
def mmB:String->eK:=by
 apply (λ(f:String->eK) (_:f "max"=Jn)=>f);delta Jn;exact rfl
structure Mm where
 nm:String
 lp:String
 op:kz
 gt:Int->Int->Bool
 N:(Nat->Int)->Nat->Int
 nl:(toString nm++toString ".loop":String)=lp
 pl:plainId lp=O1
 el:xw table lp=O0 (mmL nm op)
 ki:builtinKind nm=W1
 pb:plainId nm=O1
 eb:xw table nm=O0 (mmB nm)
 ar:∀a v:ac,nN nm ⟨[a],[(dE "default",v)]⟩
 cm:∀{prog:cy}{w:bE}{A:aT}{P:Nat->ac->Prop}(val:Nat->Int),(∀i v,P i v->∃t,v=oa (val i) t)->CmpOf prog w A op P λi j=>gt (val i) (val j)
 best:∀(val:Nat->Int) (k:Nat),val (iA (λi j=>gt (val i) (val j)) k)=N val k
 cong:∀{f g:Nat->Int}{k:Nat},(∀i,i<=k->f i=g i)->N f k=N g k
def mmD(m:Mm)(x y:D):Option D:=match x with
 |.lst ds=>(KH ds).map λO=>if O=[] then y else .int (m.N (λi=>O.getD i 0) (O.length-1))
 |_=>W1
def tH(m:Mm)(W:nV prog w A.in1 I fp wr n P Sx)(bt:Nat->Nat->Bool)(S0:CmpOf prog w A.in1 m.op P bt)(S:Addr)(nS:S∉fp):
  ∀(k j:Nat) (s:ai) (J:ac) (c:Nat),k=n-(j+1)->j+1<=n->Sx (j+1) s.heap->P (iA bt j) J->s.heap.get? S=O0 { cls:=.type "list",dict:=W1,data:=.seq #[J,J] c,slots:=#[] } ->
  (∀v h' tk,P (iA bt (n-1)) v->(∀b o,b∉wr->b≠S->s.heap.get? b=O0 o->h'.get? b=O0 o)->R (.ok (.ret v)) { s with heap:=h',toks:=tk })->gL (av prog w) A (.builtin m.lp ⟨[.ref I,.none,.ref S],kw⟩) R s:=by
 have nW:S∉wr:=λh=>nS (W.sub _ h);intro k
 induction k with
 |zero=>
  intro j s J c hk hj U hb hS hR;have en:j+1=n:=by omega
  refine kK m.el (by
   rw[se m.pl _];show ah _ A.in1 (xy (.ref S) >>= _) _ _ s;refine ag (nc hS rfl ?_);show ah _ A.in1 (tryCatch (gI (.ref I)) _ >>= _) _ _ s;refine ag (xB (W.done s _ _ (by rw[<-en];exact U) λh1 tk kp=>?_));have G:=kp S _ nW hS;show ah _ A.in1 (AN S (λ_=>#[]) >>= _) _ _ _;refine ag (xC G rfl (ag (xD (aw ?_))));exact hR J _ tk (by rw[<-en];exact hb) λb o O g e=>(lI _ _ (ci g)).trans (kp b o O e))
 |succ k ih=>
  intro j s J c hk hj U hb hS hR;have Y:j+1<n:=by omega
  refine kK m.el (by
   rw[se m.pl _];show ah _ A.in1 (xy (.ref S) >>= _) _ _ s;refine ag (nc hS rfl ?_);show ah _ A.in1 (tryCatch (gI (.ref I)) _ >>= _) _ _ s;refine ag (xB (W.item (j+1) s _ _ Y U λv h1 tk hP N0 kp=>?_));have G:=kp S _ nW hS;show ah _ A.in1 (tryCatch (lh [v,v] (richCompare m.op v J >>= _)) _ >>= _) _ _ _;refine ag (xB (wpAny_holding (ag (S0 (j+1) (iA bt j) v J _ _ _ hP hb ?_))));refine ag (wpAny_holding (jI (ag (xD (aw ?_)))));cases q:bt (j+1) (iA bt j) with
   |true=>
    simp only[TK];refine ag (xC G rfl (ag (xD ?_)));rw[m.nl];refine aw ⟨pS m.pl _,ih (j+1) _ v _ .(0) Y (W.frame _ _ _ N0 λb T0 o e=>(lI _ _ (λz:S=b=>nS (by rw[z];exact T0))).trans e) (by simp only[iA,q,TK];exact hP) (nX _ G rfl)
     λv2 h2 L Z T=>hR v2 h2 L Z λb o O g e=>T b o O g ((lI _ _ (ci g)).trans (kp b o O e))⟩
   |false=>
    simp only[dQ,UK];refine ag (xD ?_);rw[m.nl];exact aw ⟨pS m.pl _,ih (j+1) _ J c .(0) Y N0 (by simp only[iA,q,dQ,UK];exact hb) G λv2 h2 L Z T=>hR v2 h2 L Z λb o O g e=>T b o O g (kp b o O e)⟩)
def k_(m:Mm)(W:nV prog w A.in1 I fp wr n P Sx)(bt:Nat->Nat->Bool)(J:CmpOf prog w A.in1 m.op P bt)(S:Addr)(Y:S∉fp){s:ai}{c:Nat}{nm:Str}{dv:ac}(G:Sx 0 s.heap)(hS:s.heap.get? S=O0 { cls:=.type "list",dict:=W1,data:=.seq #[] c,slots:=#[] })(hR:0<n->∀v h' tk,P (iA bt (n-1)) v->(∀b o,b∉wr->b≠S->s.heap.get? b=O0 o->h'.get? b=O0 o)->R (.ok (.ret v)) { s with heap:=h',toks:=tk })(h0:n=0->∀h' tk,(∀b o,b∉wr->s.heap.get? b=O0 o->h'.get? b=O0 o)->R (.ok (.ret dv)) { s with heap:=h',toks:=tk }):
  gL (av prog w) A (.builtin m.lp ⟨[.ref I,.none,.ref S],[(nm,dv)]⟩) R s:=by
 have nW:S∉wr:=λh=>Y (W.sub _ h);refine kK m.el (by
  rw[se m.pl _];show ah _ A.in1 (xy (.ref S) >>= _) _ _ s;refine ag (nc hS rfl ?_);show ah _ A.in1 (tryCatch (gI (.ref I)) _ >>= _) _ _ s
  by_cases hn:0<n
  .refine ag (xB (W.item 0 s _ _ hn G λv h1 tk hP U O=>?_));have L:=O S _ nW hS;show ah _ A.in1 (AN S (λ_=>#[v,v]) >>= _) _ _ _;refine ag (xC L rfl ?_);rw[m.nl];exact aw ⟨pS m.pl _,tH m W bt J S Y _ 0 _ v _ rfl hn (W.frame _ _ _ U λb N0 o e=>(lI _ _ (λz:S=b=>Y (by rw[z];exact N0))).trans e) hP (nX _ L rfl)
    λv2 h2 T S0 Z=>hR hn v2 h2 T S0 λb o nb g e=>Z b o nb g ((lI _ _ (ci g)).trans (O b o nb e))⟩
  .have en:n=0:=by omega
   refine ag (xB (W.done s _ _ (by rw[en];exact G) λh1 tk O=>?_));exact ag (sL (aw (h0 en h1 tk O))))
end
section
variable {A:aT}{l:Addr}{xs:Array (Int×Tok)}
def lA(m:Mm){Q:ac->ai->Prop}{I:ac}(T:A.handled=W1)(hl:s.heap.IsList l (gX xs))(h1:0<xs.size->∀v h' tk,(gX xs)[iA (λi j=>m.gt (lS xs i) (lS xs j)) (xs.size-1)]?=O0 v->(∀b o,s.heap.get? b=O0 o->h'.get? b=O0 o)->Q v { s with heap:=h',toks:=tk })(h0:xs.size=0->∀h' tk,(∀b o,s.heap.get? b=O0 o->h'.get? b=O0 o)->Q I { s with heap:=h',toks:=tk }):
  ah (av prog w) A (call (.builtin m.nm) [.ref l] [(dE "default",I)]) Q E s:=by
 refine PyProof.Rows.kmk_tree m.ki m.pb m.eb (m.ar _ _) ?_;show ah _ A.in1 (JA m.nm ["key","default"] 0 ⟨[],[(dE "default",I)]⟩ >>= _) _ _ s;refine ag (AO (show JA m.nm ["key","default"] 0 ⟨[],[(dE "default",I)]⟩=pure [W1,O0 I] from rfl) (ag (aw ?_)));refine ag (iter_intList hl λs2 e Y O G=>?_);subst e;refine ag (kD ?_);have Z:(s.heap.push { cls:=.type "list_iterator",data:=.fields #[.ref l,.int 0 0] }).objs.size∉[s.heap.objs.size,l]:=λg=>kx _ (O _ g);have W:nV prog w A.in1.in1 s.heap.objs.size [s.heap.objs.size,l] [s.heap.objs.size] (gX xs).size (λi v=>(gX xs)[i]?=O0 v) (λi h=>h.IsListIter s.heap.objs.size l i/\h.IsList l (gX xs)):=AQ (A:=A.in1.in1) T _ l G (gX xs);have U:nV prog w A.in1 s.heap.objs.size [s.heap.objs.size,l] [s.heap.objs.size] (gX xs).size (λi v=>(gX xs)[i]?=O0 v) (λi h=>h.IsListIter s.heap.objs.size l i/\h.IsList l (gX xs)):=AQ (A:=A.in1) T _ l G (gX xs);have sz:(gX xs).size=xs.size:=by simp[gX]
 have S:∀b o,s.heap.get? b=O0 o->((s.heap.push { cls:=.type "list_iterator",data:=.fields #[.ref l,.int 0 0] }).push { cls:=.type "list",data:=.seq ([]:List ac).toArray }).get? b=O0 o:=λb o e=>bo _ (bo _ e);rw[m.nl];refine aw ⟨pS m.pl _,k_ m U (λi j=>m.gt (lS xs i) (lS xs j)) (m.cm (lS xs) (λ_ _=>intItems_at)) _ Z (U.frame 0 _ _ Y λb hb o e=>bo _ e) (ce _ rfl) (λL v h' tk hP J=>?_) (λL h' tk J=>?_)⟩
 .refine h1 (by rw[<-sz];exact L) v h' tk (by rw[sz] at hP;exact hP) λb o e=>J b o ?_ ?_ (S b o e)
  .intro g;exact XI (br e) (by rw[mP.mp g];exact kx _)
  .intro z;have q:b<s.heap.objs.size:=br e;rw[iO] at z;exact XI (z▸q) (kH.mpr (lj _))
 .refine h0 (by rw[<-sz];exact L) h' tk λb o e=>J b o ?_ (S b o e);intro g;exact XI (br e) (by rw[mP.mp g];exact kx _)
end
theorem UT(g:Nat->Nat->Bool):∀k,iA g k<=k
 |0=>aI _
 |k+1=>by
  unfold iA;split
  .exact aI _
  .exact AM (UT g k)
theorem ZO{G:Gx}{H:Hp}:∀{ds:List D}{xs:List V}{O:List Int},bc G H xs ds->KH ds=O0 O->xs=O.map V.int
 |[],xs,O,r,h=>by cases h;rw[r.nil_inv];rfl
 |d::ds,xs,O,r,h=>by
  obtain⟨x,I,rfl,z,g⟩:=r.uncons;cases d with
  |int i=>
   simp only[KH] at h;cases e:KH ds with
   |none=>simp[e] at h
   |some J=>
    simp only[e,iq] at h;cases h;cases z;rw[ZO g e];rfl
  |_=>simp[KH] at h
def lC{O:List Int}:∀{us:List ac},fc (O.map V.int) us->∃xs:Array (Int×Tok),us.toArray=gX xs/\xs.size=O.length/\∀i,i<O.length->lS xs i=O.getD i 0:=by
 induction O with
 |nil=>intro us r;cases r;exact⟨#[],by simp[gX],rfl,λi h=>by simp at h⟩
 |cons n O I=>
  intro us r;rw[bb] at r;cases r with
  |cons G z=>
   obtain⟨tk,rfl⟩:=G;obtain⟨xs,T,S,L⟩:=I z;refine⟨⟨(n,tk)::xs.toList⟩,?_,by simp[S],λi J=>?_⟩
   .have g:=NJ Cc T;simp only[gX,JE] at g;simp only[gX];apply E6.mp;simp[g]
   .cases i with
    |zero=>simp[lS]
    |succ i=>
     have:=L i (by simpa using J);simp only[lS] at this ⊢;simpa using this
def rMm(m:Mm)(K:aS):V->V->Hp->VK->Prop:=λx y H Q=>∃p O,x=.ref p/\NS K H p (O.map V.int)/\Q (if O=[] then y else .int (m.N (λi=>O.getD i 0) (O.length-1))) H
section
variable {G:Gx}{a b:Expr}{fa fb:FE}{p kpos:Pos}
def yX(m:Mm)(hc:X.calm=O1){W:NU}{s:ai}{U:St}{H:Hp}{x y:V}{v u:ac}{Q:VK}(I:Inv X W U H s)(rx:cc x v)(Z:cc y u)(h:rMm m X.K x y H Q):
  ah (av X.prog X.w) X.A (call (.builtin m.nm) [v] [(dE "default",u)]) (EP X W U Q) X.xe s:=by
 obtain⟨q,O,rfl,hs,k⟩:=h;cases rx;obtain⟨N0,rv,pl,hz⟩:=I.list hs;obtain⟨g,e1,J,e3⟩:=lC rv;have hl:s.heap.IsList q (gX g):=by rw[<-e1];exact pl.isList
 refine lA m (I.ok.hd hc) hl (λT w h' tk hP S=>?_) (λT h' tk S=>?_)
 .have L:O≠[]:=λz=>by rw[z] at J;exact XI T (by rw[J];exact kx _)
  rw[WI L] at k;obtain⟨t,rfl⟩:=intItems_at hP;refine⟨.int _,H,I.kept S,⟨t,?_⟩,k⟩;have S0:=UT (λi j=>m.gt (lS g i) (lS g j)) (g.size-1);have q:=m.best (lS g) (g.size-1);rw[q,J];congr 1;have Y:0<O.length:=List.length_pos_iff.mpr L;exact m.cong λi hi=>e3 i .(0)
 .have L:O=[]:=by
   rw[T] at J;exact pw.mp J.symm
  rw[VI L] at k;exact⟨y,H,I.kept S,Z,k⟩
def vy(m:Mm){x:Str}(hc:X.calm=O1)(hG:G.K=X.K)(hg:Gl X x)(hm:X.mg x=W1)(hv:d4 x=O0 (.builtin m.nm))(ha:PU X G a fa)(hb:PF X G b fb)(hn:x≠"__name__":=by decide)(N0:(x==("__debug__":Str))=O2:=by decide)(he:ay [a] X.env=[(O2,eval a X.env)]:=by rfl)(hk:ii [⟨O0 (dE "default"),b,kpos⟩] X.env=[(O0 (dE "default"),eval b X.env)]:=by rfl):
  PF X G (.Call (.Name x p) [a] [⟨O0 (dE "default"),b,kpos⟩] pos) (bF (mmD m) fa fb):=λA π s σ H Q I h=>by
 obtain⟨ρ,d,o,e,k⟩:=h;obtain⟨dx,dy,e1,e2,g⟩:=Wn e;refine wv (Qs I hg hm hv ?_ hn N0);have hA:=Ca (X:=X) (@ha A) Ei he pos π s σ H (λS J=>∃v,S=[v]/\af H J/\rc G A J v dx) I ⟨ρ,dx,o,e1,λv J T Z=>⟨v,rfl,T,Z⟩⟩;refine callWith_kw (lu hA λus T q0=>?_) (by rw[he];rfl) (by rw[he];rfl) (by rw[hk];rfl) (by rw[hk];rfl);obtain⟨S,J,I1,rv,v,ev,O,Z⟩:=q0;subst ev;have hK:=rK (X:=X) (nm:=O0 (dE "default")) (kpos:=kpos) (@hb A) yC pos π T σ J (λS z=>∃v,S=[v]/\af J z/\jl G (be A z) v dy) I1 ⟨ρ,dy,o.mono O,e2,λv z s2 Y=>⟨v,rfl,s2,Y⟩⟩;refine lu hK λks s2 q9=>?_;obtain⟨ws,z,I2,U,y,ey,L,Y⟩:=q9;subst ey;obtain⟨u,rfl,ru⟩:=Ts rv;obtain⟨u2,rfl,W⟩:=Ts U;rw[hk];have s0:=O.trans L;unfold mmD at g;cases dx with
 |lst ds=>
  simp only at g;cases ei:KH ds with
  |none=>simp[ei] at g
  |some ns=>
   simp only[ei,iq] at g;obtain⟨q,xs,rfl,h1,rr⟩:=(Z.mono L).lst;have ex:=ZO rr ei;subst ex;refine yX m hc I2 ru W ⟨q,ns,rfl,by rw[<-hG];exact h1,?_⟩
   by_cases nn:ns=[]
   .rw[VI nn] at g ⊢;cases g;exact k _ z s0 Y
   .rw[WI nn] at g ⊢;cases g;exact k _ z s0 (.int _)
 |_=>cases g
def gw(a v:ac):nN "max" ⟨[a],[(dE "default",v)]⟩:=by unfold nN;kernel_rfl
theorem Yo(val:Nat->Int):∀k,val (iA (λi j=>decide (val i > val j)) k)=mxN val k
 |0=>rfl
 |k+1=>by
  have g:=Yo val k;unfold iA mxN
  by_cases h:val (k+1) > mxN val k
  .rw[VI (by rw[g];exact ZI h),VI h]
  .rw[WI (by rw[g];simpa using h),WI h];exact g
theorem Vt{f g:Nat->Int}:∀{k:Nat},(∀i,i<=k->f i=g i)->mxN f k=mxN g k
 |0,h=>h 0 (aI _)
 |k+1,h=>by
  unfold mxN;rw[h (k+1) (aI _),Vt λi z=>h i (AM z)]
def mMax:Mm:=⟨"max","max.loop",.Gt,λi j=>decide (i > j),mxN,by decide,PySem.F.plain_max_loop,PySem.F.entry_max_loop,PySem.F.kind_max,PySem.F.plain_max,PySem.F.entry_max,gw,CmpOf.ints_gt,Yo,Vt⟩
def cD(S:X.calm=O1)(Y:G.K=X.K)(W:Gl X x)(J:X.mg x=W1)(z:d4 x=O0 (.builtin "max"))(U:PU X G a fa)(T:PF X G b fb)(I:x≠"__name__":=by decide)(g:(x==("__debug__":Str))=O2:=by decide)(O:ay [a] X.env=[(O2,eval a X.env)]:=by rfl)(L:ii [⟨O0 (dE "default"),b,kpos⟩] X.env=[(O0 (dE "default"),eval b X.env)]:=by rfl):
  PF X G (.Call (.Name x p) [a] [⟨O0 (dE "default"),b,kpos⟩] pos) (bF Yc fa fb):=vy mMax S Y W J z U T I g O L
theorem Yp{H:Hp}:∀{ds:List D}{xs:List V}{O:List Str},bc G H xs ds->Ob ds=O0 O->xs=O.map V.str
 |[],xs,O,r,h=>by cases h;rw[r.nil_inv];rfl
 |d::ds,xs,O,r,h=>by
  obtain⟨x,I,rfl,z,g⟩:=r.uncons;cases d with
  |str i=>
   simp only[Ob] at h;cases e:Ob ds with
   |none=>simp[e] at h
   |some J=>
    simp only[e,iq] at h;cases h;cases z;rw[Yp g e];rfl
  |_=>simp[Ob] at h
def tK(K:aS)(n T:String):tm K (.type n) (.type T)=tm [] (.type n) (.type T):=rfl
def TyX(K:aS)(H:Hp)(x:V)(n:String):Prop:=
 Sl K H x (.type n)∨(n="list"/\∃a xs,x=.ref a/\NS K H a xs)∨(n="tuple"/\∃a xs,x=.ref a/\NO K H a xs)
def yZ{d:D}{n:String}(r:rc G A H v d)(h:tyD d=O0 n):TyX G.K H v n:=by
 cases d with
 |non=>cases h;rw[r.non];exact .inl .non
 |bl b=>cases h;rw[r.bl];exact .inl (.bl b)
 |int b=>cases h;rw[r.int];exact .inl (.int b)
 |str b=>cases h;rw[r.str];exact .inl (.str b)
 |lst z=>cases h;obtain⟨a,g,e,q,_⟩:=r.lst;exact .inr (.inl ⟨rfl,a,g,e,q⟩)
 |tup z=>cases h;obtain⟨a,g,e,q,_⟩:=r.tup;exact .inr (.inr ⟨rfl,a,g,e,q⟩)
 |_=>cases h
def lD(T:String):D_ X (.builtin "isinstance") (λxs H Q=>∃x n b,xs=[x,.ty T]/\TyX X.K H x n/\tm X.K (.type n) (.type T)=O0 b/\Q (.bl b) H):=by
 intro Y s W H xs Z Q I r h;obtain⟨x,n,b,rfl,ty,e,k⟩:=h;obtain⟨u,c,rfl,J,U⟩:=vals2 r;cases U
 rcases ty with ty | ⟨rfl,a,S,rfl,q⟩ | ⟨rfl,a,S,rfl,q⟩
 .exact gQ I J ty e λtk=>⟨.bl b,H,I.tok _,rfl,k⟩
 .cases J;obtain⟨g,_,p,_⟩:=I.list q;obtain⟨o,L,O,_⟩:=p.isList;exact kg CY I.kIn ⟨o,L,O⟩ e (λz=>nomatch z) λtk=>⟨.bl b,H,I.tok _,rfl,k⟩
 .cases J;obtain⟨g,_,p,_⟩:=I.tuple q;obtain⟨o,L,O,_⟩:=(show s.heap.IsTuple a g.toArray from p);exact kg HK I.kIn ⟨o,L,O⟩ e (λz=>nomatch z) λtk=>⟨.bl b,H,I.tok _,rfl,k⟩
def UV(T:String):Bool:=(["NoneType","bool","int","str","list","tuple"]:List String).all λn=>tm [] (.type n) (.type T)==O0 (n==T||(n=="bool"&&T=="int"))
def g8{T:String}(h:UV T=O1){d:D}{n:String}(e:tyD d=O0 n):tm [] (.type n) (.type T)=O0 (n==T||(n=="bool"&&T=="int")):=by
 unfold UV at h;rw[eS] at h;have m:n∈(["NoneType","bool","int","str","list","tuple"]:List String):=by
  cases d<;>simp[tyD] at e<;>subst e<;>simp
 simpa using h n m
def lE{t:Str}{T:String}(hT:UV T=O1)(hG:G.K=X.K)(hg:Gl X x)(hm:X.mg x=W1)(hv:d4 x=O0 (.builtin "isinstance"))(ht:Gl X t)(O:X.mg t=W1)(J:d4 t=O0 (.type T))(ha:PU X G a fa)(hn:x≠"__name__":=by decide)(U:(x==("__debug__":Str))=O2:=by decide)(L:t≠"__name__":=by decide)(S:(t==("__debug__":Str))=O2:=by decide)(W:ay [a,.Name t tp] X.env=(O2,eval a X.env)::ay [.Name t tp] X.env:=by rfl)(z:ay [.Name t tp] X.env=[(O2,eval (.Name t tp) X.env)]:=by rfl):
  PF X G (.Call (.Name x p) [a,.Name t tp] [] pos) (uF (isiD T) fa):=λA=>CT (MN (lD T) hg hm hv (Ca (@ha A) (Ca (rB (v:=.ty T) ht O J rfl L S) Ei z) W) hn U W (by rw[z];rfl))<|by
 rintro σ H Q ⟨Y,d,o,e,k⟩
 obtain⟨dx,e1,I⟩:=Gk e;unfold isiD at I;cases g:tyD dx with
 |none=>simp[g] at I
 |some n=>
  simp only[g,iq] at I;cases I;exact⟨Y,dx,o,e1,λv H1 Z r1=>⟨v,n,_,rfl,by rw[<-hG];exact yZ r1 g,by rw[tK];exact g8 hT g,k _ H1 Z (.bl _)⟩⟩
def tL:UV "int"=O1:=by decide +kernel
def lF:UV "bool"=O1:=by decide +kernel
end
def Dn:d4 "len"=O0 (.builtin "len"):=by decide +kernel
def UW:d4 "max"=O0 (.builtin "max"):=by decide +kernel
def Ua:d4 "min"=O0 (.builtin "min"):=by decide +kernel
def Oc:d4 "isinstance"=O0 (.builtin "isinstance"):=by decide +kernel
def Nr:d4 "sorted"=O0 (.builtin "sorted"):=by decide +kernel
def yc:d4 "int"=O0 (.type "int"):=by decide +kernel
def tO:d4 "bool"=O0 (.type "bool"):=by decide +kernel
def Sw:d4 "list"=O0 (.type "list"):=by decide +kernel
def cF:d4 "dict"=O0 (.type "dict"):=by decide +kernel
def ye:d4 "set"=O0 (.type "set"):=by decide +kernel
def P_(N:List Str)(sc g:kS)(z:List Str):Bool:=
 g.names.all (λy=>y.2 != .cell)&&g.kind==.function&&g.names.all (λy=>y.2 != .local ||g.names.lookup y.1==O0 .local)&&z.all (λt=>g.names.lookup t==O0 .local)
  && g.names.all (λy=>y.2 != .local ||z.contains y.1||!N.contains y.1)&&g.names.all (λy=>y.2 != .free ||sc.names.lookup y.1==O0 .cell ||sc.names.lookup y.1==O0 .free)&&g.names.all (λy=>y.1 != nv)&&decide z.Nodup&&z.all (λt=>t != nv)
def tQ{g:List Str}(I:g.Nodup){t:Str}(O:t∈g)(J:t≠nv):Uq (CG g N++g) t:=by
 have G:∀i:Nat,(CG g N)[i]?≠O0 t:=λi e=>by
  unfold CG at e;rw[cb] at e;cases q:N[i]? with
  |none=>rw[q] at e;cases e
  |some y=>
   rw[q] at e;have e:(if y∈g then nv else y)=t:=cS e;split at e
   .exact J e.symm
   .rename_i z;exact z (e▸O)
 have big:∀i:Nat,(CG g N++g)[i]?=O0 t->(CG g N).length<=i/\g[i-(CG g N).length]?=O0 t:=λi e=>by
  rcases xE i (CG g N).length with z | z
  .rw[ko z] at e;exact XI e (G i)
  .rw[ja z] at e;exact⟨z,e⟩
 intro i j a b;obtain⟨S,L⟩:=big i a;obtain⟨b1,b2⟩:=big j b;have:=Ph I L b2;omega
def Ub{ts:List Str}(G:X.N=N)(hs:X.env.scope=sc)(h:P_ N sc scope ts=O1):oo X scope ts:=by
 unfold P_ at h;simp only[eI,eS,ML,SK,bne_iff_ne,Bool.or_eq_true,ne_eq] at h;obtain⟨⟨⟨⟨⟨⟨⟨⟨h1,Z⟩,Y⟩,W⟩,U⟩,T⟩,S⟩,L⟩,J⟩:=h;refine⟨h1,Z,λy g e=>?_,W,λy g e=>?_,λy g e=>?_,S,λt O=>tQ L O (J t O)⟩
 .rcases Y y g with z | z
  .exact XI e z
  .exact z
 .rcases U y g with (z | z) | z
  .exact XI e z
  .exact .inl (by simpa using z)
  .right;rw[G];simpa using z
 .have I:∀x,X.env.kindOf x=sc.names.lookup x:=λx=>by rw[<-hs];rfl
  rw[I]
  rcases T y g with (z | z) | z
  .exact XI e z
  .exact .inl z
  .exact .inr z
abbrev cG (N:List Str) (sc scope:kS) (t:Str):Bool:=P_ N sc scope [t]
def g_{t:Str}(I:X.N=N)(hs:X.env.scope=sc)(h:cG N sc scope t=O1):Q3 X scope t:=Ub I hs h
def tR{K:aS}{base:Heap}{G:Gx}{k:Nat}{f:Addr}:gn P w K mg base CX0 k f fd ps (MS G λ_=>W1):=by
 have I:∀g H Q E,¬ MS G (λ_=>W1) g H Q E:=(by rintro g H Q E ⟨_,_,_,_,_,e,_⟩;exact nomatch e);exact⟨λg H Q E h=>XI h (I g H Q E),λA z s H J L g Q E _ _ _ _ h=>XI h (I g H Q E)⟩
def h_{G:Gx}{sl:Array (Option ac)}{g:Array ac}{xs:List Str}(h:G.K.lookup a=O0 ⟨.type "tuple",od,.seq g n,sl⟩)(hz:g.size<=sizeLine)(r:fc (xs.map V.str) g.toList):jl G (λ_=>W1) (.ref a) (.tup (xs.map .str)):=by
 refine .tup (xs:=xs.map V.str) (.inr ⟨_,g,n,h,rfl,rfl,hz,r⟩) .(1) λi x d I J=>?_;rw[cb] at I J;cases e:xs[i]? with
 |none=>rw[e] at I;cases I
 |some z=>rw[e] at I J;cases I;cases J;exact .str z
end PV
namespace PySem
end PySem
namespace PV
open PySem PySem.Spec L2
open PyProof.Rows hiding St
section
variable {G:Gx}{a b c:Expr}{fa:FE}{es:List Expr}{fs:FA}
def PN(X:Cx)(G:Gx)(e:Expr)(f:FE):Prop:=∀⦃A⦄,PE X e (tN G A f)
def JC(s:af H H')(g:H p=W1):af (be A H) (be (p::A) H'):=λb u h=>by
 unfold be at h;split at h
 .cases h
 .rename_i I;rw[A_]
  .exact s b u h
  .intro z
   rcases bp.mp z with z | z
   .rw[z,g] at h;cases h
   .exact I z
def Ww(h:To X G es fs):PN X G (.List es pos) (rz fs):=λA=>CT (jb (@h A))<|by
 rintro W H Q ⟨J,d,o,e,k⟩
 unfold rz at e;cases g:fs J with
 |none=>simp[g] at e
 |some I=>
  rw[g] at e;have O:(if I.length<=sizeLine then O0 (D.lst I) else W1)=O0 d:=e;split at O
  .rename_i U;cases O;exact⟨J,I,o,g,λT Y L S=>⟨by rw[S.1];exact U,λp z=>k p _ (L.trans (Al z _)) (L.free z) ⟨T,Ak,S.mono (JC (Al z _) z)⟩⟩⟩
  .cases O
def Nd.fill{d:D}(t:Nd G A H q d)(s:af H H')(J:H p=W1):Nd G (p::A) H' q d:=by
 have z:=JC (A:=A) s J;cases d with
 |lst I=>obtain⟨g,q1,q2⟩:=t;exact⟨g,s _ _ q1,q2.mono z⟩
 |dk I=>obtain⟨g,q1,q2,q3⟩:=t;exact⟨g,s _ _ q1,q2,q3.mono z⟩
 |dt I=>obtain⟨g,q1,q2,q3⟩:=t;exact⟨g,s _ _ q1,q2,q3.mono z⟩
 |ob c L=>obtain⟨C,dx,g,q1,q2,q3⟩:=t;exact⟨C,dx,g,s _ _ q1,q2,q3.mono z⟩
 |_=>exact t.elim
def Nd.live{d:D}(t:Nd G A H q d):Nt (H q):=by
 cases d with
 |lst z=>obtain⟨g,q1,q2⟩:=t;rw[q1];exact Nt.lst
 |dk z=>obtain⟨g,q1,q2,q3⟩:=t;rw[q1];exact Nt.dK
 |dt z=>obtain⟨g,q1,q2,q3⟩:=t;rw[q1];exact Nt.dT
 |ob c L=>obtain⟨C,dx,g,q1,q2,q3⟩:=t;rw[q1];exact Nt.ins
 |_=>exact t.elim
def B_{g:Type}{l:List g}{x z:g}(h:(l.set i x)[j]?=O0 z):(j=i/\z=x/\i<l.length)∨(j≠i/\l[j]?=O0 z):=by
 by_cases U:j=i
 .subst U
  by_cases Y:j<l.length
  .rw[mo Y] at h;exact .inl ⟨rfl,(cS h).symm,Y⟩
  .rw[pE (by simpa using kH.mp Y)] at h;cases h
 .rw[hV (ci U)] at h;exact .inr ⟨U,h⟩
def ON.setW{ρ:Rho}{d:D}(w:ON G A0 He A σ H ρ)(s:af H H')(hp:H p=W1)(t:Nd G (p::A) H' p d)(i:Nat)(S0:i≠0):ON G A0 He (p::A) (σ.set i (O0 (.ref p))) H' (ρ.set i (.ow d)):=by
 have Z:=w.ok.fill (Hc:=H') s hp t.live;have W:He p=W1:=w.same.free hp;have N0:p∉A:=λz=>(w.ok.live p z).ne hp;refine⟨w.same.trans s,λa ha=>cw _ (w.sub a ha),λa ha=>?_,w.l0,⟨by rw[sd,sd];exact Z.len,Z.live,λj e h=>?_,λj e h=>?_,λj k e f q h1 L T S=>?_⟩,λj e q h1 L=>?_,λx e hx h0=>by rw[hV S0] at h0 ⊢;exact w.lt x e hx h0⟩
 .rcases bp.mp ha with z | z
  .rw[z];exact .inr W
  .exact w.fr a z
 .rcases B_ h with ⟨_,O,_⟩ | ⟨U,O⟩
  .cases O
  .obtain⟨v,q1,q2⟩:=Z.fz j e O;exact⟨v,by rw[hV (ci U)];exact q1,q2⟩
 .rcases B_ h with ⟨U,O,Y⟩ | ⟨U,O⟩
  .cases O;subst U;exact⟨p,by rw[mo (by rw[w.ok.len];exact Y)],df,t⟩
  .obtain⟨v,q1,q2,q3⟩:=Z.ow j e O;exact⟨v,by rw[hV (ci U)];exact q1,q2,q3⟩
 .have no:∀(m:Nat) (g:D),ρ[m]?=O0 (.ow g)->σ[m]?=O0 (O0 (.ref q))->q≠p:=λm g a1 a2 z=>by
   obtain⟨v,b1,b2,_⟩:=w.ok.ow m g a1;rw[a2] at b1;cases b1;exact N0 (z▸b2)
  rcases B_ h1 with ⟨U,_,Y⟩ | ⟨U,O⟩
  .rcases B_ L with ⟨I,_,_⟩ | ⟨I,J⟩
   .rw[U,I]
   .exfalso;subst U;rw[mo (by rw[w.ok.len];exact Y)] at T;cases T;rw[hV (ci I)] at S;exact no k f J S rfl
  .rcases B_ L with ⟨I,_,Y⟩ | ⟨I,J⟩
   .exfalso;subst I;rw[mo (by rw[w.ok.len];exact Y)] at S;cases S;rw[hV (ci U)] at T;exact no j e O T rfl
   .rw[hV (ci U)] at T;rw[hV (ci I)] at S;exact w.ok.inj j k e f q O J T S
 .rcases B_ h1 with ⟨U,_,Y⟩ | ⟨U,O⟩
  .subst U;rw[mo (by rw[w.ok.len];exact Y)] at L;cases L;exact λz=>w.l0 p z W
  .rw[hV (ci U)] at L;exact w.ow0 j e q O L
def tV{ρ:Rho}{o:So}{D:SL}(g:i≠0)(w:ON G A0 He A σ H ρ)(e:setW i fa ρ=O0 o)(k:UL G A0 He D o):WS (tN G A fa) (Ft i) D σ H:=by
 unfold setW at e;cases z:fa ρ with
 |none=>simp[z] at e
 |some d=>
  simp only[z,iq] at e;cases e;exact⟨ρ,d,w.ok,z,λp L I J t=>k _ _ ⟨p::A,w.setW I J t i g⟩⟩
def lG{p:Pos}(h:∀te,PE X a te->PS X (.Assign [.Name x p] a pos) (WS te (Ft i)))(ha:PN X G a fa)(g:i≠0:=by decide):UR X G (.Assign [.Name x p] a pos) (setW i fa):=λS O J s z H D I ⟨L,o,⟨A,w⟩,e,k⟩=>
 h _ (@ha A) J s z H D I (tV g w e k)
def ON.wr{ρ:Rho}{J d:D}{o:HO}(w:ON G A0 He A σ H ρ)(T:ρ[i]?=O0 (.ow J))(hs:σ[i]?=O0 (O0 (.ref p)))(t:Nd G A (gq H p o) p d):ON G A0 He A σ (gq H p o) (ρ.set i (.ow d)):=by
 obtain⟨q,h1,hA,_⟩:=w.ok.ow i J T;rw[hs] at h1;cases h1;have N0:He p=W1:=by
  rcases w.fr p hA with z | z
  .exact XI z (w.ow0 i J p T hs)
  .exact z
 have W:be A (gq H p o)=be A H:=Eo hA;refine⟨λb u h=>by rw[Am (Dv h N0)];exact w.same b u h,w.sub,w.fr,w.l0,⟨by rw[sd];exact w.ok.len,λb hb=>?_,λj e h=>?_,λj e h=>?_,λj k e f q g1 g2 g3 g4=>?_⟩,λj e q g1 g2=>?_,λx e hx h0=>?_⟩
 .by_cases z:b=p
  .rw[z];exact t.live
  .rw[Am z];exact w.ok.live b hb
 .rcases B_ h with ⟨_,O,_⟩ | ⟨U,O⟩
  .cases O
  .rw[W];exact w.ok.fz j e O
 .rcases B_ h with ⟨U,O,hl⟩ | ⟨U,O⟩
  .cases O;subst U;exact⟨p,hs,hA,t⟩
  .obtain⟨q,q1,q2,q3⟩:=w.ok.ow j e O;have Z:q≠p:=λz=>U (w.ok.inj j i e J p O T (z▸q1) hs);refine⟨q,q1,q2,?_⟩;cases e with
   |lst ds=>obtain⟨I,S,L⟩:=q3;exact⟨I,by rw[Am Z];exact S,by rw[W];exact L⟩
   |dk ds=>obtain⟨I,S,L,Y⟩:=q3;exact⟨I,by rw[Am Z];exact S,L,by rw[W];exact Y⟩
   |dt ds=>obtain⟨I,S,L,Y⟩:=q3;exact⟨I,by rw[Am Z];exact S,L,by rw[W];exact Y⟩
   |ob c gs=>obtain⟨C,dx,I,S,L,Y⟩:=q3;exact⟨C,dx,I,by rw[Am Z];exact S,L,by rw[W];exact Y⟩
   |_=>exact q3.elim
 .have up:∀(m:Nat) (g:D),(ρ.set i (.ow d))[m]?=O0 (.ow g)->∃g',ρ[m]?=O0 (.ow g'):=λm g z=>by
   rcases B_ z with ⟨hm,_,_⟩ | ⟨_,O⟩
   .exact⟨J,by rw[hm];exact T⟩
   .exact⟨g,O⟩
  obtain⟨e',z1⟩:=up j e g1;obtain⟨f',z2⟩:=up k f g2;exact w.ok.inj j k e' f' q z1 z2 g3 g4
 .rcases B_ g1 with ⟨U,_,_⟩ | ⟨U,O⟩
  .subst U;exact w.ow0 j J q T g2
  .exact w.ow0 j e q O g2
 .rcases B_ h0 with ⟨U,_,_⟩ | ⟨_,O⟩
  .exact w.lt x J hx (by rw[U];exact T)
  .exact w.lt x e hx O
def Q9{ρ:Rho}{d:D}(h:Zl ρ i=O0 d):ρ[i]?=O0 (.ow d):=by
 unfold Zl at h;split at h
 .rename_i e;cases h;exact e
 .cases h
def iB{g:D->D->Option D}{ρ:Rho}{o:So}(h:Zs g i fa ρ=O0 o):∃v x y,fa ρ=O0 v/\ρ[i]?=O0 (.ow x)/\g x v=O0 y/\o=.nx (ρ.set i (.ow y)):=by
 unfold Zs at h;cases I:fa ρ with
 |none=>simp[I] at h
 |some v=>
  cases z:Zl ρ i with
  |none=>simp[I,z] at h
  |some x=>
   cases J:g x v with
   |none=>simp[I,z,J] at h
   |some y=>
    simp[I,z,J] at h;exact⟨v,x,y,rfl,Q9 z,J,h.symm⟩
theorem Sy(hv:PE X (.Name x xpos) (TL i))(ha:PF X G a fa)(g:gT (.Name x xpos) "append" X.env (eval (.Name x xpos) X.env)=eval (.Name x xpos) X.env:=by rfl)(L:((da pos (ay [a] X.env)).all (λx=>!x.1)&&(kB pos (ii [] X.env)).all (λx=>x.1.isSome)&&decide ([a].length+([]:List mE).length+(if ([]:List mE).isEmpty then 0 else 1)<30))=O1:=by rfl)(z:(apos.endLine==pos.line)=O1:=by rfl)(hs:ay [a] X.env=[(O2,eval a X.env)]:=by rfl)(W:eP (.Call (.Attribute (.Name x xpos) "append" apos) [a] [] pos) W1 p2.line X.env=pure O2:=by rfl):
  UR X G (.Expr (.Call (.Attribute (.Name x xpos) "append" apos) [a] [] pos) p2) (Zs VU i fa):=by
 rintro A0 He π s Z H D I ⟨ρ,o,⟨A,w⟩,e,k⟩
 obtain⟨v,x0,y,e1,T,J,rfl⟩:=iB e;refine Wc (vW JI JJ JO Qy hv (Ca (@ha A) Ei hs) g L z hs rfl) W π s Z H D I ?_;unfold VU at J;split at J
 .rename_i ds;split at J
  .rename_i hz;cases J;obtain⟨p,Y,hA,O,U,r⟩:=w.ok.ow i _ T;refine⟨_,Y,.inl ⟨rfl,O,.of U⟩,ρ,v,w.ok,e1,λu H1 S r1=>⟨p,O,u,rfl,rfl,S _ _ U,by rw[r.1];exact hz,?_⟩⟩;have w1:=w.mono S;refine k _ _ ⟨A,w1.wr T Y ⟨O++[u],Ak,?_⟩⟩;rw[Eo hA];exact (r.mono (BP S)).append (.cons r1 .nil)
  .cases J
 .cases J
theorem Inv.frzK{kvs:List (Key×V)}(I:Inv X π σ H s)(e:H p=O0 (.dK kvs)):∃o,Inv X π σ (gq H p (.frz o (.dK kvs))) s:=by
 obtain⟨z,O,L,g,W⟩:=vY I.hok e;obtain⟨o,T,U,J,S⟩:=id W;exact⟨o,Sq (h':=s.heap) (t':=s.toks) I (by rw[e];exact kf) ⟨rfl,λ_ _=>rfl⟩ ⟨o,J⟩ ⟨J,z,O,L,g,W⟩⟩
theorem Inv.frzT(I:Inv X π σ H s)(e:H p=O0 (.dT kvs)):∃o,Inv X π σ (gq H p (.frz o (.dT kvs))) s:=by
 obtain⟨z,S,O,g,o,Z,ep,J,Y,W,U,T⟩:=I.hok p _ e;refine⟨o,Sq (h':=s.heap) (t':=s.toks) I (by rw[e];exact kf) ⟨rfl,λ_ _=>rfl⟩ ⟨o,J⟩ ⟨J,z,S,O,KT.keeps g λc ys L=>?_,o,Z,ep,J,Y,W,U,T⟩⟩;rw[Am (vO L e (λz=>nomatch z))];exact L
def ON.frzC{ρ:Rho}{d:D}(w:ON G A0 He A σ H ρ)(hi:ρ[i]?=O0 (.ow d))(h1:σ[i]?=O0 (O0 (.ref p)))(hA:p∈A)(L:∀b,b≠p->H' b=H b)(rp:af (be A H) (be (A.filter λb=>decide (b≠p)) H')->be (A.filter λb=>decide (b≠p)) H' p=H' p->jl G (be (A.filter λb=>decide (b≠p)) H') (.ref p) d):XZ G A0 He σ H' (ρ.set i (.fz d)):=by
 have hn:=w.ow0 i d p hi h1;have g:∀b,b∈A.filter (λb=>decide (b≠p))↔b∈A/\b≠p:=λb=>by simp[dS]
 have W:af (be A H) (be (A.filter λb=>decide (b≠p)) H'):=λb o h=>by
  unfold be at h ⊢;split at h
  .cases h
  .rename_i I;have S:b≠p:=λz=>I (z▸hA);rw[WI (λz=>I ((g b).mp z).1),L b S];exact h
 have rp:=rp W (A_ λz=>((g p).mp z).2 rfl);have N0:He p=W1:=(w.fr p hA).resolve_left hn;refine⟨A.filter λb=>decide (b≠p),λb o h=>?_,λb I=>(g b).mpr ⟨w.sub b I,λz=>hn (z▸I)⟩,λb I=>w.fr b ((g b).mp I).1,w.l0,⟨by rw[sd];exact w.ok.len,λb I=>?_,λj e h=>?_,λj e h=>?_,λj k e f q g1 g2 g3 g4=>?_⟩,λj e q g1 g2=>?_,λx e hx h0=>?_⟩
 .have S:b≠p:=λz=>by rw[z,N0] at h;cases h
  rw[L b S];exact w.same b o h
 .obtain⟨Z,z2⟩:=(g b).mp I;rw[L b z2];exact w.ok.live b Z
 .rcases B_ h with ⟨hj,O,_⟩ | ⟨hj,O⟩
  .cases O;subst hj;exact⟨_,h1,rp⟩
  .obtain⟨v,q1,q2⟩:=w.ok.fz j e O;exact⟨v,q1,q2.mono W⟩
 .rcases B_ h with ⟨_,O,_⟩ | ⟨hj,O⟩
  .cases O
  .obtain⟨q,q1,q2,q3⟩:=w.ok.ow j e O;have Y:q≠p:=λz=>hj (w.ok.inj j i e d p O hi (z▸q1) h1);refine⟨q,q1,(g q).mpr ⟨q2,Y⟩,?_⟩;cases e with
   |lst ds=>obtain⟨J,U,T⟩:=q3;exact⟨J,by rw[L q Y];exact U,T.mono W⟩
   |dk ds=>obtain⟨J,U,T,a3⟩:=q3;exact⟨J,by rw[L q Y];exact U,T,a3.mono W⟩
   |dt ds=>obtain⟨J,U,T,a3⟩:=q3;exact⟨J,by rw[L q Y];exact U,T,a3.mono W⟩
   |ob c gs=>obtain⟨C,dx,J,U,T,a3⟩:=q3;exact⟨C,dx,J,by rw[L q Y];exact U,T,a3.mono W⟩
   |_=>exact q3.elim
 .rcases B_ g1 with ⟨_,O,_⟩ | ⟨_,Z⟩
  .cases O
  .rcases B_ g2 with ⟨_,O,_⟩ | ⟨_,z2⟩
   .cases O
   .exact w.ok.inj j k e f q Z z2 g3 g4
 .rcases B_ g1 with ⟨_,O,_⟩ | ⟨_,Z⟩
  .cases O
  .exact w.ow0 j e q Z g2
 .rcases B_ h0 with ⟨_,O,_⟩ | ⟨_,Z⟩
  .cases O
  .exact w.lt x e hx Z
theorem XZ.frz{π:NU}{s:ai}{A0:List Addr}{He:Hp}{O:St}{H:Hp}{ρ:Rho}(I:Inv X π O H s)(w:XZ G A0 He O H ρ)(i:Nat):∃H',Inv X π O H' s/\XZ G A0 He O H' (frz1 ρ i):=by
 unfold frz1;split
 .rename_i d J;obtain⟨A,w⟩:=w;obtain⟨p,U,T,t⟩:=w.ok.ow i d J;cases d with
  |lst ds=>
   obtain⟨W,S,L⟩:=t;exact⟨H,I,w.frzC J U T (λ_ _=>rfl) λg z=>.lst (.of (by rw[z];exact S)) (L.mono g).1 (L.mono g).2⟩
  |dk ds=>
   obtain⟨W,S,L,Y⟩:=t;obtain⟨o,I'⟩:=Inv.frzK I S;exact⟨_,I',w.frzC J U T (λb Z=>Am Z) λg z=>.dk (by rw[z];exact Ak) L (Y.mono g).2⟩
  |dt ds=>
   obtain⟨W,S,L,Y⟩:=t;obtain⟨o,I'⟩:=Inv.frzT I S;exact⟨_,I',w.frzC J U T (λb Z=>Am Z) λg z=>.dt (by rw[z];exact Ak) L (Y.mono g).2⟩
  |ob c gs=>
   obtain⟨C,dx,W,S,L,Y⟩:=t;exact⟨H,I,w.frzC J U T (λ_ _=>rfl) λg z=>.ob L.1 (by rw[z];exact S) L.2 (Y.mono g).2⟩
  |_=>exact t.elim
 .exact⟨H,I,w⟩
theorem cH{z:NU}{s:ai}{A0:List Addr}{J:Hp}{g:St}:∀(L:List Nat) {H:Hp}{ρ:Rho},Inv X z g H s->XZ G A0 J g H ρ->∃H',Inv X z g H' s/\XZ G A0 J g H' (L.foldl frz1 ρ)
 |[],H,_,I,w=>⟨H,I,w⟩
 |i::r,_,_,I,w=>let ⟨_,I1,w1⟩:=w.frz I i;cH r I1 w1
theorem O3{g:FS}(z:List Nat)(h:UR X G st g):UR X G st (fzS z g):=λT S O s J H D I ⟨L,o,ok,e,k⟩=>
 let ⟨H',I',ok'⟩:=cH z I ok
 @h T S O s J H' D I' ⟨z.foldl frz1 L,o,ok',e,k⟩
end
section
variable {A:aT}
def btx(w:bE):Bool:=w.params.followText "set-order"
def ObX(h:Heap)(a:Addr)(es:Array (Int×ac))(t:SetTable):Prop:=∃o ep,h.get? a=O0 o/\o.ExactSet/\o.data=.set es ep t
end
section
variable {A:aT}
theorem AAl{T g z:String}{as:List ac}{Q1:ac->ai->Prop}(ft:TypeCalled T g z)(W:checkTypeCall T ⟨as,[]⟩=pure ())(I:gL (av prog w) A.in1 (.call (.builtin g) ⟨.type T::as,[]⟩) (wants Q1 E) s)(J:∀ob s1,Q1 ob s1->s1.TypeIs ob T/\gL (av prog w) A.in1 (.call (.builtin z) ⟨ob::as,[]⟩) (wants (λr S=>r=.none/\Q ob S) E) s1):ah (av prog w) A (call (.type T) as) Q E s:=by
 obtain⟨U,L,g1⟩:=ft.mro;have g2:=ft.made;have g3:=ft.sub;have g4:=ft.notType;have g5:=ft.canCreate;refine D2 (codeAny_of_tree (show ah _ _ (callAny (.type T) _) _ _ _ from aw ⟨E7 _ (by decide +kernel),kK F.entry_type_call ?_⟩));rw[Around.under_plain (weight_type_call_type T as []) (units_type_call_type T as [])]
 repeat (any_goals (first | assumption | wp_step))
 refine re I λr s1 q1=>?_
 match r,q1 with
 |.error _,q1=>exact q1
 |.ok .next,q1=>exact q1.elim
 |.ok .brk,q1=>exact q1.elim
 |.ok .cont,q1=>exact q1.elim
 |.ok (.ret ob),q1=>
  obtain⟨ty,G⟩:=J ob s1 q1;have Z:=ft.init.lookup;have Y:=ft.init.bind ob
  repeat (any_goals (first | assumption | wp_step))
  refine re G λO S q2=>?_
  match O,q2 with
  |.error _,q2=>exact q2
  |.ok .next,q2=>exact q2.elim
  |.ok .brk,q2=>exact q2.elim
  |.ok .cont,q2=>exact q2.elim
  |.ok (.ret v),⟨e,q2⟩=>
   subst e
   repeat (any_goals (first | assumption | wp_step))
theorem tW(v:ac){Q:ac->ai->Prop}(k:Q (.ref s.heap.objs.size) { s with heap:=s.heap.push { cls:=.type "set",dict:=W1,data:=.set #[] 0 (.fresh 0 0 (!btx w)) } }):gL (av prog w) A (.call (.builtin "set.__new__") ⟨[.type "set",v],[]⟩) (wants Q E) s:=by
 have S:isSubtype (.type "set") (.type "set")=pure O1:=by rw[pT];kernel_rfl
 refine codeAny_of_tree (show ah _ A.in1 (do checkBuiltinCall "set.__new__" ⟨[.type "set",v],[]⟩;again (.builtin "set.__new__" ⟨[.type "set",v],[]⟩)) _ _ s from ?_);refine ag (AO (F.newCall_set_1 v) (aw ⟨pS JU _,kK F.entry_set_new ?_⟩));rw[se JU _];unfold eK.«set.__new__» Builtin.Frozenset.newClass;obtain⟨h,g,d,tk,z⟩:=s
 wp_walk
 refine uk (aw ?_);dsimp only [newObj];exact ag (wpAny_alloc (aw (aw k)))
end
theorem Nu:E8 "set_iterator" "__next__" "set_iterator.__next__":=
 .of (owner:="set_iterator") (n:="__next__") (by rw[typeLookup_type,JY];kernel_rfl) (by decide +kernel) (by decide +kernel) (by decide +kernel) (by first | exact .inl (by decide +kernel) | exact .inr (by decide +kernel)) (by rw[pT];kernel_rfl)
def Yq:xw table "set_iterator.__next__"=O0 eK.«set_iterator.__next__»:=entryFor_of_tree (by kernel_rfl)
def lH:Manifest.owners.lookup (String.ofList ['r','o','t','a','r','e','t','i','_','t','e','s'].reverse)=O0 Manifest.sig_set_iterator:=by kernel_rfl
theorem cI(a:ac):nN "set_iterator.__next__" ⟨[a],[]⟩:=by
 unfold nN;rw[signature?_of (id:="set_iterator.__next__") (n:=['_','_','t','x','e','n','_','_']) (o:=['r','o','t','a','r','e','t','i','_','t','e','s']) (by kernel_rfl) lH]
 kernel_rfl
section
variable {A:aT}{I T:Addr}{first:ac}{t:SetTable}
def WO(h:Heap)(I q:Addr)(first:ac)(j n ep:Nat):Prop:=∃o,h.get? I=O0 o/\o.cls=.type "set_iterator"/\o.data=.fields #[first,.int j 0,.ref q,.int n 0,.int ep 0]
def Mg(h:Heap)(q:Addr)(es:Array (Int×ac))(ep:Nat)(t:SetTable):Prop:=∃o,h.get? q=O0 o/\o.ExactSet/\o.data=.set es ep t
theorem WO.ty(x:WO s.heap I q first j n ep):s.TypeIs (.ref I) "set_iterator":=let ⟨o,g,c,_⟩:=x;⟨o,g,c⟩
def WO.put0(x:WO h I q first j n ep)(L:ac):WO (h.update I (E9 (·.setIfInBounds 0 L))) I q L j n ep:=by
 obtain⟨o,g,c,d⟩:=x;exact⟨_,nX _ g (Ee (uu d _)),(EA ..).trans c,by rw[uu d];simp⟩
def WO.put1(x:WO h I q first j n ep):WO (h.update I (E9 (·.setIfInBounds 1 (fN ((j:Int)+1))))) I q first (j+1) n ep:=by
 obtain⟨o,g,c,d⟩:=x;exact⟨_,nX _ g (Ee (uu d _)),(EA ..).trans c,by rw[uu d];simp[fN]⟩
def Wx{a:Addr}(z:s.heap=h)(x:WO h I q first j n ep){i:Nat}(G:i<5){v:ac}{Q:Unit->ai->Prop}(k:Q () { s with heap:=h.update I (E9 (·.setIfInBounds i v)) }):ah (av prog w) A (setField (.ref I) i v) Q E s:=by
 subst z;obtain⟨o,g,_,d⟩:=x;exact EB g d (by simpa using G) k
theorem tX{sl:Int}{v:ac}{z:Nat}{Q:Option ac->ai->Prop}(x:WO s.heap I q (.int sl 0) j n ep)(y:Mg s.heap q es ep t)(L:t.fits es.size=O1)(J:es.size=n)(G:∀(B:aT) (U:ac->ai->Prop) (R:Option (ac×Nat)->ai->Prop),R (O0 (v,z)) s->ah (av prog w) B (pV q sl.toNat j ep) R U s)(k:∀h',ff I s.heap h'->WO h' I q (.int z 0) (j+1) n ep->Q (O0 v) { s with heap:=h' }):ah (av prog w) A (gI (.ref I)) Q E s:=by
 obtain⟨o,g,c,d⟩:=id x;obtain⟨W,O,_,S⟩:=y;unfold gI;refine ag (AR (rj (name:=dE "__next__") x.ty Nu (iF Nu x.ty Yq ?_ (cI _))));unfold eK.«set_iterator.__next__»;refine ag (aw (ag (wpAny_fieldsOf g d ?_)));dsimp only;refine ag (EC O S L ?_);rw[WI (by rw[J];simp),g9,g9];refine ag (G _ _ _ ?_);refine ag (Wx (a:=I) rfl x .(2) (ag (Wx (a:=I) rfl (x.put0 (fN z)) .(2) (aw ⟨v,rfl,aw ?_⟩))));exact k _ ((xI ..).trans (xI ..)) (x.put0 (fN z)).put1
theorem tY{Q:Option ac->ai->Prop}{z:ai}(L:A.handled=W1)(k:∀h',(∀b o,z.heap.get? b=O0 o->h'.get? b=O0 o)->Q W1 { z with heap:=h' }):
  ah (av prog w) A.in1 (newExc (.type "StopIteration") [] >>= λe=>(raiseNew e:Sem Fin)) (λG g=>∃v,G=Fin.done (Flow.ret v)/\ah (av prog w) A (pure (O0 v)) Q E g)
   (λe g=>ah (av prog w) A (zt e (.type "StopIteration") >>= λb=>if b=O1 then pure W1 else throw e) Q E g) z:=by
 refine ag ?_;simp only[newExc,newTuple];refine ag (kD ?_ (by size_fits));refine ag (m:=AS _ _) (AO (a:=fF) (by first | rfl | (simp only[AS];rfl)) (kD ?_ (by size_fits)));unfold raiseNew;refine ag (wpAny_handled ?_);rw[show A.in1.handled=W1 from L];refine ag (aw (wpAny_throw ?_));have ty:∀(J:Heap) (ob:Obj),ob.cls=.type "StopIteration"->ob.isFreed=O2->Shared.TypeIs { z with heap:=J.push ob } (.ref J.objs.size) "StopIteration":=λJ ob c f=>⟨ob,ce _ f,c⟩;refine ag (sM (T:="StopIteration") (b:=O1) (ty _ _ rfl rfl) isSubtype_stop ?_);refine aw (k _ λb o e=>?_);exact bo _ (bo _ e)
theorem tZ{sl:Int}{Q:Option ac->ai->Prop}(L:A.handled=W1)(x:WO s.heap I q (.int sl 0) j n ep)(y:Mg s.heap q es ep t)(S:t.fits es.size=O1)(J:es.size=n)(z:∀(B:aT) (Y:ac->ai->Prop) (R:Option (ac×Nat)->ai->Prop),R W1 s->ah (av prog w) B (pV q sl.toNat j ep) R Y s)(k:∀h',(∀b o,b≠I->s.heap.get? b=O0 o->h'.get? b=O0 o)->Q W1 { s with heap:=h' }):ah (av prog w) A (gI (.ref I)) Q E s:=by
 obtain⟨o,g,c,d⟩:=id x;obtain⟨Z,U,_,W⟩:=y;unfold gI;refine ag (AR (rj (name:=dE "__next__") x.ty Nu (iF Nu x.ty Yq ?_ (cI _))));unfold eK.«set_iterator.__next__»;refine ag (aw (ag (wpAny_fieldsOf g d ?_)));dsimp only;refine ag (EC U W S ?_);rw[WI (by rw[J];simp),g9,g9];refine ag (z _ _ _ (ag (Wx (a:=I) rfl x .(2) (tY L λh' G=>k h' λb o O e=>G b o ?_))));exact (lI _ _ (ci O)).trans e
end
def lJ{g:Type}(l:List g)(k:Nat):Oy l W1 (O0 (k:Int))=l.take k:=by
 unfold Oy HT.sIx;simp;rw[WI .(0)]
 first | omega | (rw[List.take_eq_take_iff];omega)
def lK{g:Type}(l:List g)(k:Nat):Oy l (O0 (k:Int)) W1=l.drop k:=by
 unfold Oy HT.sIx;simp;rw[WI .(0)]
 by_cases h:k<=l.length
 .rw[K0 h,DU .(1)]
 .rw[K2 .(0),Kb .(0),Kb .(0)];simp
def yf{g:Type}{xs:List g}{i:Int}(J:0<=i)(h1:i<xs.length):atI xs i=xs[i.toNat]?:=by
 unfold atI ixN;rw[VI J,VI h1];rfl
def GX(i j:Int)(h:0<j):MR (.int i) (.int j)=O0 (.int (i%j)):=by
 show (if 0<j then O0 (D.int (i%j)) else W1)=_;rw[VI h]
def Ek(i j:Int)(h:0<j)(g:j<1073741824):Hu (.int i) (.int j)=O0 (.int (i/j)):=by
 show (if CDiv i j then O0 (D.int (i/j)) else W1)=_;rw[VI ⟨h,g⟩]
def cJ(i j:Int)(h : -(2^64)<j/\j<2^64):Si (.int i) (.int j)=O0 (.int (i*j)):=by
 show (if Oa i j then O0 (D.int (i*j)) else W1)=_;rw[VI (.inl (.inr h))]
def S5(i j:Int)(h : -(2^64)<i/\i<2^64):Si (.int i) (.int j)=O0 (.int (i*j)):=by
 show (if Oa i j then O0 (D.int (i*j)) else W1)=_;rw[VI (.inl (.inl h))]
def Ia(i j:Int):tx (.int i) (.int j)=O0 (.int (i+j)):=fy _
def Q_(i j:Int):SU (.int i) (.int j)=O0 (.int (i-j)):=fy _
def Vu(i j:Int):ltD (.int i) (.int j)=O0 (.bl (decide (i<j))):=fy _
def cL(i j:Int):gtD (.int i) (.int j)=O0 (.bl (decide (j<i))):=fy _
def cM(i j:Int):leD (.int i) (.int j)=O0 (.bl (decide (i<=j))):=fy _
def lL(i j:Int):geD (.int i) (.int j)=O0 (.bl (decide (j<=i))):=fy _
def QB(i j:Int):mf O2 (.int i) (.int j)=O0 (.bl (decide (i=j))):=fy _
def cP(i j:Int):mf O1 (.int i) (.int j)=O0 (.bl (!decide (i=j))):=fy _
def QC(h:n<=10000000):n<=sizeLine:=de h .(2)
def Wy{i j:List D}(h:i.length+j.length<=10000000):tx (.lst i) (.lst j)=O0 (.lst (i++j)):=by
 show (if _ then _ else _)=_;rw[VI (QC h)]
theorem QD{b:D->FS}{P:Nat->Rho->Prop}:∀{ds:List D}{ρ:Rho}(k:Nat),P k ρ->(∀(i:Nat) d ρ,ds[i]?=O0 d->P (k+i) ρ->∃z,b d ρ=O0 (.nx z)/\P (k+i+1) z)->∃z,vb b ds ρ=O0 (.nx z)/\P (k+ds.length) z
 |[],ρ,k,J,_=>⟨ρ,rfl,by simpa using J⟩
 |d::r,ρ,k,J,hs=>by
  obtain⟨S,U,T⟩:=hs 0 d ρ rfl (by simpa using J);obtain⟨g,O,G⟩:=QD (ds:=r) (ρ:=S) (k+1) (by simpa using T) λi W z L I=>by
   have:=hs (i+1) W z (by simpa using L) (by rw[show k+(i+1)=k+1+i by omega];exact I);rw[show k+(i+1)+1=k+1+i+1 by omega] at this;exact this
  refine⟨g,?_,by rw[ck,show k+(r.length+1)=k+1+r.length by omega];exact G⟩;unfold vb;rw[U];exact O
def S6{g:FI}{ga:FT}{fe:FE}{ρ:Rho}{ds out:List D}(h:g ρ=O0 ds)(hz:ds.length<=10000000)(J:KD ρ ga fe ds=O0 out):Bc g ga fe ρ=O0 (.lst out):=by
 unfold Bc;rw[h];show (if ds.length<=sizeLine then (KD ρ ga fe ds).map D.lst else W1)=_;rw[VI (QC hz),J];rfl
def lO(o:Option So)(L:FS):Option So:=match o with | some (.nx z)=>L z | o=>o
def Fv(g gs:FS)(ρ:Rho):cx g gs ρ=lO (g ρ) gs:=fy _
def OP(L:FS)(ρ:Rho):lO (O0 (.nx ρ)) L=L ρ:=fy _
def e_rt(L:FS)(d:D)(ρ:Rho):lO (O0 (.rt d ρ)) L=O0 (.rt d ρ):=fy _
def vz(ρ:Rho):PR ρ=O0 (.nx ρ):=fy _
def iteO(o:Option Bool)(g L:FS)(ρ:Rho):Option So:=match o with | some O1=>g ρ | some O2=>L ρ | none=>W1
def e_if(t:FT)(g L:FS)(ρ:Rho):Pe t g L ρ=iteO (t ρ) g L ρ:=fy _
def v8(g L:FS)(ρ:Rho):iteO (O0 O1) g L ρ=g ρ:=fy _
def v9(g L:FS)(ρ:Rho):iteO (O0 O2) g L ρ=L ρ:=fy _
def setO(i:Nat)(ρ:Rho)(o:Option D):Option So:=o.map λd=>.nx (ρ.set i (.fz d))
def cQ(i:Nat)(f:FE)(ρ:Rho):ll i f ρ=setO i ρ (f ρ):=fy _
def Wz(i:Nat)(ρ:Rho)(d:D):setO i ρ (O0 d)=O0 (.nx (ρ.set i (.fz d))):=fy _
def retO(ρ:Rho)(o:Option D):Option So:=o.map λd=>.rt d ρ
def v_(f:FE)(ρ:Rho):fx f ρ=retO ρ (f ρ):=fy _
def lQ(d:D)(ρ:Rho):retO ρ (O0 d)=O0 (.rt d ρ):=fy _
def wA(ρ:Rho)(o:Option D):Option So:=o.map λ_=>.nx ρ
def lR(f:FE)(ρ:Rho):Fo f ρ=wA ρ (f ρ):=fy _
def cT(ρ:Rho)(d:D):wA ρ (O0 d)=O0 (.nx ρ):=fy _
def b2(g:D->D->Option D)(x y:Option D):Option D:=x.bind λx=>y.bind λy=>g x y
def e_b(g:D->D->Option D)(G z:FE)(ρ:Rho):bF g G z ρ=b2 g (G ρ) (z ρ):=fy _
def XT(g:D->D->Option D)(x y:D):b2 g (O0 x) (O0 y)=g x y:=fy _
def b1(g:D->Option D)(x:Option D):Option D:=x.bind g
def e_u(g:D->Option D)(G:FE)(ρ:Rho):uF g G ρ=b1 g (G ρ):=fy _
def e_us(g:D->Option D)(x:D):b1 g (O0 x)=g x:=fy _
def cl1(g:List D->Option D)(x:Option (List D)):Option D:=x.bind g
def aD(g:List D->Option D)(fs:FA)(ρ:Rho):Aj g fs ρ=cl1 g (fs ρ):=fy _
def W0(g:List D->Option D)(ds:List D):cl1 g (O0 ds)=g ds:=fy _
def wB(x:Option D)(y:Option (List D)):Option (List D):=x.bind λd=>y.map (d::·)
def aF(G:FE)(fs:FA)(ρ:Rho):Aa G fs ρ=wB (G ρ) (fs ρ):=fy _
def W2(d:D)(ds:List D):wB (O0 d) (O0 ds)=O0 (d::ds):=fy _
def R1(ρ:Rho):ab ρ=O0 []:=fy _
def tupO(o:Option (List D)):Option D:=o.bind λds=>if ds.length<=sizeLine then O0 (.tup ds) else W1
def lstO(o:Option (List D)):Option D:=o.bind λds=>if ds.length<=sizeLine then O0 (.lst ds) else W1
def wC(fs:FA)(ρ:Rho):OT fs ρ=tupO (fs ρ):=fy _
def cU(fs:FA)(ρ:Rho):rz fs ρ=lstO (fs ρ):=fy _
def lU(a:D):tupO (O0 [a])=O0 (.tup [a]):=fy _
def lV(a b:D):tupO (O0 [a,b])=O0 (.tup [a,b]):=fy _
def W3:lstO (O0 [])=O0 (.lst []):=fy _
def lW(a:D):lstO (O0 [a])=O0 (.lst [a]):=fy _
def lX(a b:D):lstO (O0 [a,b])=O0 (.lst [a,b]):=fy _
def lY(a b c:D):lstO (O0 [a,b,c])=O0 (.lst [a,b,c]):=fy _
def lZ(a b c d e f:D):lstO (O0 [a,b,c,d,e,f])=O0 (.lst [a,b,c,d,e,f]):=fy _
def blO(o:Option D):Option Bool:=match o with | some (.bl b)=>O0 b | _=>W1
def e_bl(f:FE)(ρ:Rho):ui f ρ=blO (f ρ):=fy _
def wD(b:Bool):blO (O0 (.bl b))=O0 b:=fy _
def andO(o:Option Bool)(z:FT)(ρ:Rho):Option Bool:=match o with | some O1=>z ρ | some O2=>O0 O2 | none=>W1
def orO(o:Option Bool)(z:FT)(ρ:Rho):Option Bool:=match o with | some O1=>O0 O1 | some O2=>z ρ | none=>W1
def lg(a b:FT)(ρ:Rho):andT a b ρ=andO (a ρ) b ρ:=fy _
def cV(b:FT)(ρ:Rho):andO (O0 O1) b ρ=b ρ:=fy _
def cW(b:FT)(ρ:Rho):andO (O0 O2) b ρ=O0 O2:=fy _
def wF(a b:FT)(ρ:Rho):orT a b ρ=orO (a ρ) b ρ:=fy _
def lw(b:FT)(ρ:Rho):orO (O0 O1) b ρ=O0 O1:=fy _
def l_(b:FT)(ρ:Rho):orO (O0 O2) b ρ=b ρ:=fy _
def mC(a:FT)(ρ:Rho):OV a ρ=(a ρ).map (!·):=fy _
def andP(o:Option D)(z:FE)(ρ:Rho):Option D:=match o with | some (.bl O1)=>z ρ | some (.bl O2)=>O0 (.bl O2) | _=>W1
def orP(o:Option D)(z:FE)(ρ:Rho):Option D:=match o with | some (.bl O1)=>O0 (.bl O1) | some (.bl O2)=>z ρ | _=>W1
def notP(o:Option D):Option D:=match o with | some (.bl b)=>O0 (.bl (!b)) | _=>W1
def aG(a b:FE)(ρ:Rho):OY a b ρ=andP (a ρ) b ρ:=fy _
def W4(b:FE)(ρ:Rho):andP (O0 (.bl O1)) b ρ=b ρ:=fy _
def W5(b:FE)(ρ:Rho):andP (O0 (.bl O2)) b ρ=O0 (.bl O2):=fy _
def wG(a b:FE)(ρ:Rho):orF a b ρ=orP (a ρ) b ρ:=fy _
def mD(b:FE)(ρ:Rho):orP (O0 (.bl O1)) b ρ=O0 (.bl O1):=fy _
def mF(b:FE)(ρ:Rho):orP (O0 (.bl O2)) b ρ=b ρ:=fy _
def aH(a:FE)(ρ:Rho):VS a ρ=notP (a ρ):=fy _
def W6(b:Bool):notP (O0 (.bl b))=O0 (.bl (!b)):=fy _
def ifP(o:Option Bool)(G z:FE)(ρ:Rho):Option D:=match o with | some O1=>G ρ | some O2=>z ρ | none=>W1
def wH(t:FT)(a b:FE)(ρ:Rho):ifF t a b ρ=ifP (t ρ) a b ρ:=fy _
def mG(a b:FE)(ρ:Rho):ifP (O0 O1) a b ρ=a ρ:=fy _
def mH(a b:FE)(ρ:Rho):ifP (O0 O2) a b ρ=b ρ:=fy _
def sl3(f:Option D)(l h:Option (Option Int)):Option D:=f.bind λx=>l.bind λz=>h.bind λG=>slD x z G
def e_sl(f:FE)(l h:FO)(ρ:Rho):slF f l h ρ=sl3 (f ρ) (l ρ) (h ρ):=fy _
def wI(x:D)(l h:Option Int):sl3 (O0 x) (O0 l) (O0 h)=slD x l h:=fy _
def wJ(ρ:Rho):noO ρ=O0 W1:=fy _
def somO(o:Option D):Option (Option Int):=match o with | some (.int i)=>O0 (O0 i) | _=>W1
def cX(f:FE)(ρ:Rho):Pv f ρ=somO (f ρ):=fy _
def Yr(i:Int):somO (O0 (.int i))=O0 (O0 i):=fy _
def TR(o:Option Slot):Option D:=match o with | some (.fz d)=>O0 d | _=>W1
def getU(o:Option Slot):Option D:=match o with | some (.fz d)=>O0 d | some (.ow d)=>O0 d | _=>W1
def e_v(i:Nat)(ρ:Rho):vF i ρ=TR (ρ[i]?):=fy _
def PZ(d:D):TR (O0 (.fz d))=O0 d:=fy _
def e_vU(i:Nat)(ρ:Rho):vU i ρ=getU (ρ[i]?):=fy _
def wK(d:D):getU (O0 (.fz d))=O0 d:=fy _
def wL(d:D):getU (O0 (.ow d))=O0 d:=fy _
def e_k(d:D)(ρ:Rho):kF d ρ=O0 d:=fy _
def rngO(o:Option D):Option (List D):=match o with | some (.int j)=>if -(2^62)<=j/\j<2^62 then O0 (MX j.toNat) else W1 | _=>W1
def Uc(f:FE)(ρ:Rho):Nc f ρ=rngO (f ρ):=fy _
def Ud(j:Int)(h : -(2^62)<=j/\j<2^62):rngO (O0 (.int j))=O0 (MX j.toNat):=by
 show (if _ then _ else _)=_;rw[VI h]
def forO(o:Option (List D))(tg:FG)(b:FS)(ρ:Rho):Option So:=o.bind λds=>vb (PM tg b) ds ρ
def Ue(g:FI)(tg:FG)(b:FS)(ρ:Rho):Nw g tg b ρ=forO (g ρ) tg b ρ:=fy _
def O4(ds:List D)(tg:FG)(b:FS)(ρ:Rho):forO (O0 ds) tg b ρ=vb (PM tg b) ds ρ:=fy _
def ccO(o:Option Bool)(e:Option D)(r:Option (List D)):Option (List D):=match o with | some O1=>e.bind λy=>r.map (y::·) | some O2=>r | none=>W1
def Kw(ρ:Rho)(ga:FT)(fe:FE)(d:D)(r:List D):KD ρ ga fe (d::r)=ccO (ga (ρ++[.fz d])) (fe (ρ++[.fz d])) (KD ρ ga fe r):=fy _
def mJ(ρ:Rho):pp ρ=O0 O1:=fy _
def runO(o:Option So):Option D:=match o with | some (.rt d _)=>O0 d | some (.nx _)=>O0 .non | _=>W1
def KQ{g:Nat}{b:FS}{ds:List D}(h:ds.length=g):il n g b ds=runO (b (DK n ds)):=by
 unfold il;rw[VI h];rfl
def mK(d:D)(ρ:Rho):runO (O0 (.rt d ρ))=O0 d:=fy _
def mL(ρ:Rho):runO (O0 (.nx ρ))=O0 .non:=fy _
def Mh{g z:Type}(f:g->z)(x:g):Option.map f (O0 x)=O0 (f x):=fy _
def mQ{g z:Type}(f:g->Option z)(x:g):Option.bind (O0 x) f=f x:=fy _
def Do(n:Nat)(ds:List D):DK n ds=ds.map .fz++wx (n-ds.length) .un:=fy _
def truB(b:Bool):truD (.bl b)=O0 b:=fy _
def RB{g:Type}(l:List g)(k:Nat):atI l (k:Int)=l[k]?:=by
 unfold atI ixN;rw[VI .(0)]
 by_cases h:k<l.length
 .rw[VI .(0)];simp
 .rw[WI .(0),pE .(0)];rfl
def ixt0(x:D)(r:List D):ixD (.tup (x::r)) (.int 0)=O0 x:=RB _ 0
def ixt1(x y:D)(r:List D):ixD (.tup (x::y::r)) (.int 1)=O0 y:=RB _ 1
def e_tr(f:FE)(ρ:Rho):Yf f ρ=(f ρ).bind truD:=fy _
def AAm(z:Str)(h:z.length<=10000000):SW (.str z)=O0 (.int z.length):=by
 show (if z.length<=sizeLine then O0 (D.int z.length) else W1)=_;rw[VI (QC h)]
def mR(l:List D):SW (.lst l)=O0 (.int l.length):=fy _
def t6(x:Str)(g:List Str):inD O2 (.str x) (.lst (g.map .str))=O0 (.bl (g.any (λy=>y==x))):=by
 have h:∀g:List Str,OO (g.map .str)=O0 (g.map V.str):=λg=>by
  induction g with
  |nil=>rfl
  |cons y r G=>simp[OO,UY,G]
 show ((UY (.str x)).bind λv=>(OO (g.map .str)).map λz=>D.bl (YR v z))=_;rw[h];show O0 (D.bl (YR (.str x) (g.map V.str)))=_;simp[YR,ED,eW,TZ]
def Mi(n:Nat):(MX n).length=n:=by simp[MX]
def iC(ys:List Str):Ob (ys.map .str)=O0 ys:=by
 induction ys with
 |nil=>rfl
 |cons y r g=>simp[Ob,g]
def wM(i:Nat)(ρ:Rho)(o:Option D):Option So:=o.map λd=>.nx (ρ.set i (.ow d))
def mU(i:Nat)(f:FE)(ρ:Rho):setW i f ρ=wM i ρ (f ρ):=fy _
def cY(i:Nat)(ρ:Rho)(d:D):wM i ρ (O0 d)=O0 (.nx (ρ.set i (.ow d))):=fy _
def mutO(g:D->D->Option D)(i:Nat)(ρ:Rho)(x v:Option D):Option So:=v.bind λv=>x.bind λx=>(g x v).map λy=>.nx (ρ.set i (.ow y))
def getW(o:Option Slot):Option D:=match o with | some (.ow d)=>O0 d | _=>W1
def wN(g:D->D->Option D)(i:Nat)(f:FE)(ρ:Rho):Zs g i f ρ=mutO g i ρ (getW ρ[i]?) (f ρ):=fy _
def mV(g:D->D->Option D)(i:Nat)(ρ:Rho)(x v:D):mutO g i ρ (O0 x) (O0 v)=(g x v).map λy=>.nx (ρ.set i (.ow y)):=fy _
def RC(d:D):getW (O0 (.ow d))=O0 d:=fy _
def forB(o:Option So)(b:D->FS)(r:List D):Option So:=match o with
  |some (.nx z)=>vb b r z
  |some (.ct z)=>vb b r z
  |some (.bk z)=>O0 (.nx z)
  |some (.rt e z)=>O0 (.rt e z)
  |none=>W1
def Ed(b:D->FS)(d:D)(r:List D)(ρ:Rho):vb b (d::r) ρ=forB (b d ρ) b r:=fy _
def El(b:D->FS)(r:List D)(ρ:Rho):forB (O0 (.nx ρ)) b r=vb b r ρ:=fy _
def QF(b:D->FS)(r:List D)(d:D)(ρ:Rho):forB (O0 (.rt d ρ)) b r=O0 (.rt d ρ):=fy _
def bndO(o:Option Rho)(b:FS):Option So:=o.bind b
def RO(tg:FG)(b:FS)(d:D)(ρ:Rho):PM tg b d ρ=bndO (tg d ρ) b:=fy _
def Jr(ρ:Rho)(b:FS):bndO (O0 ρ) b=b ρ:=fy _
def Ky(i:Nat)(d:D)(ρ:Rho):Be i d ρ=O0 (ρ.set i (.fz d)):=fy _
def Kz(a:Str):ltS a a=O2:=by
 unfold ltS;exact YI (List.lt_irrefl _)
def RD{a b:Str}(h1:ltS a b=O1)(g:ltS b c=O1):ltS a c=O1:=by
 unfold ltS at *;exact ZI (List.lt_trans (WJ h1) (WJ g))
def cZ{a b:Str}(h1:ltS a b=O2)(G:a≠b):ltS b a=O1:=by
 unfold ltS at *;have g:=of_decide_eq_false h1;have T:b.cps.toList<=a.cps.toList:=Ki.mp g
 rcases Decidable.em (b.cps.toList<a.cps.toList) with h | h
 .exact ZI h
 .exfalso;have z:a.cps.toList<=b.cps.toList:=Ki.mp h;have e:a.cps.toList=b.cps.toList:=List.le_antisymm z T;apply G;cases a;cases b;simp at e;rw[e]
def Up(l:List Str):Prop:=l.Pairwise λa b=>ltS a b=O1
theorem Ug(x y:Str):∀l:List Str,y∈ZT x l↔y=x∨y∈l
 |[]=>by simp[ZT]
 |z::r=>by
  unfold ZT;split
  .simp
  .split
   .rename_i _ e;subst e;simp
   .simp[Ug x y r];constructor
    .rintro (h | h | h)
     .exact .inr (.inl h)
     .exact .inl h
     .exact .inr (.inr h)
    .rintro (h | h | h)
     .exact .inr (.inl h)
     .exact .inl h
     .exact .inr (.inr h)
theorem cg(x:Str):∀{l:List Str},Up l->Up (ZT x l)
 |[],_=>by simp[ZT,Up]
 |z::r,h=>by
  obtain⟨J,O⟩:=kL.mp h;unfold ZT;split
  .rename_i G;exact kL.mpr ⟨λy g=>by
    rcases bp.mp g with rfl | g
    .exact G
    .exact RD G (J y g),h⟩
  .rename_i L;split
   .exact h
   .rename_i I;refine kL.mpr ⟨λy g=>?_,cg x O⟩
    rcases (Ug x y r).mp g with rfl | g
    .exact cZ (by simpa using L) I
    .exact J y g
def QG(l:List Str):Up (Gh l):=by
 unfold Gh
 induction l with
 |nil=>exact AT
 |cons x r g=>exact cg x g
def Nv(y:Str)(l:List Str):y∈Gh l↔y∈l:=by
 unfold Gh
 induction l with
 |nil=>simp
 |cons x r g=>rw[AU,Ug,g];simp
def mW{l:List Str}(h:Up l):l.Nodup:=h.imp λ{a b} O e=>by
 subst e;rw[Kz] at O;cases O
theorem sub_len:∀{l m:List Str},l.Nodup->(∀x∈l,x∈m)->l.length<=m.length
 |[],_,_,_=>fE _
 |x::r,m,h,hs=>by
  obtain⟨I,G⟩:=ly.mp h;have z:x∈m:=hs x df;have:=sub_len (l:=r) (m:=m.erase x) G λy g=>(AV (λe=>by subst e;exact I g)).mpr (hs y (cw _ g));rw[AW z] at this;have J:0<m.length:=AX z;simp;omega
theorem aJ:∀{l m:List Str},Up l->Up m->(∀x,x∈l↔x∈m)->l=m
 |[],[],_,_,_=>rfl
 |[],y::s,_,_,h=>by have:=(h y).mpr df;simp at this
 |x::r,[],_,_,h=>by have:=(h x).mp df;simp at this
 |x::r,y::s,J,I,h=>by
  obtain⟨S,L⟩:=kL.mp J;obtain⟨b1,b2⟩:=kL.mp I;have e:x=y:=by
   rcases bp.mp ((h x).mp df) with e | G
   .exact e
   .rcases bp.mp ((h y).mpr df) with e | g
    .exact e.symm
    .have:=RD (S y g) (b1 x G);rw[Kz] at this;cases this
  subst e;have:r=s:=aJ L b2 λz=>by
   constructor
   .intro O
    rcases bp.mp ((h z).mp (cw _ O)) with e | q
    .subst e;have:=S z O;rw[Kz] at this;cases this
    .exact q
   .intro O
    rcases bp.mp ((h z).mpr (cw _ O)) with e | q
    .subst e;have:=b1 z O;rw[Kz] at this;cases this
    .exact q
  rw[this]
theorem cu:E8 "set_iterator" "__iter__" "set_iterator.__iter__":=
 .of (owner:="set_iterator") (n:="__iter__") (by rw[typeLookup_type,JY];kernel_rfl) (by decide +kernel) (by decide +kernel) (by decide +kernel) (by first | exact .inl (by decide +kernel) | exact .inr (by decide +kernel)) (by rw[pT];kernel_rfl)
def mX:xw table "set_iterator.__iter__"=O0 eK.«dict_keyiterator.__iter__»:=entryFor_alias (id':="dict_keyiterator.__iter__") (by kernel_rfl) rfl (by decide +kernel) (by kernel_rfl)
theorem t8(a:ac):nN "set_iterator.__iter__" ⟨[a],[]⟩:=by
 unfold nN;rw[signature?_of (id:="set_iterator.__iter__") (n:=['_','_','r','e','t','i','_','_']) (o:=['r','o','t','a','r','e','t','i','_','t','e','s']) (by kernel_rfl) lH]
 kernel_rfl
def W7:xw table "set.__iter__"=O0 eK.«frozenset.__iter__»:=entryFor_alias (id':="frozenset.__iter__") (by kernel_rfl) rfl (by decide +kernel) (by kernel_rfl)
section
variable {A:aT}{I T:Addr}{first:ac}{t:SetTable}
theorem JP{g:Type}:∀{l:List g}{i:Nat}(h:i<l.length),(l[i]::l.eraseIdx i).Perm l
 |x::r,0,_=>xL _
 |x::r,i+1,h=>(Kj x (r[i]'(by simpa using h)) _).trans (AY x (JP (by simpa using h)))
def mY{g:Source}{Q:Nat->ai->Prop}(z:n≠0)(k:∀i d,i<n->Q i { s with drawn:=d }):ah M A (choose g n) Q E s:=λG p _=>by
 show Sem.wp M G (.choose g n .pure) _ _ p s;rw[Sem.wp_choose];exact⟨z,k _ _ (AZ _ (Kk z))⟩
theorem Uh{g:Type}{M:Model}:∀(m:Nat) (xs:List g) (s:ai) {Q:List g->ai->Prop},xs.length=m->(∀ys d,ys.Perm xs->Q ys { s with drawn:=d })->ah M A (drawOrder m xs) Q E s
 |0,xs,s,Q,Y,k=>by
  have:xs=[]:=pw.mp Y;subst this;exact aw (k [] s.drawn (xL _))
 |m+1,[],s,Q,Y,k=>by simp at Y
 |m+1,x::r,s,Q,Y,k=>by
  show ah M A (choose .order (x::r).length >>= _) Q E s;refine ag (mY .(1) λi d G=>?_);have W:(x::r)[i]?=O0 (x::r)[i]:=by simp
  simp only[W];refine ag (Uh m ((x::r).eraseIdx i) _ (by rw[Kn,VI G];simp at Y ⊢;omega) λys J z=>aw (k _ J ?_));exact (AY _ z).trans (JP G)
def Vv{g:Type}(f:Nat->Nat)(xs:Array g):(qa f xs).toList.Perm xs.toList:=by
 have L:∀(m k:Nat) (l:List g) (W:Array g),l.length=m->(EE f m k l W).toList.Perm (W.toList++l):=by
  intro m
  induction m with
  |zero=>intro k l W Y;have:l=[]:=pw.mp Y;subst this;simp[EE]
  |succ m z=>
   intro k l W Y;have G:f k%l.length<l.length:=AZ _ .(0);have J:l[f k%l.length]?=O0 l[f k%l.length]:=by simp[G]
   unfold EE;simp only[J];refine (z _ _ _ (by rw[Kn,VI G];omega)).trans ?_;rw[Array.toList_push,E5];exact List.Perm.append_left _ (JP G)
 have:=L xs.size 0 xs.toList #[] .(1);simpa [qa] using this
theorem Mg.keep(y:Mg h q es ep t)(e:∀o,h.get? q=O0 o->h'.get? q=O0 o):Mg h' q es ep t:=let ⟨o,g,r⟩:=y;⟨o,e o g,r⟩
theorem WO.keep(x:WO h I q first j n ep)(e:∀o,h.get? I=O0 o->h'.get? I=O0 o):WO h' I q first j n ep:=let ⟨o,g,r⟩:=x;⟨o,e o g,r⟩
def t_(x:WO s.heap I q first j n ep)(k:Q (.ref I) s):ah (av prog w) A (om (.ref I)) Q E s:=by
 refine Kt x.ty cu (iF cu x.ty mX ?_ (t8 _));show ah _ _ (ret (.ref I)) _ _ s;exact aw ⟨_,rfl,"set_iterator",_,x.ty,Nu.lookup,k⟩
end
section
variable {A:aT}{I T:Addr}
theorem mZ{Q:Bool->ai->Prop}(ty:s.TypeIs (.ref q) "set")(k:Q O2 s):ah (av prog w) A (KA (.ref q)) Q E s:=by
 unfold KA;refine ag (n9 ty F.slot_set_len.lookup ?_);generalize L:("set.__len__":String)=sid
 wp_delta
 rw[show splitId sid=O0 ("set","__len__") by subst L;decide +kernel];subst L;refine ag (sM (T:="set") (b:=O1) ty (by rw[pT];kernel_rfl) ?_);refine wpAny_ite_split (λz=>XI z .(2)) λ_=>wpAny_ite_split (λ_=>ag (xh ty (aw k))) λz=>XI (by decide +kernel) z
end
theorem QH:∀{r:List Str}{p:Str},KB p r=O1->(p::r).Nodup->Up (p::r)
 |[],p,_,_=>by simp[Up]
 |x::r,p,h,g=>by
  unfold KB at h;rw[eI] at h;obtain⟨G,z⟩:=h;obtain⟨n1,n2⟩:=ly.mp g;have u:=QH z n2;have lt:ltS p x=O1:=cZ (by unfold ltS;simpa [PyProof.Rows.ltCps_eq] using G) (λe=>n1 (by rw[<-e];exact df));refine kL.mpr ⟨λy m=>?_,u⟩
  rcases bp.mp m with e | m
  .rw[e];exact lt
  .exact RD lt ((kL.mp u).1 y m)
def W8{l:List Str}(h:PyProof.Rows.sortedS l=O1)(g:l.Nodup):Up l:=by
 cases l with
 |nil=>exact AT
 |cons p r=>exact QH h g
open L2
section
variable {G:Gx}{a:Expr}{fa:FE}
theorem Vw:∀{xs:List Str}{us:List ac},B0 us xs->fc (xs.map V.str) us
 |_,_,.nil=>.nil
 |_,_,.cons _ u r=>.cons ⟨u,rfl⟩ (Vw r)
def mj{ds:List D}{g:List Str}(r:bc G H xs ds)(h:Ob ds=O0 g):xs=g.map V.str:=Yp r h
end
def MM{g:Type}[DecidableEq g](k:g):List (g×D)->Option D
 |[]=>W1
 |p::r=>if p.1=k then O0 p.2 else MM k r
def VQ{g:Type}[DecidableEq g](k:g)(v:D):List (g×D)->List (g×D)
 |[]=>[]
 |p::r=>(p.1,if p.1=k then v else p.2)::VQ k v r
def QU{z:Type}[DecidableEq z](k:z)(v:D)(g:List (z×D)):List (z×D):=if (MM k g).isSome then VQ k v g else g++[(k,v)]
def Re:D->Option Key
 |.int i=>O0 (.inl i)
 |.str x=>O0 (.inr x)
 |_=>W1
def Mj:List D->Option (List Key)
 |[]=>O0 []
 |d::r=>(Re d).bind λk=>(Mj r).map (k::·)
section
variable {κ:Type} [DecidableEq κ] {G:Gx}
theorem Nx{k:κ}:∀{g:List (κ×D)}{kvs:List (κ×V)},kvs.map (·.1)=g.map (·.1)->bc G H (kvs.map (·.2)) (g.map (·.2))->(∀d,MM k g=O0 d->∃v,Pl kvs k=O0 v/\jl G H v d)/\(Pl kvs k).isSome=(MM k g).isSome
 |[],kvs,e,r=>by
  cases kvs with
  |nil=>exact⟨λd h=>by simp[MM] at h,rfl⟩
  |cons p q=>simp at e
 |p::g,kvs,e,r=>by
  cases kvs with
  |nil=>simp at e
  |cons q kvs=>
   rw[bb,bb] at e;injection e with J e2
   rw[bb,bb] at r;obtain⟨x,Y,W,S,O⟩:=r.uncons;injection W with U e5
   subst U e5;have T:=Nx (k:=k) e2 O
   by_cases h:p.1=k
   .have L:q.1=k:=J.trans h;rw[Pq L];refine⟨λd I=>?_,?_⟩
    .simp only[MM,VI h] at I;cases I;exact⟨_,rfl,S⟩
    .simp[MM,VI h]
   .have L:¬ q.1=k:=λz=>h (J.symm.trans z);rw[Pu L];simp only[MM,WI h];exact T
theorem dB{k:κ}{v:V}{d:D}(S:jl G H v d):∀{g:List (κ×D)}{kvs:List (κ×V)},kvs.map (·.1)=g.map (·.1)->bc G H (kvs.map (·.2)) (g.map (·.2)) ->
  (kvs.map λI=>if I.1=k then (I.1,v) else I).map (·.1)=(VQ k d g).map (·.1)/\bc G H ((kvs.map λI=>if I.1=k then (I.1,v) else I).map (·.2)) ((VQ k d g).map (·.2))
 |[],kvs,e,r=>by
  cases kvs with
  |nil=>exact⟨rfl,bc.nil⟩
  |cons p q=>simp at e
 |p::g,kvs,e,r=>by
  cases kvs with
  |nil=>simp at e
  |cons q kvs=>
   rw[bb,bb] at e;injection e with O e2
   rw[bb,bb] at r;obtain⟨x,Z,Y,U,T⟩:=r.uncons;injection Y with W e5
   subst W e5;have J:=dB S (k:=k) e2 T
   by_cases h:p.1=k
   .have L:q.1=k:=O.trans h;refine⟨?_,?_⟩
    .simp only[bb,VI L,VQ];rw[J.1,O]
    .simp only[bb,VI L,VQ,VI h];exact .cons S J.2
   .have L:¬ q.1=k:=λz=>h (O.symm.trans z);refine⟨?_,?_⟩
    .simp only[bb,WI L,VQ];rw[J.1,O]
    .simp only[bb,WI L,VQ,WI h];exact .cons U J.2
def W9{k:κ}{d:D}(J:jl G H v d){g:List (κ×D)}{kvs:List (κ×V)}(e:kvs.map (·.1)=g.map (·.1))(r:bc G H (kvs.map (·.2)) (g.map (·.2))):
  (Pm kvs k v).map (·.1)=(QU k d g).map (·.1)/\bc G H ((Pm kvs k v).map (·.2)) ((QU k d g).map (·.2)):=by
 unfold Pm QU;rw[Tr,(Nx (k:=k) e r).2];split
 .exact dB J e r
 .rw[dP,dP,dP,dP,e];exact⟨rfl,r.append (.cons J .nil)⟩
end
def Ys{G:Gx}{d:D}{k:Key}(r:rc G A H v d)(h:Re d=O0 k):v=kV k:=by
 cases d with
 |int i=>cases h;exact r.int
 |str x=>cases h;exact r.str
 |_=>cases h
def Ny{G:Gx}{d:D}{k:Key}(r:jl G H v d)(h:Re d=O0 k):v=kV k:=by
 cases d with
 |int i=>cases h;cases r;rfl
 |str x=>cases h;cases r;rfl
 |_=>cases h
theorem RG{G:Gx}{H:Hp}:∀{ds:List D}{vs:List V}{ks:List Key},bc G H vs ds->Mj ds=O0 ks->vs=ks.map kV
 |[],vs,ks,r,h=>by cases h;exact r.nil_inv
 |d::ds,vs,ks,r,h=>by
  obtain⟨x,L,rfl,I,O⟩:=r.uncons;cases g:Re d with
  |none=>simp[Mj,g] at h
  |some k=>
   cases z:Mj ds with
   |none=>simp[Mj,g,z] at h
   |some J=>
    simp[Mj,g,z] at h;subst h;rw[Ny I g,RG O z];rfl
section
variable {G:Gx}{a b c:Expr}{fa fb:FE}
def Ui:PN X G (.Dict [] [] pos) (kF (.dk [])):=λA=>CT jr<|by
 rintro g H Q ⟨I,d,o,e,k⟩
 cases e;exact λp z=>k p _ (Al z _) z ⟨[],Ak,rfl,bc.nil⟩
def AAn:PN X G (.Dict [] [] pos) (kF (.dt [])):=λA=>CT jt<|by
 rintro g H Q ⟨I,d,o,e,k⟩
 cases e;exact λp z=>k p _ (Al z _) z ⟨[],Ak,rfl,bc.nil⟩
theorem PN.pf(h:PN X G a fa):PF X G a fa:=λA π s σ H Q I ⟨ρ,d,o,e,k⟩=>
 lu (@h A π s σ H (λv H'=>∃p,v=.ref p/\af H H'/\H p=W1/\Nd G (p::A) H' p d) I ⟨ρ,d,o,e,λp H' U Z t=>⟨p,rfl,U,Z,t⟩⟩)<|by
  rintro u s1 ⟨v,g,I1,W,p,ev,U,Z,t⟩
  subst ev;have J:p∉A:=λz=>(o.live p z).ne Z;have up:∀ob,af (be (p::A) g) (be A (gq g p ob)):=λob=>by
   rw[<-Eo (A:=p::A) (H:=g) (o:=ob) (df ..)];exact DW λb L=>cw _ L
  have T:∀ob,af H (gq g p ob):=λob b u L=>by
   rw[Am (λz:b=p=>by rw[z,Z] at L;cases L)];exact U b u L
  cases d with
  |lst ds=>
   obtain⟨xs,S,O⟩:=t;have q:=O.mono (DW (A:=A) (B:=p::A) (H:=g) λb L=>cw _ L);exact⟨_,g,I1,W,k _ g U (.lst (.of (by rw[A_ J];exact S)) q.1 q.2)⟩
  |dk ds=>
   obtain⟨xs,S,O,Y⟩:=t;obtain⟨ob,I2⟩:=Inv.frzK I1 S;exact⟨_,_,I2,W,k _ _ (T _) (.dk (by rw[A_ J];exact Ak) O (Y.mono (up _)).2)⟩
  |dt ds=>
   obtain⟨xs,S,O,Y⟩:=t;obtain⟨ob,I2⟩:=Inv.frzT I1 S;exact⟨_,_,I2,W,k _ _ (T _) (.dt (by rw[A_ J];exact Ak) O (Y.mono (up _)).2)⟩
  |ob c gs=>
   obtain⟨C,dx,xs,S,O,Y⟩:=t;have q:=Y.mono (DW (A:=A) (B:=p::A) (H:=g) λb L=>cw _ L);exact⟨_,g,I1,W,k _ g U (.ob O.1 (by rw[A_ J];exact S) O.2 q.2)⟩
  |_=>exact t.elim
def rDIn(g:Bool):R2:=λx y H Q=>∃a kvs k,y=.ref a/\Rd H a (.dK kvs)/\x=kV k/\Q (.bl (if g then !(Pl kvs k).isSome else (Pl kvs k).isSome)) H
def aK(S:X.A.units+1<bv):NR X (db .In) (rDIn O2):=by
 intro O s J H x y v u Q I rx z h;obtain⟨a,g,k,rfl,e,rfl,q⟩:=h;cases z;exact d_in S I (.inl ⟨g,k,e,rfl,rfl⟩) rx λT L=>⟨.bl _,H,L,rfl,q⟩
def iG(S:X.A.units+1<bv):NR X (db .NotIn) (rDIn O1):=by
 intro O s J H x y v u Q I rx z h;obtain⟨a,g,k,rfl,e,rfl,q⟩:=h;cases z;exact rZ S I (.inl ⟨g,k,e,rfl,rfl⟩) rx λT L=>⟨.bl _,H,L,rfl,q⟩
def inE(g:Bool)(x y:D):Option D:=match y with
 |.dk z=>(Re x).map λk=>.bl (if g then !(MM k z).isSome else (MM k z).isSome)
 |_=>inD g x y
def uA(g:Bool):Ea G (λx y H Q=>rInA G.K g x y H Q∨rDIn g x y H Q) (inE g):=by
 intro A H x y dx U d Q J rx I h k;unfold inE at h;split at h
 .rename_i L;cases e:Re dx with
  |none=>simp[e] at h
  |some q=>
   obtain⟨p,z,rfl,S,O,r⟩:=I.dk;have T:=(Nx (k:=q) O r).2;rw[e] at h;cases h;refine .inr ⟨p,z,q,rfl,S,Ys rx e,?_⟩;rw[T];exact k _ H (af.refl H) (.bl _)
 .exact .inl (yS g A H x y dx U d Q J rx I h k)
def rDIx:R2:=λx y H Q=>∃a kvs k v,x=.ref a/\Rd H a (.dK kvs)/\y=kV k/\Pl kvs k=O0 v/\Q v H
theorem AAo(hu:X.A.units+1<bv):IxR X rDIx:=by
 intro J L Z s Y H x y v u Q I rx ry h hs;obtain⟨a,U,k,z,rfl,e,rfl,l,q⟩:=h;cases rx;have g:DGet H a (kV k) (O0 z):=.inl ⟨U,k,e,rfl,l.symm⟩;have W:=YZ I g;unfold AD;refine ag ?_;rw[IH W.not_modules];refine ag (n9 W EF.lookup ?_);have O:ah (av X.prog X.w) X.A (xi L O2 (.ref a) u) (λr S=>ah (av X.prog X.w) X.A (letTemporaryGo J (.ref a) r >>= λ_=>pure r) (EP X Z Y Q) X.xe S) X.xe s:=by
  rw[hs];exact wpAny_operating (gW hu I g ry λw' s3 I3 T=>ag (II (aw ⟨z,H,I3,T,q⟩)))
 first
  |exact aw (ag O)
  |exact ag (aw (ag O))
  |exact ag O
def im(x y:D):Option D:=match x with
 |.dk g=>(Re y).bind λk=>MM k g
 |_=>ixD x y
def uB:Ea G (λx y H Q=>rIx G.K x y H Q∨rDIx x y H Q) im:=by
 intro A H x y dx I d Q L rx z h k;unfold im at h;split at h
 .rename_i O;cases e:Re I with
  |none=>simp[e] at h
  |some q=>
   obtain⟨p,g,rfl,U,S,r⟩:=rx.dk;simp[e] at h;obtain⟨v,T,J⟩:=(Nx (k:=q) S r).1 d h;exact .inr ⟨p,g,q,v,rfl,U,Ys z e,T,k v H (af.refl H) J⟩
 .exact .inl (kE A H x y dx I d Q L rx z h k)
theorem yg(S:X.A.units+1<bv)(W:G.K=X.K)(ha:PU X G a fa)(hb:PU X G b fb)(hs:Pk b):PF X G (.Subscript a b pos) (bF im fa fb):=
 λA=>CT (vV (r:=λx y H Q=>rIx X.K x y H Q∨rDIx x y H Q) (jh.or (AAo S)) (@ha A) (@hb A) hs) λ_ _ _ h=>T5 (by rw[<-W];exact uB) h
def Dt(x y v:D):Option D:=match x with
 |.dk g=>(Re y).bind λk=>if g.length<sizeLine then O0 (.dk (QU k v g)) else W1
 |_=>W1
def putF(i:Nat)(I g:FE):FS:=λρ=>(g ρ).bind λv=>(I ρ).bind λy=>(Zl ρ i).bind λx=>(Dt x y v).map λz=>.nx (ρ.set i (.ow z))
def iH{ρ:Rho}{o:So}(h:putF i fa fb ρ=O0 o):∃v y x z,fb ρ=O0 v/\fa ρ=O0 y/\ρ[i]?=O0 (.ow x)/\Dt x y v=O0 z/\o=.nx (ρ.set i (.ow z)):=by
 unfold putF at h;cases g:fb ρ with
 |none=>simp[g] at h
 |some v=>
  cases J:fa ρ with
  |none=>simp[g,J] at h
  |some y=>
   cases I:Zl ρ i with
   |none=>simp[g,J,I] at h
   |some x=>
    cases U:Dt x y v with
    |none=>simp[g,J,I,U] at h
    |some z=>
     simp[g,J,I,U] at h;exact⟨v,y,x,z,rfl,rfl,Q9 I,U,h.symm⟩
theorem K1(hu:X.A.units+1<bv)(hv:PE X (.Name x xpos) (TL i))(ha:PF X G a fa)(hb:PF X G b fb)(hs:eP b (O0 (.Subscript (.Name x xpos) a spos)) pos.line X.env=pure O2:=by rfl):UR X G (.Assign [.Subscript (.Name x xpos) a spos] b pos) (putF i fa fb):=by
 rintro A0 He π s σ H D I ⟨O,o,⟨A,w⟩,e,k⟩
 obtain⟨v,y,x0,z,e1,e2,Y,g,rfl⟩:=iH e;refine Wm hu hv (@ha A) (@hb A) hs π s σ H D I ?_;unfold Dt at g;split at g
 .rename_i N0;cases U:Re y with
  |none=>simp[U] at g
  |some q=>
   simp only[U,dL] at g;split at g
   .rename_i hz;cases g;obtain⟨p,Z,hA,L,h2,W,r⟩:=w.ok.ow i _ Y;refine⟨O,v,w.ok,e1,λu H1 J r1=>⟨_,Z,O,y,(w.mono J).ok,e2,λyv H2 S r2=>?_⟩⟩;have ek:=Ny r2 U;subst ek;have hl:L.length<sizeLine:=by
     have:=NJ eJ W;rw[aE,aE] at this;omega
    refine⟨p,_,rfl,Ya.k (S _ _ (J _ _ h2)) hl,?_⟩;have w2:=(w.mono J).mono S;have T:=W9 (k:=q) (r1.mono (BP S)) W (r.mono (BP (J.trans S)));refine k _ _ ⟨A,w2.wr Y Z ⟨_,Ak,T.1,?_⟩⟩;rw[Eo hA];exact T.2
   .cases g
 .cases g
def Vx:D->Option D
 |.dk g=>O0 (.dk g)
 |_=>W1
def aL:D_ X (.type "dict") (λxs H Q=>∃a kvs,xs=[.ref a]/\Rd H a (.dK kvs)/\∀p,H p=W1->Q (.ref p) (gq H p (.dK kvs))):=by
 intro S s O H xs T Q I J h;obtain⟨a,kvs,rfl,e,q⟩:=h;obtain⟨u,rfl,z⟩:=J.one;cases z;exact ju I e λp U g L=>⟨.ref p,_,L,rfl,q p g⟩
def dC{p:Pos}(Z:Gl X x)(Y:X.mg x=W1)(U:d4 x=O0 (.type "dict"))(ha:PU X G a fa)(W:x≠"__name__":=by decide)(J:(x==("__debug__":Str))=O2:=by decide)(O:ay [a] X.env=[(O2,eval a X.env)]:=by rfl):PN X G (.Call (.Name x p) [a] [] pos) (uF Vx fa):=
 λA=>CT (HQ aL Z Y U (Ca (@ha A) Ei O) W J O rfl)<|by
  rintro σ H Q ⟨S,d,o,e,k⟩
  obtain⟨x0,e1,I⟩:=Gk e;unfold Vx at I;split at I
  .cases I;refine⟨S,_,o,e1,λv H1 L T=>?_⟩;obtain⟨q,g,rfl,h1,h2,r⟩:=T.dk;exact⟨q,g,rfl,h1,λp z=>k p _ (L.trans (Al z _)) (L.free z) ⟨g,Ak,h2,r.mono (JC (Al z _) z)⟩⟩
  .cases I
end
theorem QJ{I G:Type}{R:I->G->Prop}:∀{xs:List I}{ys:List G}{i:Nat}{x:I}{y:G},mh R xs ys->xs[i]?=O0 x->ys[i]?=O0 y->R x y
 |_,_,i,x,y,.nil,h,_=>by simp at h
 |_,_,0,x,y,.cons r _,z,g=>by
  simp at z g;rw[<-z,<-g];exact r
 |_,_,i+1,x,y,.cons _ t,z,g=>QJ t (by simpa using z) (by simpa using g)
def Itd(a:Addr)(o:Obj)(kvs:List (Key×V)):It:=
 ⟨λi H=>H a=O0 (.frz o (.dK kvs))/\i<kvs.length,λi H x g=>g=H/\∃p,kvs[i]?=O0 p/\x=kV p.1,λi H=>H a=O0 (.frz o (.dK kvs))/\kvs.length<=i⟩
def relK{k:Key}(h:(Av P w).is k u=O1):cc (kV k) u:=by
 rcases Bu h with ⟨i,t,rfl,rfl⟩ | ⟨x,t,rfl,rfl⟩
 .exact⟨t,rfl⟩
 .exact⟨t,rfl⟩
def RJ{kvs:List (Key×V)}{es:Array xt}(I:Inv X π σ H s)(e:H a=O0 (.frz o (.dK kvs)))(L:o.data=.dict es ep):
  (a==hU)=O2/\∃vs,KV kvs vs/\s.heap.DictAt (Av X.prog X.w) a vs ep:=by
 obtain⟨J,z,S,vs,G,Z,W,Y,g,U,O,T⟩:=(show Bg X.prog X.w H s.heap a (.frz o (.dK kvs)) from I.hok a _ e);rw[J] at g;cases g;rw[L] at O;cases O;exact⟨S,vs,G,o,es,J,U,L,T⟩
theorem iJ{K:aS}(a it:Addr){o:Obj}{es:Array xt}{ep:Nat}(hd:o.data=.dict es ep)(kvs:List (Key×V)):XW P w K tg (Itd a o kvs) [it] it (λi h=>h.IsKeyIter it a i kvs.length ep) where
 mem:=by simp
 obj:=λi h U b L=>by
  have e:b=it:=by simpa using L
  subst e;obtain⟨o,e,c,d⟩:=U;exact⟨o,e,λv z=>by rw[d] at z;cases z⟩
 keep:=λi h W U k=>let ⟨o,e,c,d⟩:=U;⟨o,k it .(1) o e,c,d⟩
 item:=by
  intro X hP hw hK hc i π s σ H E I T U hg;subst hP hw hK;obtain⟨he,S⟩:=hg;obtain⟨hm,g,G,dd⟩:=RJ I he hd;have Y:kvs.length=g.length:=G.length;obtain⟨f0,f1,f2,f3,f4,f5⟩:=T it .(1);have hv:g[i]?=O0 (g[i]'(by omega)):=by simp[show i<g.length by omega]
  have hk:kvs[i]?=O0 (kvs[i]'S):=by simp[S]
  have N0:(kvs[i]'S).1=(g[i]'(by omega)).1:=(QJ G hk hv).1;refine wpAny_pyNext_dict_item (knd:=Av X.prog X.w) (kvs:=g) (k:=(g[i]'(by omega)).1) (v:=(g[i]'(by omega)).2) (by rw[<-Y];exact U) dd hv λZ W O J sb=>?_;rw[<-Y] at J;have I1:Inv X π σ H { s with heap:=W }:=I.turned (t':=s.toks) (λb o L e=>(sb.2 b L).trans e) f0 f1 f3 f4 f5;obtain⟨o1,e1,c1,d1⟩:=id J;exact⟨Z,rfl,YQ (s:={ s with heap:=W }) e1 c1 d1 .(2) ⟨kV (kvs[i]'S).1,H,I1,by rw[N0];exact relK O,⟨rfl,_,hk,rfl⟩,J,λb L=>(T b L).1⟩⟩
 done:=by
  intro X hP hw hK hc i π s σ H E I T U hg;subst hP hw hK;obtain⟨he,S⟩:=hg;obtain⟨hm,g,G,dd⟩:=RJ I he hd;have Y:kvs.length=g.length:=G.length;obtain⟨f0,f1,f2,f3,f4,f5⟩:=T it .(1);exact wpAny_pyNext_dict_end (I.ok.hd hc) (by rw[<-Y];exact U) dd (by rw[pE];omega) λW eb=>⟨rfl,I.turned (t':=s.toks) (λb o L e=>eb b o L e) f0 f1 f3 f4 f5⟩
 self:=λ_ _ _ _ _ U h=>wpAny_pyIter_keyiter U h
section
variable {G:Gx}{a b:Expr}{fa:FE}{tl:TE}
def AAp(I:TE):TI:=λz H R=>I z H λx g=>∃a o kvs,x=.ref a/\g a=O0 (.frz o (.dK kvs))/\R (Itd a o kvs) g
theorem uC{l:Expr}(hl:PE X l tl):PI X tg l (AAp tl):=by
 intro Z s Y H R I h;refine lu (hl Z s Y H _ I h) λv z q0=>?_;obtain⟨x,T,J,r1,q1⟩:=q0;obtain⟨a,o,g,e,U,q⟩:=q1;subst e;cases r1;obtain⟨_,_,_,_,_,o',es,ep,L,h1,W,_⟩:=(show Bg X.prog X.w T z.heap a (.frz o (.dK g)) from J.hok a _ U);obtain⟨ho,_⟩:=(show Bg X.prog X.w T z.heap a (.frz o (.dK g)) from J.hok a _ U);rw[ho] at L;cases L;obtain⟨hm,vs,O,dd⟩:=RJ J U W;have S:g.length=vs.length:=O.length;refine wpAny_pyIter_dict hm dd ?_;refine⟨z.heap.objs.size,[z.heap.objs.size],_,_,T,rfl,J.kept (t':=z.toks) λb o e=>bo _ e,iJ a _ W g,⟨_,ce _ rfl,rfl,by rw[S];rfl⟩,λb hb=>?_,q⟩;have e:b=z.heap.objs.size:=by simpa using hb
 subst e;exact J.fpOk (aI _) (J.hok.fresh (aI _))
def UU:Key->D
 |.inl i=>.int i
 |.inr x=>.str x
def W_(k:Key):jl G H (kV k) (UU k):=by
 cases k with
 |inl i=>exact .int i
 |inr x=>exact .str x
def seqE(f:FE):FI:=λρ=>match f ρ with | some (.lst ds)=>O0 ds | some (.tup ds)=>O0 ds | some (.dk g)=>O0 (g.map λp=>UU p.1) | _=>W1
def mq{kvs:List (Key×V)}{g:List (Key×D)}(h:F1 p=O0 (.frz o (.dK kvs)))(e:kvs.map (·.1)=g.map (·.1)):Src G (Itd p o kvs) (g.map λp=>UU p.1) F1 F2:=by
 have Y:kvs.length=g.length:=by have:=NJ eJ e;rwa [aE,aE] at this
 refine⟨λi H s L=>⟨s _ _ h,by rw[Y];rwa [aE] at L⟩,λi H x U d s I y=>?_,λi H s L=>⟨s _ _ h,by rw[Y];rwa [aE] at L⟩⟩;obtain⟨T,q,Z,S⟩:=y;refine UG ⟨T,?_⟩;have J:(kvs.map (·.1))[i]?=O0 q.1:=by rw[cb,Z];rfl
 rw[e,cb] at J;rw[cb] at I;cases O:g[i]? with
 |none=>rw[O] at I;cases I
 |some z=>
  rw[O] at J I;cases I;injection J with J
  rw[S,<-J];exact W_ _
def my(W:G.K=X.K)(h:PF X G a fa):Sa X G O2 tg a (seqE fa):=λA=>UJ (piOr (su W h (A:=A)) (uC (@h A)))<|by
 rintro T H R ⟨z,U,o,e,k⟩
 unfold seqE at e;split at e
 .rename_i J g;cases e;exact .inl ⟨z,_,o,by unfold seqI;rw[g],k⟩
 .rename_i J g;cases e;exact .inl ⟨z,_,o,by unfold seqI;rw[g],k⟩
 .rename_i O g;cases e;refine .inr ⟨z,_,o,g,λv S I L=>?_⟩;cases L with
  |dk h l r=>exact⟨_,_,_,rfl,Ao _ _ h,k _ S I (mq h l)⟩
 .cases e
end
section
variable {A:aT}
theorem AAq{l:Addr}{its:Array ac}(ne:l≠it):∀(m i:Nat) (s:ai) (Q:List ac->ai->Prop),s.heap.IsListIter it l i->s.heap.IsList l its->i+m=its.size ->
  (∀h',h'.IsListIter it l its.size->ff it s.heap h'->Q (its.toList.drop i) { s with heap:=h' })->ah (av prog w) A (draw (.ref it) m) Q E s:=by
 intro m
 induction m with
 |zero=>
  intro i s Q L Y T k;refine aw ?_;have O:i=its.size:=by omega
  have e:its.toList.drop i=[]:=by rw[List.drop_eq_nil_iff];simp[O]
  rw[<-e];exact k s.heap (O▸L) (EG ..)
 |succ m S=>
  intro i s Q L Y T k;have lt:i<its.size:=by omega
  refine ag (m:=gI (.ref it)) (GY L Y (x:=its[i]) (by simp[lt]) λW J g=>?_);have G:W.IsList l its:=let ⟨o,e,r⟩:=Y;⟨o,(g.2 l ne).trans e,r⟩;refine ag (wpAny_holding (S (i+1) _ _ J G .(0) λU I z=>aw ?_));have e:its.toList.drop i=its[i]::its.toList.drop (i+1):=by simp[ub,lt]
  rw[<-e];exact k U I (g.trans z)
theorem uD{l:Addr}{its:Array ac}{Q:List ac->ai->Prop}(O:A.handled=W1)(Y:s.heap.IsList l its)(k:∀h',B1 s.heap.objs.size s.heap h'->Q its.toList { s with heap:=h' }):ah (av prog w) A (unpackItems (.ref l) its.size W1) Q E s:=by
 have ne:l≠s.heap.objs.size:=by obtain⟨o,L,_⟩:=Y;exact bS (br L)
 have ty:s.TypeIs (.ref l) "list":=let ⟨o,e,c,_⟩:=Y;⟨o,e,c⟩;unfold unpackItems notIterableAtAll;refine ag (ag (n9 ty PySem.F.slot_list_iter.lookup (aw ?_)));simp only[dQ,UK];refine ag (wpAny_holding (A8 Y ?_));have z:(s.heap.push { cls:=.type "list_iterator",data:=.fields #[.ref l,.int 0 0] }).IsList l its:=let ⟨o,e,r⟩:=Y;⟨o,bo _ e,r⟩;refine ag (wpAny_holding (AAq ne its.size 0 _ _ ⟨_,ce _ rfl,rfl,rfl⟩ z .(0) λT J g=>?_));rw[IQ,WI .(1)];have G:T.IsList l its:=let ⟨o,e,r⟩:=z;⟨o,(g.2 l ne).trans e,r⟩;refine ag (wpAny_holding (HA O J G .(1) λS U=>?_));simp only[Option.isSome_none,dQ,UK];exact aw (k S λb o I e=>U b o I ((g.2 b I).trans (bo _ e)))
end
section
variable {G:Gx}{a b:Expr}{fa:FE}{es:List Expr}
def gLst(K:aS)(n:Nat)(t:TGs):TG:=λv g H Q=>∃a xs,v=.ref a/\NS K H a xs/\xs.length=n/\t xs g H Q
theorem yh{k:Nat}{t:TGs}(hc:X.calm=O1)(h:PGs X es t)(Z:(i8 es X.env).length=n:=by rfl)(J:(i8 es X.env).findIdx? (·.1)=W1:=by rfl):PG X (.Tuple es k pos) (gLst X.K n t):=by
 intro O s L H v u Q I r z;obtain⟨a,T,rfl,Y,hl,z⟩:=z;cases r;obtain⟨g,S,W,hz⟩:=I.list Y;rw[assign_Tuple];refine ag (As ?_);unfold unpack;have e:(i8 es X.env).length=g.toArray.size:=by simp[Z,<-hl,S.length]
 rw[e,J];refine ag (wpAny_holding (uD (I.ok.hd hc) W.isList λh' U=>?_));have I1:Inv X O L H { s with heap:=h' }:=I.kept (t':=s.toks) λb o e=>U b o (bS (br e)) e;exact h O _ L H T _ Q I1 (by simpa using S) z
def PG.or{t t':TG}(h:PG X tg t)(h':PG X tg t'):PG X tg (λv σ H Q=>t v σ H Q∨t' v σ H Q):=λz s σ H v u Q I r q=>by
 rcases q with q | q
 .exact h z s σ H v u Q I r q
 .exact h' z s σ H v u Q I r q
abbrev FGs:=List D->Rho->Option Rho
def MY:FGs:=λds ρ=>match ds with | []=>O0 ρ | _=>W1
def Aw(i:Nat)(g:FGs):FGs:=λds ρ=>match ds with | d::r=>g r (ρ.set i (.fz d)) | []=>W1
def MV(n:Nat)(g:FGs):FG:=λd ρ=>match d with
 |.tup ds=>if ds.length=n then g ds ρ else W1
 |.lst ds=>if ds.length=n then g ds ρ else W1
 |_=>W1
def tGDs(G:Gx)(A0:List Addr)(J:Hp)(g:FGs):TGs:=λvs O H Q=>∃A ρ ds I,ON G A0 J A O H ρ/\bc G (be A H) vs ds/\g ds ρ=O0 I/\∀z L,XZ G A0 J z L I->Q z L
def PGDs(X:Cx)(G:Gx)(es:List Expr)(g:FGs):Prop:=∀⦃A0⦄ He,PGs X es (tGDs G A0 He g)
def Fw:PGDs X G [] MY:=by
 rintro Y W J s g H L O Q I r ⟨A,T,U,z,w,S,e,k⟩
 unfold MY at e;split at e
 .cases e;exact bT J s g H L O Q I r ⟨S.nil_inv,k _ _ ⟨A,w⟩⟩
 .cases e
def Ax{g:FGs}(h1:PG X e (Ft i))(h2:PGDs X G es g)(hs:(i8 (e::es) X.env).map (·.2)=mB e X.env::(i8 es X.env).map (·.2):=by rfl):PGDs X G (e::es) (Aw i g):=by
 rintro A0 Z O s L H vs T Q I r ⟨A,ρ,ds,z,w,U,e,k⟩
 unfold Aw at e;split at e
 .rename_i d J;obtain⟨x,S,rfl,Y,W⟩:=U.uncons;exact Th h1 (@h2 A0 Z) hs O s L H _ T Q I r ⟨x,S,rfl,A,_,J,z,w.set Y i,W,e,k⟩
 .cases e
def Hl{k:Nat}{g:FGs}(hG:G.K=X.K)(hc:X.calm=O1)(h:PGDs X G es g)(Z:(i8 es X.env).length=n:=by rfl)(J:(i8 es X.env).findIdx? (·.1)=W1:=by rfl):PGD X G (.Tuple es k pos) (MV n g):=by
 rintro A0 He π s σ H v u Q I r ⟨A,U,d,z,w,W,e,k⟩
 refine PG.or (jO hc (@h A0 He) Z J) (yh hc (@h A0 He) Z J) π s σ H v u Q I r ?_;unfold MV at e;split at e
 .rename_i T;split at e
  .rename_i Y;cases W with
   |tup S L O=>exact .inl ⟨_,_,rfl,by rw[<-hG];exact EY Ao S,by rw[L];exact Y,A,U,T,z,w,⟨L,O⟩,e,k⟩
  .cases e
 .rename_i T;split at e
  .rename_i Y;cases W with
   |lst S L O=>exact .inr ⟨_,_,rfl,by rw[<-hG];exact Ao.seq S,by rw[L];exact Y,A,U,T,z,w,⟨L,O⟩,e,k⟩
  .cases e
 .cases e
def UN(f:FE)(g:FG):FS:=λρ=>(f ρ).bind λd=>(g d ρ).map .nx
def XD{g:FG}(hg:PGD X G tg g)(ha:PF X G a fa)(hs:Co [tg] a pos.line X.env=pure O2:=by rfl)(Z:Ct [tg] a X.env=pure W1:=by rfl)(h1:(i8 [tg] X.env).map (·.2)=[mB tg X.env]:=by rfl):UR X G (.Assign [tg] a pos) (UN fa g):=by
 rintro A0 He U s T H D I ⟨z,o,⟨A,w⟩,e,k⟩
 unfold UN at e;cases J:fa z with
 |none=>simp[J] at e
 |some d=>
  cases S:g d z with
  |none=>simp[J,S] at e
  |some O=>
   simp[J,S] at e;subst e;exact jP (@ha A) (@hg A0 He) hs Z h1 U s T H D I ⟨z,d,w.ok,J,λv H1 W Y=>⟨A,z,d,O,w.mono W,Y,S,λL H' ok=>k L H' ok⟩⟩
def BZ:D_ X (.builtin "len") (λxs H Q=>∃a kvs,xs=[V.ref a]/\Rd H a (.dK kvs)/\Q (.int kvs.length) H):=by
 intro O s g H xs S Q I J h;obtain⟨a,kvs,rfl,e,q⟩:=h;obtain⟨u,rfl,z⟩:=J.one;cases z;exact AAg I e λt T L=>⟨.int kvs.length,H,L,⟨t,rfl⟩,q⟩
def wh:D->Option D
 |.dk g=>O0 (.int g.length)
 |d=>SW d
def CV:XY G (λxs H Q=>(∃x n,xs=[x]/\LenV G.K x H n/\Q (.int n) H)∨∃a kvs,xs=[V.ref a]/\Rd H a (.dK kvs)/\Q (.int kvs.length) H) wh:=by
 intro A H x dx d Q I rx h k;unfold wh at h;split at h
 .cases h;obtain⟨p,kvs,rfl,z,g,r⟩:=rx.dk;have Y:=NJ eJ g;rw[aE,aE] at Y;refine .inr ⟨p,kvs,rfl,z,?_⟩;rw[Y];exact k _ H (af.refl H) (.int _)
 .exact .inl (Sv A H x dx d Q I rx h k)
end
def Iti(a:Addr)(o:Obj)(kvs:List (Key×V)):It:=
 ⟨λi H=>H a=O0 (.frz o (.dK kvs))/\i<kvs.length,λi H x g=>∃T p,H T=W1/\kvs[i]?=O0 p/\x=.ref T/\g=gq H T (.tup [kV p.1,p.2]),λi H=>H a=O0 (.frz o (.dK kvs))/\kvs.length<=i⟩
theorem aM{K:aS}(a it:Addr){o:Obj}{es:Array xt}{ep:Nat}(hd:o.data=.dict es ep)(kvs:List (Key×V)):
  XW P w K (.Tuple elts x1 tp) (Iti a o kvs) [it] it (λi h=>∃ok L,IsItemIter h it a i kvs.length ep ok L) where
 mem:=by simp
 obj:=λi h U b J=>by
  have e:b=it:=by simpa using J
  subst e;obtain⟨ok,L,e⟩:=U;exact⟨_,e,λv z=>by
   have z':CB _=CC v:=z;cases z'⟩
 keep:=λi h h' U k=>let ⟨ok,L,e⟩:=U;⟨ok,L,k it .(1) _ e⟩
 item:=by
  intro X hP hw hK hc i π s σ H E I hf U hg;subst hP hw hK;obtain⟨he,O⟩:=hg;obtain⟨ok,L,U⟩:=U;obtain⟨hm,g,G,dd⟩:=RJ I he hd;have Y:kvs.length=g.length:=G.length;obtain⟨Z,f1,f2,f3,f4,f5⟩:=hf it .(1);have hv:g[i]?=O0 (g[i]'(by omega)):=by simp[show i<g.length by omega]
  have hk:kvs[i]?=O0 (kvs[i]'O):=by simp[O]
  obtain⟨X0,T0⟩:=QJ G hk hv;have S:it<s.heap.objs.size:=br U;refine wpAny_pyNext_items_item (knd:=Av X.prog X.w) (kvs:=g) (k:=(g[i]'(by omega)).1) (v:=(g[i]'(by omega)).2) (by rw[<-Y];exact U) dd hv λkey h1 T S0 ht hz kk=>?_;refine⟨_,rfl,wpAny_letOwnedTupleGo_items (s:={ s with heap:=h1 }) S0 λh2 N0 sb=>?_⟩;have hT:H s.heap.objs.size=W1:=I.hok.fresh (aI _);have rk:cc (kV (kvs[i]'O).1) key:=by rw[X0];exact relK T
  have I1:Inv X π σ (gq H s.heap.objs.size (.tup [kV (kvs[i]'O).1,(kvs[i]'O).2])) { s with heap:=s.heap.push { cls:=.type "tuple",data:=.seq #[key,(g[i]'(by omega)).2] } }:=
   I.laid (a:=s.heap.objs.size) (t':=s.toks) (λb u e=>bo _ e) (aI _) ⟨by show 2<=sizeLine;decide,[key,(g[i]'(by omega)).2],.cons rk (.cons T0 .nil),_,ce _ rfl,rfl,_,rfl⟩
  have kp:∀b u,b≠it->(s.heap.push { cls:=.type "tuple",data:=.seq #[key,(g[i]'(by omega)).2] }).get? b=O0 u->h2.get? b=O0 u:=λb u J e=>by
   refine (sb.2 b J).trans ?_
   rcases EH e with ⟨rfl,rfl⟩ | e'
   .exact ht
   .exact kk b u J e'
  have I2:=L2.Inv.turned (t':=s.toks) (it:=it) (h':=h2) I1 kp (by rw[Am (bS S)];exact Z) f1 f3 f4 f5;refine⟨.ref s.heap.objs.size,_,I2,rfl,⟨_,_,hT,hk,rfl,rfl⟩,⟨key,(g[i]'(by omega)).2,by rw[Y];exact N0⟩,λb J=>?_⟩;have e:b=it:=by simpa using J
  subst e;rw[Am (bS S)];exact Z
 done:=by
  intro X hP hw hK hc i π s σ H E I hf U hg;subst hP hw hK;obtain⟨he,O⟩:=hg;obtain⟨ok,L,U⟩:=U;obtain⟨hm,g,G,dd⟩:=RJ I he hd;have Y:kvs.length=g.length:=G.length;obtain⟨Z,f1,f2,f3,f4,f5⟩:=hf it .(1);exact wpAny_pyNext_items_end (I.ok.hd hc) (by rw[<-Y];exact U) dd (by rw[pE];omega) λh' eb=>⟨rfl,I.turned (t':=s.toks) (λb o J e=>eb b o J e) Z f1 f3 f4 f5⟩
 self:=by rintro _ _ _ _ _ ⟨ok,L,U⟩ h;exact PySem.W.kcp_self U h
section
variable {G:Gx}{a b:Expr}{fa:FE}{tl:TE}
def yj(I:TE):TI:=λz H R=>I z H λx g=>∃a o kvs,x=.ref a/\g a=O0 (.frz o (.dK kvs))/\R (Iti a o kvs) g
theorem mz{l:Expr}{J:Pos}(hl:PE X l tl)(S:gT l "items" X.env (eval l X.env)=eval l X.env:=by rfl)(O:(apos.endLine==J.line)=O1:=by rfl):
  PI X (.Tuple elts x1 tp) (.Call (.Attribute l "items" apos) [] [] J) (yj tl):=by
 intro π s σ H R I h;refine wpAny_Call_method (T:="dict") (id:="dict.items") S rfl O F.plainAttrs_dict KF F.type_dict_items (lu (hl π s σ H _ I h) λv z q0=>?_);obtain⟨x,Y,W,r1,q1⟩:=q0;obtain⟨a,o,g,e,hq,q⟩:=q1;subst e;cases r1;obtain⟨_,_,_,_,_,o',es,ep,U,h1,h2,_⟩:=(show Bg X.prog X.w Y z.heap a (.frz o (.dK g)) from W.hok a _ hq);obtain⟨ho,_⟩:=(show Bg X.prog X.w Y z.heap a (.frz o (.dK g)) from W.hok a _ hq);rw[ho] at U;cases U;obtain⟨hm,Z,N0,dd⟩:=RJ W hq h2;have S0:g.length=Z.length:=N0.length;have L:=dd.dictOf;refine⟨L.typeIs,L.mapOf.noDict,?_⟩;show ah _ _ (rf J (.builtin "dict.items") [.ref a] [] []) _ _ z;refine method_meetsIn KF F.entry_dict_items rfl (PySem.evalArgs_none ⟨rfl,L.typeIs,F.args_dict_items_1 _,_,meets_dict_items (Av X.prog X.w) a hm,⟨Z,L⟩,?_⟩);have I2:Inv X π σ Y { z with heap:=z.heap.push { cls:=.type "dict_items",data:=.fields #[.ref a] } }:=W.kept (t':=z.toks) λb o e=>bo _ e;refine wpAny_pyIter_items (knd:=Av X.prog X.w) (kvs:=Z) (s:={ z with heap:=z.heap.push { cls:=.type "dict_items",data:=.fields #[.ref a] } }) ⟨_,ce _ rfl,rfl,rfl⟩ (dd.push _) ?_;refine⟨(z.heap.push { cls:=.type "dict_items",data:=.fields #[.ref a] }).objs.size,[(z.heap.push { cls:=.type "dict_items",data:=.fields #[.ref a] }).objs.size],_,_,Y,rfl,I2.kept (t':=z.toks) λb o e=>bo _ e,aM a _ h2 g,⟨.none,.none,?_⟩,λb hb=>?_,q⟩
 .rw[S0];exact ce _ rfl
 .have e:b=(z.heap.push { cls:=.type "dict_items",data:=.fields #[.ref a] }).objs.size:=by simpa using hb
  subst e;exact I2.fpOk (aI _) (I2.hok.fresh (aI _))
def RK(f:FE):FI:=λρ=>match f ρ with | some (.dk g)=>O0 (g.map λp=>.tup [UU p.1,p.2]) | _=>W1
def m5{g z:Type}{f:g->z}{l:List g}{y:z}(h:(l.map f)[i]?=O0 y):∃x,l[i]?=O0 x/\f x=y:=by
 rw[cb] at h;exact ku.mp h
def iK{kvs:List (Key×V)}{g:List (Key×D)}(h:F1 p=O0 (.frz o (.dK kvs)))(e:kvs.map (·.1)=g.map (·.1))(r:bc G F2 (kvs.map (·.2)) (g.map (·.2))):
  Src G (Iti p o kvs) (g.map λp=>.tup [UU p.1,p.2]) F1 F2:=by
 have Y:kvs.length=g.length:=by have:=NJ eJ e;rwa [aE,aE] at this
 refine⟨λi H s J=>⟨s _ _ h,by rw[Y];rwa [aE] at J⟩,λi H x H' d s hd y=>?_,λi H s J=>⟨s _ _ h,by rw[Y];rwa [aE] at J⟩⟩;obtain⟨T,q,U,Z,rfl,rfl⟩:=y;obtain⟨z,O,rfl⟩:=m5 hd;have I:(kvs.map (·.1))[i]?=O0 q.1:=by rw[cb,Z];rfl
 rw[e,cb,O] at I;injection I with I
 have S:jl G F2 q.2 z.2:=r.2 i q.2 z.2 (by rw[cb,Z];rfl) (by rw[cb,O];rfl);refine⟨Al U _,λB lv L=>?_⟩;have W:bc G (be B H) [kV q.1,q.2] [UU z.1,z.2]:=.cons (by rw[<-I];exact W_ _) (.cons (S.mono L) .nil);exact Gb lv U W
def Vy{top:Bool}{J:Pos}(h:PF X G a fa)(g:gT a "items" X.env (eval a X.env)=eval a X.env:=by rfl)(z:(apos.endLine==J.line)=O1:=by rfl):
  Sa X G O2 (.Tuple elts x1 tp) (.Call (.Attribute a "items" apos) [] [] J) (RK fa):=λA=>UJ (mz (@h A) g z)<|by
 rintro W H R ⟨I,Y,o,e,k⟩
 unfold RK at e;split at e
 .rename_i S T;cases e;refine⟨I,_,o,T,λv U L O=>?_⟩;cases O with
  |dk h l r=>exact⟨_,_,_,rfl,Ao _ _ h,k _ U L (iK h l ⟨by have:=NJ eJ l;rwa [aE,aE] at this ⊢,r⟩)⟩
 .cases e
end
section
variable {G:Gx}{b:Expr}{fb:FE}{es:List Expr}{fs:FA}
theorem XF{P:cy}{w:bE}:∀{kvs:List (Key×V)}{us:List ac},us.length=kvs.length->(∀(j:Nat) u,us[j]?=O0 u->∃p,kvs[j]?=O0 p/\(Av P w).is p.1 u=O1)->fc (kvs.map λp=>kV p.1) us
 |[],us,Y,_=>by
  have:us=[]:=xS Y;subst this;exact .nil
 |p::kvs,[],Y,_=>by simp at Y
 |p::kvs,u::us,Y,h=>by
  obtain⟨q,g,I⟩:=h 0 u rfl;simp at g;subst g;exact .cons (relK I) (XF (P:=P) (w:=w) (by simpa using Y) λj v z=>by simpa using h (j+1) v (by simpa using z))
theorem K3(hc:X.calm=O1):D_ X (.type "list") (λxs H Q=>∃p kvs,xs=[.ref p]/\Rd H p (.dK kvs)/\∀l,H l=W1->Q (.ref l) (gq H l (.lst (kvs.map λq=>kV q.1)))):=by
 intro π s σ H xs us Q I r h;obtain⟨p,kvs,rfl,e,q⟩:=h;obtain⟨u,rfl,ru⟩:=r.one;cases ru;obtain⟨z,hd,O,g,L⟩:=Px I.hok e;obtain⟨Z,L⟩:=L.dictAt;have Y:kvs.length=O.length:=g.length;refine PySem.W.kdl_call (KG (knd:=Av X.prog X.w) (kvs:=O) (ep:=Z) hd) (I.ok.hd hc) L .(0) λh' tk J c' kp hn S=>?_;have va:fc (kvs.map λq=>kV q.1) J.toList:=by
  refine XF (P:=X.prog) (w:=X.w) (by simp[S.1,Y]) λj u hu=>?_;obtain⟨k,x,T,h2⟩:=S.2 j u (by simpa using hu);have U:j<kvs.length:=by rw[Y];exact (iL.mp T).1
  refine⟨kvs[j],by simp[U],?_⟩;rw[(QJ g (by simp[U]) T).1];exact h2
 exact⟨.ref s.heap.objs.size,_,I.laid (t':=tk) kp (aI _) (show Bg X.prog X.w _ h' _ (.lst (kvs.map λq=>kV q.1)) from⟨by rw[aE];exact z,J.toList,c',va,by simpa using hn⟩),rfl,q _ (I.hok.fresh (aI _))⟩
def QY:D->Option D
 |.dk g=>O0 (.lst (g.map λp=>UU p.1))
 |d=>j6 d
theorem m6{H:Hp}:∀{kvs:List (Key×V)}{g:List (Key×D)},kvs.map (·.1)=g.map (·.1)->bc G H (kvs.map λq=>kV q.1) (g.map λp=>UU p.1)
 |[],[],_=>bc.nil
 |[],_::_,h=>by simp at h
 |_::_,[],h=>by simp at h
 |p::kvs,q::g,h=>by
  rw[bb,bb] at h;injection h with z h2
  exact .cons (by show jl G H (kV p.1) (UU q.1);rw[z];exact W_ _) (m6 h2)
def RL:XY G (λxs H Q=>(∃p ys,xs=[.ref p]/\(NS G.K H p ys∨NO G.K H p ys)/\∀l,H l=W1->Q (.ref l) (gq H l (.lst ys)))∨∃p kvs,xs=[.ref p]/\Rd H p (.dK kvs)/\∀l,H l=W1->Q (.ref l) (gq H l (.lst (kvs.map λq=>kV q.1)))) QY:=by
 intro A H x dx d Q I rx h k;unfold QY at h;split at h
 .cases h;obtain⟨p,kvs,rfl,z,g,r⟩:=rx.dk;exact .inr ⟨p,kvs,rfl,z,λl Y=>k _ _ (Al Y _) (Ep I Y (m6 g))⟩
 .exact .inl (kZ A H x dx d Q I rx h k)
def QK(x:D)(ds:List D)(v:D):Option D:=match x with
 |.dt g=>(Mj ds).bind λk=>if g.length<sizeLine/\ds.length<=sizeLine then O0 (.dt (QU k v g)) else W1
 |_=>W1
def Yt(i:Nat)(I:FA)(g:FE):FS:=λρ=>(g ρ).bind λv=>(I ρ).bind λy=>(Zl ρ i).bind λx=>(QK x y v).map λz=>.nx (ρ.set i (.ow z))
def aN{ρ:Rho}{o:So}(h:Yt i fs fb ρ=O0 o):∃v y x z,fb ρ=O0 v/\fs ρ=O0 y/\ρ[i]?=O0 (.ow x)/\QK x y v=O0 z/\o=.nx (ρ.set i (.ow z)):=by
 unfold Yt at h;cases g:fb ρ with
 |none=>simp[g] at h
 |some v=>
  cases J:fs ρ with
  |none=>simp[g,J] at h
  |some y=>
   cases I:Zl ρ i with
   |none=>simp[g,J,I] at h
   |some x=>
    cases U:QK x y v with
    |none=>simp[g,J,I,U] at h
    |some z=>
     simp[g,J,I,U] at h;exact⟨v,y,x,z,rfl,rfl,Q9 I,U,h.symm⟩
theorem m8(hu:X.A.units+1<bv)(hv:PE X (.Name x xpos) (TL i))(ha:To X G es fs)(hb:PF X G b fb)(hs:eP b (O0 (.Subscript (.Name x xpos) (.Tuple es x1 tp) spos)) pos.line X.env=pure O2:=by rfl):UR X G (.Assign [.Subscript (.Name x xpos) (.Tuple es x1 tp) spos] b pos) (Yt i fs fb):=by
 rintro A0 He π s σ H D I ⟨W,o,⟨A,w⟩,e,k⟩
 obtain⟨v,y,x0,z,e1,e2,hi,g,rfl⟩:=aN e;refine Wm hu hv (Z5 (@ha A)) (@hb A) hs π s σ H D I ?_;unfold QK at g;split at g
 .rename_i N0;cases U:Mj y with
  |none=>simp[U] at g
  |some q=>
   simp only[U,dL] at g;split at g
   .rename_i hz;cases g;obtain⟨p,h1,hA,L,h2,hk,r⟩:=w.ok.ow i _ hi;refine⟨W,v,w.ok,e1,λu H1 J r1=>⟨_,h1,W,y,(w.mono J).ok,e2,λvs H2 S Y=>⟨by rw[Y.1];exact hz.2,λT hT=>?_⟩⟩⟩;have ek:=RG Y U;subst ek;have hl:L.length<sizeLine:=by
     have:=NJ eJ hk;rw[aE,aE] at this;omega
    have O:af H2 (gq H2 T (.tup (q.map kV))):=Al hT _;refine⟨p,_,rfl,Ya.t (O _ _ (S _ _ (J _ _ h2))) Ak hl,?_⟩;have w2:=((w.mono J).mono S).mono O;have Z:=W9 (k:=q) (r1.mono (BP (S.trans O))) hk (r.mono (BP (J.trans (S.trans O))));refine k _ _ ⟨A,w2.wr hi h1 ⟨_,Ak,Z.1,?_⟩⟩;rw[Eo hA];exact Z.2
   .cases g
 .cases g
end
section
variable {G:Gx}{a c:Expr}{fa:FE}{fs:FA}{src:FI}
def Sa.top(h:Sa X G O2 tg a src):Sa X G O1 tg a src:=λA=>UJ (@h A) λW H R ⟨I,S,o,e,k⟩=>
 ⟨I,S,o,e,λJ T L g=>k J T L ⟨λi H s z=>g.go i H (Ao.trans s) z,λi H x U d s O y=>g.yld i H x U d (Ao.trans s) O y,λi H s z=>g.stop i H (Ao.trans s) z⟩⟩
theorem rc.ob{A:List Addr}{H:Hp}{v:V}{c:Str}{L:List (Str×D)}(r:rc G A H v (.ob c L)):∃a C dx fs,v=.ref a/\G.cl c=O0 C/\H a=O0 (.ins C dx fs)/\fs.map (·.1)=L.map (·.1)/\bc G (be A H) (fs.map (·.2)) (L.map (·.2)):=by
 rcases r with r | ⟨a,e,C,dx,fs,h,k,r⟩
 .cases r with
  |ob J h l r=>
   have Y:=NJ eJ l;rw[aE,aE] at Y;exact⟨_,_,_,_,rfl,J,Ao _ _ h,l,by rw[aE,aE];exact Y,r⟩
 .exact⟨a,C,dx,fs,e,k.1,h,k.2,r⟩
def fk(f:Str):D->Option D
 |.ob _ L=>L.lookup f
 |_=>W1
theorem RM{H:Hp}{f:Str}{d:D}:∀{L:List (Str×D)}{fs:List (Str×V)},fs.map (·.1)=L.map (·.1)->bc G H (fs.map (·.2)) (L.map (·.2))->L.lookup f=O0 d->∃v,fs.lookup f=O0 v/\jl G H v d
 |[],fs,e,r,h=>by simp at h
 |p::L,[],e,r,h=>by simp at e
 |p::L,q::fs,e,r,h=>by
  rw[bb,bb] at e r;injection e with I e2
  obtain⟨x,T,S,g,O⟩:=r.uncons;injection S with U e5
  subst U e5;obtain⟨Y,W⟩:=p;obtain⟨q1,q2⟩:=q;simp only at I g;subst I
  by_cases z:f=q1
  .subst z;simp only[bX,NL,EI] at h ⊢;subst h;exact⟨q2,rfl,g⟩
  .have J:(f==q1)=O2:=beq_eq_false_iff_ne.mpr z;simp only[bX,J] at h ⊢;exact RM e2 O h
def BW(g:∀c C,G.cl c=O0 C->NW X.K C/\Bf X.K C f)(he:PU X G a fa)(S:gT a f X.env (eval a X.env)=eval a X.env:=by rfl):PF X G (.Attribute a f pos) (uF (fk f) fa):=
 λA=>CT (Z2 (@he A) S)<|by
  rintro Z H Q ⟨I,d,o,e,k⟩
  obtain⟨x0,W,z⟩:=Gk e;unfold fk at z;split at z
  .rename_i cn gs;refine⟨I,_,o,W,λv Y L O=>?_⟩;obtain⟨p,C,dx,fs,rfl,J,h,l,r⟩:=O.ob;obtain⟨v,U,T⟩:=RM (f:=f) (d:=d) l r z;exact⟨_,_,_,_,v,rfl,h,(g _ _ J).1,(g _ _ J).2,U,k v Y L T⟩
  .cases z
end
def Its(x:Str):It:=⟨λi _=>i<x.cps.size,λi H y g=>g=H/\∃c,x.cps[i]?=O0 c/\y=.str ⟨#[c]⟩,λi _=>x.cps.size<=i⟩
theorem Yu{K:aS}(it:Addr)(x:Str)(t:Tok)(ty:String)(W:∀A:aT,A.handled=W1->nV P w A it [it] [it] x.cps.size (SignAt x) (λi h=>h.IsStrIter it ty x t i))(hn:["enumerate","zip","dict_itemiterator","dict_reverseitemiterator","odict_iterator","itertools.zip_longest","itertools.pairwise"].contains ty=O2)(T:∀(A:aT),A.handled=W1->∀(i:Nat) (s:ai) (Q:Option ac->ai->Prop) (E:ac->ai->Prop),s.heap.IsStrIter it ty x t i->x.cps[i]?=W1->(∀h',B1 it s.heap h'->Q W1 { s with heap:=h' })->ah (av P w) A (gI (.ref it)) Q E s)(self:∀(A:aT) (i:Nat) (s:ai) (Q:ac->ai->Prop) (E:ac->ai->Prop),s.heap.IsStrIter it ty x t i->Q (.ref it) s->ah (av P w) A (om (.ref it)) Q E s):
  XW P w K tg (Its x) [it] it (λi h=>h.IsStrIter it ty x t i) where
 mem:=by simp
 obj:=λi h U b g=>by
  have e:b=it:=by simpa using g
  subst e;obtain⟨o,e,c,d⟩:=U;exact⟨o,e,λv z=>by rw[d] at z;cases z⟩
 keep:=λi h h' U k=>let ⟨o,e,c,d⟩:=U;⟨o,k it .(1) o e,c,d⟩
 item:=by
  intro X hP L Y S i π s σ H E I J U O;subst hP L Y;obtain⟨f0,f1,f2,f3,f4,Z⟩:=J it .(1);refine (W X.A (I.ok.hd S)).item i s _ _ O U λv h' tk hv G kk=>?_;obtain⟨c,u,e1,rfl⟩:=hv;have I1:Inv X π σ H { s with heap:=h',toks:=tk }:=I.turned (λb o g e=>kk b o (by simpa using g) e) f0 f1 f3 f4 Z;obtain⟨o1,e2,c1,d1⟩:=id G;exact⟨_,rfl,YQ (s:={ s with heap:=h',toks:=tk }) e2 c1 d1 hn ⟨.str ⟨#[c]⟩,H,I1,⟨u,rfl⟩,⟨rfl,c,e1,rfl⟩,G,λb g=>(J b g).1⟩⟩
 done:=by
  intro X hP L Y S i π s σ H E I J U O;subst hP L Y;obtain⟨f0,f1,f2,f3,f4,Z⟩:=J it .(1);exact T X.A (I.ok.hd S) i s _ _ U (by rw[Array.getElem?_eq_none_iff];exact O) λh' eb=>⟨rfl,I.turned (t':=s.toks) (λb o g e=>eb b o g e) f0 f1 f3 f4 Z⟩
 self:=λA i s Q E U h=>self A i s Q E U h
section
variable {G:Gx}{a b c:Expr}{fa:FE}{tl:TE}
def iStr(z:TE):TI:=λg H R=>z g H λx I=>∃y,x=.str y/\R (Its y) I
theorem yl{l:Expr}(hl:PE X l tl):PI X tg l (iStr tl):=by
 intro S s W H R I h;refine lu (hl S s W H _ I h) λv z q0=>?_;obtain⟨x,O,g,Z,q1⟩:=q0;obtain⟨y,e,q⟩:=q1;subst e;obtain⟨t,e⟩:=(show ∃t,v=sQ y t from Z);subst e;have fp:∀b∈[z.heap.objs.size],VX X S O b:=λb hb=>by
  have e:b=z.heap.objs.size:=by simpa using hb
  subst e;exact g.fpOk (aI _) (g.hok.fresh (aI _))
 cases T:y.cps.all (·<128)
 .exact wpAny_pyIter_wide T ⟨z.heap.objs.size,[z.heap.objs.size],_,_,O,rfl,g.kept (t':=z.toks) λb o e=>bo _ e,
   Yu _ y t "str_iterator" (λA Y=>Walks.strWide Y _ y t) .(2) (λ_ L _ _ _ _ U J k=>wpAny_pyNext_wide_end L U J k) (λ_ _ _ _ _ U h=>wpAny_pyIter_striter_wide U h),⟨_,ce _ rfl,rfl,rfl⟩,fp,q⟩
 .exact wpAny_pyIter_ascii T ⟨z.heap.objs.size,[z.heap.objs.size],_,_,O,rfl,g.kept (t':=z.toks) λb o e=>bo _ e,
   Yu _ y t "str_ascii_iterator" (λA Y=>Walks.strAscii Y _ y t) .(2) (λ_ L _ _ _ _ U J k=>wpAny_pyNext_ascii_end L U J k) (λ_ _ _ _ _ U h=>wpAny_pyIter_striter_ascii U h),⟨_,ce _ rfl,rfl,rfl⟩,fp,q⟩
def Yv(x:Str):List D:=x.cps.toList.map λc=>.str ⟨#[c]⟩
def uG:Src G (Its x) (Yv x) F1 F2:=by
 have Y:(Yv x).length=x.cps.size:=by unfold Yv;simp
 refine⟨λi H s g=>by rw[Y] at g;exact g,λi H y J d s I q=>?_,λi H s g=>by rw[Y] at g;exact g⟩;obtain⟨q1,c,q2,q3⟩:=q;refine UG ⟨q1,?_⟩;obtain⟨z,O,rfl⟩:=m5 I;have e:x.cps[i]?=O0 z:=by simpa using O
 rw[e] at q2;cases q2;rw[q3];exact .str _
def mu(f:FE):FI:=λρ=>match f ρ with | some (.str x)=>O0 (Yv x) | _=>seqE f ρ
def BJ(W:G.K=X.K)(h:PF X G a fa):Sa X G O2 tg a (mu fa):=λA=>UJ (piOr (my W h (A:=A)) (yl (@h A)))<|by
 rintro O H R ⟨g,S,o,e,k⟩
 unfold mu at e;split at e
 .rename_i x J;cases e;refine .inr ⟨g,_,o,J,λv L z I=>?_⟩;cases I;exact⟨_,rfl,k _ L z uG⟩
 .exact .inl ⟨g,_,o,e,k⟩
def RS:List D->Option (List Bool)
 |[]=>O0 []
 |.bl i::r=>(RS r).map (i::·)
 |_::_=>W1
theorem dD{H:Hp}:∀{ds:List D}{xs:List V}{bs:List Bool},bc G H xs ds->RS ds=O0 bs->xs=bs.map V.bl
 |[],xs,bs,r,h=>by cases h;exact r.nil_inv
 |d::ds,xs,bs,r,h=>by
  obtain⟨x,I,rfl,g,O⟩:=r.uncons;cases d with
  |bl i=>
   cases e:RS ds with
   |none=>simp[RS,e] at h
   |some z=>
    simp[RS,e] at h;subst h;cases g;rw[dD O e];rfl
  |_=>simp[RS] at h
theorem RN(hc:X.calm=O1):D_ X (.builtin "all") (λxs H Q=>∃(p:Addr) (bs:List Bool),xs=[.ref p]/\NS X.K H p (bs.map V.bl)/\Q (.bl (bs.all id)) H):=by
 intro π s σ H xs us Q I r h;obtain⟨p,bs,rfl,hs,k⟩:=h;obtain⟨u,rfl,O⟩:=r.one;cases O;obtain⟨g,W,pl,hz⟩:=I.list hs;have T:=pl.isList;have S:p≠s.heap.objs.size:=by obtain⟨o,ho,_⟩:=T;exact bS (br ho)
 have z:bs.length=g.length:=by have:=W.length;rwa [aE] at this
 refine call_all_walk (A8 T ?_);refine⟨_,_,_,_,_,_,λi=>bs.getD i O1,rfl,AQ (A:=X.A.in1) (I.ok.hd hc) s.heap.objs.size p S g.toArray,⟨⟨_,ce _ rfl,rfl,rfl⟩,T.push _⟩,?_,λh' tk kk=>?_⟩
 .intro i v s' Q' E' hv hq;have J:g[i]?=O0 v:=by simpa using hv
  have hlt':i<bs.length:=by rw[z];exact (iL.mp J).1
  obtain⟨u',Z,O⟩:=W.get (i:=i) (x:=.bl (bs[i]'hlt')) (by rw[cb];simp[hlt']);rw[J] at Z;cases Z;cases (show v=qS (bs[i]'hlt') from O);have e:bs.getD i O1=bs[i]'hlt':=by simp[EJ,hlt']
  have L:Q' (bs.getD i O1) s':=hq;rw[e] at L;exact jI L
 .refine⟨.bl (bs.all id),H,I.kept (λb o e=>kk b o ?_ (bo _ e)),?_,k⟩
  .intro U;have:b=s.heap.objs.size:=by simpa using U
   exact XI (br e) (by rw[this];exact kx _)
  .show qS _=qS _;congr 1;rw[cE,<-z];rw[ke,eS,eS];constructor
   .intro q b U;obtain⟨i,J,rfl⟩:=B2 U;have:=q i (cf.mpr J);simpa [EJ,J] using this
   .intro q i J;have Y:=cf.mp J;have:=q (bs[i]'Y) (gi Y);simpa [EJ,Y] using this
def allD:D->Option D
 |.lst ds=>(RS ds).map λbs=>.bl (bs.all id)
 |_=>W1
def XH:XY G (λxs H Q=>∃(p:Addr) (bs:List Bool),xs=[.ref p]/\NS G.K H p (bs.map V.bl)/\Q (.bl (bs.all id)) H) allD:=by
 intro A H x dx d Q J rx h k;unfold allD at h;split at h
 .rename_i I;cases e:RS I with
  |none=>simp[e] at h
  |some bs=>
   rw[e] at h;cases h;obtain⟨p,xs,rfl,g,r⟩:=rx.lst;have z:=dD r e;subst z;exact⟨p,bs,rfl,g,k _ H (af.refl H) (.bl _)⟩
 .cases h
def aO:d4 "all"=O0 (.builtin "all"):=by decide +kernel
end
section
variable {G:Gx}{a b:Expr}{fa:FE}
def Os(g:Bool):D->Option D
 |.non=>O0 (.bl (!g))
 |_=>O0 (.bl g)
def XJ{d:D}(r:rc G A H v d):(decide (v=.non))=(match d with | .non=>O1 | _=>O2):=by
 rcases r with r | ⟨p,e,r⟩
 .cases r<;>simp
 .subst e;cases d<;>first | exact r.elim | simp
def ym(ha:PU X G a fa):PF X G (.Compare a [.Is] [.Constant .none j p'] pos) (uF (Os O2) fa):=λA=>CT (xX (jH (@ha A)))<|by
 rintro T H Q ⟨I,d,o,e,k⟩
 obtain⟨g,S,O⟩:=Gk e;refine⟨I,g,o,S,λv z J L=>?_⟩;show Q (.bl (decide (v=.non))) z;rw[XJ L];cases g<;>(cases O;exact k _ z J (.bl _))
def uH(ha:PU X G a fa):Sn X G (.Compare a [.Is] [.Constant .none j p'] pos) (ui (uF (Os O2) fa)):=λA=>Yd (jJ (jH (@ha A)))<|by
 rintro T H Q ⟨z,b,o,e,k⟩
 obtain⟨g,O,L⟩:=Gk (T6 e);refine⟨z,g,o,O,λv S I J=>⟨_,rfl,?_⟩⟩;rw[XJ J];cases g<;>(cases L;exact k S I)
def Yw(ha:PU X G a fa):Sn X G (.Compare a [.IsNot] [.Constant .none j p'] pos) (ui (uF (Os O1) fa)):=λA=>Yd (jJ (rC (@ha A)))<|by
 rintro T H Q ⟨z,b,o,e,k⟩
 obtain⟨g,O,L⟩:=Gk (T6 e);refine⟨z,g,o,O,λv S I J=>⟨_,rfl,?_⟩⟩;rw[XJ J];cases g<;>(cases L;exact k S I)
end
section
variable {G:Gx}{b c:Expr}
def Of(x d:D):Bool:=match Sk 62 d x with | some b=>b | none=>O2
def SR(x d:D):Bool:=(Sk 62 d x).isSome
def rInP(G:Gx)(g:Bool):R2:=λx y H Q=>∃(A:List Addr) (as ds:List D),rc G A H x (.tup as)/\rc G A H y (.lst ds)/\ds.all (SR (.tup as))=O1/\Q (.bl (if g then !ds.any (Of (.tup as)) else ds.any (Of (.tup as)))) H
open Classical in
def dF(hG:G.K=X.K)(hu:X.A.units+64<bv){π:NU}{s:ai}{σ:St}{H:Hp}{A:List Addr}{x:V}{u:ac}{as ds:List D}{xs:List V}{g:List ac}(I:Inv X π σ H s)(rx:rc G A H x (.tup as))(ru:cc x u)(r:bc G (be A H) xs ds)(v:fc xs g)(hk:ds.all (SR (.tup as))=O1):
  ∃e:ac->Bool,(∀y,y∈g.toArray->mI X.A.in1 s y u (e y))/\g.toArray.any e=ds.any (Of (.tup as)):=by
 have Z:jl G H x (.tup as):=by
  rcases rx with q | ⟨p,_,q⟩
  .exact q.mono Ao
  .exact q.elim
 have one:∀(i:Nat) y,g[i]?=O0 y->∃d,ds[i]?=O0 d/\mI X.A.in1 s y u (Of (.tup as) d):=λi y L=>by
  have J:i<g.length:=(iL.mp L).1;have z:i<xs.length:=by rw[v.length];exact J
  have S:i<ds.length:=by rw[<-r.1];exact z
  obtain⟨y',W,U⟩:=v.get (i:=i) (x:=xs[i]) (by simp[z]);rw[L] at W;cases W;refine⟨ds[i],by simp[S],?_⟩;have kn:SR (.tup as) ds[i]=O1:=eS.mp hk _ (gi S);unfold SR at kn;obtain⟨b,hb⟩:=D5.mp kn;have eb:Of (.tup as) ds[i]=b:=by unfold Of;rw[hb]
  rw[eb];exact T9 I hG 62 X.A.in1 (by show X.A.units+1+62<bv;omega) hb ((r.2 i _ _ (by simp[z]) (by simp[S])).mono Ao) Z U ru
 refine⟨λy=>decide (∃(i:Nat) (d:D),g[i]?=O0 y/\ds[i]?=O0 d/\Of (.tup as) d=O1),λy L=>?_,?_⟩
 .by_cases h:∃(i:Nat) (d:D),g[i]?=O0 y/\ds[i]?=O0 d/\Of (.tup as) d=O1
  .obtain⟨i,d,W,U,h3⟩:=id h;obtain⟨d',Y,T⟩:=one i y W;rw[U] at Y;cases Y;rw[h3] at T;show mI X.A.in1 s y u (decide (∃(i:Nat) (d:D),g[i]?=O0 y/\ds[i]?=O0 d/\Of (.tup as) d=O1));rw[ZI h];exact T
  .obtain⟨i,J,rfl⟩:=B2 (show y∈g by simpa using L);have O:g[i]?=O0 g[i]:=dc J;obtain⟨d,Y,T⟩:=one i _ O;have h6:Of (.tup as) d=O2:=by
    cases q:Of (.tup as) d with
    |false=>rfl
    |true=>exact XI ⟨i,d,O,Y,q⟩ h
   rw[h6] at T;show mI X.A.in1 s g[i] u (decide (∃(j:Nat) (d:D),g[j]?=O0 g[i]/\ds[j]?=O0 d/\Of (.tup as) d=O1));rw[YI h];exact T
 .rw[ke,KI];rw[show g.toArray.any (λy=>decide (∃(i:Nat) (d:D),g[i]?=O0 y/\ds[i]?=O0 d/\Of (.tup as) d=O1))=g.any (λy=>decide (∃(i:Nat) (d:D),g[i]?=O0 y/\ds[i]?=O0 d/\Of (.tup as) d=O1)) by simp,KI];constructor
  .rintro⟨y,L,h⟩;obtain⟨i,d,W,U,h3⟩:=WJ h;exact⟨d,oS U,h3⟩
  .rintro⟨d,S,h⟩;obtain⟨i,J,rfl⟩:=B2 S;have z:i<g.length:=by rw[<-v.length,r.1];exact J
   exact⟨g[i],gi z,ZI ⟨i,_,dc z,dc J,h⟩⟩
def m9(W:G.K=X.K)(T:X.A.units+64<bv):NR X (db .In) (rInP G O2):=by
 intro π s σ H x y v u Q I rx g h;obtain⟨A,as,ds,J,O,U,k⟩:=h;obtain⟨c,ys,rfl,Z,q2⟩:=O.lst;cases g;obtain⟨L,z,S,_⟩:=I.list (by rw[<-W];exact Z);obtain⟨e,Y,ea⟩:=dF W T I J rx q2 z U;exact IA e S.isList Y ⟨.bl _,H,I,rfl,by rw[ea];exact k⟩
def iM(W:G.K=X.K)(T:X.A.units+64<bv):NR X (db .NotIn) (rInP G O1):=by
 intro π s σ H x y v u Q I rx g h;obtain⟨A,as,ds,J,O,U,k⟩:=h;obtain⟨c,ys,rfl,Z,q2⟩:=O.lst;cases g;obtain⟨L,z,S,_⟩:=I.list (by rw[<-W];exact Z);obtain⟨e,Y,ea⟩:=dF W T I J rx q2 z U;exact IB e S.isList Y ⟨.bl _,H,I,rfl,by rw[ea];exact k⟩
def Po(g:Bool)(x y:D):Option D:=match x,y with
 |.tup as,.lst ds=>if ds.all (SR (.tup as))=O1 then O0 (.bl (if g then !ds.any (Of (.tup as)) else ds.any (Of (.tup as)))) else W1
 |x,y=>inE g x y
def XM(g:Bool):Ea G (λx y H Q=>(rInA G.K g x y H Q∨rDIn g x y H Q)∨rInP G g x y H Q) (Po g):=by
 intro A H x y dx L d Q I rx z h k;unfold Po at h;split at h
 .split at h
  .rename_i J;cases h;exact .inr ⟨A,_,_,rx,z,J,k _ H (af.refl H) (.bl _)⟩
  .cases h
 .exact .inl (uA g A H x y _ _ d Q I rx z h k)
end
end PV
namespace PySem
open PySem.Spec
end PySem
namespace PV
open PySem L2
abbrev FZ:=Rho->Option (D×Rho)
abbrev FZA:=Rho->Option (List D×Rho)
open PySem.Spec
open PyProof.Rows hiding St
def Yx:d4 "tuple"=O0 (.type "tuple"):=by decide +kernel
def Gx.lend(G:Gx)(x:Addr):Gx:={ G with lent:=O0 x }
section
variable {G:Gx}{x:Addr}
def Nd.sub{d:D}(t:Nd G B H a d)(h:∀a∈A,a∈B):Nd G A H a d:=by
 cases d with
 |lst z=>obtain⟨g,q1,q2⟩:=t;exact⟨g,q1,q2.mono (DW h)⟩
 |dk z=>obtain⟨g,q1,q2,q3⟩:=t;exact⟨g,q1,q2,q3.mono (DW h)⟩
 |dt z=>obtain⟨g,q1,q2,q3⟩:=t;exact⟨g,q1,q2,q3.mono (DW h)⟩
 |ob c L=>obtain⟨C,dx,g,q1,q2,q3⟩:=t;exact⟨C,dx,g,q1,q2,q3.mono (DW h)⟩
 |_=>exact t.elim
def Ml(x:Addr)(H g:Hp):Prop:=∀b o,b≠x->H b=O0 o->g b=O0 o
def JD(I:x∈A)(s:Ml x H H'):af (be A H) (be A H'):=λb o h=>by
 unfold be at h ⊢;split at h
 .cases h
 .rename_i g;rw[WI g];exact s b o (λz=>g (z▸I)) h
def Nd.other{d:D}(t:Nd G A H q d)(Z:q≠x)(J:x∈A)(s:Ml x H H'):Nd G A H' q d:=by
 have z:=JD J s;cases d with
 |lst I=>obtain⟨g,q1,q2⟩:=t;exact⟨g,s _ _ Z q1,q2.mono z⟩
 |dk I=>obtain⟨g,q1,q2,q3⟩:=t;exact⟨g,s _ _ Z q1,q2,q3.mono z⟩
 |dt I=>obtain⟨g,q1,q2,q3⟩:=t;exact⟨g,s _ _ Z q1,q2,q3.mono z⟩
 |ob c L=>obtain⟨C,dx,g,q1,q2,q3⟩:=t;exact⟨C,dx,g,s _ _ Z q1,q2,q3.mono z⟩
 |_=>exact t.elim
end
abbrev Ef:=List (Str×Bool×D)
abbrev Pc:=Rho->Ef->Option (Rho×Ef)
abbrev FTE:=Rho->Ef->Option Bool
def OW(ρ:Rho):Bool:=ρ.all λz=>match z with | .ow _=>O2 | _=>O1
def OM(g:FS):Pc:=λρ G=>match g ρ with | some (.nx z)=>if OW z=O1 then O0 (z,G) else W1 | _=>W1
def HN(f:Str)(fe:FE):Pc:=λρ G=>(fe ρ).bind λd=>if (G.lookup f).isNone=O1/\G.length<1000 then O0 (ρ,G++[(f,O2,d)]) else W1
def Mp(f:Str)(fe:FE):Pc:=λρ G=>(fe ρ).bind λd=>if (G.lookup f).isNone=O1/\G.length<1000 then O0 (ρ,G++[(f,O1,d)]) else W1
def OU(f:Str)(d:D):Ef->Ef
 |[]=>[]
 | (g,b,x)::r=>if g=f then (g,b,d)::r else (g,b,x)::OU f d r
def R3(f:Str)(I g:FE):Pc:=λρ G=>(g ρ).bind λv=>(I ρ).bind λk=>match G.lookup f with | some (O1,d)=>(Dt d k v).map λd'=>(ρ,OU f d' G) | _=>W1
def Uj(t:FT):FTE:=λρ _=>t ρ
def inTE(f:Str)(I:FE):FTE:=λρ G=>(I ρ).bind λk=>match G.lookup f with | some (O1,.dk g)=>(Re k).map λq=>(MM q g).isSome | _=>W1
def orTE(a b:FTE):FTE:=λρ G=>match a ρ G with | some O1=>O0 O1 | some O2=>b ρ G | none=>W1
def ifE(t:FTE):Pc:=λρ G=>match t ρ G with | some O2=>O0 (ρ,G) | _=>W1
def nilE:Pc:=λρ G=>O0 (ρ,G)
def Em(g L:Pc):Pc:=λρ G=>(g ρ G).bind λr=>L r.1 r.2
def Js(tg:FG)(b:Pc):List D->Pc
 |[],ρ,G=>O0 (ρ,G)
 |d::r,ρ,G=>(tg d ρ).bind λS=>if OW S=O1 then (b S G).bind λq=>Js tg b r q.1 q.2 else W1
def forE(g:FI)(tg:FG)(b:Pc):Pc:=λρ G=>(g ρ).bind λds=>Js tg b ds ρ G
def Mq(n:Nat)(x:Addr)(ds:List D):Rho:=DK n (.adr x::ds)
def SV(n g:Nat)(b:Pc)(x:Addr)(ds:List D):Option Ef:=if ds.length+1=g then (b (Mq n x ds) []).map (·.2) else W1
def finE(c:Str)(G:Ef):D:=.ob c (G.map λp=>(p.1,p.2.2))
open Classical in
noncomputable def mkI(c:Str)(g:Addr->List D->Option Ef)(fs:FA):FE:=λρ=>(fs ρ).bind λds=>(g 0 ds).bind λG=>if ∀x,g x ds=O0 G then O0 (finE c G) else W1
end PV
variable {g:List PV.D->Option PV.D}{G:PV.Gx}{ds:List PV.D}{ρ:PV.Rho}{kds:List (L2.Key×PV.D)}{src:PV.FI}{fg:PV.FG}{ga ft:PV.FT}{fe:PV.FE}{gs:List (sK×PV.D)}{ε:PV.Ef}
namespace PV
open PySem PySem.Spec L2
open PyProof.Rows hiding St
def Ce(h:OW ρ=O1)(i:Nat)(d:D):ρ[i]?≠O0 (.ow d):=λe=>by
 unfold OW at h;rw[eS] at h;have:=h _ (oS e);cases this
inductive tu (G:Gx) (A0 A:List Addr) (H:Hp) (x:Addr):List (Str×V)->Ef->List Addr->Prop
 |nil:tu G A0 A H x [] [] []
 |pl {f:Str}{v:V}{d:D}{fs:List (Str×V)}{ε:Ef}{as:List Addr}:jl G (be A H) v d->tu G A0 A H x fs ε as->tu G A0 A H x ((f,v)::fs) ((f,O2,d)::ε) as
 |ow {f:Str}{a:Addr}{d:D}{fs:List (Str×V)}{ε:Ef}{as:List Addr}:a∈A->a∉A0->a≠x->a∉as->Nd G A H a d->tu G A0 A H x fs ε as->tu G A0 A H x ((f,.ref a)::fs) ((f,O1,d)::ε) (a::as)
section
variable {A':List Addr}{x:Addr}{fs:List (Str×V)}{as:List Addr}
theorem tu.mp(h:tu G A0 A H x fs ε as)(r:∀v d,jl G (be A H) v d->jl G (be A' H') v d)(t:∀a∈as,∀d,Nd G A H a d->Nd G A' H' a d)(s:∀a∈as,a∈A->a∈A'):tu G A0 A' H' x fs ε as:=by
 induction h with
 |nil=>exact .nil
 |pl J _ z=>exact .pl (r _ _ J) (z t s)
 |ow U O T L S _ z=>exact .ow (s _ df U) O T L (t _ df _ S) (z (λa I=>t a (cw _ I)) (λa I=>s a (cw _ I)))
theorem tu.names(h:tu G A0 A H x fs ε as):fs.map (·.1)=ε.map (·.1):=by
 induction h with
 |nil=>rfl
 |pl _ _ z=>simp[z]
 |ow _ _ _ _ _ _ z=>simp[z]
def tu.len(h:tu G A0 A H x fs ε as):fs.length=ε.length:=by
 have:=NJ eJ h.names;simpa using this
theorem tu.ne(h:tu G A0 A H x fs ε as):∀a∈as,a∈A/\a∉A0/\a≠x:=by
 induction h with
 |nil=>intro a J;cases J
 |pl _ _ I=>exact I
 |ow O L T _ _ _ I=>
  intro a J
  rcases bp.mp J with z | z
  .subst z;exact⟨O,L,T⟩
  .exact I a z
theorem RP{f:Str}{v:V}:∀{fs:List (Str×V)},fs.lookup f=W1->L2.putF f v fs=fs++[(f,v)]
 |[],_=>rfl
 | (g,y)::r,h=>by
  by_cases I:f=g
  .subst I;simp[bX] at h
  .have J:(f==g)=O2:=beq_eq_false_iff_ne.mpr I;simp only[bX,J] at h;show (if g=f then (g,v)::r else (g,y)::L2.putF f v r)=_;rw[WI (λz=>I z.symm),RP h];rfl
def tu.none(h:tu G A0 A H x fs ε as)(e:ε.lookup f=W1):fs.lookup f=W1:=by
 induction h with
 |nil=>rfl
 | @pl g v d fs ε as _ _ I=>
  by_cases z:f=g
  .subst z;simp[bX] at e
  .have J:(f==g)=O2:=beq_eq_false_iff_ne.mpr z;simp only[bX,J] at e ⊢;exact I e
 | @ow g a d fs ε as _ _ _ _ _ _ I=>
  by_cases z:f=g
  .subst z;simp[bX] at e
  .have J:(f==g)=O2:=beq_eq_false_iff_ne.mpr z;simp only[bX,J] at e ⊢;exact I e
theorem tu.snocP{d:D}(h:tu G A0 A H x fs ε as)(r:jl G (be A H) v d):tu G A0 A H x (fs++[(f,v)]) (ε++[(f,O2,d)]) as:=by
 induction h with
 |nil=>exact .pl r .nil
 |pl J _ z=>exact .pl J z
 |ow O L T I S _ z=>exact .ow O L T I S z
def tu.snocO{d:D}(h:tu G A0 A H x fs ε as)(h1:a∈A)(S:a∉A0)(T:a≠x)(J:a∉as)(t:Nd G A H a d):tu G A0 A H x (fs++[(f,.ref a)]) (ε++[(f,O1,d)]) (as++[a]):=by
 induction h with
 |nil=>exact .ow h1 S T (λz=>nomatch z) t .nil
 |pl L _ I=>exact .pl L (I J)
 | @ow g b e fs ε as q1 q2 q3 U Z _ I=>
  have O:a≠b:=λz=>J (by simp[z]);refine .ow q1 q2 q3 (λz=>?_) Z (I λz=>J (cw _ z))
  rcases eA.mp z with z | z
  .exact U z
  .simp at z;exact O z.symm
def tu.get{d:D}(h:tu G A0 A H x fs ε as)(e:ε.lookup f=O0 (O1,d)):∃a,fs.lookup f=O0 (.ref a)/\a∈as/\a∈A/\a∉A0/\a≠x/\Nd G A H a d:=by
 induction h with
 |nil=>cases e
 | @pl g v U fs ε as _ _ I=>
  by_cases z:f=g
  .subst z;simp[bX] at e
  .have J:(f==g)=O2:=beq_eq_false_iff_ne.mpr z;simp only[bX,J] at e ⊢;exact I e
 | @ow g a U fs ε as O L T _ S _ I=>
  by_cases z:f=g
  .subst z;simp only[bX,NL,EI,sN,true_and] at e ⊢;subst e;exact⟨a,rfl,df,O,L,T,S⟩
  .have J:(f==g)=O2:=beq_eq_false_iff_ne.mpr z;simp only[bX,J] at e ⊢;obtain⟨W,q1,q2,q3⟩:=I e;exact⟨W,q1,cw _ q2,q3⟩
def tu.wr{d d':D}(h:tu G A0 A H x fs ε as)(e:ε.lookup f=O0 (O1,d))(L:fs.lookup f=O0 (.ref a))(sx:Ml a H H')(Y:a∈A)(t:Nd G A H' a d'):tu G A0 A H' x fs (OU f d' ε) as:=by
 have U:=JD Y sx
 induction h with
 |nil=>cases e
 | @pl g v d2 fs ε as rv S O=>
  by_cases I:f=g
  .subst I;simp[bX] at e
  .have T:(f==g)=O2:=beq_eq_false_iff_ne.mpr I;simp only[bX,T] at e L;unfold OU;rw[WI (λz=>I z.symm)];exact .pl (rv.mono U) (O e L)
 | @ow g b d2 fs ε as h1 Z W J h5 S O=>
  by_cases I:f=g
  .subst I;simp only[bX,NL,EI,V.ref.injEq] at L;subst L;unfold OU;rw[VI rfl];refine .ow h1 Z W J t (S.mp (λv d r=>r.mono U) (λc hc d t'=>t'.other (λz=>J (by rw[<-z];exact hc)) Y sx) λ_ _ z=>z)
  .have T:(f==g)=O2:=beq_eq_false_iff_ne.mpr I;simp only[bX,T] at e L;obtain⟨a',q1,q2,_⟩:=S.get e;rw[L] at q1;cases q1;unfold OU;rw[WI (λz=>I z.symm)];exact .ow h1 Z W J (h5.other (λz=>J (z▸q2)) Y sx) (O e L)
end
structure VY (G:Gx) (c:Str) (A0:List Addr) (He:Hp) (x:Addr) (A:List Addr) (σ:St) (H:Hp) (ρ:Rho) (ε:Ef):Prop where
 w:ON G A0 He A σ H ρ
 no:OW ρ=O1
 xA:x∈A
 x0:x∉A0
 s0:ρ[0]?=O0 (.fz (.adr x))
 ob:∃C dx fs as,H x=O0 (.ins C dx fs)/\G.cl c=O0 C/\tu G A0 A H x fs ε as
def EOkS(G:Gx)(c:Str)(A0:List Addr)(J:Hp)(x:Addr)(z:St)(H:Hp)(ρ:Rho)(I:Ef):Prop:=∃A,VY G c A0 J x A z H ρ I
section
variable {x:Addr}
theorem VY.at0(o:VY G c A0 He x A σ H ρ ε):σ[0]?=O0 (O0 (.ref x)):=by
 obtain⟨v,I,z⟩:=o.w.ok.fz 0 _ o.s0;cases z;exact I
theorem VY.mono(o:VY G c A0 He x A σ H ρ ε)(s:af H H'):VY G c A0 He x A σ H' ρ ε:=by
 obtain⟨C,dx,fs,as,J,I,T⟩:=o.ob;exact⟨o.w.mono s,o.no,o.xA,o.x0,o.s0,C,dx,fs,as,s _ _ J,I,T.mp (λv d r=>r.mono (BP s)) (λa L d t=>t.mono s) λ_ _ z=>z⟩
def m_(s:af H H')(fr:∀a∈B,a∈A∨H a=W1):af (be A H) (be B H'):=λb u h=>by
 unfold be at h;split at h
 .cases h
 .rename_i I;rw[A_]
  .exact s b u h
  .intro z
   rcases fr b z with q | q
   .exact I q
   .rw[q] at h;cases h
def Nd.plain{d:D}(t:Nd G A H a d)(s:af H H')(p:af (be A H) (be B H')):Nd G B H' a d:=by
 cases d with
 |lst I=>obtain⟨z,q1,q2⟩:=t;exact⟨z,s _ _ q1,q2.mono p⟩
 |dk I=>obtain⟨z,q1,q2,q3⟩:=t;exact⟨z,s _ _ q1,q2,q3.mono p⟩
 |dt I=>obtain⟨z,q1,q2,q3⟩:=t;exact⟨z,s _ _ q1,q2,q3.mono p⟩
 |ob c L=>obtain⟨C,dx,z,q1,q2,q3⟩:=t;exact⟨C,dx,z,s _ _ q1,q2,q3.mono p⟩
 |_=>exact t.elim
theorem VY.frame(o:VY G c A0 He x A σ H ρ ε):XZ G A H σ H ρ:=⟨A,af.refl H,λ_ h=>h,λa h=>.inl h,λa z=>(o.w.ok.live a z).ne,o.w.ok,λi d a h _=>XI h (Ce o.no i d),λy d _ h=>XI h (Ce o.no 0 d)⟩
def VY.unframe{J:St}{z:Rho}(o:VY G c A0 He x A σ H ρ ε)(w:XZ G A H J H' z)(L:OW z=O1)(W:z[0]?=O0 (.fz (.adr x))):EOkS G c A0 He x J H' z ε:=by
 obtain⟨B,w⟩:=w;have O:af (be A H) (be B H'):=m_ w.same w.fr;obtain⟨C,dx,fs,as,U,S,T⟩:=o.ob;refine⟨B,⟨o.w.same.trans w.same,λa I=>w.sub a (o.w.sub a I),λa I=>?_,o.w.l0,w.ok,λi d a h _=>XI h (Ce L i d),λy d _ h=>XI h (Ce L 0 d)⟩,L,w.sub x o.xA,o.x0,W,C,dx,fs,as,w.same _ _ U,S,T.mp (λv d r=>r.mono O) (λa I d t=>t.plain w.same O) λa _ I=>w.sub a I⟩
 rcases w.fr a I with q | q
 .exact o.w.fr a q
 .exact .inr (o.w.same.free q)
theorem VY.wr{ε':Ef}(o:VY G c A0 He x A σ H ρ ε)(I:p∈A)(S:p∉A0)(sx:Ml p H H')(L:Nt (H' p))(ob:∃C dx fs as,H' x=O0 (.ins C dx fs)/\G.cl c=O0 C/\tu G A0 A H' x fs ε' as):VY G c A0 He x A σ H' ρ ε':=by
 have W:He p=W1:=(o.w.fr p I).resolve_left S;have J:=JD I sx;refine⟨⟨λb u h=>sx b u (Dv h W) (o.w.same b u h),o.w.sub,o.w.fr,o.w.l0,⟨o.w.ok.len,λb O=>?_,λj e h=>?_,λj e h=>XI h (Ce o.no j e),λi j d e a h _ _ _=>XI h (Ce o.no i d)⟩,λi d a h _=>XI h (Ce o.no i d),λy d _ h=>XI h (Ce o.no 0 d)⟩,o.no,o.xA,o.x0,o.s0,ob⟩
 .by_cases z:b=p
  .rw[z];exact L
  .exact (o.w.ok.live b O).mono λu e=>sx b u z e
 .obtain⟨v,q1,q2⟩:=o.w.ok.fz j e h;exact⟨v,q1,q2.mono J⟩
end
def tE(G:Gx)(c:Str)(A0:List Addr)(J:Hp)(x:Addr)(g:Pc):TS:=λD O H=>∃ρ I r,EOkS G c A0 J x O H ρ I/\g ρ I=O0 r/\∀z L,EOkS G c A0 J x z L r.1 r.2->D.nx z L
def PSE(X:Cx)(G:Gx)(c:Str)(st:Stmt)(g:Pc):Prop:=∀⦃A0⦄ He x,PS X st (tE G c A0 He x g)
def PSEs(X:Cx)(G:Gx)(c:Str)(st:List Stmt)(g:Pc):Prop:=∀⦃A0⦄ He x,UP X st (tE G c A0 He x g)
def tTE(G:Gx)(c:Str)(A0:List Addr)(L:Hp)(x:Addr)(t:FTE):TT:=λJ H Q=>∃A ρ z b,VY G c A0 L x A J H ρ z/\t ρ z=O0 b/\∀I,af H I->Q b I
def PTE(X:Cx)(G:Gx)(c:Str)(e:Expr)(t:FTE):Prop:=∀⦃A0⦄ He x,PT X e (tTE G c A0 He x t)
def PWE(X:Cx)(G:Gx)(c:Str)(e:Expr)(t:FTE):Prop:=∀⦃A0⦄ He x,PW X e (tTE G c A0 He x t)
section
variable {a b k it:Expr}{fa fb:FE}{p px:Pos}{hQ:List Stmt}{g gs:Pc}{gp:FS}{ta tb:FTE}{tp:FT}
def Yy(h1:PSE X G c st g)(h2:PSEs X G c hQ gs):PSEs X G c (st::hQ) (Em g gs):=by
 rintro S O x W s U H D I ⟨J,L,r,o,e,k⟩
 refine MJ (@h1 S O x) (@h2 S O x) W s U H D I ?_;unfold Em at e;cases z:g J L with
 |none=>simp[z] at e
 |some q=>
  simp only[z,dL] at e;exact⟨J,L,q,o,z,λT Z Y=>⟨q.1,q.2,r,Y,e,k⟩⟩
def dG(h1:PSE X G c st g):PSEs X G c [st] g:=λS z x=>Wb (@h1 S z x)
def QL(h:UR X G st gp)(U:∀ρ z,gp ρ=O0 (.nx z)->z[0]?=ρ[0]?):PSE X G c st (OM gp):=by
 rintro A0 Z x S s O H D I ⟨ρ,Y,r,⟨A,o⟩,e,k⟩
 unfold OM at e;split at e
 .rename_i z L;split at e
  .rename_i T;cases e;refine @h A H S s O H D I ⟨ρ,_,o.frame,L,λJ W w=>k J W (o.unframe w T (by rw[U ρ z L];exact o.s0))⟩
  .cases e
 .cases e
theorem Yz(h:Sn X G e tp):PTE X G c e (Uj tp):=λT S x=>λL s z H Q I ⟨A,J,O,b,o,e,k⟩=>@h A L s z H Q I ⟨J,b,o.w.ok,e,k⟩
def uI(h:PTE X G c a ta):PWE X G c (.BoolOp .Or [a] pos) ta:=λS z x=>jK (@h S z x)
def yo{hQ:List Expr}(ha:PTE X G c a ta)(hb:PWE X G c (.BoolOp .Or (b::hQ) pos) tb):PWE X G c (.BoolOp .Or (a::b::hQ) pos) (orTE ta tb):=λT O x=>j7 (vP (@ha T O x) (@hb T O x))<|by
 rintro Y H Q ⟨A,I,J,d,o,e,k⟩
 unfold orTE at e;split at e
 .rename_i L;cases e;exact⟨A,I,J,_,o,L,λS z=>Xs (k S z)⟩
 .rename_i L;exact⟨A,I,J,_,o,L,λS z=>VT ⟨A,I,J,d,o.mono z,e,λW U=>k W (z.trans U)⟩⟩
 .cases e
theorem PWE.pt(h:PWE X G c a ta):PTE X G c a ta:=λS z x=>(@h S z x).pt
theorem yp{Y:Pos}(hu:X.A.units+1<bv)(z:∀c C,G.cl c=O0 C->NW X.K C/\Bf X.K C f)(hv:PE X (.Name x px) (TL 0))(ha:PF X G a fa)(hb:gT (.Name x px) f X.env (eval (.Name x px) X.env)=eval (.Name x px) X.env:=by rfl)(hm:fw .In (.Attribute (.Name x px) f Y)=O2:=by rfl):PTE X G c (.Compare a [.In] [.Attribute (.Name x px) f Y] pos) (inTE f fa):=by
 rintro A0 He y π s Z H Q I ⟨A,S,ε,d,o,e,k⟩
 refine bZ (aK hu) (@ha A) (Z2 hv hb) hm π s Z H Q I ?_;unfold inTE at e;cases O:fa S with
 |none=>simp[O] at e
 |some U=>
  simp only[O,dL] at e;split at e
  .rename_i N0 e2;cases L:Re U with
   |none=>simp[L] at e
   |some q=>
    simp only[L,iq] at e;cases e;refine⟨S,U,o.w.ok,O,λv H1 T r1=>?_⟩;obtain⟨C,dx,fs,as,h1,W,h3⟩:=(o.mono T).ob;obtain⟨p,q1,q2,q3,q4,q5,J,t1,t2,t3⟩:=h3.get e2;refine⟨_,o.at0,y,C,dx,fs,_,rfl,h1,(z _ _ W).1,(z _ _ W).2,q1,p,J,q,rfl,.of t1,Ny r1 L,?_⟩;rw[(Nx (k:=q) t2 t3).2];exact⟨_,rfl,k H1 T⟩
  .cases e
def nA(ht:PTE X G c e ta)(h1:RY X G s1 badF):PSE X G c (.If e s1 [] pos) (ifE ta):=by
 rintro S J x O s z H D I ⟨L,T,r,⟨A,o⟩,e,k⟩
 refine jN (@ht S J x) (@h1 S J) Jq O s z H D I ?_;unfold ifE at e;split at e
 .rename_i U;cases e;exact⟨A,L,T,_,o,U,λW s1=>VT (k z W ⟨A,o.mono s1⟩)⟩
 .cases e
def KR(L:∀c C,G.cl c=O0 C->NW X.K C/\Bf X.K C f)(hv:PE X (.Name x px) (TL 0))(ha:PF X G a fa)(W:eP a (O0 (.Attribute (.Name x px) f pos')) pos.line X.env=pure O2:=by rfl):
  PSE X G c (.Assign [.Attribute (.Name x px) f pos'] a pos) (HN f fa):=by
 rintro A0 He y π s σ H D I ⟨U,ε,r,⟨A,o⟩,e,k⟩
 refine jZ hv (@ha A) W π s σ H D I ?_;unfold HN at e;cases S:fa U with
 |none=>simp[S] at e
 |some d=>
  simp only[S,dL] at e;split at e
  .rename_i Z;cases e;refine⟨U,d,o.w.ok,S,λu H1 s1 r1=>?_⟩;have J:=o.mono s1;obtain⟨C,dx,fs,as,h1,O,T⟩:=J.ob;have hn:=T.none (sg.mp Z.1);refine⟨_,o.at0,y,C,dx,fs,rfl,h1,(L _ _ O).1,(L _ _ O).2,by rw[T.len];exact Z.2,?_⟩;rw[RP hn];have sx:Ml y H1 (gq H1 y (.ins C dx (fs++[(f,u)]))):=λb w hb hw=>by rw[Am hb];exact hw
   have Y:=JD J.xA sx;refine k _ _ ⟨A,J.wr J.xA J.x0 sx (by rw[Ak];exact Nt.ins) ⟨C,dx,_,as,Ak,O,?_⟩⟩;exact (T.mp (λv d r=>r.mono Y) (λp hp d t=>t.other (T.ne p hp).2.2 J.xA sx) λ_ _ z=>z).snocP (r1.mono Y)
  .cases e
def Uk(U:∀c C,G.cl c=O0 C->NW X.K C/\Bf X.K C f)(hv:PE X (.Name x px) (TL 0))(ha:PN X G a fa)(T0:eP a (O0 (.Attribute (.Name x px) f pos')) pos.line X.env=pure O2:=by rfl):
    PSE X G c (.Assign [.Attribute (.Name x px) f pos'] a pos) (Mp f fa):=by
  rintro A0 He y π s σ H D I ⟨ρ,ε,r,⟨A,o⟩,e,k⟩
  refine jZ hv (@ha A) T0 π s σ H D I ?_;unfold Mp at e;cases e1:fa ρ with
  |none=>simp[e1] at e
  |some d=>
    simp only[e1,dL] at e;split at e
    . rename_i hz
      cases e;refine⟨ρ,d,o.w.ok,e1,λq W J Z t=>?_⟩;obtain⟨C,dx,fs,as,h1,h2,h3⟩:=o.ob;have L:q∉A:=λz=>(o.w.ok.live q z).ne Z;have Y:af (be A H) (be (q::A) W):=JC J Z;have hn:=h3.none (sg.mp hz.1);have S0:q∉A0:=λz=>L (o.w.sub q z);have T:q≠y:=λz=>L (z▸o.xA);have N0:q∉as:=λz=>L (h3.ne q z).1;have S:VY G c A0 He y (q::A) σ W ρ ε:=⟨⟨o.w.same.trans J,λa ha=>cw _ (o.w.sub a ha),λa ha=>by
          rcases bp.mp ha with z | z
          . rw[z];exact .inr (o.w.same.free Z)
          . exact o.w.fr a z,o.w.l0,o.w.ok.fill J Z t.live,λi d a h _=>XI h (Ce o.no i d),λy d _ h=>XI h (Ce o.no 0 d)⟩,o.no,cw _ o.xA,o.x0,o.s0,C,dx,fs,as,J _ _ h1,h2,
          h3.mp (λv d r=>r.mono Y) (λp O d t=>t.plain J Y) λp _ O=>cw _ O⟩
      have g1:=J _ _ h1;have g2:=h2;have g3:tu G A0 (q::A) W y fs ε as:=h3.mp (λv d r=>r.mono Y) (λp O d t=>t.plain J Y) λp _ O=>cw _ O;have X0:=g3.none (sg.mp hz.1);refine⟨_,o.at0,y,C,dx,fs,rfl,g1,(U _ _ g2).1,(U _ _ g2).2,by rw[g3.len];exact hz.2,?_⟩;rw[RP X0];have sx:Ml y W (gq W y (.ins C dx (fs++[(f,.ref q)]))):=λb w hb hw=>by rw[Am hb];exact hw
      have sm:=JD S.xA sx;refine k _ _ ⟨q::A,S.wr S.xA S.x0 sx (by rw[Ak];exact Nt.ins) ⟨C,dx,_,as++[q],Ak,g2,?_⟩⟩;exact (g3.mp (λv d r=>r.mono sm) (λp O d t=>t.other (g3.ne p O).2.2 S.xA sx) λ_ _ z=>z).snocO df S0 T N0 (t.other T S.xA sx)
    . cases e
def Y0{ap:Pos}(hu:X.A.units+1<bv)(L:∀c C,G.cl c=O0 C->NW X.K C/\Bf X.K C f)(hv:PE X (.Name x px) (TL 0))(ha:PF X G a fa)(hb:PF X G b fb)(z:gT (.Name x px) f X.env (eval (.Name x px) X.env)=eval (.Name x px) X.env:=by rfl)(hs:eP b (O0 (.Subscript (.Attribute (.Name x px) f ap) a spos)) pos.line X.env=pure O2:=by rfl):PSE X G c (.Assign [.Subscript (.Attribute (.Name x px) f ap) a spos] b pos) (R3 f fa fb):=by
 rintro A0 He y π s σ H D I ⟨O,ε,r,⟨A,o⟩,e,k⟩
 refine Wm hu (Z2 hv z) (@ha A) (@hb A) hs π s σ H D I ?_;unfold R3 at e;cases T:fb O with
 |none=>simp[T] at e
 |some v=>
  cases e2:fa O with
  |none=>simp[T,e2] at e
  |some Y=>
   simp only[T,e2,dL] at e;split at e
   .rename_i d e3;cases U:Dt d Y v with
    |none=>simp[U] at e
    |some d'=>
     simp only[U,iq] at e;cases e;unfold Dt at U;split at U
     .rename_i S0;cases e5:Re Y with
      |none=>simp[e5] at U
      |some q=>
       simp only[e5,dL] at U;split at U
       .rename_i hz;cases U;refine⟨O,v,o.w.ok,T,λu H1 s1 r1=>?_⟩;have W:=o.mono s1;obtain⟨C,dx,fs,as,Z,h2,h3⟩:=W.ob;obtain⟨p,q1,q2,q3,q4,q5,J,t1,t2,t3⟩:=h3.get e3;refine⟨_,o.at0,y,C,dx,fs,_,rfl,Z,(L _ _ h2).1,(L _ _ h2).2,q1,O,Y,W.w.ok,e2,λyv H2 S r2=>?_⟩;have ek:=Ny r2 e5;subst ek;have o2:=W.mono S;obtain⟨C',X0,T0,N0,g1,g2,g3⟩:=o2.ob;rw[S _ _ Z] at g1;cases g1;have hl:J.length<sizeLine:=by
         have:=NJ eJ t2;rw[aE,aE] at this;omega
        refine⟨p,_,rfl,Ya.k (S _ _ t1) hl,?_⟩;have pk:=W9 (k:=q) (r1.mono (BP S)) t2 (t3.mono (BP S));have sx:Ml p H2 (gq H2 p (.dK (Pm J q u))):=λb w hb hw=>by rw[Am hb];exact hw
        refine k _ _ ⟨A,o2.wr q3 q4 sx (by rw[Ak];exact Nt.dK) ⟨C,dx,fs,N0,by rw[Am (ci q5)];exact S _ _ Z,g2,?_⟩⟩;refine g3.wr e3 q1 sx q3 ⟨_,Ak,pk.1,?_⟩;rw[Eo q3];exact pk.2
       .cases U
     .cases U
   .cases e
theorem VY.frameW{x:Addr}(o:VY G c A0 He x A σ H ρ ε):ON G A H A σ H ρ:=⟨af.refl H,λ_ h=>h,λa h=>.inl h,λa z=>(o.w.ok.live a z).ne,o.w.ok,λi d a h _=>XI h (Ce o.no i d),λy d _ h=>XI h (Ce o.no 0 d)⟩
theorem dH{gb:Pc}(hp:qV (av X.prog X.w) X.A X.env X.xe)(hc:X.calm=O1)(hi:Sa X G O2 tg it src)(hg:PGD X G tg fg)(hk:∀d ρ L,fg d ρ=O0 L->L[0]?=ρ[0]?)(hb:PSEs X G c body gb)(hs:∀x,lc it X.env x=pure x:=by intro _;rfl):PSE X G c (.For tg it body [] pos) (forE src fg gb):=by
 rintro S Z x π s W H D I ⟨ρ,ε,r,⟨A,o⟩,e,k⟩
 cases e1:src ρ with
 |none=>simp[forE,e1] at e
 |some O=>
  have e':Js fg gb O ρ ε=O0 r:=by simpa [forE,e1] using e
  have U1:UP X body (λD W H=>∃S Z x,tE G c S Z x gb D W H):=(by rintro π s W H D I ⟨S,Z,x,q⟩;exact @hb S Z x π s W H D I q);have S1:PG X tg (λv W H Q=>∃S Z,tGD G S Z fg v W H Q):=(by rintro π s W H v u Q I r ⟨S,Z,q⟩;exact @hg S Z π s W H v u Q I r q);refine Zw hp hc (@hi A) S1 U1 hs π s W H D I ⟨ρ,O,o.w.ok,e1,λJ H1 s1 sr=>?_⟩;have o1:=o.mono s1;obtain⟨X0,w2⟩:=o1.w.here;generalize X1:be (A.filter λa=>decide (a∉S)) H1=Hf at X0 w2;have k2:∀z H',EOkS G c S Hf x z H' r.1 r.2->D.nx z H':=(by rintro z H' ⟨B,q⟩;exact k z H' ⟨B,q.w.base X0 o.w.l0,q.no,q.xA,q.x0,q.s0,q.ob⟩);refine⟨λi m z H'=>m=O.length-i/\i<=O.length/\∃L T,EOkS G c S Hf x z H' L T/\Js fg gb (O.drop i) L T=O0 r,⟨O.length,by simp,fE _,ρ,ε,⟨A,w2,o1.no,o1.xA,o1.x0,o1.s0,o1.ob⟩,by simpa using e'⟩,?_⟩;rintro i m N1 H3 ⟨rfl,Q2,S0,T0,⟨B,o3⟩,U⟩;have pl:af (be A H1) (be B H3):=by rw[<-X1] at o3;exact ON.plain o.w.sub o3.w
  by_cases Y:i<O.length
  .right;have hd:O[i]?=O0 O[i]:=by simp[Y]
   have ed:O.drop i=O[i]::O.drop (i+1):=ub Y;rw[ed] at U;unfold Js at U;refine⟨sr.go i H3 (pl.trans Ao) Y,λz H'=>∃L T,EOkS G c S Hf x z H' L T/\Js fg gb (O.drop (i+1)) L T=O0 r,λz H' q=>⟨O.length-(i+1),by omega,rfl,Y,q⟩,λy H' yy=>?_⟩;obtain⟨sy,rx⟩:=sr.yld i H3 y H' _ (pl.trans Ao) hd yy;have o4:=o3.mono sy;cases e4:fg O[i] S0 with
   |none=>simp[e4] at U
   |some N0=>
    simp only[e4,dL] at U;split at U
    .rename_i no;refine⟨B,H',B,S0,O[i],N0,o4.frameW,rx B o3.w.ok.live pl,e4,λY1 H5 P1=>?_⟩;cases e5:gb N0 T0 with
     |none=>simp[e5] at U
     |some q=>
      simp only[e5,dL] at U;exact⟨S,Hf,x,N0,T0,q,o4.unframe P1 no (by rw[hk _ _ _ e4];exact o4.s0),e5,λz H' o'=>⟨q.1,q.2,o',U⟩⟩
    .cases U
  .left;have ei:i=O.length:=by omega
   subst ei;rw[AL] at U;cases U;exact⟨sr.stop _ H3 (pl.trans Ao) (aI _),k2 N1 H3 ⟨B,o3⟩⟩
end
def Ul:b∈A.filter (λb=>decide (b≠p))↔b∈A/\b≠p:=by simp[dS]
def uJ{d:D}(I:Inv X π σ H s)(hA:a∈A)(t:Nd G A H a d):
  ∃H',Inv X π σ H' s/\(∀b,b≠a->H' b=H b)/\af (be A H) (be (A.filter λb=>decide (b≠a)) H')/\jl G (be (A.filter λb=>decide (b≠a)) H') (.ref a) d:=by
 have O:∀H':Hp,(∀b,b≠a->H' b=H b)->af (be A H) (be (A.filter λb=>decide (b≠a)) H'):=λH' hh b u h=>by
  unfold be at h;split at h
  .cases h
  .rename_i L;rw[A_ (λz=>L (Ul.mp z).1),hh b (λz=>L (z▸hA))];exact h
 have at0:∀H':Hp,be (A.filter λb=>decide (b≠a)) H' a=H' a:=λH'=>A_ (λz=>(Ul.mp z).2 rfl);cases d with
 |lst Z=>
  obtain⟨U,T,S⟩:=t;have J:=O H λ_ _=>rfl;exact⟨H,I,λ_ _=>rfl,J,.lst (.of (by rw[at0];exact T)) (S.mono J).1 (S.mono J).2⟩
 |dk Z=>
  obtain⟨U,T,S,Y⟩:=t;obtain⟨o,W⟩:=Inv.frzK I T;have J:=O _ λb L=>Am (o:=.frz o (.dK U)) L;exact⟨_,W,λb L=>Am L,J,.dk (by rw[at0];exact Ak) S (Y.mono J).2⟩
 |dt Z=>
  obtain⟨U,T,S,Y⟩:=t;obtain⟨o,W⟩:=Inv.frzT I T;have J:=O _ λb L=>Am (o:=.frz o (.dT U)) L;exact⟨_,W,λb L=>Am L,J,.dt (by rw[at0];exact Ak) S (Y.mono J).2⟩
 |ob c gs=>
  obtain⟨C,dx,U,T,S,Y⟩:=t;have J:=O H λ_ _=>rfl;exact⟨H,I,λ_ _=>rfl,J,.ob S.1 (by rw[at0];exact T) S.2 (Y.mono J).2⟩
 |_=>exact t.elim
def tu.frz{X:Cx}{G:Gx}{A0 A:List Addr}{π:NU}{s:ai}{σ:St}{H:Hp}{x:Addr}{fs:List (Str×V)}{W:Ef}{as:List Addr}(h:tu G A0 A H x fs W as)(I:Inv X π σ H s):
  ∃H' O,Inv X π σ H' s/\(∀b,b∉as->H' b=H b)/\(∀b,b∈O↔b∈A/\b∉as)/\af (be A H) (be O H')/\bc G (be O H') (fs.map (·.2)) (W.map λp=>p.2.2):=by
 induction h with
 |nil=>exact⟨H,A,I,λ_ _=>rfl,λb=>by simp,af.refl _,.nil⟩
 |pl rv _ ih=>
  obtain⟨H',O,i1,T,S,J,i5⟩:=ih;exact⟨H',O,i1,T,S,J,.cons (rv.mono J) i5⟩
 | @ow f a d fs W as h1 h2 h3 h4 t _ ih=>
  obtain⟨H1,A1,i1,T,S,J,i5⟩:=ih;have ha:a∈A1:=(S a).mpr ⟨h1,h4⟩;have U:H1 a=H a:=T a h4;have t1:Nd G A1 H1 a d:=by
   cases d with
   |lst ds=>obtain⟨L,q1,q2⟩:=t;exact⟨L,by rw[U];exact q1,q2.mono J⟩
   |dk ds=>obtain⟨L,q1,q2,q3⟩:=t;exact⟨L,by rw[U];exact q1,q2,q3.mono J⟩
   |dt ds=>obtain⟨L,q1,q2,q3⟩:=t;exact⟨L,by rw[U];exact q1,q2,q3.mono J⟩
   |ob c gs=>obtain⟨C,dx,L,q1,q2,q3⟩:=t;exact⟨C,dx,L,by rw[U];exact q1,q2,q3.mono J⟩
   |_=>exact t.elim
  obtain⟨H2,j1,j2,j3,j4⟩:=uJ i1 ha t1;refine⟨H2,A1.filter λb=>decide (b≠a),j1,λb hb=>?_,λb=>?_,J.trans j3,.cons j4 (i5.mono j3)⟩
  .rw[j2 b (λz=>hb (by simp[z])),T b (λz=>hb (cw _ z))]
  .rw[Ul,S b];simp only[bp,not_or];exact⟨(by rintro ⟨⟨p1,Z⟩,Y⟩;exact ⟨p1,Y,Z⟩),(by rintro ⟨p1,Y,Z⟩;exact ⟨⟨p1,Z⟩,Y⟩)⟩
theorem VY.whole{x:Addr}(o:VY G c A0 He x A σ H ρ ε)(I:Inv X π σ H s):
  ∃H',Inv X π σ H' s/\af He H'/\jl G (be A0 H') (.ref x) (finE c ε):=by
 obtain⟨C,dx,fs,as,h1,h2,T⟩:=o.ob;obtain⟨H',A',Z,L,Y,i4,W⟩:=T.frz I;have U:x∉as:=λz=>(T.ne x z).2.2 rfl;refine⟨H',Z,λb u J=>?_,?_⟩
 .rw[L b (λz=>?_)]
  .exact o.w.same b u J
  .obtain⟨q1,q2,_⟩:=T.ne b z;rw[(o.w.fr b q1).resolve_left q2] at J;cases J
 .have S:∀a∈A0,a∈A':=λa O=>(Y a).mpr ⟨o.w.sub a O,λz=>(T.ne a z).2.1 O⟩;have en:fs.map (·.1)=(ε.map λp=>(p.1,p.2.2)).map (·.1):=by
   rw[T.names,ca];rfl
  have es:(ε.map λp=>(p.1,p.2.2)).map (·.2)=ε.map λp=>p.2.2:=by rw[ca];rfl
  refine .ob h2 (by rw[A_ o.x0,L x U];exact h1) en ?_;rw[es];exact (W.mono (DW S)).2
def tEI(G:Gx)(c:Str)(A0:List Addr)(L:Hp)(x:Addr)(g:Pc):TS:=λD O H=>∃ρ J r,EOkS G c A0 L x O H ρ J/\g ρ J=O0 r/\∀z I,af L I->jl G (be A0 I) (.ref x) (finE c r.2)->D.nx z I
def PSI(X:Cx)(G:Gx)(c:Str)(st:List Stmt)(g:Pc):Prop:=∀⦃A0⦄ He x,UP X st (tEI G c A0 He x g)
def dI:PSI X G c [] nilE:=by
 rintro W U x L s z H D I ⟨S,T,r,⟨A,o⟩,e,k⟩
 cases e;obtain⟨J,O,q1,q2⟩:=o.whole I;exact Jq L s z J D O (k z J q1 q2)
def Eb{hQ:List Stmt}{g O:Pc}(h1:PSE X G c st g)(h2:PSI X G c hQ O):PSI X G c (st::hQ) (Em g O):=by
 rintro T S x Y s W H D I ⟨J,L,r,o,e,k⟩
 refine MJ (@h1 T S x) (@h2 T S x) Y s W H D I ?_;unfold Em at e;cases z:g J L with
 |none=>simp[z] at e
 |some q=>
  simp only[z,dL] at e;exact⟨J,L,q,o,z,λU H' Z=>⟨q.1,q.2,r,Z,e,k⟩⟩
def spI(G:Gx)(c:Str)(g:Addr->List D->Option Ef):Sp:=λvs H Q _=>∃A x z ds J C dx,vs=.ref x::z/\(∀a∈A,Nt (H a))/\x∉A/\H x=O0 (.ins C dx [])/\G.cl c=O0 C/\bc G (be (x::A) H) z ds/\g x ds=O0 J ∧
 ∀I,Ml x H I->jl G (be A I) (.ref x) (finE c J)->Q .non I
def HW(n:Nat)(ds:List D):OW (DK n ds)=O1:=by
 unfold OW DK;rw[eS];intro z O
 rcases eA.mp O with q | q
 .obtain⟨d,_,rfl⟩:=bn.mp q;rfl
 .rw[(List.mem_replicate.mp q).2]
def fn_I{base:Heap}{f:Addr}{k:Nat}{b:Pc}(F:Fun G.K x qual st f fd)(S:am N ps (Ab st))(hl:ps.length<=N.length)(Y:∀(cdv:ac) (A:aT) (I:List Env) (s:ai) (H:Hp) (E:XK),Room k (A.deeper (fR qual (Ab st) s.heap.objs.size f cdv))->PSI (Qb CX0 P w G.K mg base N qual (Ab st) f cdv A I s H E).nox G c (Bo st) b):
  gn P w G.K mg base CX0 (k+1) f fd ps (spI G c (SV N.length ps.length b)):=by
 refine F.ok S (λvs H Q E h=>?_) (λcdv A I s H vs Q E hr h=>?_)
 .obtain⟨A,x,L,O,ε,C,dx,rfl,U,W,Z,hc,r,e,_⟩:=h;unfold SV at e;split at e
  .rename_i hz;rw[ck,r.1];exact hz
  .cases e
 .obtain⟨A1,x,L,O,ε,C,dx,rfl,U,W,Z,hc,r,e,k⟩:=h;unfold SV at e;split at e
  .rename_i hz;have T:∀a∈x::A1,Nt (H a):=λa J=>by
    rcases bp.mp J with z | z
    .rw[z,Z];exact Nt.ins
    .exact U a z
   have r':bc G (be (x::A1) H) (.ref x::L) (.adr x::O):=.cons (.adr x) r;obtain⟨B,w⟩:=Mf (N:=N) T r' (by rw[ck,r.1];omega);cases e1:b (Mq N.length x O) [] with
   |none=>simp[e1] at e
   |some q=>
    simp only[e1,iq] at e;cases e;have hzz:=Y cdv A I s H E hr;refine⟨_,@hzz A1 (be [x] H) x,Mq N.length x O,[],q,?_,e1,λN0 H' s' rv=>k H' (λb o Y ho=>s' b o (by rw[A_ (by simpa using Y)];exact ho)) rv⟩;refine⟨B,⟨Ao,λa J=>w.sub a (cw _ J),λa J=>?_,λa J=>?_,w.ok,λi d a h _=>XI h (Ce (HW _ _) i d),λy d _ h=>XI h (Ce (HW _ _) 0 d)⟩,HW _ _,w.sub x df,W,rfl,C,dx,[],[],Z,hc,.nil⟩
    .rcases w.fr a J with z | z
     .rcases bp.mp z with z | z
      .right;unfold be;rw[VI (by simp[z])]
      .exact .inl z
     .right;unfold be;split
      .rfl
      .exact z
    .rw[A_ (λz=>W (by simp at z;rw[<-z];exact J))];exact (U a J).ne
  .cases e
section
variable {a b:Expr}{p:Pos}{es:List Expr}{fs:FA}
def XN{k:Nat}{f:Addr}{g:Addr->List D->Option Ef}{cn:Str}(T0:G.cl cn=O0 C)(M:Mk X.K C f)(F:gn X.prog X.w X.K X.mg X.base CX0 k f fd ps (spI G cn g))(hr:Room (k+1) X.A)(hg:Gl X x)(hm:X.mg x=O0 (.ref C))(I:MU X.K fd ps [])(ha:To X G (a::es) fs)(S0:(x==("__debug__":Str))=O2:=by decide)(he:ay (a::es) X.env=(O2,eval a X.env)::ay es X.env:=by rfl)(Y:(da pos (ay es X.env)).any (·.1)=O2:=by rfl):
  PF X G (.Call (.Name x p) (a::es) [] pos) (mkI cn g fs):=λA=>CT (bj M F hr hg hm I .nil Ry (@ha A) S0 he Y)<|by
 rintro σ H Q ⟨ρ,d,o,e,k⟩
 unfold mkI at e;cases S:fs ρ with
 |none=>simp[S] at e
 |some ds=>
  cases e3:g 0 ds with
  |none=>simp[S,e3] at e
  |some ε=>
   simp only[S,e3,dL] at e;split at e
   .rename_i L;cases e;refine⟨ρ,ds,o,S,λvs H1 U rv=>λy dx O N0 Z=>?_⟩;have T:af H1 (gq (gq H1 dx (.own y)) y (.ins C dx [])):=(Al N0 _).trans (Al (by rw[Am (ci Z)];exact O) _);have J:=(o.mono U).live;refine⟨A,y,vs,ds,ε,C,dx,by rw[fI],λb I=>?_,λz=>(J y z).ne O,Ak,T0,rv.mono (JC T O),L y,λH' sx W=>?_⟩
    .exact (J b I).mono λu e=>T _ _ e
    .refine⟨rfl,k _ H' (λb u I=>sx b u (λz=>?_) (T _ _ (U _ _ I))) W⟩;have:=U _ _ I;rw[z,O] at this;cases this
   .cases e
end
def S7{f:FE}(ρ z:Rho)(h:Fo f ρ=O0 (.nx z)):z[0]?=ρ[0]?:=by
 unfold Fo at h;cases e:f ρ with
 |none=>simp[e] at h
 |some d=>simp[e] at h;rw[h]
def K0s(g:FGs):Prop:=∀ds ρ z,g ds ρ=O0 z->z[0]?=ρ[0]?
def nC:K0s MY:=λJ I z h=>by
 unfold MY at h;split at h
 .cases h;rfl
 .cases h
def S8{g:FGs}(I:i≠0)(W:K0s g):K0s (Aw i g):=λL J z h=>by
 unfold Aw at h;split at h
 .rw[W _ _ _ h,hV I]
 .cases h
def nD{g:FGs}(W:K0s g)(d:D)(ρ z:Rho)(h:MV n g d ρ=O0 z):z[0]?=ρ[0]?:=by
 unfold MV at h;split at h
 .split at h
  .exact W _ _ _ h
  .cases h
 .split at h
  .exact W _ _ _ h
  .cases h
 .cases h
end PV
namespace PV
open PySem PySem.W PySem.Calls PyProof.Rows L2
def aP:∀(O:List Int) (i:Int),i∈O->i7 i<=EK (O.map tz):=by
 intro O
 induction O with
 |nil=>intro i h;cases h
 |cons n r z=>
  intro i h;rw[bb];show i7 i<=EL (.int n)+1+EK (r.map tz)
  rcases bp.mp h with q | q
  .subst q;have:EL (.int i)=i7 i:=by unfold EL i7;rfl
   omega
  .have:=z i q;omega
def uK{l:OpenLaw}{q:cy}{XP:(Str->Option ac)->Heap->Prop}{YP:bE->Heap->Prop}{d:DefRec}(hn:l.most=O0 n)(T0:d.params.defaults=[])(call:∀(w:bE) (I z:ai) (mg mb:Str->Option ac) (Z:Addr) (o:Obj) (pm cd doc:ac) (a:Addr) (vs:List ac) (O:List Int),
   Ground q loose [] XP w I mg mb z.heap->YP w z.heap ->
   z.heap.get? Z=O0 o->o.data=.func (docDef d.name d.params d.body d.scope pm cd doc)->z.heap.CodeRec cd d.name->mg d.name=O0 (.ref Z) ->
   z.heap.get? a=O0 { cls:=.type "list",data:=.seq vs.toArray }->xp vs O->O.length<=n->(∀i∈O,i7 i<=1048576)->z.gens=#[] ->
   gL (av l.prog w) rS (.call (.ref Z) ⟨[.ref a],[]⟩) (λr s'=>r=.ok (.ret (.bool O1))/\OldK z.heap s'.heap/\s'.os=z.os/\ng s'.gens) z):
  WalkO q loose XP YP l.row.toRowW d [] (λf vs=>EM f vs):=by
 intro w I z mg mb G Y Z o pm cd doc dV kV ho hd X0 hD S0 hg P1 N1 as L U S1 N0 U1;obtain rfl:dV=.none:=Dflts.none hD T0;obtain rfl:kV=.none:=Dflts.noKw hD;obtain⟨a,vs,O,rfl,rfl,S,J,T⟩:=Att.gZ hn L N0;have hb:∀i∈O,i7 i<=1048576:=λi hi=>by
  have h1:=aP O i hi;have h2:EK (O.map tz)<=1048576:=by
   have W:KL (.list (O.map tz))=O1:=eS.mp U _ (df ..);unfold KL at W;rw[eI] at W;exact WJ W.2
  omega
 refine enter_call (re (call w I z mg mb Z o pm cd doc a vs O G Y ho (fd_plain hd) X0 S0 S J T hb hg) λr s' hq=>?_);obtain⟨rfl,h2,W,h4⟩:=hq;exact⟨.inl ⟨.bool O1,.bool O1,[],rfl,λ_=>rfl,.bool O1,Att.gf l _,λ_=>⟨AT,λ_ hm=>(nomatch hm)⟩⟩,h2,W,h4⟩
theorem nF{l:PySem.W.OpenLaw}{k:Nat}{q:cy}{XP:(Str->Option ac)->Heap->Prop}{YP:bE->Heap->Prop}{d:DefRec}{K:Params->aS}{CX:bE->CXT}{sp:bE->Sp}(hn:l.most=O0 n)(S0:n<=sizeLine)(X0:d.params.defaults=[])(hr:Room k rS)(hY:∀(w:bE) (h:Heap),YP w h->(K w.params).In h)(F:∀(w:bE) (mg:Str->Option ac) (U:Addr) (h:Heap),(K w.params).In h->h.Ns gy mg->mg d.name=O0 (.ref U) ->
   ∃fd:li,(∀(s:ai) (u:ac),wf s fd ⟨[u],[]⟩ [(x,u)]) ∧
    ∀base:Heap,(K w.params).In base->base.Ns gy mg->gn l.prog w (K w.params) mg base (CX w) k U fd [x] (sp w))(N0:∀(w:bE) (H:Hp) (a:Addr) (O:List Int),O.length<=n->(∀i∈O,i7 i<=1048576)->Only H->NS (K w.params) H a (O.map V.int)->sp w [.ref a] H (λv _=>v=.bl O1) λ_ _ _=>False)(N1:∀(w:bE) (H:Hp) (s:ai) (e:ac) (Z:ai),CX w [] H s (λ_ _ _=>False) e Z->False):
  PySem.W.WalkO q loose XP YP l.row.toRowW d [] (λf vs=>EM f vs):=by
 refine uK hn X0 λw P1 L mg mb U o pm cd U1 a vs O G Y ho hd S1 T0 S J z I hg=>?_;have KX:=hY w _ Y;obtain⟨fd,hb,hF⟩:=F w mg U _ KX G.T.g T0;exact jw KX G.T.g G.T.b G.T.builtins G.T.nolimit hg S J (de z S0) hr hF hb (λH hO hS=>N0 w H a O z I hO hS) λH e Z=>N1 w H L e Z
end PV
namespace PySem
open PySem.Spec
end PySem
namespace PV
open PySem PySem.Spec L2
open PyProof.Rows hiding St
section
theorem rc.dt{A:List Addr}{H:Hp}{v:V}{z:List (List Key×D)}(r:rc G A H v (.dt z)):∃a kvs,v=.ref a/\Rd H a (.dT kvs)/\kvs.map (·.1)=z.map (·.1)/\bc G (be A H) (kvs.map (·.2)) (z.map (·.2)):=by
 rcases r with r | ⟨a,e,kvs,h,k,r⟩
 .cases r with
  |dt h k r=>
   refine⟨_,_,rfl,.inr ⟨_,Ao _ _ h⟩,k,?_,r⟩;have:=NJ eJ k;rw[aE,aE] at this ⊢;exact this
 .exact⟨a,kvs,e,.of h,k,r⟩
end
structure FunD (K:aS) (x qual:Str) (st:Stmt) (f:Addr) (fd:li):Prop where
 ex:∃(oc:ac) (od:Option Addr) (dV kV doc pm:ac) (an:Option Addr) (cdv ct:ac) (osl:Array (Option ac)),
  fd=io x qual (FJ st) (Bo st) (Ab st) dV kV doc pm an cdv ct/\K.lookup f=O0 ⟨oc,od,.func fd,osl⟩/\pd K cdv qual=O1
 kp:ib K (.ref f)=O1
def uL{K:aS}{f:Addr}{z kV:ac}(l:K.lookup f=O0 ⟨oc,od,.func (io x qual (FJ st) (Bo st) (Ab st) z kV doc pm an cdv ct),osl⟩)(c:pd K cdv qual=O1)(k:ib K (.ref f)=O1):FunD K x qual st f (io x qual (FJ st) (Bo st) (Ab st) z kV doc pm an cdv ct):=⟨⟨oc,od,z,kV,doc,pm,an,cdv,ct,osl,rfl,l,c⟩,k⟩
def AAr{base:Heap}{f:Addr}{k:Nat}{b:FS}(F:FunD G.K x qual st f fd)(S:am N ps (Ab st))(hl:ps.length<=N.length)(hb:∀(cdv:ac) (A:aT) (z:List Env) (s:ai) (H:Hp) (E:XK),Room k (A.deeper (fR qual (Ab st) s.heap.objs.size f cdv))->RY (Qb CX0 P w G.K mg base N qual (Ab st) f cdv A z s H E).nox G (Bo st) b):
  gn P w G.K mg base CX0 (k+1) f fd ps (MS G (il N.length ps.length b)):=by
 obtain⟨oc,od,dV,kV,S0,pm,an,cdv,ct,N0,rfl,lk,J⟩:=F.ex;refine je lk J S (λvs H Q E h=>?_) (λA z s H vs Q E hr h=>?_)
 .obtain⟨A,L,d,W,r,e,_⟩:=h;unfold il at e;split at e
  .rename_i O;rw[r.1];exact O
  .cases e
 .obtain⟨A0,L,d,W,r,e,k⟩:=h;unfold il at e;split at e
  .rename_i O;have hzz:=hb cdv A z s H E hr;refine⟨_,(@hzz A0 H).nox,DK N.length L,?_⟩;cases I:b (DK N.length L) with
   |none=>simp[I] at e
   |some o=>
    refine⟨o,Mf W r (by rw[r.1,O];exact hl),rfl,?_⟩;cases o with
    |nx U=>
     simp only[I] at e;cases e;rintro Y T ⟨A,w⟩;exact k _ T w.same .non
    |rt d' Z=>
     simp only[I] at e;cases e;exact λv Y T A w r'=>k v T w.same (r'.mono (DW w.sub))
    |bk U=>simp[I] at e
    |ct U=>simp[I] at e
  .cases e
def yq(l:List D)(y:D):im (.tup l) y=ixD (.tup l) y:=fy _
def K4(k:List (Key×D))(x:Str):im (.dk k) (.str x)=MM (.inr x) k:=fy _
def dJ(l:List (Key×D)):wh (.dk l)=O0 (.int l.length):=fy _
def dM(z:Bool)(x:Int)(k:List (Key×D)):Po z (.int x) (.dk k)=O0 (.bl (if z then !(MM (.inl x) k).isSome else (MM (.inl x) k).isSome)):=fy _
def Mr(o:Option D):Option (List D):=match o with | some (.str x)=>O0 (Yv x) | some (.lst ds)=>O0 ds | some (.tup ds)=>O0 ds | some (.dk z)=>O0 (z.map λp=>UU p.1) | _=>W1
def Cu(f:FE)(ρ:Rho):mu f ρ=Mr (f ρ):=by
 unfold mu seqE Mr;cases f ρ with
 |none=>rfl
 |some d=>cases d<;>rfl
def FN(l:List D):Mr (O0 (.lst l))=O0 l:=fy _
def QM(l:List D):Mr (O0 (.tup l))=O0 l:=fy _
def K5(l:List (Key×D)):Mr (O0 (.dk l))=O0 (l.map λp=>UU p.1):=fy _
def putO(i:Nat)(ρ:Rho)(x y v:Option D):Option So:=v.bind λv=>y.bind λy=>x.bind λx=>(Dt x y v).map λz=>.nx (ρ.set i (.ow z))
def Um(i:Nat)(I z:FE)(ρ:Rho):putF i I z ρ=putO i ρ (getW ρ[i]?) (I ρ) (z ρ):=fy _
def O5(i:Nat)(ρ:Rho)(x y v:D):putO i ρ (O0 x) (O0 y) (O0 v)=(Dt x y v).map λz=>.nx (ρ.set i (.ow z)):=fy _
def wO(i:Nat)(ρ:Rho)(x:Option D)(y:Option (List D))(v:Option D):Option So:=v.bind λv=>y.bind λy=>x.bind λx=>(QK x y v).map λz=>.nx (ρ.set i (.ow z))
def yr(i:Nat)(I:FA)(z:FE)(ρ:Rho):Yt i I z ρ=wO i ρ (getW ρ[i]?) (I ρ) (z ρ):=fy _
def uM(i:Nat)(ρ:Rho)(x:D)(y:List D)(v:D):wO i ρ (O0 x) (O0 y) (O0 v)=(QK x y v).map λz=>.nx (ρ.set i (.ow z)):=fy _
def frzO(ρ:Rho)(i:Nat)(o:Option Slot):Rho:=match o with | some (.ow d)=>ρ.set i (.fz d) | _=>ρ
def AAs(g:FS)(ρ:Rho):fzS [] g ρ=g ρ:=fy _
def AAt(i:Nat)(z:List Nat)(g:FS)(ρ:Rho):fzS (i::z) g ρ=fzS z g (frzO ρ i ρ[i]?):=fy _
def yt(ρ:Rho)(i:Nat)(d:D):frzO ρ i (O0 (.ow d))=ρ.set i (.fz d):=fy _
def K6(i j:Nat)(a b:D)(ρ:Rho):MV 2 (Aw i (Aw j MY)) (.tup [a,b]) ρ=O0 ((ρ.set i (.fz a)).set j (.fz b)):=fy _
def Uo(x:Str):UU (.inr x)=.str x:=fy _
theorem RQ{I:Type}[DecidableEq I]{k:I}:∀{l:List (I×D)},k∉l.map (·.1)->MM k l=W1
 |[],_=>rfl
 |p::r,h=>by
  unfold MM;rw[bb,bp,not_or] at h;rw[WI (λz=>h.1 z.symm)];exact RQ h.2
theorem XQ{I:Type}[DecidableEq I]{k:I}{d:D}:∀{l:List (I×D)},(l.map (·.1)).Nodup->(k,d)∈l->MM k l=O0 d
 |[],_,h=>by cases h
 |p::r,J,h=>by
  unfold MM;rw[bb,ly] at J
  rcases bp.mp h with q | q
  .subst q;rw[VI rfl]
  .rw[WI (λz=>J.1 (by rw[z];exact bn.mpr ⟨(k,d),q,rfl⟩))];exact XQ J.2 q
def MZ{z:Type}[DecidableEq z]{k:z}{v:D}{l:List (z×D)}(h:k∉l.map (·.1)):QU k v l=l++[(k,v)]:=by
 unfold QU;rw[RQ h];rfl
def O6(k:List (Key×D))(x:Str)(v:D)(Y:k.length<=1000000):Dt (.dk k) (.str x) v=O0 (.dk (QU (.inr x) v k)):=by
 show (if k.length<sizeLine then O0 (D.dk (QU (.inr x) v k)) else W1)=_;rw[VI (nI Y .(2))]
def yu(k:List (Key×D))(x:Int)(v:D)(Y:k.length<=1000000):Dt (.dk k) (.int x) v=O0 (.dk (QU (.inl x) v k)):=by
 show (if k.length<sizeLine then O0 (D.dk (QU (.inl x) v k)) else W1)=_;rw[VI (nI Y .(2))]
def yw(k:List (List Key×D))(x y:Int)(v:D)(Y:k.length<=1000000):QK (.dt k) [.int x,.int y] v=O0 (.dt (QU [.inl x,.inl y] v k)):=by
 show (if k.length<sizeLine/\2<=sizeLine then O0 (D.dt (QU [.inl x,.inl y] v k)) else W1)=_;rw[VI ⟨nI Y .(2),by decide⟩]
def S9{g:FS}{z:Rho}(h:g ρ=O0 (.nx z))(I:OW z=O1):OM g ρ ε=O0 (z,ε):=by
 unfold OM;rw[h];show (if OW z=O1 then O0 (z,ε) else W1)=_;rw[VI I]
def wQ(r:Option (Rho×Ef))(L:Pc):Option (Rho×Ef):=r.bind λr=>L r.1 r.2
def Er(g gs:Pc)(ρ:Rho)(z:Ef):Em g gs ρ z=wQ (g ρ z) gs:=fy _
def DX(L:Pc)(ρ:Rho)(ε:Ef):wQ (O0 (ρ,ε)) L=L ρ ε:=fy _
def aQ(ρ:Rho)(z:Ef):nilE ρ z=O0 (ρ,z):=fy _
def nG{tg:FG}{b:Pc}(h:src ρ=O0 ds):forE src tg b ρ ε=Js tg b ds ρ ε:=by
 unfold forE;rw[h];rfl
section
variable {a b:Expr}{fa fb:FE}{es:List Expr}{fs:FA}
def vr(i:Nat){x:Str}(L:X.N[i]?=O0 x:=by rfl)(z:XU X.env.scope x:=by first | exact dn rfl | exact cr (dn rfl) | exact cr (cr rfl))(I:(x==("__debug__":Str))=O2:=by decide)(J:(x==("__classdict__":Str))=O2:=by decide):PF X G (.Name x pos) (vF i):=yJ i (pv i L z I J)
def vp(i:Nat){x:Str}(L:X.N[i]?=O0 x:=by rfl)(z:XU X.env.scope x:=by first | exact dn rfl | exact cr (dn rfl) | exact cr (cr rfl))(I:(x==("__debug__":Str))=O2:=by decide)(J:(x==("__classdict__":Str))=O2:=by decide):PU X G (.Name x pos) (vF i):=PF.pu (vr i L z I J)
def vq(i:Nat){x:Str}(L:X.N[i]?=O0 x:=by rfl)(z:XU X.env.scope x:=by first | exact dn rfl | exact cr (dn rfl) | exact cr (cr rfl))(I:(x==("__debug__":Str))=O2:=by decide)(J:(x==("__classdict__":Str))=O2:=by decide):PU X G (.Name x pos) (vU i):=yK i (pv i L z I J)
def pU{f:FE}(h:PF X G e f):PU X G e f:=PF.pu h
def iP{i j}:PU X G (.Constant (.int i) j pos) (kF (.int i)):=PF.pu Q4
def iX{k:Nat}(J:Room k X.A)(I:PU X G a fa)(z:PU X G b fb)(W:G.K=X.K:=by rfl)(hs:Pk b:=by exact λ_ _=>rfl):PF X G (.Subscript a b pos) (bF im fa fb):=yg (Ip J) W I z hs
def iD(I:PU X G a fa)(z:PU X G b fb)(W:G.K=X.K:=by rfl)(hs:Pk b:=by exact λ_ _=>rfl):PF X G (.Subscript a b pos) (bF ixD fa fb):=AAj W I z hs
def OQ(I:PU X G a fa)(z:PU X G b fb)(W:G.K=X.K:=by rfl):PF X G (.BinOp a .Add b pos) (bF tx fa fb):=HS sU (by rw[<-W];exact sV) I z
def bSub(I:PU X G a fa)(z:PU X G b fb):PF X G (.BinOp a .Sub b pos) (bF SU fa fb):=HS xu sH I z
def bMul(I:PU X G a fa)(z:PU X G b fb):PF X G (.BinOp a .Mult b pos) (bF Si fa fb):=HS sI sJ I z
def Tb(I:PU X G a fa)(z:PU X G b fb):PF X G (.BinOp a .FloorDiv b pos) (bF Hu fa fb):=HS rH j8 I z
def OL(I:PU X G a fa)(z:PU X G b fb):PF X G (.BinOp a .Mod b pos) (bF MR fa fb):=HS xx sO I z
def cEq{k:Nat}(J:Room k X.A)(I:PU X G a fa)(z:PU X G b fb)(W:G.K=X.K:=by rfl):PF X G (.Compare a [.Eq] [b] pos) (bF (mf O2) fa fb):=Wo (kO W J.unitsW) (aC O2) I z (MK _)
def YN{k:Nat}(J:Room k X.A)(I:PU X G a fa)(z:PU X G b fb)(W:G.K=X.K:=by rfl):Sn X G (.Compare a [.Eq] [b] pos) (ui (bF (mf O2) fa fb)):=JK (kO W J.unitsW) (aC O2) I z (MK _)
def tNe{k:Nat}(J:Room k X.A)(I:PU X G a fa)(z:PU X G b fb)(W:G.K=X.K:=by rfl):Sn X G (.Compare a [.NotEq] [b] pos) (ui (bF (mf O1) fa fb)):=JK (yW W J.unitsW) (aC O1) I z (MK _)
def cIn{k:Nat}(J:Room k X.A)(L:PU X G a fa)(I:PU X G b fb)(W:G.K=X.K:=by rfl)(z:fw .In b=O2:=by with_unfolding_all rfl):PF X G (.Compare a [.In] [b] pos) (bF (Po O2) fa fb):=Wo ((kI.or (aK (Ip J))).or (m9 W J.units)) (by rw[<-W];exact XM O2) L I z
def tIn{k:Nat}(J:Room k X.A)(L:PU X G a fa)(I:PU X G b fb)(W:G.K=X.K:=by rfl)(z:fw .In b=O2:=by with_unfolding_all rfl):Sn X G (.Compare a [.In] [b] pos) (ui (bF (Po O2) fa fb)):=JK ((kI.or (aK (Ip J))).or (m9 W J.units)) (by rw[<-W];exact XM O2) L I z
def tNi{k:Nat}(J:Room k X.A)(L:PU X G a fa)(I:PU X G b fb)(W:G.K=X.K:=by rfl)(z:fw .NotIn b=O2:=by with_unfolding_all rfl):Sn X G (.Compare a [.NotIn] [b] pos) (ui (bF (Po O1) fa fb)):=JK ((gk.or (iG (Ip J))).or (iM W J.units)) (by rw[<-W];exact XM O1) L I z
def tLt(I:PU X G a fa)(z:PU X G b fb):Sn X G (.Compare a [.Lt] [b] pos) (ui (bF ltD fa fb)):=JK vQ j9 I z (MK _)
def tGt(I:PU X G a fa)(z:PU X G b fb):Sn X G (.Compare a [.Gt] [b] pos) (ui (bF gtD fa fb)):=JK AAZ yO I z (MK _)
def tGe(I:PU X G a fa)(z:PU X G b fb):Sn X G (.Compare a [.GtE] [b] pos) (ui (bF geD fa fb)):=JK AAa yP I z (MK _)
def sF(O:X.N.Nodup)(i:Nat){x:Str}{p:Pos}(L:PF X G a fa)(I:X.N[i]?=O0 x:=by rfl)(z:Loc X.env.scope x:=by first | exact dn rfl | exact cr rfl)(hs:eP a (O0 (.Name x p)) pos.line X.env=pure O2:=by rfl)(J:X.fn x=O1∨X.env.scope.names.lookup x=O0 .local :=by first | exact .inl rfl | exact .inr rfl | assumption):UR X G (.Assign [.Name x p] a pos) (ll i fa):=tG (λ_ h=>Zt O I z h hs J) L
def sW(S:X.N.Nodup)(i:Nat){x:Str}{p:Pos}(O:PN X G a fa)(J:X.N[i]?=O0 x:=by rfl)(I:Loc X.env.scope x:=by first | exact dn rfl | exact cr rfl)(hs:eP a (O0 (.Name x p)) pos.line X.env=pure O2:=by rfl)(L:X.fn x=O1∨X.env.scope.names.lookup x=O0 .local :=by first | exact .inl rfl | exact .inr rfl | assumption)(z:i≠0:=by decide):UR X G (.Assign [.Name x p] a pos) (setW i fa):=lG (λ_ h=>Zt S J I h hs L) O z
def gN(L:X.N.Nodup)(i:Nat){x:Str}(I:X.N[i]?=O0 x:=by rfl)(z:Loc X.env.scope x:=by first | exact dn rfl | exact cr rfl)(J:X.fn x=O1∨X.env.scope.names.lookup x=O0 .local :=by first | exact .inl rfl | exact .inr rfl | assumption):PG X (.Name x pos) (Ft i):=rF L I z J
def cO{t:Str}(I:X.N=N)(hs:X.env.scope=sc)(h:cG N sc scope t=O1:=by decide +kernel):Q3 X scope t:=g_ I hs h
abbrev nT (N:List Str) (t:Str):List Str:=N++[t]
structure Dx (K:aS) (mg:Str->Option ac) (x:Str) (st:Stmt) (ps:List Str) where
 f:Addr
 fd:li
 F:FunD K x x st f fd
 B:MU K fd ps []
 m:mg x=O0 (.ref f)
abbrev QN (P:cy) (w:bE) (base:Heap) {K:aS}{mg:Str->Option ac}{x:Str}{st:Stmt}{ps:List Str}(d:Dx K mg x st ps) (k:Nat) (sp:Sp):Prop:=gn P w K mg base CX0 k d.f d.fd ps sp
theorem fX{k:Nat}{p:Pos}{d:Dx X.K X.mg x st ps}(F:gn X.prog X.w X.K X.mg X.base CX0 k d.f d.fd ps (MS G g))(L:Room k' X.A)(S:To X G (a::es) fs)(I:k<=k':=by omega)(W:Gl X x:=by rfl)(J:(x==("__debug__":Str))=O2:=by decide)(O:ay (a::es) X.env=(O2,eval a X.env)::ay es X.env:=by rfl)(z:(da pos (ay es X.env)).any (·.1)=O2:=by rfl):PF X G (.Call (.Name x p) (a::es) [] pos) (Aj g fs):=AAk F (L.mono I) W d.m d.F.kp d.B S J O z
end
section
variable {K:aS}{f:Addr}{dV kV:ac}
theorem Rl{base:Heap}{k:Nat}{b:FS}(d:Dx G.K mg x st ps)(S:am N ps (Ab st))(I:∀(cdv:ac) (A:aT) (z:List Env) (s:ai) (H:Hp) (E:XK),Room k (A.deeper (fR x (Ab st) s.heap.objs.size d.f cdv))->RY (Qb CX0 P w G.K mg base N x (Ab st) d.f cdv A z s H E).nox G (Bo st) b)(Y:ps.length<=N.length:=by decide):
  gn P w G.K mg base CX0 (k+1) d.f d.fd ps (MS G (il N.length ps.length b)):=AAr d.F S Y I
def dx(X:K.In h)(N:h.Ns gy mg)(a:B3 K gy x=O0 (O0 (.ref f)))(l:K.lookup f=O0 ⟨oc,od,.func (io x x (FJ st) (Bo st) (Ab st) .none kV doc pm an cdv ct),osl⟩)(c:pd K cdv x=O1)(k:ib K (.ref f)=O1)(b:∀(kV doc pm:ac) (an:Option Addr) (cdv ct:ac) (us:List ac),us.length=ps.length->wq (io x x (FJ st) (Bo st) (Ab st) .none kV doc pm an cdv ct) ⟨us,[]⟩=pure (ps.zip us)):Dx K mg x st ps:=⟨f,_,uL l c k,(Tv l c k).binds b,si X N a⟩
structure Ix (K:aS) (C:Addr) (qual:Str) (st:Stmt) (ps:List Str) where
 f:Addr
 fd:li
 F:Fun K "__init__" qual st f fd
 B:MU K fd ps []
 mM:Mk K C f
def ix(X:K.In h)(m:CO K C=O1)(z:ib K (.ref C)=O1)(a:fA K (.ref C) "__init__"=O0 (O0 (.ref f)))(i:rd K (.ref f)=O1)(l:K.lookup f=O0 ⟨oc,od,.func (io "__init__" qual (FJ st) (Bo st) (Ab st) .none kV doc pm an cdv ct),osl⟩)(c:pd K cdv qual=O1)(k:ib K (.ref f)=O1)(b:∀(kV doc pm:ac) (an:Option Addr) (cdv ct:ac) (us:List ac),us.length=ps.length->wq (io "__init__" qual (FJ st) (Bo st) (Ab st) .none kV doc pm an cdv ct) ⟨us,[]⟩=pure (ps.zip us)):Ix K C qual st ps:=⟨f,_,Tv l c k,(Tv l c k).binds b,m,a,i,z⟩
structure Sx (mg:Str->Option ac) (x:Str) (f:Tok->ac) where
 t:Tok
 m:mg x=O0 (f t)
structure Kx (G:Gx) (mg:Str->Option ac) (x:Str) (c:D) where
 a:Addr
 m:mg x=O0 (.ref a)
 r:jl G (λ_=>W1) (.ref a) c
def sx{t:Tok}{f:Tok->ac}(X:K.In h)(N:h.Ns gy mg)(a:B3 K gy x=O0 (O0 (f t))):Sx mg x f:=⟨t,si X N a⟩
def cls(X:K.In h)(J:wc K C nv=O1)(L:Ap K C=O1)(I:CL K C=O1)(z:fA K (.ref C) "__setattr__"=O0 (O0 (.builtin "object.__setattr__"))):NW K C:=⟨J,L,I,z⟩
end
def Y4:D->Option D
 |.int i=>if 0<=i/\i<=1000000 then O0 (.lst (MX i.toNat)) else W1
 |_=>W1
theorem dN{z:Type}(f:z->Bool):∀l:List z,RS (l.map λx=>.bl (f x))=O0 (l.map f)
 |[]=>rfl
 |x::r=>by rw[bb,RS,dN f r];rfl
section
variable {a:Expr}{fa:FE}{es:List Expr}{fs:FA}
theorem iQ:D_ X (.type "range") (λxs H Q=>∃i:Int,xs=[.int i]/\∀l,H l=W1->Q (.ref l) (gq H l (.rng 0 i))):=by
 intro L s J H xs O Q I r h;obtain⟨i,rfl,q⟩:=h;obtain⟨u,rfl,z⟩:=r.one;obtain⟨t,rfl⟩:=z;refine call_range_1 ?_;exact⟨.ref s.heap.objs.size,_,I.laid (λb o e=>bo _ e) (aI _) (show Bg X.prog X.w _ _ _ (.rng 0 i) from⟨_,_,_,ce _ rfl⟩),rfl,q _ (I.hok.fresh (aI _))⟩
theorem dO:∀{xs:List V}{us:List ac},us.length=xs.length->(∀(j:Nat) x u,xs[j]?=O0 x->us[j]?=O0 u->cc x u)->fc xs us
 |[],us,Y,_=>by
  rw[xS Y];exact .nil
 |x::r,[],Y,_=>by simp at Y
 |x::r,u::us,Y,h=>.cons (h 0 x u rfl rfl) (dO (by simpa using Y) λj y v a b=>h (j+1) y v (by simpa using a) (by simpa using b))
theorem Vg(hc:X.calm=O1):D_ X (.type "list") (λxs H Q=>∃(p:Addr) (n:Nat),xs=[.ref p]/\H p=O0 (.rng 0 n)/\n<=1000000/\∀l,H l=W1->Q (.ref l) (gq H l (.lst ((bg n).map λ(k:Nat)=>V.int k)))):=by
 intro π s σ H xs us Q I r h;obtain⟨p,n,rfl,e,hn,q⟩:=h;obtain⟨u,rfl,U⟩:=r.one;cases U;obtain⟨t,u,v,Z⟩:=(show Bg X.prog X.w H s.heap p (.rng 0 n) from I.hok p _ e);have W:HC 0 n 1=(n:Int):=by rw[rangeSize_one];split<;>omega
 refine call_list_range (I.ok.hd hc) Z (small_one .(2) .(2) .(0) .(0)) W .(0) λh' tk J c' Y z L=>?_;have T:fc ((bg n).map λ(k:Nat)=>V.int k) J.toList:=by
  refine dO (by simp[L.1]) λj x u O S=>?_;obtain⟨tk,rfl⟩:=L.2 j u (by simpa using S);have hj:j<n:=by
   have:=(iL.mp S).1;rw[gE,L.1] at this;exact this
  rw[cb,B4 hj] at O;cases O;exact⟨tk,by simp⟩
 exact⟨.ref s.heap.objs.size,_,I.laid (t':=tk) Y (aI _) (show Bg X.prog X.w _ h' _ (.lst _) from⟨by rw[aE,lP];exact de hn .(2),J.toList,c',T,by simpa using z⟩),rfl,q _ (I.hok.fresh (aI _))⟩
def nH:d4 "range"=O0 (.type "range"):=by decide +kernel
def uN{p q:Pos}(hg:Gl X "list")(hm:X.mg "list"=W1)(W:Gl X "range")(I:X.mg "range"=W1)(ha:PU X G a fa)(hc:X.calm=O1:=by rfl)(Y:ay [a] X.env=[(O2,eval a X.env)]:=by rfl)(L:ay [.Call (.Name "range" q) [a] [] pos2] X.env=[(O2,eval (.Call (.Name "range" q) [a] [] pos2) X.env)]:=by rfl):
  PN X G (.Call (.Name "list" p) [.Call (.Name "range" q) [a] [] pos2] [] pos) (uF Y4 fa):=λA=>CT (HQ (Vg hc) hg hm Sw (Ca (HQ iQ W I nH (Ca (@ha A) Ei Y) .(2) .(2) Y rfl) Ei L) .(2) .(2) L rfl)<|by
 rintro σ H Q ⟨Z,d,o,e,k⟩
 obtain⟨dx,e1,J⟩:=Gk e;refine⟨Z,dx,o,e1,λv H1 T r1=>?_⟩;unfold Y4 at J;split at J
 .rename_i i;split at J
  .rename_i hi;cases J;rw[r1.int];refine⟨i,rfl,λl hl=>⟨l,i.toNat,rfl,by rw[Ak,EN hi.1],by omega,λm I=>?_⟩⟩;have o1:=(o.mono T);have n1:l≠m:=λz=>by rw[<-z,Ak] at I;cases I
   have U:H1 m=W1:=by rw[Am (ci n1)] at I;exact I
   refine k m _ (T.trans ((Al hl _).trans (Al I _))) (T.free U) ⟨(bg i.toNat).map λ(k:Nat)=>V.int k,Ak,by simp[MX],λj x d O S=>?_⟩;unfold MX at S;rw[cb] at O S;cases q:(bg i.toNat)[j]? with
   |none=>rw[q] at O;cases O
   |some z=>rw[q] at O S;cases O;cases S;exact .int z
  .cases J
 .cases J
def uO{p q:Pos}(L:Gl X "list")(J:X.mg "list"=W1)(W:Gl X "range")(I:X.mg "range"=W1)(T:PU X G a fa)(S:X.calm=O1:=by rfl)(O:ay [a] X.env=[(O2,eval a X.env)]:=by rfl)(z:ay [.Call (.Name "range" q) [a] [] pos2] X.env=[(O2,eval (.Call (.Name "range" q) [a] [] pos2) X.env)]:=by rfl):
  PF X G (.Call (.Name "list" p) [.Call (.Name "range" q) [a] [] pos2] [] pos) (uF Y4 fa):=PN.pf (uN L J W I T S O z)
end
section
variable {A:aT}{T:String}{r d:Addr}{P:Nat->ac->Prop}{OK:Heap->Prop}
theorem Y5{R:List ac->ai->Prop}(K:PySem.W.KdlSrc prog w T r d n P OK)(hh:A.handled=W1)(L:OK s.heap)(hn:n<=sizeLine)(h:∀(h':Heap) (tk:Nat) (U:Array ac),(∀b o,s.heap.get? b=O0 o->h'.get? b=O0 o)->s.heap.objs.size<=h'.objs.size->ItemsOf P U n->R U.toList { s with heap:=h',toks:=tk }):
  ah (av prog w) A (sk (.ref r)) R E s:=by
 obtain⟨hr,hd⟩:=K.there _ L;have gS:(s.heap.push { cls:=.type "list",data:=.seq ([]:List ac).toArray }).get? s.heap.objs.size=O0 { cls:=.type "list",data:=.seq #[] }:=ce _ rfl;unfold sk;refine ag (B5 (kK EQ ?_));rw[se PySem.F.plain_proto_collect _];show ah _ A.in1 (xv [] >>= λl=>again (.builtin "list.__iadd__" ⟨[l,.ref r],[]⟩)) _ _ s;refine ag (kD (aw ⟨pS KO _,kK ER ?_⟩));rw[se KO _];show ah _ A.in1 (y0 (.ref s.heap.objs.size) (.ref r) (.ref s.heap.objs.size)) _ _ _;have Z:=PySem.W.kdl_extend (A:=A) (s:={ s with heap:=s.heap.push { cls:=.type "list",data:=.seq ([]:List ac).toArray } }) K
  (R:=λq Y=>∃(h':Heap) (tk:Nat) (z:Array ac) (J:Nat),q=.ok (.ret (.ref s.heap.objs.size))/\Y={ s with heap:=h',toks:=tk }/\(∀b o,s.heap.get? b=O0 o->h'.get? b=O0 o)/\h'.get? s.heap.objs.size=O0 { cls:=.type "list",dict:=W1,data:=.seq z J,slots:=#[] }/\ItemsOf P z n)
  hh (K.keep _ _ L λb _ o e=>bo _ e) s.heap.objs.size (ol hr) (ol hd) (.ref s.heap.objs.size) 0 gS
  (λh' tk z J O I S=>⟨h',tk,z,J,rfl,rfl,λb o e=>O b o (bS (br e)) (bo _ e),I,S⟩) hn
 refine hZ Z (λN0 Y x=>?_) λe Y x=>?_
 .cases N0 with
  |done f=>
   obtain⟨h',tk,z,J,e,rfl,O,I,S⟩:=x;cases e;show ah _ A (load s.heap.objs.size >>= _) _ _ _;exact ag (wa I (aw (h h' tk z O (sR (br I)) S)))
  |again c=>
   refine⟨x.1,re x.2 λr2 s2 y=>?_⟩;obtain⟨h',tk,z,J,e,rfl,O,I,S⟩:=y;cases e;show ah _ A (load s.heap.objs.size >>= _) _ _ _;exact ag (wa I (aw (h h' tk z O (sR (br I)) S)))
 .obtain⟨h',tk,z,J,e,_⟩:=x;cases e
end
section
variable {A:aT}
theorem iR{ks:List Str}{v:ac}(nd:ks.Nodup)(O:ks.length<=60)(J:∀(R:List ac->ai->Prop) (E':ac->ai->Prop),(∀(vs:List ac) (h':Heap) (tk:Nat),B0 vs ks->s.heap.objs.size<=h'.objs.size->(∀b o,s.heap.get? b=O0 o->h'.get? b=O0 o)->R vs { s with heap:=h',toks:=tk })->ah (av prog w) A.in1 (sk v) R E' s)(k:∀(its:List ac) (e:Nat) (l:Addr) (h':Heap) (tk:Nat),B0 its (Gh ks)->h'.get? l=O0 (qc "list" its.toArray e)->s.heap.objs.size<=l->(∀b o,s.heap.get? b=O0 o->h'.get? b=O0 o)->Q (.ref l) { s with heap:=h',toks:=tk }):
  ah (av prog w) A (call (.builtin "sorted") [v]) Q E s:=by
 refine ES ET EU EV (EW _) ?_;unfold eK.«sorted»;refine ag (m:=EZ "sorted" 1 1 _) (aw (ag (J _ _ λvs I tk U le Y=>?_)));have z:vs.length<=60:=by rw[U.length];exact O
 refine ag (uS ?_ (de z .(2)));have S:(I.push { cls:=.type "list",data:=.seq vs.toArray }).get? I.objs.size=O0 (qc "list" vs.toArray 0):=ce _ rfl;refine ag (wpAny_holding (iF F0 ⟨_,S,rfl⟩ F3 (PyProof.Rows.list_sort_treeK PyProof.Rows.strKind_oneLt S U.keysOf (λa b r e=>PyProof.Rows.keyKind_strs (by rw[<-e];exact U)) .(0) λL a1 a2=>⟨_,rfl,?_⟩) (F4 _)));obtain⟨Z,o1,T,o3⟩:=PyProof.Rows.sorted_out_str U a1 a2;have e:Z=Gh ks:=aJ (W8 o3 (T.nodup_iff.mpr nd)) (QG ks) λy=>by rw[Nv,T.mem_iff]
 subst e;obtain⟨c,J⟩:∃c,(PyProof.Rows.sortedHeap (I.push { cls:=.type "list",data:=.seq vs.toArray }) I.objs.size vs ((F5 L).map (·.2))).get? I.objs.size=O0 (qc "list" ((F5 L).map (·.2)).toList.toArray c):=by
  obtain⟨c,J⟩:=F6 (out:=(F5 L).map (·.2)) S;exact⟨c,by rw[J,Array.toArray_toList]⟩
 refine aw ⟨_,rfl,k _ c _ _ tk o1 J le λb o g=>?_⟩;have W:=br (Y b o g);rw[F7 (bS W) (by rw[iO];exact mN W)];exact bo _ (Y b o g)
end
open L2
section
variable {a:Expr}{p:Pos}
theorem QQ:∀{z:List Str}{us:List ac},fc (z.map V.str) us->B0 us z
 |[],_,.nil=>.nil
 |_::_,_,.cons r t=>by obtain⟨u,rfl⟩:=r;exact .cons _ _ (QQ t)
theorem Oe(hc:X.calm=O1):D_ X (.builtin "sorted") (λxs H Q=>∃p kvs J,xs=[.ref p]/\Rd H p (.dK kvs)/\kvs.map (λq=>kV q.1)=J.map V.str/\J.Nodup/\J.length<=60/\∀l,H l=W1->Q (.ref l) (gq H l (.lst ((Gh J).map V.str)))):=by
 intro π s σ H xs us Q I r h;obtain⟨p,kvs,J,rfl,e,ez,nd,hz,k⟩:=h;obtain⟨u,rfl,ru⟩:=r.one;cases ru;obtain⟨z,hd,Y,L,W⟩:=Px I.hok e;obtain⟨ep,W⟩:=W.dictAt;have hl:kvs.length=Y.length:=L.length;refine iR (ks:=J) nd hz (λR E' hR=>Y5 (KG (knd:=Av X.prog X.w) (kvs:=Y) (ep:=ep) hd) (I.ok.hd hc) W .(0) λh' tk U S O hi=>hR _ h' tk ?_ O S) λT e2 l h' tk hS g O S=>?_
 .have Z:fc (kvs.map λq=>kV q.1) U.toList:=by
   refine XF (P:=X.prog) (w:=X.w) (by simp[hi.1,hl]) λj u hu=>?_;obtain⟨k,x,h1,h2⟩:=hi.2 j u (by simpa using hu);have hj:j<kvs.length:=by rw[hl];exact (iL.mp h1).1
   refine⟨kvs[j],by simp[hj],?_⟩;rw[(QJ L (by simp[hj]) h1).1];exact h2
  rw[ez] at Z;exact QQ Z
 .have hv:=Vw hS;refine⟨.ref l,_,I.laid (a:=l) (o:=.lst ((Gh J).map V.str)) (t':=tk) S O ⟨?_,T,e2,hv,g⟩,rfl,k l (I.hok.fresh O)⟩;rw[aE];have:=sub_len (mW (QG J)) (m:=J) λy m=>(Nv y J).mp m;exact de this (de hz .(2))
def sdkL(I:List (Key×D)):Option D:=(Ob (I.map λp=>UU p.1)).bind λz=>if z.Nodup/\z.length<=60 then O0 (.lst ((Gh z).map .str)) else W1
def sdkD:D->Option D
 |.dk z=>sdkL z
 |_=>W1
def dR:XY G (λxs H Q=>∃p kvs I,xs=[.ref p]/\Rd H p (.dK kvs)/\kvs.map (λq=>kV q.1)=I.map V.str/\I.Nodup/\I.length<=60/\∀l,H l=W1->Q (.ref l) (gq H l (.lst ((Gh I).map V.str)))) sdkD:=by
 intro A H x dx d Q W r e k;cases dx with
 |dk L=>
  have e:sdkL L=O0 d:=e;obtain⟨p,kvs,rfl,J,O,Z⟩:=r.dk;unfold sdkL at e;cases S:Ob (L.map λp=>UU p.1) with
  |none=>rw[S] at e;cases e
  |some I=>
   rw[S] at e;have T:(if I.Nodup/\I.length<=60 then O0 (D.lst ((Gh I).map .str)) else W1)=O0 d:=e;split at T
   .rename_i U;cases T;refine⟨p,kvs,I,rfl,J,mj (G:=G) (H:=be A H) (m6 O) S,U.1,U.2,λl Y=>k _ _ (Al Y _) (Ep W Y ⟨by simp,λi v d J O=>?_⟩)⟩;rw[cb] at J O;cases q:(Gh I)[i]? with
    |none=>rw[q] at J;cases J
    |some z=>rw[q] at J O;cases J;cases O;exact .str z
   .cases T
 |_=>cases e
end
open EX
section
variable {a ob:Expr}{es:List Expr}{fs:FA}{fo:FE}{p:Pos}
def Ck(c m:Str):D->Bool
 |.ob z L=>z==c&&(L.lookup m).isNone
 |_=>O2
def CW(c m:Str)(g:List D->Option D)(z:FE)(fs:FA):FE:=λρ=>(z ρ).bind λo=>if Ck c m o=O1 then (fs ρ).bind λds=>g (o::ds) else W1
def Nz{fs:List (Str×V)}(h:fs.map (·.1)=gs.map (·.1))(n:gs.lookup m=W1):fs.lookup m=W1:=by
 induction fs generalizing gs with
 |nil=>rfl
 |cons p r z=>
  cases gs with
  |nil=>cases h
  |cons q t=>
   obtain⟨a,b⟩:=p;obtain⟨J,L⟩:=q;simp only[bb,zw] at h;obtain⟨rfl,I⟩:=h;simp only[bP] at n ⊢;split at n
   .cases n
   .exact z I n
end
end PV
namespace EX
open PySem PySem.W PyProof.Rows PySem.Calls
open PySem.Spec
section
variable {A:aT}{K:Frag}{x:Addr}{ox:Obj}{od:Option Obj}{name:Str}{v:ac}
open Builtin Builtin.ObjectAttr in
end
end EX
namespace EX
open PySem PySem.Spec L2
open PyProof.Rows hiding St
abbrev bmV:List ac:=[.type "ValueError",.type "Exception",.type "BaseException",.type "object"]
def excX(K:aS)(C:Addr):Bool:=match K.lookup C with
 |some ⟨.type "type",_,.cls cd,sl⟩=>(match cd.mro,sl.toList with
  |.ref I::z,[_,_,_,_,O0 (.builtin n),_]=>I==C&&n=="ValueError.__new__"&&!cd.hasDel&&PySem.W.tailIn K bmV z
  |_,_=>O2)
 |_=>O2
structure XC (K:aS) (C R:Addr):Prop where
 obj:excX K C=O1
 sa:fA K (.ref C) "__setattr__"=O0 (O0 (.builtin "object.__setattr__"))
 ga:fA K (.ref C) "__getattribute__"=O0 (O0 (.builtin "BaseException.__getattribute__"))
 gt:fA K (.ref C) "__getattr__"=O0 W1
 cd:(PySem.W.clsIn K C).any (λcd=>cd.mro==[.ref C,.ref R,.type "ValueError",.type "Exception",.type "BaseException",.type "object"]&&cd.hasDict)=O1
end EX
namespace PV
open PySem PySem.Spec L2 EX
open PyProof.Rows hiding St
end PV
namespace EX
open PySem PySem.Spec L2
open PyProof.Rows hiding St
section
variable {e R:Addr}{K:aS}
abbrev Cx.tr (X:Cx) (E:ac->ai->Prop) (pn:NU):Cx:={ X with xe:=E,pn:=pn }
end
end EX
namespace PV
open PySem PySem.Spec L2 EX
open PyProof.Rows hiding St
end PV
namespace EX
open PySem PySem.W PySem.Spec PyProof.Rows PySem.Calls
end EX
namespace PV
open PySem PySem.Spec L2 EX
open PyProof.Rows hiding St
structure Mx (K:aS) (C:Addr) (m qual:Str) (st:Stmt) (ps:List Str) where
 f:Addr
 fd:li
 F:Fun K m qual st f fd
 B:MU K fd ps []
 me:Meth K C m f
structure Rx (K:aS) (mg:Str->Option ac) (rn:Str) where
 R:Addr
 m:mg rn=O0 (.ref R)
 x:excX K R=O1
 h1:CU K (.ref R) "__getattribute__"=O0 (O0 (.builtin "type.__getattribute__"))
 h2:KP K R (.type "type")=O1
 h3:KS K (.ref R) (.type "type") "__init__"=O0 (.val (.builtin "ValueError.__init__"))
structure Xx (G:Gx) (mg:Str->Option ac) (R:Addr) (cn f qual:Str) (st:Stmt) (ps:List Str) where
 C:Addr
 fi:Addr
 fd:li
 g:G.xcl cn=O0 C
 xc:XC G.K C R
 hi:fA G.K (.ref C) "__init__"=O0 (O0 (.ref fi))
 hf:rd G.K (.ref fi)=O1
 kp:ib G.K (.ref C)=O1
 na:Bf G.K C f
 m:mg cn=O0 (.ref C)
 F:Fun G.K "__init__" qual st fi fd
 B:MU G.K fd ps []
section
variable {a ob:Expr}{es:List Expr}{fs:FA}{fa fo:FE}{p np cpos:Pos}
theorem mO{k:Nat}{d:Mx X.K C m qual st ps}{pl:Sem Bool}(W:G.cl c=O0 C)(cl:NW X.K C)(F:gn X.prog X.w X.K X.mg X.base CX0 k d.f d.fd ps (MS G g))(hr:Room k' X.A)(ho:PF X G ob fo)(L:k<=k':=by omega)(ht:eval (.Call (.Attribute ob m apos) [] [] pos) X.env=(do
   let ov <-eval ob X.env
   nh apos.atName
   let (f,first) <-lh [ov] (oB ov m pl)
   rf pos f first (da pos (ay [] X.env)) (kB pos (ii [] X.env))):=by rfl):
  PF X G (.Call (.Attribute ob m apos) [] [] pos) (CW c m g fo ab):=λA=>CT (jc (@ho A) cl d.me F (hr.mono L) d.B .nil Ry ht)<|by
 rintro σ H Q ⟨J,dd,o,e,k⟩
 unfold CW at e;cases O:fo J with
 |none=>simp[O] at e
 |some I=>
  rw[O] at e;have S:(if Ck c m I=O1 then (ab J).bind λds=>g (I::ds) else W1)=O0 dd:=e;split at S
  .rename_i z;have e2:g [I]=O0 dd:=S;refine⟨J,I,o,O,λv H1 T r1=>?_⟩;cases I with
   |ob c' gs=>
    simp only[Ck,eI,SK,sg] at z;obtain⟨rfl,hn⟩:=z;cases r1 with
    |ob Y Z U r2=>
     rw[W] at Y;cases Y;exact⟨_,_,_,rfl,Ao _ _ Z,Nz U hn,A,[.ob c' gs],dd,(o.mono T).live,.cons (.ob W Z U r2) .nil,e2,λv H3 s3 r4=>k v H3 (T.trans s3) r4⟩
   |_=>simp[Ck] at z
  .cases S
end
section
variable {K:aS}{cn:Str}{f R:Addr}{kV:ac}{l:List (Str×Addr)}
def mx(X:K.In h)(a:fA K (.ref C) m=O0 (O0 (.ref f)))(i:rd K (.ref f)=O1)(z:K.lookup f=O0 ⟨oc,od,.func (io m qual (FJ st) (Bo st) (Ab st) .none kV doc pm an cdv ct),osl⟩)(c:pd K cdv qual=O1)(k:ib K (.ref f)=O1)(b:∀(kV doc pm:ac) (an:Option Addr) (cdv ct:ac) (us:List ac),us.length=ps.length->wq (io m qual (FJ st) (Bo st) (Ab st) .none kV doc pm an cdv ct) ⟨us,[]⟩=pure (ps.zip us)):Mx K C m qual st ps:=⟨f,_,Tv z c k,(Tv z c k).binds b,a,i,k⟩
def rx(X:K.In h)(N:h.Ns gy mg)(a:B3 K gy x=O0 (O0 (.ref R)))(e:excX K R=O1)(h1:CU K (.ref R) "__getattribute__"=O0 (O0 (.builtin "type.__getattribute__")))(z:KP K R (.type "type")=O1)(T:KS K (.ref R) (.type "type") "__init__"=O0 (.val (.builtin "ValueError.__init__"))):Rx K mg x:=⟨R,si X N a,e,h1,z,T⟩
end
def AAu:R2:=λx y H Q=>∃a kvs k b,y=.ref a/\Rd H a (.dT kvs)/\x=.ref b/\H b=O0 (.tup (k.map kV))/\Q (.bl (Pl kvs k).isSome) H
def inTO(ds:Option (List D))(y:Option D):Option D:=ds.bind λds=>y.bind λy=>match y with
 |.dt z=>if ds.length<=sizeLine then (Mj ds).map λk=>.bl (MM k z).isSome else W1
 |_=>W1
def inTF(fs:FA)(z:FE):FE:=λρ=>inTO (fs ρ) (z ρ)
section
variable {b:Expr}{fb:FE}{es:List Expr}{fs:FA}
def uP(S:X.A.units+1<bv):NR X (db .In) AAu:=by
 intro U s T H x y v u Q I rx J h;obtain⟨a,z,k,b,rfl,e,rfl,L,q⟩:=h;cases J;exact d_in S I (.inr ⟨z,k,b,e,rfl,L,rfl⟩) rx λW O=>⟨.bl _,H,O,rfl,q⟩
def nJ{x1}{k:Nat}(hr:Room k X.A)(ha:To X G es fs)(hb:PU X G b fb)(hm:fw .In b=O2:=by with_unfolding_all rfl):PF X G (.Compare (.Tuple es x1 p1) [.In] [b] pos) (inTF fs fb):=λA=>CT (bY (uP (Ip hr)) (Z5 (@ha A)) (@hb A) hm)<|by
 rintro σ H Q ⟨I,d,o,e,k⟩
 unfold inTF inTO at e;cases J:fs I with
 |none=>simp[J] at e
 |some L=>
  cases U:fb I with
  |none=>simp[J,U] at e
  |some y=>
   rw[J,U] at e;cases y with
   |dt z=>
    have O:(if L.length<=sizeLine then (Mj L).map λk=>D.bl (MM k z).isSome else W1)=O0 d:=e;split at O
    .rename_i hz;cases T:Mj L with
     |none=>simp[T] at O
     |some ks=>
      rw[T] at O;cases O;refine⟨I,L,o,J,λxs H1 Z r1=>⟨by rw[r1.1];exact hz,λp hp=>?_⟩⟩;have ex:=RG r1 T;have Y:af H1 (gq H1 p (.tup xs)):=Al hp _;refine⟨I,.dt z,o.mono (Z.trans Y),U,λv H3 W r3=>?_⟩;obtain⟨a,S,rfl,h1,h2,r⟩:=r3.dt;have h3:=(Nx (k:=ks) h2 r).2;refine⟨a,S,ks,p,rfl,h1,rfl,by rw[W _ _ Ak,ex],?_⟩;rw[h3];exact k _ H3 ((Z.trans Y).trans W) (.bl _)
    .cases O
   |_=>cases e
end
def Xx.lend{G:Gx}{I:Str->Option ac}{R y:Addr}{J f z:Str}{st:Stmt}{ps:List Str}(x:Xx G I R J f z st ps):Xx (G.lend y) I R J f z st ps:=⟨x.C,x.fi,x.fd,x.g,x.xc,x.hi,x.hf,x.kp,x.na,x.m,x.F,x.B⟩
theorem Fun.d{K:aS}{f:Addr}(F:Fun K x qual st f fd):FunD K x qual st f fd:=⟨let ⟨oc,od,kV,q⟩:=F.ex;⟨oc,od,.none,kV,q⟩,F.kp⟩
end PV
namespace L2
theorem Fun.d{K:aS}{x z:sK}{st:BH}{f:vk}{fd:Gc}(F:Fun K x z st f fd):PV.FunD K x z st f fd:=PV.Fun.d F
end L2
namespace PV
open PySem PySem.Spec L2
section
variable {es l1:List Expr}{a b c:Expr}
def R4{k j}:ay (.Constant k j pos::es) env=(O2,eval (.Constant k j pos) env)::ay es env:=rfl
def QR{x}:ay (.Name x pos::es) env=(O2,eval (.Name x pos) env)::ay es env:=rfl
def Fx{o}:ay (.BinOp a o b pos::es) env=(O2,eval (.BinOp a o b pos) env)::ay es env:=rfl
def An:ay (.Subscript a b pos::es) env=(O2,eval (.Subscript a b pos) env)::ay es env:=rfl
def Bl{x}:ay (.Attribute a x pos::es) env=(O2,eval (.Attribute a x pos) env)::ay es env:=rfl
def Ur{x}:ay (.Tuple l1 x pos::es) env=(O2,eval (.Tuple l1 x pos) env)::ay es env:=rfl
def XR:ay (.List l1 pos::es) env=(O2,eval (.List l1 pos) env)::ay es env:=rfl
def Gm{k}:ay (.Call a l1 k pos::es) env=(O2,eval (.Call a l1 k pos) env)::ay es env:=rfl
def Hv{g sc}:ay (.ListComp a g sc pos::es) env=(O2,eval (.ListComp a g sc pos) env)::ay es env:=rfl
end
section
variable {es:List Expr}{fs:FA}
def iS{i j}(h:To X G es fs):To X G (.Constant (.str i) j pos::es) (Aa (kF (.str i)) fs):=Af yM h R4
def iI{i j}(h:To X G es fs):To X G (.Constant (.int i) j pos::es) (Aa (kF (.int i)) fs):=Af Q4 h R4
end
open PyProof.Rows hiding St
open EX
end PV
namespace EX
open PySem PySem.W PySem.Spec PyProof.Rows PySem.Calls
section
variable {A:aT}{K:Frag}{x:Addr}{ox:Obj}{name:Str}{v:ac}
open Builtin Builtin.ObjectAttr in
end
end EX
namespace EX
open PySem PySem.Spec L2
open PyProof.Rows hiding St
end EX
namespace PV
open PySem PySem.Spec L2 EX
open PyProof.Rows hiding St
structure Xx2 (G:Gx) (mg:Str->Option ac) (R:Addr) (cn f g qual:Str) (st:Stmt) (ps:List Str) where
 C:Addr
 fi:Addr
 fd:li
 gc:G.xcl cn=O0 C
 xc:XC G.K C R
 hi:fA G.K (.ref C) "__init__"=O0 (O0 (.ref fi))
 hf:rd G.K (.ref fi)=O1
 kp:ib G.K (.ref C)=O1
 na:Bf G.K C f
 nb:Bf G.K C g
 m:mg cn=O0 (.ref C)
 F:Fun G.K "__init__" qual st fi fd
 B:MU G.K fd ps []
end PV
namespace EX
open PySem PySem.Spec L2
open PyProof.Rows hiding St
end EX
namespace PV
open PySem PySem.Spec L2 EX
open PyProof.Rows hiding St
def Nn{P:List Str}(a:sc.kind=.function:=by rfl)(b:sc.isCoroutine=O2:=by rfl)(c:sc.isGenerator=O2:=by rfl)(d:N.Nodup:=by decide +kernel)(e:N.take P.length=P:=by rfl)(f:∀x∈P,sc.names.lookup x=O0 .local ∨sc.names.lookup x=O0 .cell :=by decide +kernel)(g:∀y∈sc.names,y.2≠.free :=by decide +kernel):am N P sc:=⟨a,b,c,d,e,f,g⟩
def dq{es:List Expr}{fs:FA}{z:Pos}(i:Nat)(h:To X G es fs)(O:X.N[i]?=O0 x:=by rfl)(I:XU X.env.scope x:=by first | exact dn rfl | exact cr (dn rfl) | exact cr (cr rfl))(L:(x==("__debug__":Str))=O2:=by decide)(J:(x==("__classdict__":Str))=O2:=by decide):To X G (.Name x z::es) (Aa (vF i) fs):=Af (vr i O I L J) h QR
def wR{z:Type}{us:List z}(h:us.length=1):∃a,us=[a]:=by
 cases us with
 |nil=>cases h
 |cons a r=>exact⟨a,by rw[xS (y9 h)]⟩
def wU{I:Type}{us:List I}(h:us.length=2):∃a b,us=[a,b]:=by
 cases us with
 |nil=>cases h
 |cons z r=>
  obtain⟨a,rfl⟩:=wR (y9 h);exact⟨z,a,rfl⟩
def wV{I:Type}{us:List I}(h:us.length=3):∃a b c,us=[a,b,c]:=by
 cases us with
 |nil=>cases h
 |cons z r=>
  obtain⟨a,b,rfl⟩:=wU (y9 h);exact⟨z,a,b,rfl⟩
def wW{I:Type}{us:List I}(h:us.length=4):∃a b c d,us=[a,b,c,d]:=by
 cases us with
 |nil=>cases h
 |cons z r=>
  obtain⟨a,b,c,rfl⟩:=wV (y9 h);exact⟨z,a,b,c,rfl⟩
def AAv{I:Type}{us:List I}(h:us.length=5):∃a b c d e,us=[a,b,c,d,e]:=by
 cases us with
 |nil=>cases h
 |cons z r=>
  obtain⟨a,b,c,d,rfl⟩:=wW (y9 h);exact⟨z,a,b,c,d,rfl⟩
abbrev EO:=Sum (Rho×Ef) (D×Rho)
abbrev FEz:=Rho->Ef->Option EO
open Classical in
section
open PySem PySem.Spec L2
end
open PySem PySem.Spec L2 EX
open PyProof.Rows hiding St
section
variable {a ob:Expr}{es:List Expr}{fs:FA}{fo:FE}
theorem mA{k:Nat}{d:Mx X.K C m qual st ps}{pl:Sem Bool}(hc:G.cl c=O0 C)(cl:NW X.K C)(F:gn X.prog X.w X.K X.mg X.base CX0 k d.f d.fd ps (MS G g))(hr:Room k' X.A)(ho:PF X G ob fo)(ha:To X G (a::es) fs)(Y:k<=k':=by omega)(U:ay (a::es) X.env=(O2,eval a X.env)::ay es X.env:=by rfl)(W:(da pos (ay es X.env)).any (·.1)=O2:=by rfl)(ht:eval (.Call (.Attribute ob m apos) (a::es) [] pos) X.env=(do
   let ov <-eval ob X.env
   nh apos.atName
   let (f,first) <-lh [ov] (oB ov m pl)
   rf pos f first (da pos (ay (a::es) X.env)) (kB pos (ii [] X.env))):=by rfl):
  PF X G (.Call (.Attribute ob m apos) (a::es) [] pos) (CW c m g fo fs):=λA=>CT (Wh (@ho A) cl d.me F (hr.mono Y) d.B .nil Ry (@ha A) U W ht)<|by
 rintro σ H Q ⟨I,dd,o,e,k⟩
 unfold CW at e;cases e0:fo I with
 |none=>simp[e0] at e
 |some J=>
  rw[e0] at e;have O:(if Ck c m J=O1 then (fs I).bind λL=>g (J::L) else W1)=O0 dd:=e;split at O
  .rename_i z;cases Z:fs I with
   |none=>simp[Z] at O
   |some L=>
    have e2:g (J::L)=O0 dd:=by simpa [Z] using O
    refine⟨I,J,o,e0,λv H1 T r1=>?_⟩;cases J with
    |ob c' gs=>
     simp only[Ck,eI,SK,sg] at z;obtain⟨rfl,hn⟩:=z;cases r1 with
     |ob hC h1 l1 r2=>
      rw[hc] at hC;cases hC;refine⟨_,_,_,rfl,Ao _ _ h1,Nz l1 hn,I,L,o.mono T,Z,λvs H2 S r3=>?_⟩;refine⟨A,.ob c' gs::L,dd,((o.mono T).mono S).live,?_,e2,λv H3 s3 r4=>k v H3 ((T.trans S).trans s3) r4⟩;rw[fI];exact .cons (jl.mono (.ob hc h1 l1 r2) (BP S)) r3
    |_=>simp[Ck] at z
  .cases O
end
abbrev Mu:=List (Addr×D)
def uj(z:Mu):List Addr:=z.map (·.1)
abbrev KM:=So->Mu->Prop
abbrev FM:=Rho->Mu->KM->Prop
structure Na (G:Gx) (A0:List Addr) (He Hb:Hp) (A:List Addr) (σ:St) (H:Hp) (ρ:Rho) (μ:Mu):Prop where
 w:ON G (uj μ++A0) Hb A σ H ρ
 sb:af He Hb
 l0:∀a∈A0,He a≠W1
 nf:∀a∈uj μ,He a=W1
 nd:(uj μ).Nodup
 top:∀p∈μ,Nd G A H p.1 p.2
def VW(G:Gx)(A0:List Addr)(J:Hp)(z:St)(H:Hp)(ρ:Rho)(I:Mu):Prop:=∃A L,Na G A0 J L A z H ρ I
def Nd.keep{O:List Addr}{d:D}(t:Nd G A H a d)(e:H' a=H a)(s:af (be A H) (be O H')):Nd G O H' a d:=by
 cases d with
 |lst I=>obtain⟨z,S,L⟩:=t;exact⟨z,by rw[e];exact S,L.mono s⟩
 |dk I=>obtain⟨z,S,L,Y⟩:=t;exact⟨z,by rw[e];exact S,L,Y.mono s⟩
 |dt I=>obtain⟨z,S,L,Y⟩:=t;exact⟨z,by rw[e];exact S,L,Y.mono s⟩
 |ob c J=>obtain⟨C,dx,z,S,L,Y⟩:=t;exact⟨C,dx,z,by rw[e];exact S,L,Y.mono s⟩
 |_=>exact t.elim
def Ms{μ:Mu}{p:Addr×D}(h:p∈μ):p.1∈uj μ:=bn.mpr ⟨p,h,rfl⟩
def nM{μ:Mu}(h:a∈uj μ):∃d,(a,d)∈μ:=by
 obtain⟨p,I,z⟩:=bn.mp h;exact⟨p.2,by rw[<-z];exact I⟩
def PY{μ:Mu}{d:D}(h:μ.lookup a=O0 d):(a,d)∈μ:=by
 induction μ with
 |nil=>cases h
 |cons p r z=>
  rw[bX] at h;cases q:(a==p.1) with
  |true=>
   rw[q] at h;cases h;rw[eq_of_beq q];exact df
  |false=>
   rw[q] at h;exact cw _ (z h)
def putA(a:Addr)(c:D)(z:Mu):Mu:=z.map λp=>if p.1=a then (a,c) else p
def aR(a:Addr)(c:D)(μ:Mu):uj (putA a c μ)=uj μ:=by
 unfold uj putA;rw[ca];refine pj λp _=>?_;show (if p.1=a then (a,c) else p).1=p.1;split
 .rename_i h;exact h.symm
 .rfl
section
theorem Na.mono(o:Na G A0 He Hb A σ H ρ μ)(s:af H H'):Na G A0 He Hb A σ H' ρ μ:=
 ⟨o.w.mono s,o.sb,o.l0,o.nf,o.nd,λp h=>(o.top p h).mono s⟩
theorem Na.set{v:V}{d:D}(o:Na G A0 He Hb A σ H ρ μ)(r:jl G (be A H) v d)(i:Nat):Na G A0 He Hb A (σ.set i (O0 v)) H (ρ.set i (.fz d)) μ:=
 ⟨o.w.set r i,o.sb,o.l0,o.nf,o.nd,o.top⟩
theorem Na.inA(o:Na G A0 He Hb A σ H ρ μ){a:Addr}(h:a∈uj μ):a∈A:=o.w.sub a (kU _ h)
def Na.n0(o:Na G A0 He Hb A σ H ρ μ){a:Addr}(h:a∈uj μ):a∉A0:=λz=>o.l0 a z (o.nf a h)
theorem Na.same(o:Na G A0 He Hb A σ H ρ μ):af He H:=o.sb.trans o.w.same
theorem Na.fr(o:Na G A0 He Hb A σ H ρ μ){a:Addr}(h:a∈A):a∈A0∨He a=W1:=by
 rcases o.w.fr a h with z | z
 .rcases eA.mp z with z | z
  .exact .inr (o.nf a z)
  .exact .inl z
 .exact .inr (o.sb.free z)
theorem Na.lift(o:Na G A0 He Hb A σ H ρ μ):∃Hf,ON G (uj μ++A0) Hf A σ H ρ/\∀O I H' J,ON G (uj μ++A0) Hf O I H' J->Na G A0 He Hf O I H' J μ:=by
 obtain⟨T,W⟩:=o.w.here;refine⟨_,W,λO I H' J L=>⟨L,o.sb.trans T,o.l0,o.nf,o.nd,λp S=>?_⟩⟩;have t:=o.top p S;refine t.keep ?_ (ON.plain o.w.sub L);cases e:H p.1 with
 |none=>exact XI e t.live.ne
 |some u=>
  refine L.same p.1 u ?_;rw[A_ (λz=>by
   have:=(dS.mp z).2;exact (WJ this) (kU _ (Ms S)))]
  exact e
theorem Na.new{c:D}(o:Na G A0 He Hb A σ H ρ μ)(s:af H H')(L:H p=W1)(t:Nd G (p::A) H' p c):VW G A0 He σ H' ρ ((p,c)::μ)/\p∉uj μ/\Na G A0 He (λb=>if b=p then H' b else Hb b) (p::A) σ H' ρ ((p,c)::μ):=by
 have I:p∉A:=λz=>(o.w.ok.live p z).ne L;have O:p∉uj μ:=λz=>I (o.inA z);have m:Na G A0 He (λb=>if b=p then H' b else Hb b) (p::A) σ H' ρ ((p,c)::μ):=by
  refine⟨⟨λb u h=>?_,λa J=>?_,λa J=>?_,λa J=>?_,o.w.ok.fill s L t.live,λi d a U T=>?_,o.w.lt⟩,λb u h=>?_,o.l0,λa J=>?_,?_,λq Y=>?_⟩
  .by_cases q:b=p
   .simp only[q,TK] at h ⊢;exact h
   .simp only[q,UK] at h;exact s b u (o.w.same b u h)
  .rcases bp.mp J with z | z
   .rw[z];exact df
   .exact cw _ (o.w.sub a z)
  .rcases bp.mp J with z | z
   .rw[z];exact .inl df
   .rcases o.w.fr a z with q | q
    .exact .inl (cw _ q)
    .right;have:a≠p:=λe=>I (e▸z);simp only[this,UK];exact q
  .rcases bp.mp J with z | z
   .have W:a=p:=z;simp only[W,TK];exact t.live.ne
   .have:a≠p:=λe=>I (e▸o.w.sub a z);simp only[this,UK];exact o.w.l0 a z
  .intro z
   rcases bp.mp z with z | z
   .obtain⟨q,q1,q2,_⟩:=o.w.ok.ow i d U;rw[T] at q1;cases q1;exact I ((show a=p from z)▸q2)
   .exact o.w.ow0 i d a U T z
  .have S:=o.sb b u h;have:b≠p:=λe=>by
    rw[e] at S;rw[o.w.same p u S] at L;cases L
   simp only[this,UK];exact S
  .rcases bp.mp J with z | z
   .rw[z];exact o.same.free L
   .exact o.nf a z
  .exact ly.mpr ⟨O,o.nd⟩
  .rcases bp.mp Y with z | z
   .rw[z];exact t
   .exact (o.top q z).fill s L
 exact⟨⟨_,_,m⟩,O,m⟩
theorem Na.wr{c:D}(o:Na G A0 He Hb A σ H ρ μ)(U:q∈uj μ)(sx:Ml q H H')(t:Nd G A H' q c):Na G A0 He (λb=>if b=q then H' b else Hb b) A σ H' ρ (putA q c μ):=by
 have Y:=o.inA U;have S:=JD Y sx;have I:∀(i:Nat) (d:D) (a:Addr),ρ[i]?=O0 (.ow d)->σ[i]?=O0 (O0 (.ref a))->a≠q:=λi d a h1 h2 z=>o.w.ow0 i d a h1 h2 (z▸kU _ U);have J:ON G (uj μ++A0) (λb=>if b=q then H' b else Hb b) A σ H' ρ:=by
  refine⟨λb u h=>?_,o.w.sub,λa L=>?_,λa L=>?_,⟨o.w.ok.len,λb Z=>?_,λj e h=>?_,λj e h=>?_,o.w.ok.inj⟩,o.w.ow0,o.w.lt⟩
  .by_cases z:b=q
   .simp only[z,TK] at h ⊢;exact h
   .simp only[z,UK] at h;exact sx b u z (o.w.same b u h)
  .by_cases z:a=q
   .exact .inl (z▸kU _ U)
   .rcases o.w.fr a L with y | y
    .exact .inl y
    .right;simp only[z,UK];exact y
  .by_cases z:a=q
   .simp only[z,TK];exact t.live.ne
   .simp only[z,UK];exact o.w.l0 a L
  .by_cases z:b=q
   .rw[z];exact t.live
   .exact (o.w.ok.live b Z).mono λu e=>sx b u z e
  .obtain⟨v,q1,q2⟩:=o.w.ok.fz j e h;exact⟨v,q1,q2.mono S⟩
  .obtain⟨a,q1,q2,q3⟩:=o.w.ok.ow j e h;exact⟨a,q1,q2,q3.other (I j e a h q1) Y sx⟩
 refine⟨by rw[aR];exact J,λb u h=>?_,o.l0,by rw[aR];exact o.nf,by rw[aR];exact o.nd,λp W=>?_⟩
 .have:b≠q:=λe=>by
   rw[e,o.nf q U] at h;cases h
  simp only[this,UK];exact o.sb b u h
 .obtain⟨T,h0,O⟩:=bn.mp W;split at O
  .rw[<-O];exact t
  .rename_i z;rw[<-O];exact (o.top T h0).other z Y sx
end
def O7(I:Mu):List Nat->List Addr->Rho->Option Rho
 |[],_,ρ=>O0 ρ
 |j::J,z,ρ=>match ρ[j]? with
  |some (.fz (.adr a))=>if a∈z then W1 else (I.lookup a).bind λc=>O7 I J (a::z) (ρ.set j (.ow c))
  |_=>W1
theorem Vz{G:Gx}{A:List Addr}{U:St}{H:Hp}{S:Mu}(inA:∀p∈S,p.1∈A)(top:∀p∈S,Nd G A H p.1 p.2):∀(js:List Nat) (seen:List Addr) (ρ I:Rho),Pi G A U H ρ->(∀(i:Nat) (d:D) (a:Addr),ρ[i]?=O0 (.ow d)->U[i]?=O0 (O0 (.ref a))->a∉uj S∨a∈seen)->O7 S js seen ρ=O0 I->Pi G A U H I
 |[],_,ρ,I,o,_,e=>by cases e;exact o
 |j::js,seen,ρ,I,o,hs,e=>by
  unfold O7 at e;split at e
  .rename_i a ej;split at e
   .cases e
   .rename_i na;cases el:S.lookup a with
    |none=>rw[el] at e;cases e
    |some c=>
     rw[el] at e;have hm:=PY el;obtain⟨v,q1,q2⟩:=o.fz j _ ej;cases q2;have ne:∀(i:Nat) (d:D) (b:Addr),ρ[i]?=O0 (.ow d)->U[i]?=O0 (O0 (.ref b))->b≠a:=λi d b T J z=>by
      rcases hs i d b T J with y | y
      .exact y (z▸Ms hm)
      .exact na (z▸y)
     refine Vz inA top js (a::seen) _ I ⟨by rw[sd];exact o.len,o.live,λi d h=>?_,λi d h=>?_,λi k d f b T J Y W=>?_⟩ (λi d b T J=>?_) e
     .rcases B_ h with ⟨_,O,_⟩ | ⟨_,O⟩
      .cases O
      .exact o.fz i d O
     .rcases B_ h with ⟨hj,O,_⟩ | ⟨_,O⟩
      .cases O;subst hj;exact⟨a,q1,inA _ hm,top _ hm⟩
      .exact o.ow i d O
     .rcases B_ T with ⟨L,_,_⟩ | ⟨L,Z⟩<;>rcases B_ J with ⟨hk,_,_⟩ | ⟨hk,z2⟩
      .rw[L,hk]
      .subst L;rw[q1] at Y;cases Y;exact XI rfl (ne k f _ z2 W)
      .subst hk;rw[q1] at W;cases W;exact XI rfl (ne i d _ Z Y)
      .exact o.inj i k d f b Z z2 Y W
     .rcases B_ T with ⟨L,_,_⟩ | ⟨L,Z⟩
      .subst L;rw[q1] at J;cases J;exact .inr df
      .exact (hs i d b Z J).imp id λy=>cw _ y
  .cases e
theorem Na.view{I:Mu}(o:Na G A0 He Hb A σ H ρ I){J:List Nat}{ρ':Rho}(e:O7 I J [] ρ=O0 ρ'):Pi G A σ H ρ':=
 Vz (λp h=>o.inA (Ms h)) o.top J [] ρ ρ' o.w.ok (λi d a O L=>.inl λz=>o.w.ow0 i d a O L (kU _ z)) e
abbrev FXM:=Rho->Mu->(D->Mu->Prop)->Prop
def WU(g:FS):FM:=λρ z K=>∃o,g ρ=O0 o/\K o z
def thM(L:FM)(K:KM):KM:=λo z=>match o with | .nx ρ=>L ρ z K | o=>K o z
def Cs(g L:FM):FM:=λρ z K=>g ρ z (thM L K)
def nxM:FM:=λρ z K=>K (.nx ρ) z
def vwM{α:Type}(J:List Nat)(f:Rho->Option α)(ρ:Rho)(z:Mu):Option α:=(O7 z J [] ρ).bind f
def ifM(J:List Nat)(t:FT)(g L:FM):FM:=λρ z K=>match vwM J t ρ z with | some O1=>g ρ z K | some O2=>L ρ z K | none=>False
def bdM(L:FM)(K:KM):KM:=λo z=>match o with | .nx ρ=>L ρ z K | .ct ρ=>L ρ z K | .bk ρ=>K (.nx ρ) z | .rt e ρ=>K (.rt e ρ) z
def Us(tg:FG)(b:FM):List D->FM
 |[],ρ,z,K=>K (.nx ρ) z
 |d::r,ρ,z,K=>∃S,tg d ρ=O0 S/\b S z (bdM (Us tg b r) K)
def forM(z:FI)(tg:FG)(b:FM):FM:=λρ I K=>∃ds,z ρ=O0 ds/\Us tg b ds ρ I K
abbrev GM:=List D->Mu->(D->Mu->Prop)->Prop
def calX(g:GM)(fs:FA):FXM:=λρ z K=>∃ds,fs ρ=O0 ds/\g ds z K
def QS(i:Nat)(h:FXM):FM:=λρ I K=>h ρ I λd z=>K (.nx (ρ.set i (.fz d))) z
def nO(h:FXM):FM:=λρ I K=>h ρ I λ_ z=>K (.nx ρ) z
def V2(h:FXM):FM:=λρ I K=>h ρ I λd z=>K (.rt d ρ) z
def finM(K:D->Mu->Prop):KM:=λo z=>match o with | .rt d _=>K d z | .nx _=>K .non z | _=>False
def VO(n I:Nat)(b:FM):GM:=λds z K=>ds.length=I/\b (DK n ds) z (finM K)
def RT(G:Gx)(A0:List Addr)(J:Hp)(D:SL):So->Mu->Prop
 |.nx ρ,I=>∀z H,VW G A0 J z H ρ I->D.nx z H
 |.rt d ρ,I=>∀v z H A L,Na G A0 J L A z H ρ I->jl G (be A H) v d->D.rt v H
 |.bk ρ,I=>∀z H,VW G A0 J z H ρ I->D.bk z H
 |.ct ρ,I=>∀z H,VW G A0 J z H ρ I->D.ct z H
def tM(G:Gx)(A0:List Addr)(J:Hp)(g:FM):TS:=λD L H=>∃ρ I K,VW G A0 J L H ρ I/\g ρ I K/\∀o z,K o z->RT G A0 J D o z
def PSM(X:Cx)(G:Gx)(st:Stmt)(g:FM):Prop:=∀⦃A0⦄ He,PS X st (tM G A0 He g)
def UQ(X:Cx)(G:Gx)(st:List Stmt)(g:FM):Prop:=∀⦃A0⦄ He,UP X st (tM G A0 He g)
def tMX(G:Gx)(A0:List Addr)(O:Hp)(h:FXM):TE:=λJ H Q=>∃ρ L K,VW G A0 O J H ρ L/\h ρ L K/\∀v I d z A S,K d z->Na G A0 O S A J I ρ z->jl G (be A I) v d->Q v I
def PMX(X:Cx)(G:Gx)(e:Expr)(h:FXM):Prop:=∀⦃A0⦄ He,PE X e (tMX G A0 He h)
section
theorem Na.base(o:Na G A0 Hf Hb A σ H ρ μ)(s:af He Hf)(z:∀a∈A0,He a≠W1):Na G A0 He Hb A σ H ρ μ:=
 ⟨o.w,s.trans o.sb,z,λa h=>s.free (o.nf a h),o.nd,o.top⟩
theorem Na.here(o:Na G A0 He Hb A σ H ρ μ):af He (be (A.filter λa=>decide (a∉A0)) H)/\∃Hc,Na G A0 (be (A.filter λa=>decide (a∉A0)) H) Hc A σ H ρ μ:=by
 have J:∀b,b∈(A.filter λa=>decide (a∉A0))↔b∈A/\b∉A0:=λb=>by simp[dS]
 have L:af He (be (A.filter λa=>decide (a∉A0)) H):=λb u h=>by
  rw[A_]
  .exact o.same b u h
  .intro z;obtain⟨Z,Y⟩:=(J b).mp z
   rcases o.fr Z with q | q
   .exact Y q
   .rw[q] at h;cases h
 obtain⟨T,W⟩:=o.w.here;refine⟨L,_,W,λb u h=>?_,λa I h=>?_,λa I=>?_,o.nd,o.top⟩
 .unfold be at h ⊢;split at h
  .cases h
  .rename_i O;rw[WI]
   .exact h
   .intro z;have S:=dS.mp z;refine O ((J b).mpr ⟨S.1,λy=>?_⟩);exact (WJ S.2) (i6 _ y)
 .rw[A_ (λz=>((J a).mp z).2 I)] at h;exact (o.w.ok.live a (o.w.sub a (i6 _ I))).ne h
 .unfold be;rw[VI ((J a).mpr ⟨o.inA I,o.n0 I⟩)]
def Na.plain(sub:∀a∈A0,a∈B)(o:Na G A0 (be (B.filter λa=>decide (a∉A0)) H1) Hb A σ H ρ μ):af (be B H1) (be A H):=λb u h=>by
 unfold be at h;split at h
 .cases h
 .rename_i I;have e:be (B.filter λa=>decide (a∉A0)) H1 b=O0 u:=by
   rw[A_ (λz=>I (dS.mp z).1)];exact h
  rw[A_]
  .exact o.same b u e
  .intro z
   rcases o.fr z with q | q
   .exact I (sub b q)
   .rw[q] at e;cases e
theorem RT.base{O:Hp}{D:SL}{o:So}(k:RT G A0 He D o μ)(s:af He O)(I:∀a∈A0,He a≠W1):RT G A0 O D o μ:=by
 cases o with
 |nx J=>rintro z H ⟨A,L,w⟩;exact k z H ⟨A,L,w.base s I⟩
 |rt d J=>exact λv z H A L w r=>k v z H A L (w.base s I) r
 |bk J=>rintro z H ⟨A,L,w⟩;exact k z H ⟨A,L,w.base s I⟩
 |ct J=>rintro z H ⟨A,L,w⟩;exact k z H ⟨A,L,w.base s I⟩
theorem Na.subA0(o:Na G A0 He Hb A σ H ρ μ):∀a∈A0,a∈A:=λa h=>o.w.sub a (i6 _ h)
theorem Na.ends{D:SL}(S:∀O I H' J,ON G (uj μ++A0) Hf O I H' J->Na G A0 He Hf O I H' J μ){o:So}(k:RT G A0 He D o μ):UL G (uj μ++A0) Hf D o:=by
 cases o with
 |nx L=>rintro z H ⟨A,w⟩;exact k z H ⟨A,Hf,S _ _ _ _ w⟩
 |rt d L=>exact λv z H A w r=>k v z H A Hf (S _ _ _ _ w) r
 |bk L=>rintro z H ⟨A,w⟩;exact k z H ⟨A,Hf,S _ _ _ _ w⟩
 |ct L=>rintro z H ⟨A,w⟩;exact k z H ⟨A,Hf,S _ _ _ _ w⟩
end
section
variable {a b c:Expr}{fa:FE}{hQ:List Stmt}{gp:FS}{g gs gb:FM}{h:FXM}
def S_:UQ X G [] nxM:=by rintro T S J s z H D I ⟨L,O,K,ok,e,k⟩;exact Jq J s z H D I (k _ _ e z H ok)
theorem BR(h1:PSM X G st g)(h2:UQ X G hQ gs):UQ X G (st::hQ) (Cs g gs):=by
 rintro S O Y s U H D I ⟨W,Z,K,ok,e,k⟩
 refine MJ (@h1 S O) (@h2 S O) Y s U H D I ⟨W,Z,_,ok,e,λo J q=>?_⟩;cases o with
 |nx z=>exact λT H' L=>⟨z,J,K,L,q,k⟩
 |rt d z=>exact k _ _ q
 |bk z=>exact k _ _ q
 |ct z=>exact k _ _ q
def Iu(h1:PSM X G st g):UQ X G [st] g:=λS z=>Wb (@h1 S z)
def DY(h:UR X G st gp):PSM X G st (WU gp):=by
 rintro U W L s z H D I ⟨J,O,K,⟨A,Z,w⟩,⟨o,e,q⟩,k⟩
 obtain⟨T,Y,S⟩:=w.lift;exact @h (uj O++U) T L s z H D I ⟨J,o,⟨A,Y⟩,e,Na.ends S (k _ _ q)⟩
def Y6{L:Type}{J:List Nat}{f:Rho->Option L}{I:Mu}{d:L}(e:vwM J f ρ I=O0 d):∃z,O7 I J [] ρ=O0 z/\f z=O0 d:=by
 unfold vwM at e;cases O:O7 I J [] ρ with
 |none=>rw[O] at e;cases e
 |some z=>rw[O] at e;exact⟨z,rfl,e⟩
def XS{U:List Stmt}(js:List Nat)(ht:Sn X G c ga)(h1:UQ X G s1 g)(h2:UQ X G U gs):PSM X G (.If c s1 U pos) (ifM js ga g gs):=by
 rintro Z W π s σ H D I ⟨S,T,K,⟨A,Y,w⟩,e,k⟩
 refine jN (@ht A) (@h1 Z W) (@h2 Z W) π s σ H D I ?_;unfold ifM at e;split at e
 .rename_i O;obtain⟨z,L,J⟩:=Y6 O;exact⟨z,_,w.view L,J,λH1 s1=>Xs ⟨S,T,K,⟨A,Y,w.mono s1⟩,e,k⟩⟩
 .rename_i O;obtain⟨z,L,J⟩:=Y6 O;exact⟨z,_,w.view L,J,λH1 s1=>VT ⟨S,T,K,⟨A,Y,w.mono s1⟩,e,k⟩⟩
 .exact e.elim
theorem uQ{it:Expr}(hp:qV (av X.prog X.w) X.A X.env X.xe)(hc:X.calm=O1)(hi:Sa X G O2 tg it src)(hg:PGD X G tg fg)(hb:UQ X G body gb)(hs:∀x,lc it X.env x=pure x:=by intro _;rfl):PSM X G (.For tg it body [] pos) (forM src fg gb):=by
 rintro S He π s Y H D I ⟨ρ,μ,K,⟨A,Hb,w⟩,⟨L,e1,e⟩,k⟩
 have X1:UP X body (λD Y H=>∃S He,tM G S He gb D Y H):=(by rintro π s Y H D I ⟨S,He,q⟩;exact @hb S He π s Y H D I q);have U1:PG X tg (λv Y H Q=>∃S He,tGD G S He fg v Y H Q):=(by rintro π s Y H v u Q I r ⟨S,He,q⟩;exact @hg S He π s Y H v u Q I r q);refine Zw hp hc (@hi A) U1 X1 hs π s Y H D I ⟨ρ,L,w.w.ok,e1,λJ H1 s1 sr=>?_⟩;obtain⟨X0,Hc,w2⟩:=(w.mono s1).here;have k2:∀o μ',K o μ'->RT G S _ D o μ':=λo μ' q=>(k o μ' q).base X0 w.l0;generalize Y1:be (A.filter λa=>decide (a∉S)) H1=Hf at X0 w2 k2;refine⟨λi m z W=>m=L.length-i/\i<=L.length/\∃O μ',VW G S Hf z W O μ'/\Us fg gb (L.drop i) O μ' K,⟨L.length,by simp,fE _,ρ,μ,⟨A,Hc,w2⟩,by simpa using e⟩,?_⟩;rintro i m N1 H3 ⟨rfl,S2,P1,T0,⟨B,Hd,w3⟩,e3⟩;have pl:af (be A H1) (be B H3):=by rw[<-Y1] at w3;exact Na.plain w.subA0 w3
 by_cases Z:i<L.length
 .right;have hd:L[i]?=O0 L[i]:=by simp[Z]
  have ed:L.drop i=L[i]::L.drop (i+1):=ub Z;rw[ed] at e3;obtain⟨N0,e4,e5⟩:=e3;refine⟨sr.go i H3 (pl.trans Ao) Z,λz W=>∃O μ',VW G S Hf z W O μ'/\Us fg gb (L.drop (i+1)) O μ' K,λz W q=>⟨L.length-(i+1),by omega,rfl,Z,q⟩,λx W y=>?_⟩;obtain⟨sy,rx⟩:=sr.yld i H3 x W _ (pl.trans Ao) hd y;obtain⟨Hg,w4,up⟩:=(w3.mono sy).lift;refine⟨uj T0++S,Hg,B,P1,L[i],N0,w4,rx B w3.w.ok.live pl,e4,λQ2 H5 ⟨A5,S1⟩=>⟨S,Hf,N0,T0,_,⟨A5,Hg,up _ _ _ _ S1⟩,e5,λo5 S0 q5=>?_⟩⟩;cases o5 with
  |nx T=>exact λz W U=>⟨T,S0,U,q5⟩
  |ct T=>exact λz W U=>⟨T,S0,U,q5⟩
  |bk T=>exact λz W U=>k2 _ _ q5 z W U
  |rt d5 T=>exact k2 _ _ q5
 .left;have ei:i=L.length:=by omega
  subst ei;rw[AL] at e3;exact⟨sr.stop _ H3 (pl.trans Ao) (aI _),k2 _ _ e3 N1 H3 ⟨B,Hd,w3⟩⟩
def nP{p:Pos}(T:∀te,PE X a te->PS X (.Assign [.Name x p] a pos) (WS te (Ft i)))(ha:PMX X G a h):PSM X G (.Assign [.Name x p] a pos) (QS i h):=λY U L s z H D I ⟨J,S,K,ok,e,k⟩=>
 T _ (@ha Y U) L s z H D I ⟨J,S,_,ok,e,λv Z d O A W q w r=>k _ _ q _ _ ⟨A,W,w.set r i⟩⟩
def Y7(ha:PMX X G a h)(hs:eP a W1 pos.line X.env=pure O2:=by rfl):PSM X G (.Expr a pos) (nO h):=λW T L s z H D I ⟨J,S,K,ok,e,k⟩=>
 Wc (@ha W T) hs L s z H D I ⟨J,S,_,ok,e,λv Y d O A U q w r=>k _ _ q _ _ ⟨A,U,w⟩⟩
def Ut(ha:PMX X G a h):PSM X G (.Return (O0 a) pos) (V2 h):=λY T L s z H D I ⟨J,S,K,ok,e,k⟩=>
 jM (@ha Y T) L s z H D I ⟨J,S,_,ok,e,λv W d O A U q w r=>k _ _ q v z W A U w r⟩
def SndM(G:Gx)(r:V->List V->Hp->VK->Prop)(g:D->List D->Option (D×D)):Prop:=∀(A:List Addr) (H:Hp) (l:Addr) (vs:List V) (c:D) (ds:List D) (v J:D) (Q:VK),(∀a∈A,Nt (H a))->l∈A->Nd G A H l c->bc G (be A H) vs ds->g c ds=O0 (v,J)->(∀I z,Ml l H z->Nd G A z l J->jl G (be A z) I v->Q I z)->r (.ref l) vs H Q
end
def spM(G:Gx)(g:GM):Sp:=λvs H Q _=>∃A ds I K,(∀a∈A,Nt (H a))/\(uj I).Nodup/\(∀p∈I,p.1∈A/\Nd G A H p.1 p.2)/\bc G (be A H) vs ds/\g ds I K ∧
 ∀v J O z d,K d z->(∀b u,b∉uj I->H b=O0 u->J b=O0 u)->(∀a∈A,a∉uj I->a∈O)->(∀a∈O,Nt (J a))->(uj z).Nodup->(∀p∈z,p.1∈O/\Nd G O J p.1 p.2)->(∀a∈uj z,a∈uj I∨H a=W1)->jl G (be O J) v d->Q v J
theorem iT{vs:List V}{μ:Mu}(live:∀a∈A,Nt (H a))(U:(uj μ).Nodup)(Z:∀p∈μ,p.1∈A/\Nd G A H p.1 p.2)(r:bc G (be A H) vs ds)(Y:vs.length<=N.length):Na G (A.filter λa=>decide (a∉uj μ)) (be (uj μ) H) H A (start N vs) H (DK N.length ds) μ:=by
 have inA:∀a∈uj μ,a∈A:=λa h=>by obtain⟨d,hd⟩:=nM h;exact (Z _ hd).1
 have S:∀a,a∈(A.filter λa=>decide (a∉uj μ))↔a∈A/\a∉uj μ:=λa=>by simp[dS]
 obtain⟨A1,w⟩:=Mf (N:=N) live r Y;have J:∀a,a∈uj μ++(A.filter λa=>decide (a∉uj μ))↔a∈A:=λa=>by
  rw[eA,S];constructor
  .rintro (h | h)
   .exact inA a h
   .exact h.1
  .intro h
   by_cases z:a∈uj μ
   .exact .inl z
   .exact .inr ⟨h,z⟩
 have L:∀(i:Nat) (d:D),(DK N.length ds)[i]?≠O0 (.ow d):=λi d h=>by
  unfold DK at h
  by_cases T:i<ds.length
  .rw[ko (by simpa using T),cb] at h;cases e:ds[i]? with
   |none=>rw[e] at h;cases h
   |some d=>rw[e] at h;cases h
  .rw[ja (by simpa using kH.mp T),Au] at h;split at h<;>cases h
 have O:Pi G A (start N vs) H (DK N.length ds):=by
  refine⟨w.ok.len,live,λi d h=>?_,λi d h=>XI h (L i d),λi j d e a h _ _ _=>XI h (L i d)⟩;obtain⟨v,q1,q2⟩:=w.ok.fz i d h;exact⟨v,q1,q2.mono (DW w.sub)⟩
 refine⟨⟨af.refl H,λa I=>(J a).mp I,λa I=>.inl ((J a).mpr I),λa I=>(live a ((J a).mp I)).ne,O,λi d a h _=>XI h (L i d),λx d _ h=>XI h (L 0 d)⟩,Ao,λa I=>?_,λa I=>?_,U,λp W=>(Z p W).2⟩
 .rw[A_ ((S a).mp I).2];exact (live a ((S a).mp I).1).ne
 .unfold be;rw[VI I]
def fn_M{base:Heap}{f:Addr}{k:Nat}{b:FM}(F:FunD G.K x qual st f fd)(S:am N ps (Ab st))(hl:ps.length<=N.length)(hb:∀(cdv:ac) (A:aT) (J:List Env) (s:ai) (H:Hp) (E:XK),Room k (A.deeper (fR qual (Ab st) s.heap.objs.size f cdv))->UQ (Qb CX0 P w G.K mg base N qual (Ab st) f cdv A J s H E).nox G (Bo st) b):
  gn P w G.K mg base CX0 (k+1) f fd ps (spM G (VO N.length ps.length b)):=by
 obtain⟨oc,od,dV,kV,X0,pm,an,cdv,ct,T0,rfl,lk,S0⟩:=F.ex;refine je lk S0 S (λvs H Q E h=>?_) (λA J s H vs Q E hr h=>?_)
 .obtain⟨A,ds,L,K,lv,nd,ct,r,e,_⟩:=h;rw[r.1];exact e.1
 .obtain⟨A1,ds,L,K,lv,nd,ct,r,e,k⟩:=h;have hzz:=hb cdv A J s H E hr;have W:∀(U:St) (H':Hp) (Y:List Addr) (T:Hp) (O:Rho) (I:Mu) (v:V) (d:D),Na G (A1.filter λa=>decide (a∉uj L)) (be (uj L) H) T Y U H' O I->jl G (be Y H') v d->K d I->Q v H':=λU H' Y T O I v d w rv kd=>by
   refine k v H' Y I d kd (λb u nb hb=>w.same b u (by rw[A_ nb];exact hb)) (λa ha na=>w.subA0 a (by simp[dS,ha,na])) w.w.ok.live w.nd (λp hp=>⟨w.inA (Ms hp),w.top p hp⟩) (λa ha=>?_) rv;have:=w.nf a ha
   by_cases z:a∈uj L
   .exact .inl z
   .rw[A_ z] at this;exact .inr this
  refine⟨_,(@hzz (A1.filter λa=>decide (a∉uj L)) (be (uj L) H)).nox,DK N.length ds,L,_,⟨A1,H,iT lv nd ct r (by rw[r.1,e.1];exact hl)⟩,e.2,λo I q=>?_⟩;cases o with
  |nx O=>rintro Z H' ⟨A,T,w⟩;exact W Z H' A T O I .non .non w .non q
  |rt d' N0=>exact λv Z H' A T w r'=>W Z H' A T N0 I v d' w r' q
  |bk O=>exact q.elim
  |ct O=>exact q.elim
def AAw{base:Heap}{f:Addr}{k:Nat}{b:FM}(F:FunD G.K x qual st f fd)(S:am N ps (Ab st))(hl:ps.length<=N.length)(J:∀(cdv:ac) (A:aT) (I:List Env) (s:ai) (H:Hp) (E:XK),Room k (A.deeper (fR qual (Ab st) s.heap.objs.size f cdv))->UQ (Qb CX0 P w G.K mg base N qual (Ab st) f cdv A I s H E).nox G (Bo st) b)(hg:∀ds d,g ds=O0 d->VO N.length ps.length b ds [] λd' _=>d'=d):
  gn P w G.K mg base CX0 (k+1) f fd ps (MS G g):=
 (fn_M F S hl J).imp λvs H Q E ⟨A,ds,d,Z,r,e,q⟩=>⟨A,ds,[],_,Z,IJ,λp hp=>(nomatch hp),r,hg ds d e,λv H' A' L d' e' O T Y W S0 N0 U=>by
  subst e';exact q v H' (λb u J=>O b u (λz=>nomatch z) J) (U.mono (DW λa ha=>T a ha (λz=>nomatch z)))⟩
section
variable {a b c:Expr}{p:Pos}{es:List Expr}{fs:FA}{g:FM}
theorem nQ{μ:Mu}{vs:List V}{gm:GM}{K:D->Mu->Prop}{Q:VK}{E:XK}(Y:Na G A0 He Hb A σ H1 ρ μ)(r1:bc G (be A H1) vs ds)(e2:gm ds μ K)(k:∀v H' d μ' A Hb,K d μ'->Na G A0 He Hb A σ H' ρ μ'->jl G (be A H') v d->Q v H'):spM G gm vs H1 Q E:=by
 refine⟨A,ds,μ,K,Y.w.ok.live,Y.nd,λp hp=>⟨Y.inA (Ms hp),Y.top p hp⟩,r1,e2,λv H' A' μ' d kd sm sb lv nd ct fr rv=>?_⟩;have T:∀z,z∈(A.filter λa=>decide (a∉uj μ))++uj μ'↔(z∈A/\z∉uj μ)∨z∈uj μ':=λz=>by simp[dS]
 generalize S0:(A.filter λa=>decide (a∉uj μ))++uj μ'=A2 at T;have sub:∀z∈A2,z∈A':=λz O=>by
  rcases (T z).mp O with h | h
  .exact sb z h.1 h.2
  .obtain⟨d,hd⟩:=nM h;exact (ct _ hd).1
 have pl:af (be A H1) (be A2 H'):=λb u I=>by
  unfold be at I;split at I
  .cases I
  .rename_i Z;rw[A_]
   .exact sm b u (λz=>Z (Y.inA z)) I
   .intro z
    rcases (T b).mp z with h | h
    .exact Z h.1
    .rcases fr b h with y | y
     .exact Z (Y.inA y)
     .rw[y] at I;cases I
 have W:∀(i:Nat) (e:D) (q:Addr),ρ[i]?=O0 (.ow e)->σ[i]?=O0 (O0 (.ref q))->q∈A->q∉uj μ/\q∉uj μ'/\q∉A0:=λi e q U h2 h3=>by
  have n:=Y.w.ow0 i e q U h2;have n1:q∉uj μ:=λz=>n (kU _ z);refine⟨n1,λz=>?_,λz=>n (i6 _ z)⟩
  rcases fr q z with y | y
  .exact n1 y
  .exact (Y.w.ok.live q h3).ne y
 have L:∀z,z∈A->z∉uj μ->H' z=H1 z:=λz O nz=>by
  cases e:H1 z with
  |none=>exact XI e (Y.w.ok.live z O).ne
  |some u=>exact sm z u nz e
 have N0:Pi G A2 σ H' ρ:=by
  refine⟨Y.w.ok.len,λz O=>lv z (sub z O),λi e h=>?_,λi e h=>?_,Y.w.ok.inj⟩
  .obtain⟨v,q1,q2⟩:=Y.w.ok.fz i e h;exact⟨v,q1,q2.mono pl⟩
  .obtain⟨q,q1,q2,q3⟩:=Y.w.ok.ow i e h;have n:=W i e q h q1 q2;exact⟨q,q1,(T q).mpr (.inl ⟨q2,n.1⟩),q3.keep (L q q2 n.1) pl⟩
 have S:∀z,z∈(A2.filter λa=>decide (a∉uj μ'++A0))↔z∈A2/\z∉uj μ'++A0:=λz=>by simp[dS]
 have J:∀z∈uj μ'++A0,z∈A2:=λz O=>by
  rcases eA.mp O with h | h
  .exact (T z).mpr (.inr h)
  .exact (T z).mpr (.inl ⟨Y.subA0 z h,λy=>Y.n0 y h⟩)
 refine k v H' d μ' A2 (be (A2.filter λa=>decide (a∉uj μ'++A0)) H') kd ⟨⟨Ao,J,λz O=>?_,λz O h=>?_,N0,λi e q U h2 z=>?_,Y.w.lt⟩,λb u I=>?_,Y.l0,λz O=>?_,nd,λq hq=>((ct q hq).2).sub sub⟩ (rv.mono (DW sub))
 .by_cases y:z∈uj μ'++A0
  .exact .inl y
  .right;unfold be;rw[VI ((S z).mpr ⟨O,y⟩)]
 .rw[A_ (λy=>((S z).mp y).2 O)] at h;exact (lv z (sub z (J z O))).ne h
 .obtain⟨q',q1,q2,_⟩:=Y.w.ok.ow i e U;rw[h2] at q1;cases q1;have n:=W i e q U h2 q2
  rcases eA.mp z with y | y
  .exact n.2.1 y
  .exact n.2.2 y
 .have U:=Y.same b u I;have Z:b∉uj μ:=λz=>by rw[Y.nf b z] at I;cases I
  rw[A_]
  .exact sm b u Z U
  .intro z;obtain⟨z1,z2⟩:=(S b).mp z
   rcases (T b).mp z1 with y | y
   .rcases Y.fr y.1 with x | x
    .exact z2 (i6 _ x)
    .rw[x] at I;cases I
   .exact z2 (kU _ y)
 .rcases fr z O with y | y
  .exact Y.nf z y
  .exact Y.same.free y
def nR{k:Nat}{f:Addr}{L:GM}(F:gn X.prog X.w X.K X.mg X.base CX0 k f fd ps (spM G L))(hr:Room k X.A)(hg:Gl X x)(hm:X.mg x=O0 (.ref f))(hk:ib X.K (.ref f)=O1)(hb:MU X.K fd ps [])(ha:To X G (a::es) fs)(J:(x==("__debug__":Str))=O2:=by decide)(he:ay (a::es) X.env=(O2,eval a X.env)::ay es X.env:=by rfl)(z:(da pos (ay es X.env)).any (·.1)=O2:=by rfl):
  PMX X G (.Call (.Name x p) (a::es) [] pos) (calX L fs):=by
 rintro A0 He T s O H Q I ⟨S,μ,K,⟨A,Hb,w⟩,⟨ds,e1,e2⟩,k⟩
 refine bh F hr hg hm hk hb .nil Ry (@ha A) J he z T s O H Q I ⟨S,ds,w.w.ok,e1,λU H1 W Z=>?_⟩;have Y:=w.mono W;show spM G L (U++[]) H1 Q E0;rw[fI];exact nQ Y Z e2 k
end
def UM:d4 "enumerate"=O0 (.type "enumerate"):=by decide +kernel
section
variable {a:Expr}{fa:FE}{p:Pos}{ta:TA}
def enD:Nat->List D->List D
 |_,[]=>[]
 |n,d::r=>.tup [.int (n:Nat),d]::enD (n+1) r
theorem TF:∀(n:Nat) (ds:List D),(enD n ds).length=ds.length
 |_,[]=>rfl
 |n,d::r=>by rw[enD,ck,ck,TF]
theorem dU:∀(n:Nat) (ds:List D) (i:Nat) (d:D),(enD n ds)[i]?=O0 d->∃e,ds[i]?=O0 e/\d=.tup [.int ((n+i:Nat):Int),e]
 |_,[],i,d,h=>by simp[enD] at h
 |n,x::r,0,d,h=>by simp[enD] at h;exact⟨x,rfl,by rw[<-h];simp⟩
 |n,x::r,i+1,d,h=>by
  simp only[enD,kN] at h ⊢;obtain⟨e,I,z⟩:=dU (n+1) r i d h;exact⟨e,I,by rw[z];congr 3;omega⟩
end
section
open PySem.MeetsSeq PySem.SeqAt
end
def remL(x:D):List D->Option (List D)
 |[]=>W1
 |d::r=>match Sk 62 d x with | some O1=>O0 r | some O2=>(remL x r).map (d::·) | none=>W1
section
def remM:D->List D->Option (D×D)
 |.lst ds,[x]=>if ds.all (λd=>(Sk 62 d x).isSome)=O1 then (remL x ds).map λes=>(.non,.lst es) else W1
 |_,_=>W1
def appM:D->List D->Option (D×D)
 |.lst ds,[x]=>if ds.length<sizeLine then O0 (.non,.lst (ds++[x])) else W1
 |_,_=>W1
def nU:SndM G bw appM:=λA H l vs c ds v c' Q lv Y t r e k=>by
 unfold appM at e;split at e
 .rename_i Z x;split at e
  .rename_i S;cases e;obtain⟨I,U,z⟩:=t;obtain⟨y,ys,rfl,J,O⟩:=r.uncons;have W:=O.nil_inv;subst W;refine⟨l,I,y,rfl,rfl,U,by rw[z.1];exact S,k _ _ (λb o L T=>by rw[Am L];exact T) ⟨_,Ak,?_⟩ .non⟩;rw[Eo Y];exact z.append (.cons J .nil)
  .cases e
 .cases e
def yz{l:Addr}(t:Nd G A H l (.lst ds)):tyV X.K "list" (.ref l) H:=by
 obtain⟨z,h,_⟩:=t;exact .inl ⟨rfl,z,.of h⟩
def y_(A:List Addr)(H:Hp)(l:Addr)(c:D)(ds:List D)(z:D×D)(e:appM c ds=O0 z)(t:Nd G A H l c):tyV X.K "list" (.ref l) H:=by
 unfold appM at e;split at e
 .exact yz t
 .cases e
end
def bd2:D->Option (List D)
 |.tup [a,b]=>O0 [a,b]
 |_=>W1
def Y8(z:FI)(ga:FT)(fe:FE):FE:=JN bd2 z ga fe
section
variable {t u:Str}{elt iter:Expr}{ifs:List Expr}{pt:Pos}{k1:Nat}
def bnd2{N:Nat}:Bnd G N 2 bd2 (gTup G.K 2 (YL (Ft N) (YL (Ft (N+1)) gNil))):=λA I Y H x d es Q hl Z e r k=>by
 unfold bd2 at e;split at e
 .rename_i a b;cases e;cases r with
  |tup h l q=>
   rename_i c O;obtain⟨x,ys,rfl,W,U⟩:=(show bc G (be A H) O [a,b] from⟨l,q⟩).uncons;obtain⟨y,zs,rfl,T,S⟩:=U.uncons;have e0:=S.nil_inv;subst e0
   match Y,Z with
   |[L,J],_=>
   refine⟨c,[x,y],rfl,EY Ao h,rfl,x,[y],rfl,?_⟩;refine⟨y,[],rfl,rfl,?_⟩;have z:((I++[L,J]).set N (O0 x)).set (N+1) (O0 y)=I++[O0 x,O0 y]:=by
    rw[<-hl,E4 _ _ (aI _),rX];show (I++[O0 x,J]).set (I.length+1) (O0 y)=_;rw[E4 _ _ (lj _),show I.length+1-I.length=1 by omega];rfl
   show Q (((I++[L,J]).set N (O0 x)).set (N+1) (O0 y)) H;rw[z];exact k [x,y] rfl (.cons W (.cons T .nil))
 .cases e
theorem gTwo{L:List Str}(W:G.K=X.K)(O:CG [t,u] X.N++[t,u]=L)(c:oo X scope [t,u])(J:X.calm=O1)(S:ai)(T:Hp)(fp:List Addr):PG (Bp X scope L S T fp) (.Tuple [.Name t p1,.Name u p2] k1 pt) (gTup G.K 2 (YL (Ft X.N.length) (YL (Ft (X.N.length+1)) gNil))):=by
 subst O;rw[W];have at0:(CG [t,u] X.N++[t,u])[X.N.length]?=O0 t:=by unfold CG;rw[ja (by rw[aE];exact aI _),aE,rX];rfl
 have z:(CG [t,u] X.N++[t,u])[X.N.length+1]?=O0 u:=by unfold CG;rw[ja (by rw[aE];exact lj _),aE,Nat.add_sub_cancel_left];rfl
 have lt:=AG (env:=X.env) (c.tl t .(1));have I:=AG (env:=X.env) (c.tl u .(1));exact jO J (Th (T4 (c.nd t .(1)) at0 (.inl lt) (.inr lt)) (Th (T4 (c.nd u .(1)) z (.inl I) (.inr I)) bT rfl) rfl) rfl rfl
def nY(L:List Str)(I:CG [t,u] X.N++[t,u]=L)(c:oo X scope [t,u])(J:X.calm=O1)(W:G.K=X.K)(O:Sa X G O1 (.Tuple [.Name t p1,.Name u p2] k1 pt) iter src)(U:∀S z fp,PFTs (Bp X scope L S z fp) G ifs ga)(Y:∀S z fp,PF (Bp X scope L S z fp) G elt fe)(hs:∀x,lc iter X.env x=pure x:=by intro _;rfl):PN X G (.ListComp elt [⟨.Tuple [.Name t p1,.Name u p2] k1 pt,iter,ifs,0⟩] scope pos) (Y8 src ga fe):=
 λA=>Ym L I c J O (gTwo W I c J) bnd2 U Y hs A
def cO2{t u:Str}(I:X.N=N)(hs:X.env.scope=sc)(h:P_ N sc scope [t,u]=O1:=by decide +kernel):oo X scope [t,u]:=Ub I hs h
end
open Classical in
noncomputable def YV(g:GM)(P:List D->D->Prop):List D->Option D:=λds=>if h:∃d,g ds [] (λd' _=>d'=d)/\P ds d then O0 (choose h) else W1
def uT{g:GM}{P:List D->D->Prop}{d:D}(h:YV g P ds=O0 d):g ds [] (λd' _=>d'=d):=by
 unfold YV at h;split at h
 .rename_i q;cases h;exact (F8 q).1
 .cases h
def dW{g:GM}{P:List D->D->Prop}{d:D}(h:g ds [] λd' _=>d'=d)(p:P ds d):∃e,YV g P ds=O0 e/\P ds e:=by
 have q:∃d,g ds [] (λd' _=>d'=d)/\P ds d:=⟨d,h,p⟩;exact⟨Classical.choose q,dif_pos q,(F8 q).2⟩
section
variable {a:Expr}{es:List Expr}{fs:FA}{h:FXM}
theorem fM{k:Nat}{p:Pos}{d:Dx X.K X.mg x st ps}{g:GM}(F:gn X.prog X.w X.K X.mg X.base CX0 k d.f d.fd ps (spM G g))(L:Room k' X.A)(S:To X G (a::es) fs)(I:k<=k':=by omega)(W:Gl X x:=by rfl)(J:(x==("__debug__":Str))=O2:=by decide)(O:ay (a::es) X.env=(O2,eval a X.env)::ay es X.env:=by rfl)(z:(da pos (ay es X.env)).any (·.1)=O2:=by rfl):PMX X G (.Call (.Name x p) (a::es) [] pos) (calX g fs):=nR F (L.mono I) W d.m d.F.kp d.B S J O z
def sXM(O:X.N.Nodup)(i:Nat){x:Str}{p:Pos}(L:PMX X G a h)(I:X.N[i]?=O0 x:=by rfl)(z:Loc X.env.scope x:=by first | exact dn rfl | exact cr rfl)(hs:eP a (O0 (.Name x p)) pos.line X.env=pure O2:=by rfl)(J:X.fn x=O1∨X.env.scope.names.lookup x=O0 .local :=by first | exact .inl rfl | exact .inr rfl | assumption):PSM X G (.Assign [.Name x p] a pos) (QS i h):=nP (λ_ h=>Zt O I z h hs J) L
end
theorem fnDM{base:Heap}{k:Nat}{b:FM}{Pr:List D->D->Prop}(d:Dx G.K mg x st ps)(S:am N ps (Ab st))(I:∀(cdv:ac) (A:aT) (z:List Env) (s:ai) (H:Hp) (E:XK),Room k (A.deeper (fR x (Ab st) s.heap.objs.size d.f cdv))->UQ (Qb CX0 P w G.K mg base N x (Ab st) d.f cdv A z s H E).nox G (Bo st) b)(Y:ps.length<=N.length:=by decide):
  gn P w G.K mg base CX0 (k+1) d.f d.fd ps (MS G (YV (VO N.length ps.length b) Pr)):=AAw d.F S Y I λJ L h=>uT h
open PySem.Calls
def seeM(z:Mu):D->D
 |.adr a=>(match z.lookup a with | some (.lst ds)=>.lst ds | _=>.adr a)
 |d=>d
def Uu(I:Mu):Slot->Slot
 |.fz d=>.fz (seeM I d)
 |z=>z
def XX{I:Mu}(o:Na G A0 He Hb A σ H ρ I){v:V}{d:D}(r:jl G (be A H) v d):jl G (be (A.filter λa=>decide (a∉uj I)) H) v (seeM I d):=by
 have S:af (be A H) (be (A.filter λa=>decide (a∉uj I)) H):=DW λa U=>(dS.mp U).1;have O:=r.mono S;unfold seeM;split
 .rename_i a;split
  .rename_i ds Y;cases r;have J:=PY Y;obtain⟨Z,W,L⟩:=o.top _ J;have T:a∉(A.filter λa=>decide (a∉uj I)):=λz=>(WJ (dS.mp z).2) (Ms J);exact .lst (.of (by rw[A_ T];exact W)) L.1 (L.mono S).2
  .exact O
 .exact O
theorem Na.lend{μ:Mu}(o:Na G A0 He Hb A σ H ρ μ):Pi G (A.filter λa=>decide (a∉uj μ)) σ H (ρ.map (Uu μ)):=by
 have TR:∀{i:Nat}{d:D},(ρ.map (Uu μ))[i]?=O0 (.ow d)->ρ[i]?=O0 (.ow d):=λ{i d} O=>by
  rw[cb] at O;cases q:ρ[i]? with
  |none=>rw[q] at O;cases O
  |some y=>
   rw[q] at O;cases y with
   |fz d=>cases O
   |ow d=>cases O;rfl
   |un=>cases O
 refine⟨by rw[aE];exact o.w.ok.len,λa J=>o.w.ok.live a (dS.mp J).1,λi d O=>?_,λi d O=>?_,λi j d e a W U S L=>o.w.ok.inj i j d e a (TR W) (TR U) S L⟩
 .rw[cb] at O;cases q:ρ[i]? with
  |none=>rw[q] at O;cases O
  |some y=>
   rw[q] at O;cases y with
   |fz Y=>
    cases O;obtain⟨v,q1,q2⟩:=o.w.ok.fz i Y q;exact⟨v,q1,XX o q2⟩
   |ow d=>cases O
   |un=>cases O
 .obtain⟨a,q1,q2,q3⟩:=o.w.ok.ow i d (TR O);have T:a∉uj μ:=λz=>o.w.ow0 i d a (TR O) q1 (kU _ z);exact⟨a,q1,dS.mpr ⟨q2,ZI T⟩,q3.sub λb I=>(dS.mp I).1⟩
def J5(t:FT)(b:FM):Nat->FM
 |0=>λ_ _ _=>False
 |n+1=>λρ z K=>match t (ρ.map (Uu z)) with | some O2=>K (.nx ρ) z | some O1=>b ρ z (bdM (J5 t b n) K) | none=>False
section
variable {a b c:Expr}{fa fb:FE}{p:Pos}{es:List Expr}{fs:FA}{g gs gb:FM}{h:FXM}
theorem iU(n:Nat)(hp:qV (av X.prog X.w) X.A X.env X.xe)(ht:Sn X G c ga)(hb:UQ X G body gb):PSM X G (.While c body [] pos) (J5 ga gb n):=by
 rintro A0 He π s W H D I ⟨ρ,μ,K,ok,e,k⟩
 have T0:PT X c (λW H Q=>∃A,tFT G A ga W H Q):=(by rintro π s W H Q I ⟨A,q⟩;exact @ht A π s W H Q I q);refine YM hp T0 (@hb A0 He) π s W H D I ⟨λm z S=>∃J L,VW G A0 He z S J L/\J5 ga gb m J L K,⟨n,ρ,μ,ok,e⟩,?_⟩;rintro m S0 H1 ⟨Y,N0,⟨A,Hb,w1⟩,U⟩;cases m with
 |zero=>exact U.elim
 |succ m=>
  unfold J5 at U;cases e2:ga (Y.map (Uu N0)) with
  |none=>simp[e2] at U
  |some t=>
   refine⟨_,_,t,w1.lend,e2,λH2 s2=>?_⟩;simp only[e2] at U;cases t with
   |false=>exact VT (k _ _ U S0 H2 ⟨A,Hb,w1.mono s2⟩)
   |true=>
    refine Xs ⟨λz S=>∃J L,VW G A0 He z S J L/\J5 ga gb m J L K,λz S q=>⟨m,tj m,q⟩,Y,N0,_,⟨A,Hb,w1.mono s2⟩,U,λo5 Z q5=>?_⟩;cases o5 with
    |nx T=>exact λz S O=>⟨T,Z,O,q5⟩
    |ct T=>exact λz S O=>⟨T,Z,O,q5⟩
    |bk T=>exact λz S O=>k _ _ q5 z S O
    |rt d5 T=>exact k _ _ q5
end
open PySem.SetTable (below insertAt Probe Met)
abbrev RU (l:List Nat):Prop:=l.Pairwise (·<·)
theorem Uv(xs:Array Nat)(J:RU xs.toList)(j:Nat):∀(f lo hi:Nat),hi-lo<=f->lo<=hi->hi<=xs.size->(∀i (h:i<xs.size),i<lo->xs[i]<j)->(∀i (h:i<xs.size),hi<=i->j<=xs[i]) ->
  lo<=below.go xs j f lo hi/\below.go xs j f lo hi<=hi/\(∀i (h:i<xs.size),i<below.go xs j f lo hi->xs[i]<j)/\(∀i (h:i<xs.size),below.go xs j f lo hi<=i->j<=xs[i])
 |0,lo,hi,Z,W,hs,I,z=>by
  have:lo=hi:=by omega
  subst this;exact⟨aI _,aI _,I,z⟩
 |f+1,lo,hi,Z,W,hs,I,z=>by
  have mono:∀a b (T:a<xs.size) (S:b<xs.size),a<=b->xs[a]<=xs[b]:=λa b T S O=>by
   rcases KU O with h | h
   .have:=ve.mp J a b (by simpa using T) (by simpa using S) h;simp at this;omega
   .subst h;exact aI _
  have U:below.go xs j (f+1) lo hi=if lo<hi then (if xs.getD ((lo+hi)/2) j<j then below.go xs j f ((lo+hi)/2+1) hi else below.go xs j f lo ((lo+hi)/2)) else lo:=rfl
  by_cases c:lo<hi
  .have L:(lo+hi)/2<xs.size:=by omega
   have gd:xs.getD ((lo+hi)/2) j=xs[(lo+hi)/2]:=by simp[L]
   rw[U,VI c,gd]
   by_cases d:xs[(lo+hi)/2]<j
   .simp only[VI d];obtain⟨a,b,e,g⟩:=Uv xs J j f ((lo+hi)/2+1) hi .(0) .(0) hs (λi h Y=>nI (mono i _ h L .(0)) d) z;exact⟨by omega,b,e,g⟩
   .simp only[WI d];obtain⟨a,b,e,g⟩:=Uv xs J j f lo ((lo+hi)/2) .(0) .(0) .(0) I (λi h Y=>by have:=mono _ i L h Y;omega);exact⟨a,by omega,e,g⟩
  .rw[U,WI c];have:lo=hi:=by omega
   subst this;exact⟨aI _,aI _,I,z⟩
def QT(xs:Array Nat)(J:RU xs.toList)(j:Nat):below xs j<=xs.size/\(∀i (h:i<xs.size),i<below xs j->xs[i]<j)/\(∀i (h:i<xs.size),below xs j<=i->j<=xs[i]):=by
 have:=Uv xs J j xs.size 0 xs.size .(0) .(0) (aI _) (λ_ _ h=>by omega) (λi h L=>by omega);exact this.2
def below_at(xs:Array Nat)(J:RU xs.toList){i j:Nat}(h:xs[i]?=O0 j):below xs j=i:=by
 obtain⟨z,e⟩:=F9.mp h;obtain⟨L,b1,b2⟩:=QT xs J j
 rcases B6 (below xs j) i with c | c | c
 .have I:=b2 (below xs j) .(0) (aI _);have:=ve.mp J (below xs j) i (by simp;omega) (by simpa using z) c;simp at this;omega
 .exact c
 .have:=b1 i z c;omega
def V4{t:SetTable}(J:RU t.place.toList){i j:Nat}(h:t.place[i]?=O0 j):t.slot j=.live i:=by
 unfold KW;rw[below_at _ J h];simp[h]
def aU{t:SetTable}(I:t.dummies=#[]){j:Nat}(h:j∉t.place.toList):t.slot j=.empty:=by
 unfold KW;have L:¬ (t.place[below t.place j]?==O0 j)=O1:=λz=>by
  have:=eq_of_beq z;exact h (by have:=Array.mem_of_getElem? this;simpa using this)
 have J:L0 t.dummies j=O2:=by rw[I];rfl
 simp only[L,J];rfl
def adv(m:Nat)(p:Probe):Probe:=if p.more > 0 then { p with j:=p.j+1,more:=p.more-1 } else { p with j:=(kP m p.i p.perturb).1,more:=eC m (kP m p.i p.perturb).1-(kP m p.i p.perturb).1,i:=(kP m p.i p.perturb).1,perturb:=(kP m p.i p.perturb).2 }
def nZ(t:SetTable)(p:Probe):t.advance p=adv t.mask p:=by
 unfold SetTable.advance adv;split<;>rfl
def UZ(m:Nat)(p:Probe):Nat->Probe
 |0=>p
 |n+1=>UZ m (adv m p) n
theorem V5(m:Nat):∀(n:Nat) (p:Probe),(UZ m p n).dummy=p.dummy
 |0,_=>rfl
 |n+1,p=>by
  show (UZ m (adv m p) n).dummy=_;rw[V5 m n];unfold adv;split<;>rfl
theorem Y9(t:SetTable)(z:Nat->Int)(h:Int):∀(n f:Nat) (p:Probe),n<f->(∀k,k<n->∃i,t.slot (UZ t.mask p k).j=.live i/\z i≠h)->t.slot (UZ t.mask p n).j=.empty->qf t z h f p=O0 (.empty (UZ t.mask p n).j p.dummy)
 |0,f+1,p,_,_,e=>by
  unfold qf;have e:t.slot p.j=.empty:=e;rw[e];rfl
 |n+1,f+1,p,O,I,e=>by
  obtain⟨i,s,d⟩:=I 0 .(0);have s:t.slot p.j=.live i:=s;have J:=Y9 t z h n f (adv t.mask p) .(0) (λk L=>I (k+1) .(0)) e;unfold qf;rw[s];show (if (z i==h)=O1 then _ else qf t z h f (t.advance p))=_;rw[WI (by simpa using d),nZ,J];rw[show (adv t.mask p).dummy=p.dummy from V5 t.mask 1 p];rfl
theorem dX(t:SetTable)(z:Nat->Int)(h:Int):∀(n f:Nat) (p:Probe) (i:Nat),n<f->(∀k,k<n->∃i,t.slot (UZ t.mask p k).j=.live i/\z i≠h)->t.slot (UZ t.mask p n).j=.live i->z i=h->∃I,qf t z h f p=O0 (.candidate (UZ t.mask p n).j i I)
 |0,f+1,p,i,_,_,e,g=>by
  unfold qf;have e:t.slot p.j=.live i:=e;rw[e];show ∃I,(if (z i==h)=O1 then _ else _)=_;rw[VI (by simpa using g)];exact⟨_,rfl⟩
 |n+1,f+1,p,O,T,J,e,g=>by
  obtain⟨i,s,d⟩:=J 0 .(0);have s:t.slot p.j=.live i:=s;obtain⟨I,L⟩:=dX t z h n f (adv t.mask p) O .(0) (λk S=>J (k+1) .(0)) e g;unfold qf;rw[s];show ∃I,(if (z i==h)=O1 then _ else qf t z h f (t.advance p))=_;rw[WI (by simpa using d),nZ,L];exact⟨I,rfl⟩
def Nl(m:Nat)(h:Int)(n:Nat):Nat:=(UZ m { j:=hJ h%(m+1),more:=eC m (hJ h%(m+1))-hJ h%(m+1),i:=hJ h%(m+1),perturb:=hJ h,dummy:=W1 } n).j
def Cov(m:Nat)(h:Int):Prop:=∀j,j<=m->∃n,n<10*kQ m/\Nl m h n=j
structure Tab (t:SetTable) (hs:List Int):Prop where
 len:t.place.toList.length=hs.length
 rise:RU t.place.toList
 dum:t.dummies=#[]
 mask:∀j∈t.place.toList,j<=t.mask
 room:hs.length<=t.mask
 far:∀q∈t.place.toList.zip hs,∃n,n<10*kQ t.mask/\Nl t.mask q.2 n=q.1/\∀k,k<n->Nl t.mask q.2 k∈t.place.toList
def least{P:Nat->Prop}(h:P n):∃m,m<=n/\P m/\∀k,k<m->¬ P k:=by
 induction n using Nat.strongRecOn with
 |ind n z=>
  by_cases c:∃k,k<n/\P k
  .obtain⟨k,I,T⟩:=c;obtain⟨m,a,b,d⟩:=z k I T;exact⟨m,by omega,b,d⟩
  .exact⟨n,aI _,h,λk I T=>c ⟨k,I,T⟩⟩
def Xa{t:SetTable}{hs:List Int}(T:Tab t hs){j:Nat}(h:j∈t.place.toList):∃i,i<hs.length/\t.place.toList[i]?=O0 j/\t.slot j=.live i:=by
 obtain⟨i,z,e⟩:=so.mp h;have O:t.place.toList[i]?=O0 j:=by rw[dc z,e]
 exact⟨i,by rw[<-T.len];exact z,O,V4 T.rise (by simpa using O)⟩
theorem Tl:∀{l m:List Nat},l.Nodup->(∀x∈l,x∈m)->l.length<=m.length
 |[],m,_,_=>fE _
 |x::l,m,L,h=>by
  obtain⟨n1,n2⟩:=ly.mp L;have J:=h x .(1);have O:=Tl (m:=m.erase x) n2 λy I=>(AV (show y≠x from λz=>n1 (z▸I))).mpr (h y (by simp[I]));rw[AW J] at O;have:=AX J;simp;omega
def iV{m:Nat}(L:RU l)(O:l.length<=m):∃j,j<=m/\j∉l:=by
 refine vi λc=>?_;have sub:∀j,j<=m->j∈l:=λj U=>vi λz=>c ⟨j,U,z⟩;have I:(bg (m+1)).Nodup:=ya;have:(bg (m+1)).length<=l.length:=by
  refine Tl I λx J=>sub x ?_;have:=cf.mp J;omega
 rw[lP] at this;omega
theorem Xb{t:SetTable}{hs:List Int}(T:Tab t hs)(J:Nat->Int)(he:∀i h,hs[i]?=O0 h->J i=h)(nd:hs.Nodup){i:Nat}{h:Int}(L:hs[i]?=O0 h):∃j O,t.probe J h (t.probeStart h)=O0 (.candidate j i O):=by
 have Y:i<t.place.toList.length:=by rw[T.len];exact (iL.mp L).1
 have hz:(t.place.toList[i],h)∈t.place.toList.zip hs:=by
  refine yi.mpr ⟨i,?_⟩;rw[yk];exact⟨dc Y,L⟩
 obtain⟨n,hn,Z,hb⟩:=T.far _ hz;simp only at Z hb;obtain⟨m,hm,⟨I,s1,g1⟩,hk⟩:=least (P:=λn=>∃i,t.slot (Nl t.mask h n)=.live i/\J i=h) (n:=n) ⟨i,by rw[Z];exact V4 T.rise (by simp[Y]),he i h L⟩;have N0:∀k,k<m->∃i,t.slot (Nl t.mask h k)=.live i/\J i≠h:=λk W=>by
  obtain⟨i2,_,_,s2⟩:=Xa T (hb k .(0));exact⟨i2,s2,λz=>hk k W ⟨i2,s2,z⟩⟩
 obtain⟨O,e⟩:=dX t J h m (10*kQ t.mask) (t.probeStart h) I .(0) N0 s1 g1;have S:Nl t.mask h m∈t.place.toList:=by
  rcases KU hm with c | c
  .exact hb m c
  .rw[c,Z];exact gi Y
 obtain⟨i3,U,p3,s3⟩:=Xa T S;have ei:I=i3:=by
  have:=s1.symm.trans s3;injection this
 subst ei;have g3:=he I _ (dc U);have:I=i:=by
  have e1:hs[I]?=O0 h:=by rw[dc U,<-g3,g1]
  exact (Fa U nd).mp (e1.trans L.symm)
 subst this;exact⟨_,O,e⟩
theorem Y_{t:SetTable}{hs:List Int}(T:Tab t hs)(L:Nat->Int)(Z:∀i h,hs[i]?=O0 h->L i=h){h:Int}(Y:h∉hs)(cv:Cov t.mask h):∃n,n<10*kQ t.mask/\Nl t.mask h n∉t.place.toList/\(∀k,k<n->Nl t.mask h k∈t.place.toList)/\t.probe L h (t.probeStart h)=O0 (.empty (Nl t.mask h n) W1):=by
 obtain⟨j,W,O⟩:=iV (m:=t.mask) T.rise (by rw[T.len];exact T.room);obtain⟨n0,S,e0⟩:=cv j W;obtain⟨n,hn,p,U⟩:=least (P:=λn=>Nl t.mask h n∉t.place.toList) (n:=n0) (by rw[e0];exact O);have J:∀k,k<n->Nl t.mask h k∈t.place.toList:=λk I=>vi λz=>U k I z;refine⟨n,by omega,p,J,?_⟩;refine Y9 t L h n (10*kQ t.mask) (t.probeStart h) .(0) (λk I=>?_) (aU T.dum p);obtain⟨i,l,p',s⟩:=Xa T (J k I);refine⟨i,s,λz=>Y ?_⟩;have:=Z i _ (dc l);rw[z] at this;rw[this];exact gi l
def Uw{z:Type}(xs:Array z)(p:Nat)(x:z):(insertAt xs p x).toList=xs.toList.take p++x::xs.toList.drop p:=by
 unfold insertAt;simp;rw[DU];simp
def aV{xs:Array Nat}(L:RU xs.toList){j:Nat}(O:j∉xs.toList):(∀a∈xs.toList.take (below xs j),a<j)/\∀a∈xs.toList.drop (below xs j),j<a:=by
 obtain⟨T,b1,b2⟩:=QT xs L j;refine⟨λa J=>?_,λa J=>?_⟩
 .obtain⟨i,I,rfl⟩:=so.mp J;rw[ij] at I;rw[L1];have:=b1 i (by simp at I;omega) .(0);simpa using this
 .have S:a∈xs.toList:=L3 J;obtain⟨i,I,rfl⟩:=so.mp J;rw[ri] at I;rw[List.getElem_drop];have:=b2 (below xs j+i) (by simp at I;omega) .(0);have ne:¬ xs.toList[below xs j+i]'(by omega)=j:=λz=>O (z▸gi _);simp at this ne ⊢;omega
def ni{J I:Type}{l:List J}{m:List I}{p:Nat}{q:J×I}(h:q∈(l.take p).zip (m.take p)):q∈l.zip m:=by
 obtain⟨i,z⟩:=yi.mp h;rw[yk] at z;have L:i<p:=by
  have:=(iL.mp z.1).1;rw[ij] at this;omega
 rw[D6 L,D6 L] at z;exact yi.mpr ⟨i,yk.mpr z⟩
def nu{I z:Type}{l:List I}{m:List z}{p:Nat}{q:I×z}(h:q∈(l.drop p).zip (m.drop p)):q∈l.zip m:=by
 obtain⟨i,J⟩:=yi.mp h;rw[yk,DS,DS] at J;exact yi.mpr ⟨p+i,yk.mpr J⟩
theorem Tab.put{t:SetTable}{hs:List Int}(T:Tab t hs){h:Int}{n j:Nat}(hn:n<10*kQ t.mask)(ej:Nl t.mask h n=j)(hj:j∉t.place.toList)(hm:j<=t.mask)(hb:∀k,k<n->Nl t.mask h k∈t.place.toList)(rm:hs.length+1<=t.mask):
  Tab (t.put j).1 (hs.take (t.put j).2++h::hs.drop (t.put j).2)/\(t.put j).2<=hs.length:=by
 have O:(t.put j).2=below t.place j:=rfl;have Y:(t.put j).1.place.toList=t.place.toList.take (below t.place j)++j::t.place.toList.drop (below t.place j):=Uw _ _ _;have J:(t.put j).1.mask=t.mask:=rfl;have hd:(t.put j).1.dummies=#[]:=by
  show (if L0 t.dummies j then _ else t.dummies)=_;rw[T.dum];rfl
 obtain⟨b0,b1,b2⟩:=QT t.place T.rise j;obtain⟨s1,s2⟩:=aV T.rise hj;have len:=T.len;have W:below t.place j<=hs.length:=by rw[<-len];simpa using b0
 have sub:∀x∈t.place.toList,x∈(t.put j).1.place.toList:=λx I=>by
  rw[Y];rw[<-B7 (below t.place j) t.place.toList] at I
  rcases eA.mp I with I | I
  .exact kU _ I
  .exact i6 _ (cw _ I)
 refine⟨⟨?_,?_,hd,?_,?_,?_⟩,by rw[O];exact W⟩
 .rw[Y,O];simp only[eB,ij,ck,ri];omega
 .rw[Y];have r:=T.rise;rw[<-B7 (below t.place j) t.place.toList] at r;obtain⟨r1,r2,r3⟩:=L4.mp r;refine L4.mpr ⟨r1,kL.mpr ⟨s2,r2⟩,λa Z b S=>?_⟩
  rcases bp.mp S with z | z
  .rw[z];exact s1 a Z
  .exact r3 a Z b z
 .intro x I;rw[Y] at I;rw[J]
  rcases eA.mp I with I | I
  .exact T.mask x (Fc I)
  .rcases bp.mp I with z | z
   .rw[z];exact hm
   .exact T.mask x (L3 z)
 .rw[J,O];simp only[eB,ij,ck,ri];omega
 .intro q U;rw[Y,O,List.zip_append (by simp only[ij];omega),zv] at U;rw[J];have L:∀q∈t.place.toList.zip hs,∃n,n<10*kQ t.mask/\Nl t.mask q.2 n=q.1/\∀k,k<n->Nl t.mask q.2 k∈(t.put j).1.place.toList:=λq U=>by
   obtain⟨n,a,b,c⟩:=T.far q U;exact⟨n,a,b,λk J=>sub _ (c k J)⟩
  rcases eA.mp U with U | U
  .exact L q (ni U)
  .rcases bp.mp U with z | z
   .rw[z];exact⟨n,hn,ej,λk J=>sub _ (hb k J)⟩
   .exact L q (nu z)
def stA(m i pt:Nat):Probe:={ j:=i,more:=eC m i-i,i:=i,perturb:=pt,dummy:=W1 }
theorem QV(m:Nat):∀(a b:Nat) (p:Probe),UZ m p (a+b)=UZ m (UZ m p a) b
 |0,b,p=>by rw[mS];rfl
 |a+1,b,p=>by
  rw[Nat.add_right_comm];exact QV m a b (adv m p)
theorem Xc(m i pt:Nat):∀(k L:Nat),k<=L->∀c,UZ m { j:=i+c,more:=L,i:=i,perturb:=pt,dummy:=W1 } k={ j:=i+c+k,more:=L-k,i:=i,perturb:=pt,dummy:=W1 }
 |0,L,_,c=>rfl
 |k+1,L,h,c=>by
  show UZ m (adv m _) k=_;have:adv m { j:=i+c,more:=L,i:=i,perturb:=pt,dummy:=W1 }={ j:=i+(c+1),more:=L-1,i:=i,perturb:=pt,dummy:=W1 }:=by
   unfold adv;rw[VI (show L > 0 by omega)];simp[zo]
  rw[this,Xc m i pt k (L-1) .(0) (c+1)];simp;omega
def Ux(m i pt:Nat):UZ m (stA m i pt) (eC m i-i+1)=stA m (kP m i pt).1 (kP m i pt).2:=by
 rw[QV];have:=Xc m i pt (eC m i-i) (eC m i-i) (aI _) 0;rw[L5] at this;unfold stA;rw[this];show adv m _=_;unfold adv;rw[WI .(1)]
def Xd(m i pt k:Nat)(h:k<=eC m i-i):(UZ m (stA m i pt) k).j=i+k:=by
 have:=Xc m i pt k (eC m i-i) h 0;rw[L5] at this;unfold stA;rw[this]
def Uy(m i:Nat):eC m i+1-i<=10/\i<=eC m i:=by
 unfold eC;split<;>omega
def Full(z:Array (Option Nat))(j:Nat):Prop:=(z.getD j (O0 0)).isNone=O2
theorem dY(m:Nat)(I:Array (Option Nat)):∀(f i pt j:Nat),yn m I f i pt=O0 j->∃n,n<10*f/\(UZ m (stA m i pt) n).j=j/\(I.getD j (O0 0)).isNone=O1/\∀k,k<n->Full I (UZ m (stA m i pt) k).j
 |0,i,pt,j,h=>by cases h
 |f+1,i,pt,j,h=>by
  obtain⟨Y,W⟩:=Uy m i;unfold yn at h;cases e:(bg (eC m i+1-i)).find? λk=>(I.getD (i+k) (O0 0)).isNone with
  |some k=>
   rw[e] at h;obtain rfl:i+k=j:=cS h;have S:=B8 e;rw[cf] at S;have T:=Fh e;refine⟨k,by omega,Xd m i pt k .(0),T,λJ U=>?_⟩;rw[Xd m i pt J .(0)];obtain⟨as,bs,O,L⟩:=(List.find?_eq_some_iff_append.mp e).2;have:J∈as:=by
    have Z:as.length=k:=by
     have:=NJ (λl=>l[as.length]?) O;simp only[ja (aI _),rX,kt] at this;rw[B4 (by
      have:=NJ eJ O;simp at this;omega)] at this
     exact cS this
    have:=NJ (λl=>l[J]?) O;simp only[ko (show J<as.length by omega)] at this;rw[B4 .(0)] at this;exact oS this.symm
   have:=L J this;unfold Full;simpa using this
  |none=>
   rw[e] at h;obtain⟨n,a,b,c,d⟩:=dY m I f _ _ j h;refine⟨eC m i-i+1+n,by omega,by rw[QV,Ux];exact b,c,λk S=>?_⟩
   by_cases z:k<=eC m i-i
   .rw[Xd m i pt k z];have:=Fk.mp e k (by rw[cf];omega);exact L6.mpr this
   .have L:k=eC m i-i+1+(k-(eC m i-i+1)):=by omega
    rw[L,QV,Ux];exact d _ .(0)
def O8(m:Nat)(j:Nat):Nat->Nat->Nat->Bool
 |0,_,_=>O2
 |f+1,i,pt=>(decide (i<=j)&&decide (j<=eC m i))||O8 m j f (kP m i pt).1 (kP m i pt).2
theorem V6(m:Nat)(z:Array (Option Nat))(j:Nat)(U:(z.getD j (O0 0)).isNone=O1):∀(f i pt:Nat),O8 m j f i pt=O1->∃x,yn m z f i pt=O0 x
 |0,i,pt,h=>by cases h
 |f+1,i,pt,h=>by
  obtain⟨I,O⟩:=Uy m i;unfold yn;cases e:(bg (eC m i+1-i)).find? λk=>(z.getD (i+k) (O0 0)).isNone with
  |some k=>exact⟨_,rfl⟩
  |none=>
   unfold O8 at h
   rcases L7.mp h with h | h
   .rw[eI,ML,ML] at h;have:=Fk.mp e (j-i) (by rw[cf];omega);rw[show i+(j-i)=j by omega] at this;exact XI U this
   .exact V6 m z j U f _ _ h
theorem dZ(m j:Nat):∀(f i pt:Nat),O8 m j f i pt=O1->∃n,n<10*f/\(UZ m (stA m i pt) n).j=j
 |0,i,pt,h=>by cases h
 |f+1,i,pt,h=>by
  obtain⟨z,O⟩:=Uy m i;unfold O8 at h
  rcases L7.mp h with h | h
  .rw[eI,ML,ML] at h;exact⟨j-i,by omega,by rw[Xd m i pt (j-i) .(0)];omega⟩
  .obtain⟨n,a,b⟩:=dZ m j f _ _ h;exact⟨eC m i-i+1+n,by omega,by rw[QV,Ux];exact b⟩
def VZ(m:Nat)(h:Int):Prop:=∀j,j<=m->O8 m j (kQ m) (hJ h%(m+1)) (hJ h)=O1
def VZ.cov{m:Nat}{h:Int}(c:VZ m h):Cov m h:=λj U=>dZ m j _ _ _ (c j U)
theorem zA{m:Nat}{p:Probe}(h:p.j+p.more<=m):(adv m p).j+(adv m p).more<=m:=by
 unfold adv;split
 .simp;omega
 .have Y:(kP m p.i p.perturb).1<=m:=yA (AZ _ (L8 m));obtain⟨z,O⟩:=Uy m (kP m p.i p.perturb).1;have:eC m (kP m p.i p.perturb).1<=m:=by
   unfold eC;split<;>omega
  simp;omega
theorem n6{m:Nat}:∀(n:Nat) {p:Probe},p.j+p.more<=m->(UZ m p n).j<=m
 |0,p,h=>by show p.j<=m;omega
 |n+1,p,h=>n6 n (zA h)
def Xe(m:Nat)(h:Int)(n:Nat):Nl m h n<=m:=by
 refine n6 n ?_;have Y:hJ h%(m+1)<=m:=yA (AZ _ (L8 m));obtain⟨z,O⟩:=Uy m (hJ h%(m+1));have:eC m (hJ h%(m+1))<=m:=by
  unfold eC;split<;>omega
 show hJ h%(m+1)+(eC m (hJ h%(m+1))-hJ h%(m+1))<=m;omega
structure Ow (m:Nat) (ow:Array (Option Nat)) (hs:List Int):Prop where
 size:ow.size=m+1
 own:∀i,i<hs.length->∃j:Nat,ow[j]?=O0 (O0 i)
 lt:∀(j i:Nat),ow[j]?=O0 (O0 i)->i<hs.length
 inj:∀(j k i:Nat),ow[j]?=O0 (O0 i)->ow[k]?=O0 (O0 i)->j=k
 far:∀(j i:Nat) (h:Int),ow[j]?=O0 (O0 i)->hs[i]?=O0 h->∃n,n<10*kQ m/\Nl m h n=j/\∀k,k<n->∃x,ow[Nl m h k]?=O0 (O0 x)
def V7{m:Nat}(hz:ow.size=m+1){j:Nat}(U:j<=m)(h:Full ow j):∃x,ow[j]?=O0 (O0 x):=by
 have Y:j<ow.size:=by omega
 unfold Full at h;rw[show ow.getD j (O0 0)=ow[j] by simp[Y]] at h;cases e:ow[j] with
 |none=>rw[e] at h;cases h
 |some x=>exact⟨x,by simp[Y,e]⟩
def Ow.free{m:Nat}{hs:List Int}(O:Ow m ow hs)(hl:hs.length<=m):∃j,j<=m/\(ow.getD j (O0 0)).isNone=O1:=by
 refine vi λc=>?_;have L:∀j,j<=m->∃x,ow[j]?=O0 (O0 x):=λj U=>V7 O.size U (by
  unfold Full;exact L6.mpr λz=>c ⟨j,U,z⟩)
 have W:((bg (m+1)).map λj=>(ow.getD j W1).getD 0).Nodup:=by
  rw[m4,iE];refine qh (R:=λa b=>a<b) (λ{a b} T S Y z=>?_) L9;have T:=cf.mp T;have S:=cf.mp S;obtain⟨x,I⟩:=L a .(0);obtain⟨y,J⟩:=L b .(0);have ex:(ow.getD a W1).getD 0=x:=by simp[I]
  have Z:(ow.getD b W1).getD 0=y:=by simp[J]
  rw[ex,Z] at z;subst z;have:=O.inj a b x I J;omega
 have:=Tl (m:=bg hs.length) W λy J=>by
  obtain⟨j,U,rfl⟩:=bn.mp J;obtain⟨x,I⟩:=L j (by have:=cf.mp U;omega);rw[show (ow.getD j W1).getD 0=x by simp[I]];exact cf.mpr (O.lt j x I)
 simp at this;omega
def TJ(m:Nat)(z:Option (Array (Option Nat)×Nat))(h:Int):Option (Array (Option Nat)×Nat):=do
 let (owner,k) <-z
 let j <-yn m owner (kQ m) (hJ h%(m+1)) (hJ h)
 pure (owner.setIfInBounds j (O0 k),k+1)
def Ow.add{m:Nat}{hs:List Int}(O:Ow m ow hs)(hl:hs.length<=m){h:Int}(cv:VZ m h):∃T,TJ m (O0 (ow,hs.length)) h=O0 (T,(hs++[h]).length)/\Ow m T (hs++[h]):=by
 obtain⟨j0,Y,f0⟩:=O.free hl;obtain⟨j,e⟩:=V6 m ow j0 f0 _ _ _ (cv j0 Y);obtain⟨n,hn,hj,fr,bf⟩:=dY m ow _ _ _ j e;have ej:Nl m h n=j:=hj;have jm:j<=m:=ej▸Xe m h n;have U:j<ow.size:=by rw[O.size];omega
 have nj:ow[j]?=O0 W1:=by
  rw[show ow.getD j (O0 0)=ow[j] by simp[U]] at fr;have:ow[j]=W1:=by simpa using fr
  simp[U,this]
 have J:∀k,(ow.setIfInBounds j (O0 hs.length))[k]?=if j=k then O0 (O0 hs.length) else ow[k]?:=λk=>by
  rw[Array.getElem?_setIfInBounds]
  by_cases c:j=k
  .subst c;simp[U]
  .simp[c]
 refine⟨ow.setIfInBounds j (O0 hs.length),?_,⟨by simp[O.size],λi Z=>?_,λk i I=>?_,λa b i S L=>?_,λk i g I W=>?_⟩⟩
 .unfold TJ;simp only[Lc,dL,e];simp
 .rw[eB,xk] at Z
  by_cases c:i=hs.length
  .exact⟨j,by rw[J,VI rfl,c]⟩
  .obtain⟨k,I⟩:=O.own i .(0);refine⟨k,?_⟩;rw[J,WI (λz=>?_),I];rw[<-z,nj] at I;cases I
 .rw[J] at I;rw[eB,xk]
  by_cases c:j=k
  .rw[VI c] at I;have:=cS (cS I);omega
  .rw[WI c] at I;have:=O.lt k i I;omega
 .rw[J] at S L
  by_cases c:j=a
  .by_cases d:j=b
   .omega
   .rw[VI c] at S;rw[WI d] at L;have:=cS (cS S);have:=O.lt b i L;omega
  .by_cases d:j=b
   .rw[WI c] at S;rw[VI d] at L;have:=cS (cS L);have:=O.lt a i S;omega
   .rw[WI c] at S;rw[WI d] at L;exact O.inj a b i S L
 .rw[J] at I;have up:∀k:Nat,(∃x,ow[k]?=O0 (O0 x))->∃x,(ow.setIfInBounds j (O0 hs.length))[k]?=O0 (O0 x):=by
   rintro k ⟨x,hx⟩
   rw[J]
   by_cases c:j=k
   .exact⟨_,VI c⟩
   .exact⟨x,by rw[WI c,hx]⟩
  by_cases c:j=k
  .rw[VI c] at I;have ei:=cS (cS I);subst ei;rw[ja (aI _),rX] at W;have eg:h=g:=by simpa using W
   subst eg;exact⟨n,hn,by rw[ej];exact c,λk I=>up _ (V7 O.size (Xe m h k) (bf k I))⟩
  .rw[WI c] at I;have Z:=O.lt k i I;rw[ko Z] at W;obtain⟨n',a,b,d⟩:=O.far k i g I W;exact⟨n',a,b,λk I=>up _ (d k I)⟩
theorem ZC(m:Nat):∀(r hs:List Int) (ow:Array (Option Nat)),Ow m ow hs->hs.length+r.length<=m->(∀h∈r,VZ m h)->∃T,r.foldl (TJ m) (O0 (ow,hs.length))=O0 (T,(hs++r).length)/\Ow m T (hs++r)
 |[],hs,ow,O,_,_=>⟨ow,by simp,by simpa using O⟩
 |h::r,hs,ow,O,Y,J=>by
  simp only[ck] at Y;obtain⟨I,S,Z⟩:=O.add .(0) (J h .(1));obtain⟨z,L,U⟩:=ZC m r (hs++[h]) I Z (by simp;omega) λg W=>J g (by simp[W]);refine⟨z,?_,by simpa using U⟩;rw[List.foldl_cons,S,L];simp
def iW(m:Nat)(hs:Array Int)(Y:hs.size<=m)(J:∀h∈hs.toList,VZ m h):∃ow,Ll m hs=O0 ow/\Ow m ow hs.toList:=by
 have z:∀(j i:Nat),(yB (m+1) (W1:Option Nat))[j]?=O0 (O0 i)->False:=λj i U=>by
  rw[Array.getElem?_replicate] at U;split at U
  .cases U
  .cases U
 have L:Ow m (yB (m+1) W1) []:=⟨by simp,λi I=>by simp at I,λj i U=>(z j i U).elim,λj k i U=>(z j i U).elim,λj i h U=>(z j i U).elim⟩;obtain⟨ow,e,O⟩:=ZC m hs.toList [] _ L (by simpa using Y) J;refine⟨ow,?_,by simpa using O⟩;have:Ll m hs=(hs.foldl (TJ m) (O0 (yB (m+1) W1,0))).map (·.1):=rfl;rw[this,<-Array.foldl_toList];rw[show (O0 (yB (m+1) W1,0):Option (Array (Option Nat)×Nat))=O0 (yB (m+1) W1,([]:List Int).length) from rfl,e];rfl
def uU(m fi mv:Nat)(ld pl:Bool)(es:Array (Int×ac))(hl:es.size<=m)(hc:∀e∈es.toList,VZ m e.1):∃t ord,Lm m fi mv ld pl (es.map (·.1))=O0 (t,ord)/\t.mask=m/\t.led=ld/\t.plain=pl/\(ord.filterMap (es[·]?)).toList.Perm es.toList/\Tab t ((ord.filterMap (es[·]?)).toList.map (·.1)):=by
 obtain⟨L,e,O⟩:=iW m (es.map (·.1)) (by simpa using hl) (λh hh=>by
  rw[JE] at hh;obtain⟨x,Y,rfl⟩:=bn.mp hh;exact hc x Y)
 have T:(es.map (·.1)).toList.length=es.size:=by simp
 generalize I:((bg (m+1)).filterMap λj=>(L.getD j W1).map (j,·))=live;have S:∀(j i:Nat),(j,i)∈live↔L[j]?=O0 (O0 i):=λj i=>by
  rw[<-I,CF];constructor
  .rintro⟨k,Z,ek⟩;have Z:=cf.mp Z;have hs:k<L.size:=by rw[O.size];exact Z
   rw[show L.getD k W1=L[k] by simp[hs]] at ek;cases ec:L[k] with
   |none=>rw[ec] at ek;cases ek
   |some x=>
    rw[ec] at ek;have:=cS ek;simp only[sN] at this;obtain⟨rfl,rfl⟩:=this;simp[hs,ec]
  .intro h;obtain⟨hs,eh⟩:=F9.mp h;refine⟨j,cf.mpr (by rw[<-O.size];exact hs),?_⟩;rw[show L.getD j W1=L[j] by simp[hs],eh];rfl
 have J:RU (live.map (·.1)):=by
  rw[<-I,RU,iE];refine List.Pairwise.filterMap _ (R:=λa b=>a<b) (λa b N0 x Y y hy=>?_) L9;obtain⟨u,_,rfl⟩:=ku.mp Y;obtain⟨v,_,rfl⟩:=ku.mp hy;exact N0
 have nd:(live.map (·.2)).Nodup:=by
  rw[m4,iE];rw[RU,iE] at J;refine qh (λ{a b} ha hb N0 z=>?_) J;have h1:=(S a.1 a.2).mp ha;have h2:=(S b.1 b.2).mp hb;rw[<-z] at h2;have:=O.inj _ _ _ h1 h2;omega
 have lt:∀q∈live,q.2<es.size:=λq U=>by
  have:=O.lt q.1 q.2 ((S q.1 q.2).mp U)
  rwa [T] at this
 have W:(live.map (·.2)).Perm (bg es.size):=by
  refine (List.perm_ext_iff_of_nodup nd ya).mpr λi=>?_;rw[cf];constructor
  .intro h;obtain⟨q,U,rfl⟩:=bn.mp h;exact lt q U
  .intro h;obtain⟨j,hj⟩:=O.own i (by rw[T];exact h);exact bn.mpr ⟨(j,i),(S j i).mpr hj,rfl⟩
 have fm:((live.map (·.2)).toArray.filterMap (es[·]?)).toList=live.map λq=>es.getD q.2 (0,.none):=by
  rw[Array.toList_filterMap];show (live.map (·.2)).filterMap _=_;rw[DD];have:∀l:List (Nat×Nat),(∀q∈l,q.2<es.size)->l.filterMap ((λi=>es[i]?) ∘ λx=>x.2)=l.map λq=>es.getD q.2 (0,.none):=λl=>by
   induction l with
   |nil=>intro _;rfl
   |cons q r ih=>
    intro h;have U:=h q .(1);rw[List.filterMap_cons_some (b:=es.getD q.2 (0,.none)) (by simp[U]),ih λy hy=>h y (by simp[hy])];rfl
  exact this live lt
 refine⟨{ mask:=m,place:=(live.map (·.1)).toArray,dummies:=#[],finger:=fi,led:=ld,moves:=mv,plain:=pl },(live.map (·.2)).toArray,?_,rfl,rfl,rfl,?_,?_⟩
 .unfold Lm;rw[e];simp only[Lc,dL,I];rfl
 .rw[fm];have e1:(live.map λq=>es.getD q.2 (0,.none))=(live.map (·.2)).map λi=>es.getD i (0,.none):=by rw[ca];rfl
  have e2:(bg es.size).map (λi=>es.getD i (0,.none))=es.toList:=by
   apply Lo
   .simp
   .intro i h1 h2;simp at h1;simp[h1]
  rw[e1,<-e2];exact W.map _
 .rw[fm,ca];have zl:∀l:List (Nat×Nat),(l.map (·.1)).zip (l.map ((λx:Int×ac=>x.1) ∘ λq=>es.getD q.2 (0,.none)))=l.map λq=>(q.1,(es.getD q.2 (0,.none)).1):=λl=>by
   induction l with
   |nil=>rfl
   |cons q r ih=>rw[bb,bb,zv,ih];rfl
  refine⟨by simp,J,rfl,λj hj=>?_,?_,λq U=>?_⟩
  .have hj:j∈live.map (·.1):=hj;obtain⟨p,hp,rfl⟩:=bn.mp hj;have:=(F9.mp ((S p.1 p.2).mp hp)).1;rw[O.size] at this;show p.1<=m;omega
  .rw[aE];have:=W.length_eq;rw[aE,lP] at this;show live.length<=m;omega
  .have U:q∈(live.map (·.1)).zip (live.map ((λx:Int×ac=>x.1) ∘ λq=>es.getD q.2 (0,.none))):=U;rw[zl] at U;obtain⟨p,hp,rfl⟩:=bn.mp U;have hm:=(S p.1 p.2).mp hp;have S0:=lt p hp;obtain⟨n,a,b,c⟩:=O.far p.1 p.2 (es.getD p.2 (0,.none)).1 hm (by simp[S0]);refine⟨n,a,b,λk Z=>?_⟩;obtain⟨x,Y⟩:=c k Z;exact bn.mpr ⟨(_,x),(S _ x).mpr Y,rfl⟩
abbrev kc:=Nat×Nat
def kk(p:kc):List Key:=[.inl (p.1:Int),.inl (p.2:Int)]
def hP(p:kc):Int:=BI (zn [(p.1:Int),(p.2:Int)])
def Sz(p:kc):Prop:=p.1<5/\p.2<5
def covB(m:Nat)(h:Int):Bool:=(bg (m+1)).all λj=>O8 m j (kQ m) (hJ h%(m+1)) (hJ h)
def all5:((bg 5).all λa=>(bg 5).all λb=>covB 7 (hP (a,b))&&covB 31 (hP (a,b)))=O1:=by decide +kernel
def dif5:((bg 25).all λa=>(bg 25).all λb=>a==b||!(hP (a/5,a%5)==hP (b/5,b%5)))=O1:=by decide +kernel
def cov5{p:kc}(h:Sz p):VZ 7 (hP p)/\VZ 31 (hP p):=by
 have:=eS.mp (eS.mp all5 p.1 (cf.mpr h.1)) p.2 (cf.mpr h.2);rw[eI] at this;exact⟨λj U=>eS.mp this.1 j (cf.mpr .(0)),λj U=>eS.mp this.2 j (cf.mpr .(0))⟩
def inj5{p q:kc}(h:Sz p)(k:Sz q)(e:hP p=hP q):p=q:=by
 obtain⟨a,b⟩:=p;obtain⟨c,d⟩:=q;obtain⟨S,O⟩:a<5/\b<5:=h;obtain⟨L,J⟩:c<5/\d<5:=k;have:=eS.mp (eS.mp dif5 (5*a+b) (cf.mpr .(0))) (5*c+d) (cf.mpr .(0));rw[show (5*a+b)/5=a by omega,show (5*a+b)%5=b by omega,show (5*c+d)/5=c by omega,show (5*c+d)%5=d by omega,e] at this;simp at this;have I:a=c:=by omega
 have z:b=d:=by omega
 rw[I,z]
section
variable {A:aT}
def uV{p:kc}(h:Sz p):vn (Av prog w) (kk p)=hP p:=by
 have e:∀n:Nat,n<5->(Av prog w).hash (.inl (n:Int))=(n:Int):=λn z=>by
  match n,z with
  |0,_=>rfl
  |1,_=>rfl
  |2,_=>rfl
  |3,_=>rfl
  |4,_=>rfl
 unfold vn hP kk;simp only[bb,gg,e p.1 h.1,e p.2 h.2]
def zB{p q:kc}(e:kk p=kk q):p=q:=by
 unfold kk at e;injection e with I z
 injection z with z _
 have L:=vS I;have J:=vS z;exact rh .(0) .(0)
abbrev Sr (prog:cy) (w:bE) (h:Heap) (p:kc) (b:Addr):Prop:=Sz p/\zk (Av prog w) h (kk p) b
def Sr.keep{g:Heap}{p:kc}(x:Sr prog w h p b)(k:∀o,h.get? b=O0 o->g.get? b=O0 o):Sr prog w g p b:=by
 obtain⟨i,o,z,n,I,r⟩:=x;exact⟨i,o,z,n,k o I,r⟩
def Sr.ne{p:kc}{t:SetTable}(x:Sr prog w h p b)(g:h.get? a=O0 o)(d:o.data=.set es ep t):b≠a:=λz=>by
 subst z;obtain⟨_,O,L,n,I,_,J,_⟩:=x;cases g.symm.trans I;cases d.symm.trans J
structure FP (prog:cy) (w:bE) (h:Heap) (es:Array (Int×ac)) (t:SetTable) (qs:List (kc×Addr)):Prop where
 ent:es.toList=qs.map λx=>(hP x.1,ba x.2)
 isp:∀x∈qs,Sr prog w h x.1 x.2
 nd:(qs.map (·.1)).Nodup
 tab:Tab t (es.toList.map (·.1))
 msk:(t.mask=7/\qs.length<=4)∨(t.mask=31/\qs.length<=18)
 led:btx w=O2->t.led=O1
 pln:t.plain=O1
def UO(prog:cy)(w:bE)(B:Addr->Prop)(h:Heap)(a:Addr)(ps:List kc):Prop:=∃es t qs,ObX h a es t/\FP prog w h es t qs/\(qs.map (·.1)).Perm ps/\∀x∈qs,B x.2
def FP.len{t:SetTable}{qs:List (kc×Addr)}(f:FP prog w h es t qs):es.size=qs.length:=by
 have:=NJ eJ f.ent;simpa using this
theorem FP.fits{h:Heap}{es:Array (Int×ac)}{t:SetTable}{qs:List (kc×Addr)}(f:FP prog w h es t qs):t.fits es.size=O1:=by
 have l:=f.tab.len;rw[aE,gE,gE] at l;have r:=f.tab.room;rw[aE,gE] at r;unfold Lu Lv;rw[f.tab.dum];simp[l,r]
def FP.hs{t:SetTable}{qs:List (kc×Addr)}(f:FP prog w h es t qs):es.toList.map (·.1)=qs.map λx=>hP x.1:=by
 rw[f.ent,ca];rfl
def FP.hnd{t:SetTable}{qs:List (kc×Addr)}(f:FP prog w h es t qs):(es.toList.map (·.1)).Nodup:=by
 rw[f.hs];have I:=f.nd;rw[m4,iE] at I ⊢;exact qh (λ{a b} L J O z=>O (inj5 (f.isp a L).1 (f.isp b J).1 z)) I
theorem FP.keep{h g:Heap}{es:Array (Int×ac)}{t:SetTable}{qs:List (kc×Addr)}(f:FP prog w h es t qs)(k:∀x∈qs,∀o,h.get? x.2=O0 o->g.get? x.2=O0 o):FP prog w g es t qs:=⟨f.ent,λx z=>(f.isp x z).keep (k x z),f.nd,f.tab,f.msk,f.led,f.pln⟩
def FP.odd{t:SetTable}{qs:List (kc×Addr)}(f:FP prog w h es t qs):t.gaveWay=O2:=by
 unfold SetTable.gaveWay
 rcases f.msk with ⟨e,_⟩ | ⟨e,_⟩<;>rw[e]<;>rfl
def FP.cov{t:SetTable}{qs:List (kc×Addr)}(f:FP prog w h es t qs){p:kc}(z:Sz p):VZ t.mask (hP p):=by
 rcases f.msk with ⟨e,_⟩ | ⟨e,_⟩<;>rw[e]
 .exact (cov5 z).1
 .exact (cov5 z).2
def dg(n:Nat){p:kc}{b:Addr}{Q:Bool->ai->Prop}(x:Sr prog w s.heap p b)(k:Q O2 s):ah (av prog w) A (B9 (n+1) (.ref b)) Q E s:=by
 have ty:=x.2.typeIs;obtain⟨_,o,L,m,g,_,d,i⟩:=x;unfold B9;refine ag (xh ty ?_);show ah _ _ (if ("tuple"=="tuple")=O1 then _ else _) _ _ s;rw[VI (show (("tuple":String)=="tuple")=O1 by decide)];refine ag (aw ?_);simp only[kR,dQ,UK];refine ag (nc g d ?_);dsimp only;refine ag ?_;rw[<-vx];refine qA _ (λr q z=>q.1=W1/\z=s/\∀v∈r,BQ v=O1) _ ?_ ?_ _ _ ⟨rfl,rfl,i.byValue⟩
 .rintro v r q z ⟨e,rfl,I⟩;have J:=I v .(1);have:B9 n v=pure O2:=by
   cases v with
   |ref a=>cases J
   |_=>first | rfl | (unfold B9;rfl)
  rw[this];refine ag (aw ?_);simp only[dQ,UK];exact aw ⟨rfl,rfl,λu S=>I u (by simp[S])⟩
 .rintro⟨q1,q2⟩ z ⟨e,rfl,_⟩;simp only at e;subst e;exact aw k
def zE{p:kc}(x:Sr prog w s.heap p b):∀(vs:List ac) {Q:Bool->ai->Prop},(∀v∈vs,∃q c,v=.ref c/\Sr prog w s.heap q c)->Q O2 s->ah (av prog w) A (LA (.ref b) vs) Q E s:=by
 intro vs Q O k;unfold LA;refine ag ?_;refine qA _ (λr q z=>q.1=W1/\z=s/\∀v∈r,∃q c,v=.ref c/\Sr prog w s.heap q c) _ ?_ ?_ _ _ ⟨rfl,rfl,O⟩
 .rintro v r q z ⟨e,rfl,L⟩;obtain⟨q2,c,rfl,y⟩:=L v .(1);have I:∀v∈r,∃q c,v=.ref c/\Sr prog w z.heap q c:=λu S=>L u (by simp[S]);dsimp only
  by_cases J:(b==c)=O1
  .rw[VI (by simp[J])];exact aw ⟨rfl,rfl,I⟩
  .rw[WI (by simp[J,BQ])];refine ag (LB x.2 ?_);simp only[kR,dQ,UK];refine ag (LB y.2 ?_);simp only[kR,dQ,UK];refine ag (dg 7 x ?_);simp only[dQ,UK];refine ag (dg 7 y ?_);simp only[dQ,UK];exact aw ⟨rfl,rfl,I⟩
 .rintro⟨q1,q2⟩ z ⟨e,rfl,_⟩;simp only at e;subst e;exact aw k
def AAx{p:kc}{Q:Bool->ai->Prop}(x:Sr prog w s.heap p b)(k:Q O1 s):ah (av prog w) A (Bi 8 (.ref b)) Q E s:=by
 have ty:=x.2.typeIs;obtain⟨_,o,W,m,g,_,d,i⟩:=x;unfold Bi;refine ag (n9 ty vt.lookup ?_);dsimp only;refine ag (nc g d ?_);refine ag ?_;show ah _ _ (forIn W _ _) _ _ s;rw[<-vx];refine qA _ (λr q z=>q.1=W1/\z=s/\∀v∈r,∃i t,v=.int i t) _ ?_ ?_ _ _ ⟨rfl,rfl,?_⟩
 .rintro v r q z ⟨e,rfl,T⟩;obtain⟨j,t,rfl⟩:=T v .(1);have:Bi 7 (.int j t)=pure O1:=by unfold Bi;rfl
  rw[this];refine ag (aw ?_);simp only[kR,dQ,UK];exact aw ⟨rfl,rfl,λu hu=>T u (by simp[hu])⟩
 .rintro⟨q1,q2⟩ z ⟨e,rfl,_⟩;simp only at e;subst e;exact aw k
 .have:∀{O:List Key}{L:List ac},ItemsAre (Av prog w) O L->(∀k∈O,∃i,k=.inl i)->∀v∈L,∃i t,v=oa i t:=λ{O L} it=>by
   induction it with
   |nil=>intro _ v J;simp at J
   | @cons Z v0 Y U h1 _ ih=>
    intro I v J
    rcases bp.mp J with rfl | J
    .obtain⟨i,rfl⟩:=I Z .(1)
     rcases Bu (show Rr (.inl i) v=O1 from h1) with ⟨j,t,_,e⟩ | ⟨y,t,e,_⟩
     .exact⟨j,t,e⟩
     .cases e
    .exact ih (λk S=>I k (by simp[S])) v J
  exact this i λk I=>by
   unfold kk at I;simp only[bp,IT,or_false] at I
   rcases I with rfl | rfl
   .exact⟨_,rfl⟩
   .exact⟨_,rfl⟩
end
section
variable {A:aT}
abbrev nK (X:Cx):=Tf (Av X.prog X.w)
theorem TQ:∀{bs:List Addr}{us:List ac},fc (bs.map V.ref) us->us=bs.map ba
 |[],_,.nil=>rfl
 |c::bs,_,.cons r t=>by
  obtain rfl:=(show _=ba c from r);rw[TQ t];rfl
def tup_is(I:Inv X π σ H s){k:List Key}{c:Addr}(h:On X.K H c (k.map kV)):zk (Av X.prog X.w) s.heap k c:=by
 obtain⟨z,r,⟨o,g,S,n,d⟩,_⟩:=I.tuple (show NO X.K H c (k.map kV) from h);exact⟨o,z.toArray,n,g,S,d,Qz r⟩
def N5(I:Inv X π σ H s){ks:List (List Key)}{b:Addr}(h:NM X.K H ks b):Ps (Av X.prog X.w) s.heap ks b:=by
 obtain⟨bs,J,S⟩:=h;obtain⟨z,r,⟨o,g,T,n,d⟩,O⟩:=I.tuple (show NO X.K H b (bs.map V.ref) from J);refine⟨o,z.toArray,n,g,T,d,?_⟩;rw[TQ r];show NkI (Av X.prog X.w) s.heap ks (bs.map ba);clear J r d O
 induction S with
 |nil=>exact .nil
 |cons h _ L=>exact .cons (tup_is I h) L
theorem aW(I:Inv X π σ H s)(L:H a=O0 (.mem F X.K)):(a==hU)=O2/\∃xs,s.heap.DictOfH (nK X) a xs/\∀q∈xs,NM X.K H q.1 q.2.1/\Wp q.1/\cc (.int (F q.1)) q.2.2:=by
 obtain⟨hs,xs,z,o,S,T,g,O,d,e,J⟩:=(show Bg X.prog X.w H s.heap a (.mem F X.K) from I.hok a _ L);exact⟨hs,xs,⟨o,S,T,g,O,d,e,λq U=>N5 I (z q U).1,J⟩,z⟩
def YO:List (Nat×Nat)->Nat
 |[]=>0
 |p::r=>(5*p.1+p.2+1)+26*YO r
theorem n8:∀{ps:List (Nat×Nat)}{n:Nat},ps.length<=n->(∀p∈ps,p.1<5/\p.2<5)->YO ps<26^n
 |[],n,_,_=>Kk .(1)
 |p::r,0,h,_=>by simp at h
 |p::r,n+1,h,z=>by
  have I:=n8 (ps:=r) (n:=n) (by simpa using h) λq U=>z q (by simp[U]);have:=z p .(1);unfold YO;rw[Nat.pow_succ];omega
theorem dh:∀{ps qs:List (Nat×Nat)},(∀p∈ps,p.1<5/\p.2<5)->(∀p∈qs,p.1<5/\p.2<5)->YO ps=YO qs->ps=qs
 |[],[],_,_,_=>rfl
 |[],q::s,_,U,e=>by unfold YO at e;omega
 |p::r,[],I,_,e=>by unfold YO at e;omega
 |p::r,q::s,I,U,e=>by
  have a:=I p .(1);have b:=U q .(1);unfold YO at e;have S:5*p.1+p.2=5*q.1+q.2:=by omega
  have O:p.1=q.1:=by omega
  have L:p.2=q.2:=by omega
  have J:YO r=YO s:=by omega
  rw[dh (λx z=>I x (by simp[z])) (λx z=>U x (by simp[z])) J];rw[show p=q from rh O L]
theorem n_{ks:List (List (List Key))}(nd:ks.Nodup)(h:∀k∈ks,Wp k):ks.length<=sizeLine:=by
 have:∀k:List (List Key),∃n:Nat,Wp k->∃ps:List (Nat×Nat),k=ps.map (λp=>[.inl (p.1:Int),.inl (p.2:Int)])/\ps.length<=5/\(∀p∈ps,p.1<5/\p.2<5)/\n=YO ps:=λk=>by
  by_cases I:Wp k
  .obtain⟨ps,S,L,T⟩:=I;exact⟨YO ps,λ_=>⟨ps,S,L,T,rfl⟩⟩
  .exact⟨0,λz=>XI z I⟩
 obtain⟨f,U⟩:=Classical.axiomOfChoice this;have Y:∀k,Wp k->f k<26^5/\∀k',Wp k'->f k=f k'->k=k':=λk I=>by
  obtain⟨ps,S,L,T,Z⟩:=U k I;refine⟨by rw[Z];exact n8 L T,λk' J e=>?_⟩;obtain⟨qs,g1,g2,g3,g4⟩:=U k' J;rw[Z,g4] at e;rw[S,g1,dh T g3 e]
 have W:(ks.map f).Nodup:=by
  rw[m4,iE];exact qh (λ{a b} ha hb O z=>O ((Y a (h a ha)).2 b (h b hb) z)) nd
 have:=Tl (m:=bg (26^5)) W λy hy=>by
  obtain⟨k,I,rfl⟩:=bn.mp hy;exact cf.mpr (Y k (h k I)).1
 rw[aE,lP] at this;rw[ia];exact de this .(2)
def RV(S:A.units+4<bv)(I:Inv X π σ H s)(J:H a=O0 (.mem F X.K))(z:NM X.K H ks b)(h:∀xs tk,s.heap.DictOfH (nK X) a xs->(∀q∈xs,NM X.K H q.1 q.2.1/\Wp q.1/\cc (.int (F q.1)) q.2.2)->Q (.bool (!(dA xs ks).isSome)) { s with toks:=tk }):ah (av X.prog X.w) A (db .NotIn (.ref b) (.ref a)) Q E s:=by
 obtain⟨hs,xs,W,L⟩:=aW I J;exact LD (knd:=nK X) (by show A.units+1+1<bv;omega) (N5 I z) hs W (h xs _ W L)
theorem oA(z:H a=O0 (.mem F X.K)):gq H a (.mem F X.K)=H:=by
 funext c;unfold gq;split
 .rename_i e;rw[e,z]
 .rfl
theorem WZ{v:ac}{Q:Unit->ai->Prop}(hu:A.units+4<bv)(I:Inv X π σ H s)(Z:H a=O0 (.mem F X.K))(Y:NM X.K H ks b)(hi:Wp ks)(rv:cc (.int (F ks)) v)(h:∀xs s',Inv X π σ H s'->s'.heap.DictOfH (nK X) a xs->(∀q∈xs,NM X.K H q.1 q.2.1/\Wp q.1/\cc (.int (F q.1)) q.2.2)->(dA xs ks).isSome=O1->Q () s'):ah (av X.prog X.w) A (setItem (.ref a) (.ref b) v) Q E s:=by
 obtain⟨hs,xs,dd,al⟩:=aW I Z;have nd:(xs.map (·.1)).Nodup:=let ⟨_,_,_,_,_,_,_,_,z⟩:=dd;z;have O:=n_ nd λk Y=>by
  obtain⟨q,U,rfl⟩:=bn.mp Y;exact (al q U).2.1
 rw[aE] at O;refine IG (knd:=nK X) (by show A.units+1+1<bv;omega) (N5 I Y) dd (λh' S sb=>?_) O;have T:∀q∈xl xs ks b v,NM X.K H q.1 q.2.1/\Wp q.1/\cc (.int (F q.1)) q.2.2:=λq U=>by
  unfold xl at U;split at U
  .obtain⟨x,W,e⟩:=bn.mp U;have ax:=al x W;unfold putAt at e;split at e
   .rename_i ek;rw[<-e];exact⟨ax.1,ax.2.1,ek▸rv⟩
   .rw[<-e];exact ax
  .rcases eA.mp U with U | U
   .exact al q U
   .obtain rfl:q=(ks,b,v):=by simpa using U
    exact⟨Y,hi,rv⟩
 have L:(dA (xl xs ks b v) ks).isSome=O1:=by
  cases J:dA xs ks with
  |none=>
   rw[storedH_new J];unfold dA;rw[xo,LF];exact⟨(ks,b,v),by simp,by simp⟩
  |some p=>
   rw[storedH_old J];unfold dA at J ⊢;obtain⟨x,W,e⟩:=ku.mp J;rw[xo,LF];have T0:=B8 W;have S0:=Fh W;refine⟨putAt ks v x,bn.mpr ⟨x,T0,rfl⟩,?_⟩;have:x.1=ks:=WJ S0;unfold putAt;rw[VI this];simpa using this
 obtain⟨o',N1,P1,g',X0,d',e',S1,N0⟩:=id S;have I':=I.write (x:=a) (e:=a) (o:=.mem F X.K) (t':=s.toks+(nK X).draws ks) (by rw[Z];exact trivial) (.inl rfl) (λc q J z=>(sb.2 c J).trans z) ⟨o',g'⟩ (by
  rw[oA Z];exact⟨hs,_,T,o',N1,P1,g',X0,d',e',N0⟩)
 rw[oA Z] at I';exact h _ _ I' S T L
def di{xs:List (List (List Key)×Addr×ac)}(Z:A.units+4<bv)(I:Inv X π σ H s)(O:NM X.K H ks b)(W:s.heap.DictOfH (nK X) a xs)(Y:∀q∈xs,NM X.K H q.1 q.2.1/\Wp q.1/\cc (.int (F q.1)) q.2.2)(L:(dA xs ks).isSome=O1)(h:∀u tk,cc (.int (F ks)) u->Q u { s with toks:=tk }):ah (av X.prog X.w) A (nw (.ref a) (.ref b)) Q E s:=by
 obtain⟨p,z⟩:=D5.mp L;refine IF (knd:=nK X) (by show A.units+1+1<bv;omega) (N5 I O) W z (h _ _ ?_);unfold dA at z;obtain⟨x,J,e⟩:=ku.mp z;have T:=(Y x (B8 J)).2.2;have U:=Fh J;have S:x.1=ks:=WJ U;rw[<-e,<-S];exact T
end
open PyProof.Rows (isTrue_and isTrue_not isTrue_and_nil)
def prD:D->Option kc
 |.tup [.int i,.int j]=>if 0<=i/\i<5/\0<=j/\j<5 then O0 (i.toNat,j.toNat) else W1
 |_=>W1
def Sf:List D->Option (List kc)
 |[]=>O0 []
 |d::r=>(prD d).bind λp=>(Sf r).map (p::·)
def Sj:D->Option (List kc)
 |.tup ds=>(Sf ds).bind λps=>if ps.length<=5 then O0 ps else W1
 |_=>W1
abbrev SY (ps:List kc):List (List Key):=ps.map kk
section
def zF{A:List Addr}{d:D}{p:kc}(r:jl G H v d)(e:prD d=O0 p):Sz p/\∃c,v=.ref c/\On G.K H c ((kk p).map kV):=by
 unfold prD at e;split at e
 .rename_i i j;split at e
  .rename_i h;cases e;cases r with
   | @tup c z S I L T=>
    refine⟨⟨by show i.toNat<5;omega,by show j.toNat<5;omega⟩,c,rfl,?_⟩;have:z=[.int i,.int j]:=by
     match z,L,T with
     |[x,y],_,T=>
      have J:=T 0 x (.int i) rfl rfl;have O:=T 1 y (.int j) rfl rfl;cases J;cases O;rfl
    rw[this] at I;show NO G.K H c [.int ((i.toNat:Nat):Int),.int ((j.toNat:Nat):Int)];rw[EN h.1,EN h.2.2.1];exact I
  .cases e
 .cases e
theorem TV{H:Hp}:∀{ds:List D}{xs:List V}{ps:List kc},bc G H xs ds->Sf ds=O0 ps->(∀p∈ps,Sz p)/\∃bs:List Addr,xs=bs.map V.ref/\mh (λk c=>On G.K H c (k.map kV)) (SY ps) bs
 |[],xs,ps,r,e=>by
  cases e;have:xs=[]:=pw.mp r.1;subst this;exact⟨by simp,[],rfl,.nil⟩
 |d::ds,xs,ps,r,e=>by
  obtain⟨x,Y,rfl,S,O⟩:=r.uncons;unfold Sf at e;cases I:prD d with
  |none=>rw[I] at e;cases e
  |some p=>
   rw[I] at e;cases z:Sf ds with
   |none=>rw[z] at e;cases e
   |some Z=>
    rw[z] at e;cases e;obtain⟨W,c,rfl,L⟩:=zF (A:=[]) S I;obtain⟨T,bs,rfl,J⟩:=TV O z;refine⟨λq U=>?_,c::bs,rfl,.cons L J⟩
    rcases bp.mp U with rfl | U
    .exact W
    .exact T q U
def uW{d:D}{ps:List kc}(r:jl G H v d)(e:Sj d=O0 ps):∃b,v=.ref b/\NM G.K H (SY ps) b/\Wp (SY ps):=by
 unfold Sj at e;split at e
 .rename_i O;cases z:Sf O with
  |none=>rw[z] at e;cases e
  |some I=>
   rw[z] at e;have e:(if I.length<=5 then O0 I else W1)=O0 ps:=e;split at e
   .rename_i S;cases e;cases r with
    | @tup b U _ L J T=>
     obtain⟨W,bs,rfl,t⟩:=TV (G:=G) (H:=H) ⟨J,T⟩ z;exact⟨b,rfl,⟨bs,L,t⟩,ps,rfl,S,W⟩
   .cases e
 .cases e
def JF{K:aS}(s:af H H')(h:NM K H ks b):NM K H' ks b:=by
 have T:∀{c:Addr}{xs:List V},On K H c xs->On K H' c xs:=λ{c xs} z=>by
  rcases z with (z | ⟨o,z⟩) | z
  .exact .inl (.inl (s _ _ z))
  .exact .inl (.inr ⟨o,s _ _ z⟩)
  .exact .inr z
 obtain⟨bs,J,I⟩:=h;exact⟨bs,T J,Paired.mapP I λ_ _ z=>T z⟩
def JQ(Z:X.N[i]?=O0 x)(T:XU X.env.scope x)(L:(x==("__debug__":Str))=O2)(O:(x==("__classdict__":Str))=O2)(I:Inv X π σ H s)(e:σ[i]?=O0 (O0 v))(k:∀u,cc v u->Q u s):ah (av X.prog X.w) X.A (eval (.Name x pos) X.env) Q E s:=by
 obtain⟨m,U,Y⟩:=I.loc;obtain⟨u,r,l⟩:=Y i x v Z e T
 rcases l with ⟨J,W⟩ | ⟨J,c,S,z⟩
 .exact sT (GS I.ok.kind J U W (k u r)) L
 .rcases J with J | J
  .exact sT (GT I.ok.kind J S z (k u r)) L
  .exact sT (GU I.ok.kind J S z (k u r) O) L
structure Fm (X:Cx) (σ:St) (H:Hp) (i:Nat) (f:Str) (m:Addr) (F:List (List Key)->Int):Prop where
 at_:∃a C dx fs,σ[i]?=O0 (O0 (.ref a))/\H a=O0 (.ins C dx fs)/\NW X.K C/\Bf X.K C f/\fs.lookup f=O0 (.ref m)
 mem:H m=O0 (.mem F X.K)
def Fm.mono{m:Addr}(h:Fm X σ H i f m F)(s:af H H'):Fm X σ H' i f m F:=by
 obtain⟨⟨a,C,dx,fs,J,I,T⟩,z⟩:=h;exact⟨⟨a,C,dx,fs,J,s _ _ I,T⟩,s _ _ z⟩
theorem O9{m:Addr}(W:X.N[i]?=O0 x)(L:XU X.env.scope x)(T:(x==("__debug__":Str))=O2)(J:(x==("__classdict__":Str))=O2)(U:gT (.Name x p1) f X.env (eval (.Name x p1) X.env)=eval (.Name x p1) X.env)(I:Inv X π σ H s)(h:Fm X σ H i f m F)(k:∀tk,Q (.ref m) { s with toks:=tk }):ah (av X.prog X.w) X.A (eval (.Attribute (.Name x p1) f p2) X.env) Q E s:=by
 obtain⟨⟨a,C,dx,fs,Z,Y,c,n,l⟩,_⟩:=h;refine Wg U (JQ W L T J I Z λu r=>?_);obtain rfl:u=ba a:=r;obtain⟨mA,O,r,_,_,_⟩:=Nq I.hok Y;obtain⟨u,S,z⟩:=OR.some_of (v:=.ref m) (o:=mA f) (by rw[<-l];exact r f);obtain rfl:u=ba m:=z;exact Wf I.kIn O (c.get f) c.hd n S (Qv (v:=.ref m) rfl) (k _)
def oE(hG:G.K=X.K)(I:∀c C,G.cl c=O0 C->NW X.K C/\Bf X.K C f)(o:Pi G A σ H ρ)(e:uF (fk f) (vF i) ρ=O0 (.mem F)):∃m,Fm X σ H i f m F:=by
 obtain⟨S,L,J⟩:=Gk e;have O:ρ[i]?=O0 (.fz S):=by
  unfold vF at L;split at L
  .rename_i z O;cases L;exact O
  .cases L
 obtain⟨v,h1,h2⟩:=o.fz i S O;unfold fk at J;split at J
 .rename_i cn gs;cases h2 with
  | @ob a C dx c fs _ q1 q2 q3 U=>
   have Y:=NJ eJ q3;rw[aE,aE] at Y;obtain⟨v2,T,Z⟩:=RM (f:=f) (d:=.mem F) (G:=G) q3 ⟨by rw[aE,aE];exact Y,U⟩ J;cases Z with
   | @mem m _ W=>exact⟨m,⟨a,C,dx,fs,h1,Ao _ _ q2,(I _ _ q1).1,(I _ _ q1).2,T⟩,by rw[<-hG];exact Ao _ _ W⟩
 .cases J
def Mt{d:D}{ps:List kc}(W:G.K=X.K)(o:Pi G A σ H ρ)(e:vF j ρ=O0 d)(S:Sj d=O0 ps):∃b,σ[j]?=O0 (O0 (.ref b))/\NM X.K H (SY ps) b/\Wp (SY ps):=by
 have O:ρ[j]?=O0 (.fz d):=by
  unfold vF at e;split at e
  .rename_i z O;cases e;exact O
  .cases e
 obtain⟨v,L,J⟩:=o.fz j d O;obtain⟨b,rfl,T,I⟩:=uW J S;exact⟨b,L,by rw[<-W];exact JF Ao T,I⟩
def memR(i:Nat)(f:Str)(j:Nat)(z:FE):FS:=λρ=>match uF (fk f) (vF i) ρ,(vF j ρ).bind Sj,z ρ with
 |some (.mem F),O0 ps,O0 (.int v)=>if v=F (SY ps) then O0 (.rt (.int v) ρ) else W1
 |_,_,_=>W1
def memZ(i:Nat)(f:Str)(j:Nat)(ft:FT):FS:=λρ=>match uF (fk f) (vF i) ρ,(vF j ρ).bind Sj,ft ρ with
 |some (.mem F),O0 ps,O0 t=>if t=O1∨F (SY ps)=0 then O0 (.nx ρ) else W1
 |_,_,_=>W1
theorem oF{z:Expr}{fv:FE}{Y W:Pos}(hu:X.A.units+64<bv)(hG:G.K=X.K)(Y1:∀c C,G.cl c=O0 C->NW X.K C/\Bf X.K C f)(hN:X.N[i]?=O0 x)(hv:XU X.env.scope x)(X0:X.N[j]?=O0 y)(Z:XU X.env.scope y)(hval:PF X G z fv)(hs:eP z (O0 (.Subscript (.Attribute (.Name x p5) f p6) (.Name y p7) p8)) p9.line X.env=pure O2:=by rfl)(hm:fw .NotIn (.Attribute (.Name x p2) f p3)=O2:=by rfl)(X1:NoSl (.Name y p13):=by intro _ _;rfl)(hd:(x==("__debug__":Str))=O2:=by decide)(S0:(x==("__classdict__":Str))=O2:=by decide)(N0:(y==("__debug__":Str))=O2:=by decide)(O:(y==("__classdict__":Str))=O2:=by decide)(hb:∀p,gT (.Name x p) f X.env (eval (.Name x p) X.env)=eval (.Name x p) X.env:=by intro _;rfl):
    RY X G [.If (.Compare (.Name y p1) [.NotIn] [.Attribute (.Name x p2) f p3] p4) [.Assign [.Subscript (.Attribute (.Name x p5) f p6) (.Name y p7) p8] z p9] [] p10,.Return (O0 (.Subscript (.Attribute (.Name x p11) f p12) (.Name y p13) Y)) W] (memR i f j fv):=by
  rintro A0 He π s σ H D I ⟨ρ,o,⟨A,w⟩,e,k⟩
  unfold memR at e;split at e
  . rename_i F ps v ef ek ev
    split at e
    . rename_i hF
      cases e;obtain⟨dk,U2,T2⟩:=yT.mp ek;obtain⟨m,fm⟩:=oE (X:=X) hG Y1 w.ok ef;obtain⟨b,T0,mk,kin⟩:=Mt (X:=X) hG w.ok U2 T2;have Q2:∀(L:Hp) (s':ai) (J:List (List (List Key)×Addr×ac)),af H L->Inv X π σ L s'->s'.heap.DictOfH (nK X) m J->(∀q∈J,NM X.K L q.1 q.2.1/\Wp q.1/\cc (.int (F q.1)) q.2.2)->(dA J (SY ps)).isSome=O1 ->
          ah (av X.prog X.w) X.A (exec (.Return (O0 (.Subscript (.Attribute (.Name x p11) f p12) (.Name y p13) Y)) W) X.env) (SP X π D) X.xe s':=λL s' J S U dd al pr=>by
        refine A6 (bx EF.lookup X1 (O9 hN hv hd S0 (hb _) U (fm.mono S) λtk=>JQ X0 Z N0 O (U.tok tk) T0 λu r=>⟨dd.typeIs,?_⟩));obtain rfl:u=ba b:=r;refine di (F:=F) .(0) (U.tok tk) (JF S mk) dd al pr λu T ru=>⟨.int v,σ,L,(U.tok tk).tok T,by rw[hF];exact ru,?_⟩;exact k (.int v) σ L A (w.mono S) (.int v)
      have hQ:∀(L:Hp) (s':ai) (J:List (List (List Key)×Addr×ac)),af H L->Inv X π σ L s'->s'.heap.DictOfH (nK X) m J->(∀q∈J,NM X.K L q.1 q.2.1/\Wp q.1/\cc (.int (F q.1)) q.2.2)->(dA J (SY ps)).isSome=O1 ->
          ah (av X.prog X.w) X.A (jS [.Return (O0 (.Subscript (.Attribute (.Name x p11) f p12) (.Name y p13) Y)) W] X.env) (SP X π D) X.xe s':=λL s' J S U dd al pr=>by
        refine kX (lu (Q2 L s' J S U dd al pr) λfl s1 q=>?_);cases fl with
        |next=>
          obtain⟨P1,H2,I2,q⟩:=q;exact Jq (X:=X) π s1 P1 H2 D I2 q
        |ret v=>exact q
        |brk=>exact q
        |cont=>exact q
      refine kX (w9 (t5 (JQ X0 Z N0 O I T0 λu r=>O9 hN hv hd S0 (hb _) I fm λtk=>?_) hm));obtain rfl:u=ba b:=r;refine RV (F:=F) .(0) (I.tok tk) fm.mem mk λJ T dd al=>jI ?_;cases pr:(dA J (SY ps)).isSome with
      |true=>
        show ah _ _ (jS [] X.env) _ _ _;exact kA (hQ H _ J (af.refl H) ((I.tok tk).tok T) dd al pr)
      |false=>
        show ah _ _ (jS [_] X.env) _ _ _;have I2:=(I.tok tk).tok T;refine kX (AF (lu (@hval A π _ σ H (λx H1=>af H H1/\x=.int v) I2 ⟨ρ,_,w.ok,ev,λv1 H1 s1 r1=>⟨s1,by cases r1;rfl⟩⟩) λr1 s1 q0=>?_) hs);obtain⟨v1,H1,I1,rv,S,S2⟩:=q0;subst S2;refine O9 hN hv hd S0 (hb _) I1 (fm.mono S) λN1=>JQ X0 Z N0 O (I1.tok N1) T0 λu r=>?_;obtain rfl:u=ba b:=r;refine WZ (F:=F) .(0) (I1.tok N1) (S _ _ fm.mem) (JF S mk) kin (by rw[<-hF];exact rv) λS1 s' U X2 Y2 U1=>?_;exact kA (hQ H1 s' S1 S U X2 Y2 U1)
    . cases e
  . cases e
theorem oG{O:Expr}{jj:Nat}(hu:X.A.units+64<bv)(hG:G.K=X.K)(P1:∀c C,G.cl c=O0 C->NW X.K C/\Bf X.K C f)(hN:X.N[i]?=O0 x)(hv:XU X.env.scope x)(X0:X.N[j]?=O0 y)(Z:XU X.env.scope y)(ht:Sn X G O ft)(hs:eP (.Constant (.int 0) jj p9) (O0 (.Subscript (.Attribute (.Name x p5) f p6) (.Name y p7) p8)) p10.line X.env=pure O2:=by rfl)(hm:fw .NotIn (.Attribute (.Name x p2) f p3)=O2:=by rfl)(hd:(x==("__debug__":Str))=O2:=by decide)(S0:(x==("__classdict__":Str))=O2:=by decide)(N0:(y==("__debug__":Str))=O2:=by decide)(S:(y==("__classdict__":Str))=O2:=by decide)(hb:∀p,gT (.Name x p) f X.env (eval (.Name x p) X.env)=eval (.Name x p) X.env:=by intro _;rfl):
  UR X G (.If (.BoolOp .And [.Compare (.Name y p1) [.NotIn] [.Attribute (.Name x p2) f p3] p4,.UnaryOp .Not O p11] p12) [.Assign [.Subscript (.Attribute (.Name x p5) f p6) (.Name y p7) p8] (.Constant (.int 0) jj p9) p10] [] p13) (memZ i f j ft):=by
 rintro A0 He W s U H D I ⟨ρ,o,⟨A,w⟩,e,k⟩
 unfold memZ at e;split at e
 .rename_i F ps t ef ek et;split at e
  .rename_i hF;cases e;obtain⟨dk,U1,S1⟩:=yT.mp ek;obtain⟨m,fm⟩:=oE (X:=X) hG P1 w.ok ef;obtain⟨b,T0,mk,kin⟩:=Mt (X:=X) hG w.ok U1 S1;have z:∀(J:Hp) (s':ai),af H J->Inv X W U J s'->SP X W D .next s':=λJ s' L I'=>⟨U,J,I',k U J ⟨A,w.mono L⟩⟩;have put:∀(J:Hp) (s':ai),af H J->Inv X W U J s'->F (SY ps)=0->ah (av X.prog X.w) X.A (jS [.Assign [.Subscript (.Attribute (.Name x p5) f p6) (.Name y p7) p8] (.Constant (.int 0) jj p9) p10] X.env) (SP X W D) X.xe s':=λJ s' L I' h0=>by
    refine kX (AF (C7 ?_) hs);have T:=I'.tok (s'.toks+1);refine O9 hN hv hd S0 (hb _) T (fm.mono L) λY=>JQ X0 Z N0 S (T.tok Y) T0 λu r=>?_;obtain rfl:u=ba b:=r;refine WZ (F:=F) .(0) (T.tok Y) (L _ _ fm.mem) (JF L mk) kin (by rw[h0];exact⟨_,rfl⟩) λX1 s2 I3 Q2 S2 Y1=>?_;exact kA (z J s2 L I3)
   refine w9 (tf (t5 (JQ X0 Z N0 S I T0 λu r=>O9 hN hv hd S0 (hb _) I fm λtk=>?_) hm));obtain rfl:u=ba b:=r;refine RV (F:=F) .(0) (I.tok tk) fm.mem mk λxs N1 dd al=>jI ?_;have T:=(I.tok tk).tok N1;cases pr:(dA xs (SY ps)).isSome with
   |true=>
    show ah _ _ (jS [] X.env) _ _ _;exact kA (z H _ (af.refl H) T)
   |false=>
    show ah _ _ (oj _ _ _) _ _ _;refine tf (Cb (lu (@ht A W _ U H (λb H1=>af H H1/\b=t) T ⟨ρ,_,w.ok,et,λH1 s1=>⟨s1,rfl⟩⟩) λb s1 q9=>?_));obtain⟨H1,I1,L,eb⟩:=q9;subst eb;cases b with
    |true=>
     show ah _ _ (jS [] X.env) _ _ _;exact kA (z H1 s1 L I1)
    |false=>
     refine C9 ?_;show ah _ _ (jS [_] X.env) _ _ _;exact put H1 s1 L I1 (hF.resolve_left .(1))
  .cases e
 .cases e
def memE(z:Rho->Option (List (List Key)->Int)):FE:=λρ=>(z ρ).map .mem
theorem zG{J:Rho->Option (List (List Key)->Int)}(W:G.K=X.K):PF X G (.Dict [] [] pos) (memE J):=by
 rintro A π s σ H Q I ⟨ρ,d,o,e,k⟩
 unfold memE at e;obtain⟨F,_,rfl⟩:=ku.mp e;have T:(s.heap.objs.size==hU)=O2:=(show Bg X.prog X.w (gq H s.heap.objs.size (.dK [])) _ _ (.dK []) from Yb s.heap I.big).2.1;have z:H s.heap.objs.size=W1:=I.hok.fresh (aI _);obtain⟨L,Z,ep,U,Y,d1,e1,_,O⟩:=Heap.DictOfH.new (knd:=nK X) s.heap;refine DO ⟨.ref s.heap.objs.size,_,I.laid (a:=s.heap.objs.size) (o:=.mem F X.K) (t':=s.toks) (λ_ _ q=>bo _ q) (aI _) ⟨T,[],by simp,L,Z,ep,U,Y,d1,e1,O⟩,rfl,k _ _ (Al z _) (.mem ?_)⟩;unfold be;rw[WI,W]
 .exact Ak
 .intro S;have:=o.live _ S;rw[z] at this;exact XI rfl this.1
end
def addQ(ps:List kc)(p:kc):List kc:=if p∈ps then ps else ps++[p]
section
variable {A:aT}
def zH{h:Int}(e:(es.toList.map (·.1))[i]?=O0 h):∃v,es[i]?=O0 (h,v):=by
 rw[cb] at e;obtain⟨x,z,rfl⟩:=ku.mp e;exact⟨x.2,by rw[<-Fn];exact z⟩
theorem uX{t:SetTable}{qs:List (kc×Addr)}{p:kc}{Q:SetFound->ai->Prop}(hu:A.units<bv)(g:s.heap.get? a=O0 o)(d:o.data=.set es ep t)(f:FP prog w s.heap es t qs)(y:Sr prog w s.heap p b)(k1:p∈qs.map (·.1)->Q (.there W1) s)(k2:p∉qs.map (·.1)->∀n,n<10*kQ t.mask->Nl t.mask (hP p) n∉t.place.toList->(∀k,k<n->Nl t.mask (hP p) k∈t.place.toList)->Q (.free (Nl t.mask (hP p) n) O2) s):ah (av prog w) A (setSearch a (.ref b) (hP p) (adding:=O1)) Q E s:=by
  unfold setSearch Fs;refine ag (o0 g d f.fits ?_);dsimp only;rw[f.odd];simp only[dQ,UK];have ha:∀(i:Nat) (h:Int),(es.toList.map (·.1))[i]?=O0 h->(es[i]?.map (·.1)).getD 0=h:=λi h e=>by
    obtain⟨v,T⟩:=zH e;rw[T];rfl
  by_cases m:p∈qs.map (·.1)
  . obtain⟨x,I,J⟩:=bn.mp m
    obtain⟨i,hi,ei⟩:=so.mp I;have hh:(es.toList.map (·.1))[i]?=O0 (hP p):=by
      rw[f.hs,cb,dc hi,ei,<-J];rfl
    obtain⟨j,nx,e⟩:=Xb f.tab _ ha f.hnd hh;have e':t.probe (λi=>(es[i]?.map (·.1)).getD 0) (hP p) (Bn W1 (t.probeStart (hP p)))=O0 (.candidate j i nx):=e;have ev:es[i]?=O0 (hP x.1,ba x.2):=by
      rw[<-Fn,f.ent,cb,dc hi,ei];rfl
    have yx:=f.isp x I;have hQ:ah (av prog w) A (do
        let O0 (_,y):=es[i]? | Fu "internal:set-entry"
        let equal <-lh [y] (eqBool y (.ref b))
        let (es',_,t') <-setState a
        if O1&&equal then return SetFound.there W1
        let O0 same:=t'.sameMemory t.moves t.mask | Fu "set.changed-during-lookup:is-the-new-block-at-the-old-address"
        let still <-match (if same then t'.slot j else .empty) with
          |.live O=>match es'[O]? with
            |some (_,y')=>do pure (if <-isSame y' y then O0 O else W1)
            |none=>pure W1
          |_=>pure W1
        match still with
        |none=>rule "set.search.anew";Fs a (.ref b) (hP p) O1 99999 W1
        |some O=>if equal then return .there (O0 O) else Fs a (.ref b) (hP p) O1 99999 (O0 nx)) Q E s:=by
      rw[ev];dsimp only;refine ag (wpAny_holding (GE hu yx.2 y.2 ?_));rw[ZI (show kk x.1=kk p by rw[J])];refine ag (o0 g d f.fits ?_);dsimp only;simp only[Bool.and_self,TK];exact aw (k1 m)
    show ah _ _ (match t.probe (λi=>(es[i]?.map (·.1)).getD 0) (hP p) (Bn W1 (t.probeStart (hP p))) with | some L=>_ | _=>_) _ _ _;rw[e'];dsimp only
    by_cases ld:t.led=O1
    . rw[ld]
      simp only[kR,dQ,UK];exact hQ
    . have S:t.led=O2:=by simpa using ld
      rw[S];simp only[BO,TK];refine ag (zE y _ (λv T=>?_) ?_)
      . obtain⟨e1,Z,rfl⟩:=bn.mp T
        have:e1∈es.toList:=by
          have:=CH.mp Z;rw[Array.mem_filter] at this;exact CH.mpr this.1
        rw[f.ent] at this;obtain⟨z,hz,rfl⟩:=bn.mp this;exact⟨z.1,z.2,rfl,f.isp z hz⟩
      . simp only[dQ,UK]
        exact hQ
  . have hn:hP p∉es.toList.map (·.1):=λz=>by
      rw[f.hs] at z;obtain⟨x,I,J⟩:=bn.mp z;exact m (bn.mpr ⟨x,I,inj5 (f.isp x I).1 y.1 J⟩)
    obtain⟨n,Y,W,U,e⟩:=Y_ f.tab _ ha hn (f.cov y.1).cov;have e':t.probe (λi=>(es[i]?.map (·.1)).getD 0) (hP p) (Bn W1 (t.probeStart (hP p)))=O0 (.empty (Nl t.mask (hP p) n) W1):=e;show ah _ _ (match t.probe (λi=>(es[i]?.map (·.1)).getD 0) (hP p) (Bn W1 (t.probeStart (hP p))) with | some L=>_ | _=>_) _ _ _;rw[e'];dsimp only;exact aw (k2 m n Y W U)
end
section
variable {A:aT}
def oH{I:Array (Int×ac)}{t t':SetTable}{Q:Unit->ai->Prop}(g:s.heap.get? a=O0 o)(L:o.ExactSet)(d:o.data=.set es ep t)(z:I.size<=100)(k:∀h' J,ff a s.heap h'->h'.get? a=O0 J->J.ExactSet->J.data=.set I (ep+1) t'->Q () { s with heap:=h' }):ah (av prog w) A (storeSet a I t') Q E s:=by
 refine wpAny_storeSet_of g d (k _ { o with data:=.set I (ep+1) t' } (xI _ _ _) ?_ L rfl) (de z .(2));have u:=nX (Obj.putSet I t') g (by rw[putSet_of I t' d];rfl)
 rwa [putSet_of I t' d] at u
def AAy(n:Nat)(h:n<=18):LG n=n*4:=by
 unfold LG;rw[WI .(0)]
def oJ:FB 20=32:=by decide +kernel
theorem ZD{J Z:Type}{f:J->Z}{l:List Z}{m:List J}(h:l.Perm (m.map f)):∃k:List J,l=k.map f/\k.Perm m:=by
 generalize e:m.map f=x at h
 induction h generalizing m with
 |nil=>
  have:m=[]:=by simpa using e
  subst this;exact⟨[],rfl,xL _⟩
 | @cons a l1 l2 _ ih=>
  cases m with
  |nil=>cases e
  |cons y r=>
   rw[bb] at e;injection e with Y I
   obtain⟨k,ek,pk⟩:=ih I;exact⟨y::k,by rw[bb,Y,ek],AY _ pk⟩
 |swap a c l1=>
  match m,e with
  |y::z::r,e=>
   rw[bb,bb] at e;injection e with Y I
   injection I with I e3
   exact⟨z::y::r,by rw[bb,bb,Y,I,e3],Kj _ _ _⟩
 |trans _ _ T S=>
  obtain⟨k2,U,L⟩:=S e;obtain⟨k1,W,O⟩:=T U.symm;exact⟨k1,W,O.trans L⟩
theorem AAz{B:Addr->Prop}{ps:List kc}{p:kc}{Q:Bool->ai->Prop}(hu:A.units<bv)(x:UO prog w B s.heap a ps)(y:Sr prog w s.heap p b)(yb:B b)(r:ps.length<=17)(c:∀v h',ff a s.heap h'->UO prog w B h' a (addQ ps p)->Q v { s with heap:=h' }):ah (av prog w) A (setAddHashed a (.ref b) (hP p)) Q E s:=by
 obtain⟨O,t,J,⟨o,ep,g,ex,d⟩,f,pm,bq⟩:=x;have lq:J.length=ps.length:=by have:=pm.length_eq;simpa using this
 have le:=f.len;unfold setAddHashed setAddHashedIn;refine wpAny_holding (ag (o0 g d f.fits ?_));dsimp only;rw[WI (show ¬ byScan (.ref b) O=O1 by unfold byScan Value.scannable;simp)];refine ag (uX hu g d f y (λm=>?_) λm n P3 Q2 N3=>?_)
 .dsimp only;have mp:p∈ps:=pm.mem_iff.mp m;refine aw ?_;have:=c O2 s.heap (EG a _) (by unfold addQ;rw[VI mp];exact⟨O,t,J,⟨o,ep,g,ex,d⟩,f,pm,bq⟩);exact this
 .dsimp only;have mp:p∉ps:=λz=>m (pm.mem_iff.mpr z);refine ag (o0 g d f.fits ?_);dsimp only;generalize hj:Nl t.mask (hP p) n=j at Q2;have jm:j<=t.mask:=hj▸Xe _ _ _;have hl:(O.toList.map (·.1)).length=J.length:=by rw[aE,gE,le]
  have rm:(O.toList.map (·.1)).length+1<=t.mask:=by
   rw[hl]
   rcases f.msk with ⟨e,z⟩ | ⟨e,z⟩<;>omega
  obtain⟨T1,pl⟩:=f.tab.put P3 hj Q2 jm N3 rm;have P1:(t.put j).1.plain=O1:=f.pln;rw[P1];simp only[TK];refine ag (AAx y ?_);simp only[TK];rw[hl] at pl;have W:(insertAt O (t.put j).2 (hP p,ba b)).toList=(J.take (t.put j).2++(p,b)::J.drop (t.put j).2).map λx=>(hP x.1,ba x.2):=by
   rw[Uw,f.ent,<-vj,<-Bz,dP,bb]
  have pq:(J.take (t.put j).2++(p,b)::J.drop (t.put j).2).Perm (J++[(p,b)]):=by
   refine LH.trans ?_;rw[B7];exact (List.perm_append_singleton _ _).symm
  have T2:∀x∈J.take (t.put j).2++(p,b)::J.drop (t.put j).2,B x.2:=λx L=>by
   rcases eA.mp (pq.mem_iff.mp L) with L | L
   .exact bq x L
   .obtain rfl:x=(p,b):=by simpa using L
    exact yb
  have S:(insertAt O (t.put j).2 (hP p,ba b)).size=J.length+1:=by
   have:=NJ eJ W;rw[aE,pq.length_eq] at this;simpa using this
  have U2:∀x∈J,x.2≠a:=λx L=>(f.isp x L).ne g d;have X2:b≠a:=y.ne g d;have N0:∀h',ff a s.heap h'->∀x∈J.take (t.put j).2++(p,b)::J.drop (t.put j).2,Sr prog w h' x.1 x.2:=λh' sb x L=>by
   have L:=pq.mem_iff.mp L
   rcases eA.mp L with L | L
   .exact (f.isp x L).keep λo' g'=>(sb.2 x.2 (U2 x L)).trans g'
   .obtain rfl:x=(p,b):=by simpa using L
    exact y.keep λo' g'=>(sb.2 b X2).trans g'
  have X1:((J.take (t.put j).2++(p,b)::J.drop (t.put j).2).map (·.1)).Nodup:=by
   rw[(pq.map (·.1)).nodup_iff,dP];refine f6.mpr ⟨f.nd,by simp,λu hu v hv e=>?_⟩;have:v=p:=by simpa using hv
   exact m (this▸e▸hu)
  have N1:((J.take (t.put j).2++(p,b)::J.drop (t.put j).2).map (·.1)).Perm (addQ ps p):=by
   unfold addQ;rw[WI mp];refine (pq.map (·.1)).trans ?_;rw[dP];exact pm.append_right _
  have Y2:(insertAt O (t.put j).2 (hP p,ba b)).toList.map (·.1)=(O.toList.map (·.1)).take (t.put j).2++hP p::(O.toList.map (·.1)).drop (t.put j).2:=by
   rw[Uw,dP,bb,vj,Bz]
  have X0:Tab (t.put j).1 ((insertAt O (t.put j).2 (hP p,ba b)).toList.map (·.1)):=by rw[Y2];exact T1
  have T:(t.put j).1.fill=J.length+1:=by
   unfold Lv;rw[X0.dum];have:=X0.len;rw[aE,gE,gE,S] at this;simpa using this
  have U:(t.put j).1.mask=t.mask:=rfl;refine ag (oH g ex d (by rw[S];omega) λh1 o1 S0 g1 S2 d1=>?_)
  by_cases I:(t.put j).1.tooFull=O1
  .rw[VI (by simp[I])];have m7:t.mask=7/\J.length=4:=by
    unfold LI at I;rw[T,U] at I;simp at I
    rcases f.msk with ⟨e,z⟩ | ⟨e,z⟩
    .rw[e] at I;exact⟨e,by omega⟩
    .rw[e] at I;omega
   have e5:O.size+1=5:=by omega
   rw[e5,AAy 5 .(0)];refine ag ?_;unfold setRelay;have S3:(t.put j).1.fits (insertAt O (t.put j).2 (hP p,ba b)).size=O1:=by
    unfold Lu;rw[T,U,S];have:=X0.len;rw[aE,gE,gE,S] at this;simp[this];omega
   refine ag (o0 g1 d1 S3 ?_);dsimp only;rw[show FB (5*4)=32 from oJ];rw[WI .(2)];have cv:∀e∈(insertAt O (t.put j).2 (hP p,ba b)).toList,VZ 31 e.1:=λe he=>by
    rw[W] at he;obtain⟨x,L,rfl⟩:=bn.mp he;exact (cov5 (N0 s.heap (EG a _) x L).1).2
   obtain⟨t2,Z,el,l1,l2,l3,l4,l5⟩:=uU 31 (t.put j).1.finger ((t.put j).1.movedTo 31) (t.put j).1.led (t.put j).1.plain (insertAt O (t.put j).2 (hP p,ba b)) (by rw[S];omega) cv;have P4:(t.put j).1.relaid ((insertAt O (t.put j).2 (hP p,ba b)).map (·.1)) (5*4)=O0 (t2,Z):=by
    unfold SetTable.relaid;rw[show FB (5*4)=32 from oJ];exact el
   have S1:(Z.filterMap λi=>(insertAt O (t.put j).2 (hP p,ba b))[i]?).size=J.length+1:=by
    have:=l4.length_eq;rw[gE,gE,S] at this;exact this
   generalize S4:insertAt O (t.put j).2 (hP p,ba b)=es1 at *;rw[P4];refine ag (show ah _ _ (if ((Z.filterMap λi=>es1[i]?).size != es1.size)=O1 then _ else pure ((Z.filterMap λi=>es1[i]?),t2)) _ _ _ from ?_);rw[WI (by simp[S1,S])];refine aw ?_;dsimp only;refine oH g1 S2 d1 (by rw[S1];omega) λh2 o2 U1 g2 Y3 d2=>aw (c O1 h2 (S0.trans U1) ?_);obtain⟨T0,N4,Y⟩:∃T0:List (kc×Addr),(Z.filterMap λi=>es1[i]?).toList=T0.map (λx=>(hP x.1,ba x.2))/\T0.Perm (J.take (t.put j).2++(p,b)::J.drop (t.put j).2):=by
    have Y1:=l4;rw[W] at Y1;obtain⟨q2,e2,p2⟩:=ZD Y1;exact⟨q2,e2,p2⟩
   refine⟨_,_,T0,⟨o2,_,g2,Y3,d2⟩,⟨N4,λx L=>N0 h2 (S0.trans U1) x (Y.mem_iff.mp L),(Y.map (·.1)).nodup_iff.mpr X1,l5,?_,λz=>l2.trans (f.led z),l3.trans P1⟩,(Y.map (·.1)).trans N1,λx L=>T2 x (Y.mem_iff.mp L)⟩;right;rw[Y.length_eq,pq.length_eq,eB,xk];exact⟨l1,by omega⟩
  .rw[WI (by simp[I])];refine aw (c O1 h1 S0 ⟨_,_,_,⟨o1,ep+1,g1,S2,d1⟩,⟨W,N0 h1 S0,X1,X0,?_,f.led,P1⟩,N1,T2⟩);rw[pq.length_eq,eB,xk,U];unfold LI at I;rw[T,U] at I;simp at I
   rcases f.msk with ⟨e,z⟩ | ⟨e,z⟩
   .left;rw[e] at I;exact⟨e,by omega⟩
   .right;exact⟨e,by omega⟩
end
section
variable {A:aT}{R:oC->ai->Prop}{I:Addr}{fp wr:List Addr}{P:Nat->ac->Prop}{Sx:Nat->Heap->Prop}{B:Addr->Prop}
theorem UO.keep{h h':Heap}{a:Addr}{ps:List kc}(x:UO prog w B h a ps)(e:∀b,B b->∀o,h.get? b=O0 o->h'.get? b=O0 o)(Y:∀o,h.get? a=O0 o->h'.get? a=O0 o):UO prog w B h' a ps:=by
 obtain⟨T,t,J,⟨o,W,g,q⟩,f,U,z⟩:=x;exact⟨T,t,J,⟨o,W,Y o g,q⟩,f.keep λx O L S=>e x.2 (z x O) L S,U,z⟩
def TN(val:Nat->kc)(i:Nat):List kc:=((bg i).map val).foldl addQ []
def RW(val:Nat->kc)(i:Nat):TN val (i+1)=addQ (TN val i) (val i):=by simp[TN,DV,List.foldl_append]
theorem ZF(val:Nat->kc):∀i,(TN val i).length<=i
 |0=>aI _
 |i+1=>by
  have q:=ZF val i;rw[RW];unfold addQ;split<;>simp<;>omega
theorem AA_(hu:A.units+1<bv)(W:nV prog w A.in1 I fp wr n P Sx){S:Addr}(nS:S∉fp)(val:Nat->kc)(bs:Nat->Addr)(hv:∀i v,P i v->v=.ref (bs i))(hB:∀i,i<n->B (bs i))(nB:∀b,B b->b∉wr/\b≠S)(hb:n<=17):
    ∀(m i:Nat) (s:ai),i+m=n->Sx i s.heap->UO prog w B s.heap S (TN val i)->(∀i,i<n->Sr prog w s.heap (val i) (bs i)) ->
      (∀h' tk,(∀b o,b∉wr->b≠S->s.heap.get? b=O0 o->h'.get? b=O0 o)->UO prog w B h' S (TN val n)->R (.ok (.ret .none)) { s with heap:=h',toks:=tk }) ->
      gL (av prog w) A (.builtin "set.update.loop" ⟨[.ref S,.ref I],[]⟩) R s:=by
  have nW:S∉wr:=λz=>nS (W.sub S z);have J:∀{s:ai},ah (av prog w) A.in1 (do
        let O0 x <-gI (.ref I) | ret .none
        let _ <-lh [x] (setAdd S x)
        again (.builtin "set.update.loop" ⟨[.ref S,.ref I],[]⟩))
      (λT0 Y=>match T0 with | .done f=>R (.ok f) Y | .again c'=>c'.quiet=O1/\gL (av prog w) A c' R Y) (λe Y=>R (.error e) Y) s->gL (av prog w) A (.builtin "set.update.loop" ⟨[.ref S,.ref I],[]⟩) R s:=λq=>by
    refine kK PyProof.Rows.F.entry_set_update_loop ?_;rw[se LJ _];exact q
  intro m
  induction m with
  |zero=>
    intro i s e st x _ k;have:i=n:=by omega
    subst this;exact J (ag (W.done s _ _ st λh' tk L=>aw (k h' tk (λb o Z _ q=>L b o Z q) (x.keep (λb hb o q=>L b o (nB b hb).1 q) λo q=>L S o nW q))))
  |succ m ih=>
    intro i s e st x al k;refine J (ag (W.item i s _ _ .(0) st λv h1 tk pv N0 L=>?_));obtain rfl:=hv i v pv;have x1:UO prog w B h1 S (TN val i):=x.keep (λb hb o q=>L b o (nB b hb).1 q) λo q=>L S o nW q;have U:∀i,i<n->Sr prog w h1 (val i) (bs i):=λi T=>(al i T).keep λo q=>L _ o (nB _ (hB i T)).1 q;have hl:=ZF val i;have y:=U i .(0);refine ag (wpAny_holding (wpAny_holding (ag (GB (s:={ s with heap:=h1,toks:=tk }) (show A.in1.units<bv from hu) y.2 ?_))));rw[uV y.1];refine AAz (s:={ s with heap:=h1,toks:=tk+((kk (val i)).length+1) }) (w:=w) (show A.in1.units<bv from hu) x1 y (hB i .(0)) .(0) λb h2 sb x2=>aw ⟨pS LJ _,?_⟩;rw[<-RW] at x2;refine ih (i+1) { s with heap:=h2,toks:=tk+((kk (val i)).length+1) } .(0) (W.frame _ _ _ N0 λb m o q=>(sb.2 b λz=>nS (z▸m)).trans q) x2 (λi T=>(U i T).keep λo q=>(sb.2 _ (nB _ (hB i T)).2).trans q) λh3 t3 S0 x3=>?_;exact k h3 t3 (λb o Z O q=>S0 b o Z O ((sb.2 b O).trans (L b o Z q))) x3
structure PrsAt (prog:cy) (w:bE) (T:String) (l:Addr) (n:Nat) (bs:Nat->Addr) (h0:Heap):Prop where
 ty:∀s:ai,(∀o,h0.get? l=O0 o->s.heap.get? l=O0 o)->s.TypeIs (.ref l) T
 ns:isSubtype (.type T) (.type "set")=pure O2
 nf:isSubtype (.type T) (.type "frozenset")=pure O2
 nd:(md T==md "dict")=O2
 lt:l<h0.objs.size
 it:∀(A:aT) (E:ac->ai->Prop) (s:ai) (Q:ac->ai->Prop),A.handled=W1->(∀o,h0.get? l=O0 o->s.heap.get? l=O0 o)->l<s.heap.objs.size ->
  (∀(oI:Obj) (Sx:Nat->Heap->Prop) (P:Nat->ac->Prop),(∀A':aT,A'.handled=W1->nV prog w A' s.heap.objs.size [s.heap.objs.size,l] [s.heap.objs.size] n P Sx)->Sx 0 (s.heap.push oI)->(∀i v,P i v->v=.ref (bs i))->Q (.ref s.heap.objs.size) { s with heap:=s.heap.push oI }) ->
  ah (av prog w) A (om (.ref l)) Q E s
def aX(h:Heap):UO prog w B (h.push { cls:=.type "set",dict:=W1,data:=.set #[] 0 (.fresh 0 0 (!btx w)) }) h.objs.size []:=
 ⟨#[],_,[],⟨_,0,ce _ rfl,⟨rfl,rfl,rfl⟩,rfl⟩,⟨rfl,by simp,by simp,⟨rfl,by simp[FC,RU],rfl,by simp[FC],by simp,by simp⟩,.inl ⟨rfl,by simp⟩,λb=>by simp[FC,b],rfl⟩,by simp,by simp⟩
theorem uY{B:Addr->Prop}{T:String}{l:Addr}{val:Nat->kc}{bs:Nat->Addr}(hu:A.units+4<bv)(hh:A.handled=W1)(X:PrsAt prog w T l n bs s.heap)(al:∀i,i<n->Sr prog w s.heap (val i) (bs i))(L:n<=17)(hB:∀i,i<n->B (bs i))(Y:∀b,B b->b<s.heap.objs.size)(k:∀h' tk,UO prog w B h' s.heap.objs.size (TN val n)->(∀b o,s.heap.get? b=O0 o->h'.get? b=O0 o)->Q (.ref s.heap.objs.size) { s with heap:=h',toks:=tk }):ah (av prog w) A (call (.type "set") [.ref l]) Q E s:=by
 refine AAl (Q1:=λob O=>ob=.ref s.heap.objs.size/\O={ s with heap:=s.heap.push { cls:=.type "set",dict:=W1,data:=.set #[] 0 (.fresh 0 0 (!btx w)) } }) F.called_set (F.typeCall_set_1 _) (tW _ ⟨rfl,rfl⟩) λob O q0=>?_;obtain⟨e1,e2⟩:=q0;subst e1 e2;have ob:=ce s.heap (o:={ cls:=.type "set",dict:=W1,data:=.set #[] 0 (.fresh 0 0 (!btx w)) }) rfl;refine⟨⟨_,ob,rfl⟩,codeAny_call_builtin F.called_set.init.plain F.entry_set_init (check_set_init_1 ⟨_,ob,rfl⟩ ?_)⟩;have Z:∀o,s.heap.get? l=O0 o->(s.heap.push { cls:=.type "set",dict:=W1,data:=.set #[] 0 (.fresh 0 0 (!btx w)) }).get? l=O0 o:=λo q=>bo _ q;have ty:=X.ty { s with heap:=s.heap.push { cls:=.type "set",dict:=W1,data:=.set #[] 0 (.fresh 0 0 (!btx w)) } } Z;have O:=X.ns;have s2:=X.nf;have s3:=X.nd;unfold eK.«set.__init__» noKeywords Builtin.Frozenset.updateFrom;generalize hp:om=PI
 wp_walk
 subst hp;refine X.it _ _ _ _ (by simp[hh]) Z (by rw[iO];exact mN X.lt) λoI Sx P W st hv=>?_;refine ag (B5 ?_);have J:(s.heap.push { cls:=.type "set",dict:=W1,data:=.set #[] 0 (.fresh 0 0 (!btx w)) }).objs.size=s.heap.objs.size+1:=iO _ _;have x0:UO prog w B ((s.heap.push { cls:=.type "set",dict:=W1,data:=.set #[] 0 (.fresh 0 0 (!btx w)) }).push oI) s.heap.objs.size (TN val 0):=(aX s.heap).keep (λb _ o q=>bo _ q) λo q=>bo _ q;refine AA_ (by simp;omega) (W _ (by simp[hh])) (S:=s.heap.objs.size) (λz=>?_) val bs hv hB (λb L=>⟨λz=>?_,bS (Y b L)⟩) L n 0 _ .(0) st x0 (λi hi=>(al i hi).keep λo q=>bo _ (bo _ q)) λh' tk kp x=>?_
 .rcases bp.mp z with z | z
  .rw[J] at z;exact XI z (bS (tj _))
  .exact XI (mP.mp z) (ol X.lt)
 .have e:=mP.mp z;rw[J] at e;exact XI e (bS (mN (Y b L)))
 .show ah _ _ _ _ _ _;refine aw (show ah _ _ (ret fF) _ _ _ from aw ⟨rfl,k h' tk x λb o q=>?_⟩);have U:b<s.heap.objs.size:=br q;exact kp b o (λz=>by have e:=mP.mp z;rw[J] at e;exact XI e (bS (mN U))) (bS U) (bo _ (bo _ q))
end
end PV
namespace PV
open PySem PySem.W PyProof.Rows
section
variable {key:Nat->Nat}
def SS(n:Nat)(z:Nat->Nat){I:Type}:KasT I->(I->Prop)->Prop
 |.ret a,Q=>Q a
 |.ask i j k,Q=>i<n/\j<n/\SS n z (k (decide (z i<z j))) Q
theorem SS.bind{z I:Type}{f:z->KasT I}{Q:I->Prop}{R:z->Prop}:∀{t:KasT z},SS n key t R->(∀a,R a->SS n key (f a) Q)->SS n key (t.bind f) Q
 |.ret a,h,k=>k a h
 |.ask i j g,h,k=>⟨h.1,h.2.1,SS.bind h.2.2 k⟩
theorem SS.wp{z:Type}{cmp:Nat->Nat->(Bool->ai->Prop)->ai->Prop}{s:ai}(I:∀i j C,i<n->j<n->C (decide (key i<key j)) s->cmp i j C s){Q:z->Prop}{R:z->ai->Prop}(J:∀a,Q a->R a s):∀{t:KasT z},SS n key t Q->t.kasWp cmp R s
 |.ret a,h=>J a h
 |.ask i j k,h=>I i j _ h.1 h.2.1 (SS.wp I J h.2.2)
structure Od (n:Nat) (p:Array Nat):Prop where
 sz:p.size=n
 pm:p.toList.Perm (bg n)
theorem Od.lt{p:Array Nat}(o:Od n p){i:Nat}(h:i<n):p.getD i 0<n:=by
 have z:i<p.size:=by rw[o.sz];exact h
 rw[show p.getD i 0=p[i] by simp[z]];have:p[i]∈p.toList:=by simp
 exact cf.mp (o.pm.mem_iff.mp this)
theorem Od.inj{p:Array Nat}(o:Od n p){i j:Nat}(I:i<n)(U:j<n)(e:p.getD i 0=p.getD j 0):i=j:=by
 have Y:i<p.size:=by rw[o.sz];exact I
 have L:j<p.size:=by rw[o.sz];exact U
 rw[show p.getD i 0=p[i] by simp[Y],show p.getD j 0=p[j] by simp[L]] at e;have z:p.toList.Nodup:=o.pm.nodup_iff.mpr ya;refine (Fa (l:=p.toList) (by simpa using Y) z).mp ?_;rw[dc (by simpa using Y),dc (by simpa using L)];simpa using e
def Asc(z:Nat->Nat)(p:Array Nat)(m:Nat):Prop:=∀i j,i<j->j<m->z (p.getD i 0)<z (p.getD j 0)
def Dsc(z:Nat->Nat)(p:Array Nat)(m:Nat):Prop:=∀i j,i<j->j<m->z (p.getD j 0)<z (p.getD i 0)
variable (inj:∀i j,i<n->j<n->key i=key j->i=j)
include inj
theorem oK{p:Array Nat}(o:Od n p){i j:Nat}(z:i<n)(U:j<n)(h:i≠j):key (p.getD i 0)≠key (p.getD j 0):=λe=>h (o.inj z U (inj _ _ (o.lt z) (o.lt U) e))
theorem aZ{p:Array Nat}(o:Od n p):∀(f m:Nat),1<=m->m+f<=n->Asc key p m->SS n key (kas_asc p f m) λr=>m<=r/\r<=m+f/\Asc key p r/\(r<m+f->key (p.getD r 0)<key (p.getD (r-1) 0))
 |0,m,O,L,a=>⟨aI _,aI _,a,λz=>XI z .(0)⟩
 |f+1,m,O,L,a=>by
  refine⟨o.lt .(0),o.lt .(0),?_⟩
  by_cases c:key (p.getD m 0)<key (p.getD (m-1) 0)
  .rw[ZI c];dsimp only;rw[VI rfl];exact⟨aI _,by omega,a,λ_=>c⟩
  .rw[YI c];dsimp only;rw[WI .(1)];have ne:=oK inj o (i:=m) (j:=m-1) .(0) .(0) .(0);have U:Asc key p (m+1):=λi j I W=>by
    by_cases e:j=m
    .subst e
     by_cases T:i=j-1
     .subst T;omega
     .have:=a i (j-1) .(0) .(0);omega
    .exact a i j I .(0)
   have:=aZ o f (m+1) .(0) .(0) U;have S:∀{t:KasT Nat},SS n key t (λr=>m+1<=r/\r<=m+1+f/\Asc key p r/\(r<m+1+f->key (p.getD r 0)<key (p.getD (r-1) 0)))->SS n key t λr=>m<=r/\r<=m+(f+1)/\Asc key p r/\(r<m+(f+1)->key (p.getD r 0)<key (p.getD (r-1) 0)):=λ{t}=>by
    induction t with
    |ret r=>exact λh=>⟨by have:=h.1;omega,by have:=h.2.1;omega,h.2.2.1,λz=>h.2.2.2 .(0)⟩
    |ask i j k J=>exact λh=>⟨h.1,h.2.1,J _ h.2.2⟩
   exact S this
theorem dj{p:Array Nat}(o:Od n p):∀(f m:Nat),1<=m->m+f<=n->Dsc key p m->SS n key (kas_desc f p m 0) λr=>r.1=p/\r.2.2=0/\m<=r.2.1/\r.2.1<=m+f/\Dsc key p r.2.1
 |0,m,L,J,a=>⟨rfl,rfl,aI _,aI _,a⟩
 |f+1,m,L,J,a=>by
  refine⟨o.lt .(0),o.lt .(0),?_⟩;have ne:=oK inj o (i:=m) (j:=m-1) .(0) .(0) .(0)
  by_cases c:key (p.getD m 0)<key (p.getD (m-1) 0)
  .rw[ZI c];dsimp only;rw[VI rfl,WI .(0)];have T:Dsc key p (m+1):=λi j I U=>by
    by_cases e:j=m
    .subst e
     by_cases O:i=j-1
     .subst O;omega
     .have:=a i (j-1) .(0) .(0);omega
    .exact a i j I .(0)
   have:=dj o f (m+1) .(0) .(0) T;have S:∀{t:KasT (Array Nat×Nat×Nat)},SS n key t (λr=>r.1=p/\r.2.2=0/\m+1<=r.2.1/\r.2.1<=m+1+f/\Dsc key p r.2.1)->SS n key t λr=>r.1=p/\r.2.2=0/\m<=r.2.1/\r.2.1<=m+(f+1)/\Dsc key p r.2.1:=λ{t}=>by
    induction t with
    |ret r=>exact λh=>⟨h.1,h.2.1,by have:=h.2.2.1;omega,by have:=h.2.2.2.1;omega,h.2.2.2.2⟩
    |ask i j k z=>exact λh=>⟨h.1,h.2.1,z _ h.2.2⟩
   exact S this
  .rw[YI c];dsimp only;rw[WI .(1)];refine⟨o.lt .(0),o.lt .(0),?_⟩;rw[ZI (show key (p.getD (m-1) 0)<key (p.getD m 0) by omega)];dsimp only;rw[VI rfl];exact⟨rfl,rfl,aI _,Nat.le_add_right m (f+1),a⟩
omit inj
theorem Od.rev{p:Array Nat}(o:Od n p)(m:Nat):Od n (yY p 0 m):=⟨(mirror_size _ _ _ _).trans o.sz,(LL.mp (mirror_perm p 0 m _)).trans o.pm⟩
theorem oN{p:Array Nat}{m:Nat}(z:m<=p.size){k:Nat}(I:k<m):(yY p 0 m).getD k 0=p.getD (m-1-k) 0:=by
 have e:=getElem?_mirror (xs:=p) (i:=0) (j:=m) z ((m-0)/2) .(0) k;have:(yY p 0 m)[k]?=p[m-1-k]?:=by
  unfold yY;rw[e];split
  .congr 1;omega
  .congr 1;omega
 simp only[LM,this]
include inj
theorem oO{p:Array Nat}(o:Od n p)(m:Nat)(h1:1<=m)(z:m<=n)(d:Dsc key p m):SS n key (kas_tail3 m n p) λr=>Od n r.2/\1<=r.1/\r.1<=n/\Asc key r.2 r.1:=by
 have J:=o.rev m;have a:Asc key (yY p 0 m) m:=λi j L U=>by
  rw[oN (by rw[o.sz];exact z) (by omega:i<m),oN (by rw[o.sz];exact z) U];exact d _ _ .(0) .(0)
 unfold kas_tail3;exact SS.bind (aZ inj J (n-m) m h1 .(0) a) λr I=>⟨J,by omega,by omega,I.2.2.1⟩
theorem oR(h1:1<=n){p:Array Nat}(o:Od n p):SS n key (kas_count n p) λr=>Od n r.2/\1<=r.1/\r.1<=n/\Asc key r.2 r.1:=by
 unfold kas_count;refine SS.bind (aZ inj o (n-1) 1 (aI _) .(0) λi j I Z=>by omega) λm Y=>?_;obtain⟨z,m2,a,T⟩:=Y
 by_cases c:(m==n)=O1
 .rw[VI c];exact⟨o,z,by omega,a⟩
 .rw[WI c];have c':m≠n:=by simpa using c
  by_cases J:m > 1
  .rw[VI J];refine⟨o.lt .(0),o.lt .(0),?_⟩;rw[ZI (a 0 (m-1) .(0) .(0))];dsimp only;rw[VI rfl];exact⟨o,z,by omega,a⟩
  .rw[WI J];have e1:m=1:=by omega
   subst e1;have U:=T .(0);unfold kas_descPart;have d:Dsc key p 2:=λi j I Z=>by
    have:i=0:=by omega
    have:j=1:=by omega
    subst i j;exact U
   refine SS.bind (dj inj o (n-(1+1)) (1+1) .(0) .(0) d) λr W=>?_;obtain⟨S,O,r3,r4,L⟩:=W;rw[O,WI .(0),S];exact oO inj o r.2.1 .(0) .(0) L
omit inj
theorem Uz{p:Array Nat}(o:Od n p){k:Nat}(L:k<n)(a:Asc key p k):∀(f l r:Nat),r-l<=f->l<=r->r<=k->(∀i,i<l->¬ key (p.getD k 0)<key (p.getD i 0))->(∀i,r<=i->i<k->key (p.getD k 0)<key (p.getD i 0))->SS n key (kas_place p k f l r) λx=>x<=k/\(∀i,i<x->¬ key (p.getD k 0)<key (p.getD i 0))/\(∀i,x<=i->i<k->key (p.getD k 0)<key (p.getD i 0))
 |0,l,r,T,Y,S,J,I=>⟨by omega,J,λi O z=>I i .(0) z⟩
 |f+1,l,r,T,Y,S,J,I=>by
  unfold kas_place
  by_cases c:l≥r
  .rw[VI c];exact⟨by omega,J,λi O z=>I i .(0) z⟩
  .rw[WI c];refine⟨o.lt L,o.lt .(0),?_⟩
   by_cases d:key (p.getD k 0)<key (p.getD ((l+r)/2) 0)
   .rw[ZI d];dsimp only;rw[VI rfl];refine Uz o L a f l ((l+r)/2) .(0) .(0) .(0) J λi O z=>?_
    by_cases e:i=(l+r)/2
    .subst e;exact d
    .have:=a ((l+r)/2) i .(0) z;omega
   .rw[YI d];dsimp only;rw[WI .(1)];refine Uz o L a f ((l+r)/2+1) r .(0) .(0) S (λi O=>?_) I
    by_cases e:i=(l+r)/2
    .subst e;exact d
    .have:=a i ((l+r)/2) .(0) .(0);omega
include inj
theorem oU:∀(f:Nat) {p:Array Nat}{k:Nat},Od n p->k+f=n->Asc key p k->SS n key (kas_bin f p k) λq=>Od n q/\Asc key q n
 |0,p,k,o,e,a=>⟨o,by rw[<-e];exact a⟩
 |f+1,p,k,o,e,a=>by
  unfold kas_bin;refine SS.bind (Uz o .(0) a k 0 k .(0) .(0) (aI _) (λi hi=>by omega) λi h1 h2=>by omega) λl Y=>?_;obtain⟨l1,Z,U⟩:=Y;have hs:k<p.size:=by rw[o.sz];omega
  have O:Od n (bubble p k (k-l)):=⟨(bubble_size _ _ _).trans o.sz,(LL.mp (bubble_perm p k _)).trans o.pm⟩;have J:∀i,(bubble p k (k-l)).getD i 0=if i=l then p.getD k 0 else if l<i/\i<=k then p.getD (i-1) 0 else p.getD i 0:=λi=>by
   have e:=getElem?_bubble hs (k-l) .(0) i;rw[show k-(k-l)=l by omega] at e;simp only[LM,e];split
   .rfl
   .split<;>rfl
  refine oU f O .(0) λi j W hj=>?_;rw[J i,J j];have I:∀x,x<k->key (p.getD k 0)≠key (p.getD x 0):=λx hx=>oK inj o .(0) .(0) .(0)
  by_cases L:i=l
  .rw[VI L,WI .(0),VI .(0)];exact U (j-1) .(0) .(0)
  .rw[WI L]
   by_cases T:j=l
   .rw[VI T,WI .(0)];have:=Z i .(0);have:=I i .(0);omega
   .rw[WI T]
    by_cases z:l<i/\i<=k
    .rw[VI z,VI .(0)];exact a _ _ .(0) .(0)
    .rw[WI z]
     by_cases S:l<j/\j<=k
     .rw[VI S]
      by_cases e2:i=j-1
      .omega
      .exact a _ _ .(0) .(0)
     .rw[WI S];exact a _ _ .(0) .(0)
theorem uZ(h1:1<=n):SS n key (kas_sort n) λq=>Od n q/\Asc key q n:=by
 have o:Od n (LN (bg n)):=⟨by simp,by simp⟩;unfold kas_sort;refine SS.bind (oR inj h1 o) λr J=>?_;obtain⟨I,O,L,z⟩:=J
 by_cases c:r.1<n
 .rw[VI c,show max r.1 1=r.1 by omega];exact oU inj (n-r.1) I .(0) z
 .rw[WI c];have:r.1=n:=by omega
  exact⟨I,this▸z⟩
end
open PySem.Spec L2
def Sb(p:kc):Nat:=5*p.1+p.2
section
variable {A:aT}
theorem Sr.items{p:kc}(x:Sr prog w h p b):∃o n t u,h.get? b=O0 o/\o.cls=.type "tuple"/\o.data=.seq #[.int (p.1:Int) t,.int (p.2:Int) u] n:=by
 obtain⟨_,o,J,n,g,c,d,i⟩:=x;unfold kk at i;generalize e:J.toList=l at i;cases i with
 | @cons _ Y _ I S i=>
  cases i with
  | @cons _ U _ W O i=>
   cases i;have f:∀{k:Int}{v:ac},(Av prog w).is (.inl k) v=O1->∃t,v=.int k t:=λ{k v} L=>by
    rcases Bu (show Rr (.inl k) v=O1 from L) with ⟨j,t,z,T⟩ | ⟨y,t,z,_⟩
    .have:=vS z;subst this;exact⟨t,T⟩
    .cases z
   obtain⟨t,rfl⟩:=f S;obtain⟨u,rfl⟩:=f O;refine⟨o,n,t,u,g,c,?_⟩;rw[d];congr 1;exact E6.mp e
def ABG{p q:kc}{c:Addr}{Q:Bool->ai->Prop}(x:Sr prog w s.heap p b)(y:Sr prog w s.heap q c)(k:Q (decide (Sb p<Sb q)) s):ah (av prog w) A (keyLt' (tuples' O1) (.ref b) (.ref c)) Q E s:=by
 have L:=x.1;have Z:=y.1;obtain⟨o,n,t,u,g,_,d⟩:=x.items;obtain⟨Y,n2,J,u2,O,_,W⟩:=y.items;obtain⟨T,S⟩:=p;obtain⟨q1,q2⟩:=q;obtain⟨h1,h2⟩:T<5/\S<5:=L;obtain⟨h3,h4⟩:q1<5/\q2<5:=Z;unfold Sb at k;simp only at k;refine kat_lt g d O W ?_;show KatLex _ _ _ _ _ _ [(.int (T:Int) t,.int (q1:Int) J),(.int (S:Int) u,.int (q2:Int) u2)] 0 s;refine kat_cons (BU (kat_go (λe=>?_) λe=>?_))
 .have U:T=q1:=by have:=eq_of_beq e;omega
  refine kat_yes (kat_cons (BU (kat_go (λI=>?_) λI=>?_)))
  .have e3:S=q2:=by have:=eq_of_beq I;omega
   refine kat_yes (kat_nil ?_);rw[YI .(0)] at k;exact k
  .refine kat_no (kat_one _ _ (PyProof.Rows.lt_int ?_));show Q (decide ((S:Int)<(q2:Int))) s;rw[show decide ((S:Int)<(q2:Int))=decide (5*T+S<5*q1+q2) by rw[decide_eq_decide];omega];exact k
 .have U:T≠q1:=λz=>by rw[z] at e;simp at e
  refine kat_no (oneLt_int ?_);rw[show decide ((T:Int)<(q1:Int))=decide (5*T+S<5*q1+q2) by rw[decide_eq_decide];omega];exact k
theorem oV{h:Heap}:∀{qs:List (kc×Addr)},(∀x∈qs,Sr prog w h x.1 x.2)->∃fs:List ac,KatTups h (qs.map λx=>.ref x.2) fs/\fs.length=qs.length/\∀v∈fs,∃i t,v=oa i t
 |[],_=>⟨[],KatTups.nil,rfl,by simp⟩
 |x::r,I=>by
  obtain⟨fs,a,b,c⟩:=oV (qs:=r) λy J=>I y (by simp[J]);obtain⟨o,n,t,u,g,S,d⟩:=(I x .(1)).items;refine⟨.int (x.1.1:Int) t::fs,KatTups.cons g S d rfl a,by simp[b],λv z=>?_⟩
  rcases bp.mp z with rfl | z
  .exact⟨_,_,rfl⟩
  .exact c v z
def du{p q:kc}(a:Sz p)(b:Sz q)(e:Sb p=Sb q):p=q:=by
 obtain⟨T,S⟩:=p;obtain⟨q1,q2⟩:=q;obtain⟨L,J⟩:T<5/\S<5:=a;obtain⟨I,z⟩:q1<5/\q2<5:=b;unfold Sb at e;simp only at e;have:T=q1:=by omega
 have:S=q2:=by omega
 rw[‹T=q1›,‹S=q2›]
theorem dw{z:Type}:∀l:List z,(l.zip l).map (·.2)=l
 |[]=>rfl
 |x::r=>by rw[zv,bb,dw r]
theorem U0{qs:List (kc×Addr)}{P:Fin->ai->Prop}(ho:s.heap.get? a=O0 (seqObj "list" (qs.map λx=>ba x.2).toArray n))(O:∀x∈qs,Sr prog w s.heap x.1 x.2)(nd:(qs.map (·.1)).Nodup)(T2:qs.length<64)(k:∀Z:List (kc×Addr),Z.Perm qs->(Z.map λx=>Sb x.1).Pairwise (·<·)->P (.done (.ret .none)) { s with heap:=sortedHeap s.heap a (qs.map λx=>ba x.2) (Z.map λx=>ba x.2).toArray }):
  ah (av prog w) A (eK.«list.sort» ⟨[.ref a],[]⟩) P E s:=by
 generalize S:(qs.map λx=>ba x.2)=vs at ho k;have lv:vs.length=qs.length:=by rw[<-S,aE]
 rw[list_sort_plain];have ha:a<s.heap.objs.size:=br ho;refine ag (listItems_at ho rfl ?_);refine ag (FD ho rfl ?_ (by rw[cE,ia];omega) (fE _));obtain⟨e1,N1⟩:∃e1,(s.heap.update a (kG λ_=>#[])).get? a=O0 (seqObj "list" #[] e1):=⟨_,get?_update_seq ho (λ_=>#[])⟩;refine ag (FH N1 rfl ?_);refine ag (wpAny_newTuple ?_ (by show vs.length<=_;rw[ia];omega));refine ag (uS ?_ (fE _));refine wpAny_holding ?_;generalize hg:((s.heap.update a (kG λ_=>#[])).push (seqObj "tuple" vs.toArray 0)).push (seqObj "list" #[] 0)=g6;have W:g6.get? a=O0 (seqObj "list" #[] e1):=by
  rw[<-hg];exact bo _ (bo _ N1)
 have J:∀x∈qs,Sr prog w g6 x.1 x.2:=λx hx=>(O x hx).keep λo g=>by
  rw[<-hg];have ne:x.2≠a:=λz=>by
   obtain⟨o2,_,_,_,g2,c2,_⟩:=(O x hx).items;rw[z] at g2;cases g2.symm.trans ho;have c3:md "list"=md "tuple":=c2;injection c3 with c3
   exact XI c3 .(2)
  exact bo _ (bo _ ((lI _ _ (ci ne)).trans g))
 have hG:sortedHeap s.heap a vs=λT0=>g6.update a (kG λ_=>T0):=by funext T0;rw[<-hg];rfl
 dsimp only
 by_cases Y:vs.toArray.size<2
 .rw[VI Y,VI Y];refine ag (aw ?_);rw[StateT.run_pure];refine ag (aw ?_);dsimp only;refine ag (FH W rfl ?_);refine ag (FD W rfl ?_ (hsz2:=by rw[Array.size_map];show (pairsOf vs).size<=_;rw[PyProof.Rows.pairsOf_size,ia];omega));simp only[bne_self_eq_false,dQ,UK];refine aw ?_;have:=k qs (xL _) (by
   rw[cE,lv] at Y
   match qs,Y with
   |[],_=>exact AT
   |[x],_=>exact List.pairwise_singleton _ _)
  rw[S,hG] at this;have ez:(arrOf (LO general' (vs.toArray.zip vs.toArray) #[] 7 W1)).map (·.2)=vs.toArray:=by
   show (vs.toArray.zip vs.toArray).map (·.2)=vs.toArray;apply E6.mp;simp[dw]
  rw[show (vs.toArray.zip vs.toArray)=pairsOf vs from rfl] at ez;show P _ { s with heap:=g6.update a (kG λ_=>(arrOf (LO general' (pairsOf vs) #[] 7 W1)).map (·.2)) };rw[ez];exact this
 .rw[WI Y,WI Y];have l2:2<=vs.length:=by rw[cE] at Y;omega
  obtain⟨fs,t1,t2,t3⟩:=oV J;rw[S] at t1;refine ag (kat_kind (s:={ s with heap:=g6 }) (T:=md "int") t1 (by rw[t2,<-lv];omega) (λv hv=>?_) .(2) ?_)
  .obtain⟨i,t,rfl⟩:=t3 v hv;exact .now
  show ah (av prog w) A _ P E { s with heap:=g6 };rw[show (md "int" != md "tuple")=O1 by decide];have N0:∀i (h:i<qs.length),vs.getD i fF=.ref qs[i].2:=λi h=>by
   rw[<-S];simp[h]
  have inj:∀i j,i<vs.length->j<vs.length->(λi=>Sb (qs.getD i ((0,0),0)).1) i=(λi=>Sb (qs.getD i ((0,0),0)).1) j->i=j:=λi j I U e=>by
   rw[lv] at I U;simp only[show qs.getD i ((0,0),0)=qs[i] by simp[I],show qs.getD j ((0,0),0)=qs[j] by simp[U]] at e;have e2:=du (O _ (gi I)).1 (O _ (gi U)).1 e;refine (Fa (l:=qs.map (·.1)) (by simpa using I) nd).mp ?_;rw[cb,cb,dc I,dc U];exact NJ O0 e2
  have U1:=SS.wp (cmp:=kas_ask prog w A (tuples' O1) vs) (s:={ s with heap:=g6 }) (λi j C I U hC=>by
   rw[lv] at I U;unfold kas_ask;rw[N0 i I,N0 j U];refine ABG (J _ (gi I)) (J _ (gi U)) ?_;simp only[show qs.getD i ((0,0),0)=qs[i] by simp[I],show qs.getD j ((0,0),0)=qs[j] by simp[U]] at hC;exact hC) (Q:=λq=>Od vs.length q/\Asc (λi=>Sb (qs.getD i ((0,0),0)).1) q vs.length) (R:=λq z=>z={ s with heap:=g6 }/\Od vs.length q/\Asc (λi=>Sb (qs.getD i ((0,0),0)).1) q vs.length) (λq hq=>⟨rfl,hq⟩) (uZ inj .(0))
  refine ag (hZ (kat_run (Q:=λL z=>z={ s with heap:=g6 }/\∃p:Array Nat,arrOf L=p.map (kas_item (vs.toArray.zip vs.toArray))/\failedOf L=W1/\Od vs.length p/\Asc (λi=>Sb (qs.getD i ((0,0),0)).1) p vs.length) rfl l2 .(0) (λp L z a1 a2 a3 a4=>⟨a4.1,p,a2,a3,a4.2.1,a4.2.2⟩) U1) ?_ λ_ _ e=>e);rintro⟨⟨⟩,L⟩ z ⟨rfl,p,Q2,hf,od,S2⟩;dsimp only;have X0:=kat_snds (ks:=vs) (vs:=vs) rfl Q2;have oq:(LN (p.toList.map λi=>vs.getD i fF))=((p.toList.map λi=>qs.getD i ((0,0),0)).map λx=>ba x.2).toArray:=by
   rw[ca];congr 1;refine pj λi I=>?_;have I:=cf.mp (od.pm.mem_iff.mp I);rw[lv] at I;rw[N0 i I];simp[I]
  rw[X0,oq];have S0:(p.toList.map λi=>qs.getD i ((0,0),0)).Perm qs:=by
   have e:(bg vs.length).map (λi=>qs.getD i ((0,0),0))=qs:=by
    apply Lo
    .simp[lv]
    .intro i h1 Y;simp[Y]
   have:=od.pm.map λi=>qs.getD i ((0,0),0)
   rwa [e] at this
  have S1:((p.toList.map λi=>qs.getD i ((0,0),0)).map λx=>Sb x.1).Pairwise (·<·):=by
   rw[ca,iE,ve];intro i j I U X1;have Y1:i<p.size:=by simpa using I
   have P1:j<p.size:=by simpa using U
   have:=S2 i j X1 (by rw[<-od.sz];exact P1);rw[show p.getD i 0=p[i] by simp[Y1],show p.getD j 0=p[j] by simp[P1]] at this;simpa using this
  refine ag (FH W rfl ?_);refine ag (FD W rfl ?_ (hsz2:=by
   rw[cE,aE,S0.length_eq,ia];omega))
  rw[hf];simp only[bne_self_eq_false,dQ,UK];have:=k _ S0 S1;rw[hG] at this;exact aw this
end
section
variable {A:aT}{I:Addr}{t:SetTable}
structure FQ (w:bE) (es:Array (Int×ac)) (t:SetTable) (qs:List (kc×Addr)):Prop where
 ent:es.toList=qs.map λx=>(hP x.1,ba x.2)
 rise:RU t.place.toList
 len:t.place.size=es.size
 fits:t.fits es.size=O1
 led:btx w=O2->t.led=O1
 pln:t.plain=O1
 sz:qs.length<=18
def FP.toQ{qs:List (kc×Addr)}(f:FP prog w h es t qs):FQ w es t qs:=by
 have l:=f.tab.len;rw[aE,gE,gE] at l;exact⟨f.ent,f.tab.rise,l,f.fits,f.led,f.pln,by rcases f.msk with ⟨_,z⟩ | ⟨_,z⟩<;>omega⟩
def Sm(w:bE)(h:Heap)(a:Addr)(qs:List (kc×Addr)):Prop:=∃es t,ObX h a es t/\FQ w es t qs
def Sm.keep{qs:List (kc×Addr)}(x:Sm w h a qs)(e:∀o,h.get? a=O0 o->h'.get? a=O0 o):Sm w h' a qs:=by
 obtain⟨z,t,⟨o,J,g,q⟩,f⟩:=x;exact⟨z,t,⟨o,J,e o g,q⟩,f⟩
theorem ZG(xs:Array Nat)(J:RU xs.toList){v i:Nat}(O:i<=xs.size)(h1:∀a (h:a<xs.size),a<i->xs[a]<v)(z:∀a (h:a<xs.size),i<=a->v<=xs[a]):zd xs v=i:=by
 obtain⟨L,b1,b2⟩:=QT xs J v;generalize zd xs v=b at L b1 b2
 rcases B6 b i with c | c | c
 .have:=b2 b .(0) (aI _);have:=h1 b .(0) c;omega
 .exact c
 .have:=b1 i .(0) c;have:=z i .(0) (aI _);omega
def aa(xs:Array Nat)(J:RU xs.toList){i:Nat}(S:i<=xs.size):zd xs (if i=0 then 0 else xs.getD (i-1) 0+1)=i:=by
 have mono:∀a b (U:a<xs.size) (T:b<xs.size),a<b->xs[a]<xs[b]:=λa b U T O=>by
  have:=ve.mp J a b (by simpa using U) (by simpa using T) O;simpa using this
 by_cases W:i=0
 .rw[VI W];exact ZG xs J S (λa h L=>by omega) λa h _=>fE _
 .have z:i-1<xs.size:=by omega
  rw[WI W,show xs.getD (i-1) 0=xs[i-1] by simp[z]];refine ZG xs J S (λa h L=>?_) λa h Y=>?_
  .by_cases e:a=i-1
   .subst e;omega
   .have:=mono a (i-1) h z .(0);omega
  .have:=mono (i-1) a z h .(0);omega
def oW{sl:Nat->Nat}(T:q≠I)(hf:t.fits es.size=O1)(hL:vs.length=es.size)(hx:∀(i:Nat) (z:ai),i<=es.size->Mg z.heap q es ep t->(∃v,vs[i]?=O0 v/\i<es.size/\∀(B:aT) (J:ac->ai->Prop) (R:Option (ac×Nat)->ai->Prop),R (O0 (v,sl (i+1))) z->ah (av prog w) B (pV q (sl i) i ep) R J z)
   ∨ (es.size<=i/\∀(B:aT) (J:ac->ai->Prop) (R:Option (ac×Nat)->ai->Prop),R W1 z->ah (av prog w) B (pV q (sl i) i ep) R J z)):
  ∀Y:aT,Y.handled=W1->nV prog w Y I [I,q] [I] vs.length (λi v=>vs[i]?=O0 v) (λi h=>WO h I q (.int (sl i) 0) i es.size ep/\Mg h q es ep t):=λY hh=>{
 sub:=λb m=>by simp at m;simp[m]
 frame:=λi h L U e=>⟨U.1.keep (e I .(1)),U.2.keep (e q .(1))⟩
 item:=λi z Q J hi U k=>by
  rcases hx i z .(0) U.2 with ⟨v,hv,_,O⟩ | ⟨S0,_⟩
  .refine tX U.1 U.2 hf rfl (λB W R y=>by rw[g9];exact O B W R y) λL Z it=>k v L z.toks hv ⟨it,U.2.keep λo g=>(Z.2 q T).trans g⟩ λb o S g=>(Z.2 b λe=>S (by simp[e])).trans g
  .omega
 done:=λz Q J U k=>by
  rcases hx vs.length z .(0) U.2 with ⟨v,_,N0,_⟩ | ⟨_,O⟩
  .omega
  .exact tZ hh U.1 U.2 hf rfl (λB W R y=>by rw[g9];exact O B W R y) λL kp=>k L z.toks λb o S g=>kp b o (λe=>S (by simp[e])) g
 self:=λi z Q J U k=>t_ U.1 k }
def ItP(prog:cy)(w:bE)(s:ai)(q:Addr)(qs:List (kc×Addr))(I:Addr)(h':Heap):Prop:=∃(L:List (kc×Addr)) (fp:List Addr) (Sx:Nat->Heap->Prop),L.Perm qs/\s.heap.objs.size<=I/\(∀b∈fp,b=q∨s.heap.objs.size<=b)/\(∀b o,s.heap.get? b=O0 o->h'.get? b=O0 o) ∧
 (∀O:aT,O.handled=W1->nV prog w O I fp [I] L.length (λi v=>(L.map λx=>ba x.2)[i]?=O0 v) Sx)/\Sx 0 h'
theorem iY{qs:List (kc×Addr)}(x:Sm w s.heap q qs)(k:∀I h',ItP prog w s q qs I h'->Q (.ref I) { s with heap:=h' }):ah (av prog w) A (om (.ref q)) Q E s:=by
  obtain⟨J,t,⟨o,O,g,ex,d⟩,f⟩:=x;have ty:s.TypeIs (.ref q) "set":=⟨o,g,ex.1⟩;have y:Mg s.heap q J O t:=⟨o,g,ex,d⟩;have lq:q<s.heap.objs.size:=br g;have Y:J.size=qs.length:=by have:=NJ eJ f.ent;simpa using this
  refine Kt ty LP (iF LP ty W7 ?_ (F.args_set_iter_1 _));unfold eK.«frozenset.__iter__»;refine ag (show ah _ _ (pure q) _ _ s from aw ?_);refine ag (show ah _ _ (setEntries q >>= λr=>pure r.size) _ _ s from ag (EC g d f.fits (aw ?_)));have W:∀(T:ac),(∀h',h'=s.heap.push { cls:=.type "set_iterator",data:=.fields #[T,.int 0 0,.ref q,.int J.size 0,.int O 0] }->WO h' s.heap.objs.size q T 0 J.size O->Mg h' q J O t->ItP prog w s q qs s.heap.objs.size h') ->
      ah (av prog w) A.in1 (do ret (<-newFields "set_iterator" [T,fN 0,.ref q,fN J.size,fN (<-setEpoch q)])) (λW z=>∃v,W=.done (.ret v)/\∃T' r,z.TypeIs v T'/\DF (.type T') "__next__"=pure (O0 r)/\Q v z) E s:=λT w1=>by
    refine ag (wpAny_setEpoch_of g d f.fits (ag (kD (aw ⟨_,rfl,"set_iterator",_,⟨_,ce _ rfl,rfl⟩,Nu.lookup,k _ _ (w1 _ rfl ⟨_,ce _ rfl,rfl,rfl⟩ (y.keep λo' g'=>bo _ g'))⟩))))
  have dr:∀{R:Bool->ai->Prop},R O2 s->ah (av prog w) A.in1 (setDrawn q) R E s:=λ{R} hr=>by
    unfold setDrawn;refine ag (o0 g d f.fits ?_);refine ag (show ah _ A.in1 BA _ E s from ag (uk (aw (aw ?_))));show R (!(av prog w).w.params.followText "set-order"&&(!t.plain&&decide (J.size > 1))) s;rw[f.pln];simpa using hr
  refine ag (dr ?_);simp only[dQ,UK];have N0:∀b∈[s.heap.objs.size,q],b=q∨s.heap.objs.size<=b:=λb m=>by simp at m;rcases m with m | m;exact .inr (CS m.symm);exact .inl m
  cases bq:btx w with
  |true=>
    refine ag (aw (W _ λh' eh it sa=>?_));subst eh;obtain⟨L,eL,pL⟩:=ZD (f:=λx:kc×Addr=>(hP x.1,ba x.2)) (l:=(qa (w.params.setOrder q O) J).toList) (m:=qs) (by rw[<-f.ent];exact Vv _ J);have eV:(L.map λx=>ba x.2)=(qa (w.params.setOrder q O) J).toList.map (·.2):=by rw[eL,ca];rfl
    have pz:(qa (w.params.setOrder q O) J).size=J.size:=by have:=(Vv (w.params.setOrder q O) J).length_eq;simpa using this
    refine⟨L,[s.heap.objs.size,q],(λi h=>WO h s.heap.objs.size q (.int (((λ_=>0:Nat->Nat) i:Nat):Int) 0) i J.size O/\Mg h q J O t),pL,aI _,N0,λb o z=>bo _ z,?_,it,sa⟩;have lv:(L.map λx=>ba x.2).length=L.length:=aE ..;rw[<-lv];refine oW (sl:=λ_=>0) (es:=J) (t:=t) (ep:=O) (bS lq) f.fits (by rw[lv,pL.length_eq,Y]) λi z T0 q0=>?_;obtain⟨oz,gz,_,dz⟩:=q0;have S:∀(B:aT) (U:ac->ai->Prop) (R:Option (ac×Nat)->ai->Prop),R (((qa (w.params.setOrder q O) J)[i]?).map λe=>(e.2,0)) z->ah (av prog w) B (pV q 0 i O) R U z:=λB U R Z=>by
      unfold pV setWalk;refine ag (o0 gz dz f.fits ?_);refine ag (show ah _ B BA _ U z from ag (uk (aw ?_)));rw[show (av prog w).w.params.followText "set-order"=O1 from bq];dsimp only;rw[VI rfl,WI .(1)];refine ag (ag (o0 gz dz f.fits (ag (show ah _ B BA _ U z from ag (uk (aw ?_))))));rw[show (av prog w).w.params.followText "set-order"=O1 from bq];dsimp only;rw[VI rfl];exact ag (uk (aw (aw Z)))
    by_cases hi:i<J.size
    . have hz:i<(qa (w.params.setOrder q O) J).size:=by omega
      refine .inl ⟨(qa (w.params.setOrder q O) J)[i].2,?_,hi,λB U R Z=>S B U R ?_⟩
      . rw[eV,cb]
        simp[hz]
      . rw[FK hz]
        exact Z
    . refine .inr ⟨by omega,λB U R Z=>S B U R ?_⟩
      rw[LS .(0)];exact Z
  |false=>
    have S0:t.led=O1:=f.led bq;refine ag (aw (W _ λh' eh it sa=>?_));subst eh;refine⟨qs,[s.heap.objs.size,q],(λi h=>WO h s.heap.objs.size q (.int (((λi=>if i=0 then 0 else t.place.getD (i-1) 0+1:Nat->Nat) i:Nat):Int) 0) i J.size O/\Mg h q J O t),xL _,aI _,N0,λb o z=>bo _ z,?_,it,sa⟩;have lv:(qs.map λx=>ba x.2).length=qs.length:=aE ..;rw[<-lv];refine oW (sl:=λi=>if i=0 then 0 else t.place.getD (i-1) 0+1) (es:=J) (t:=t) (ep:=O) (bS lq) f.fits (by rw[lv,Y]) λi z T0 q9=>?_;obtain⟨oz,gz,_,dz⟩:=q9;have S:∀(sl:Nat) (B:aT) (U:ac->ai->Prop) (R:Option (ac×Nat)->ai->Prop),R (match J[zd t.place sl]?,t.place[zd t.place sl]? with | some (_,x),O0 j=>O0 (x,j+1) | _,_=>W1) z->ah (av prog w) B (pV q sl i O) R U z:=λsl B U R Z=>by
      unfold pV;refine ag (o0 gz dz f.fits ?_);refine ag (show ah _ B BA _ U z from ag (uk (aw ?_)));rw[show (av prog w).w.params.followText "set-order"=O2 from bq];dsimp only;rw[WI d6];split
      . rename_i hd
        have X0:(!t.plain&&decide (J.size > 1))=O1:=hd;rw[f.pln] at X0;simp at X0
      . refine ag (show ah _ B (if (!t.led&&!J.isEmpty)=O1 then Fu "set:maker-not-led" else pure ()) _ U z from ?_)
        rw[WI (by rw[S0];simp)];exact aw (aw Z)
    have eb:=aa t.place f.rise (i:=i) (by rw[f.len];exact T0)
    by_cases hi:i<J.size
    . have hp:i<t.place.size:=by rw[f.len];exact hi
      refine .inl ⟨J[i].2,?_,hi,λB U R Z=>S _ B U R ?_⟩
      . have ev:(qs.map λx=>ba x.2)=J.toList.map (·.2):=by rw[f.ent,ca];rfl
        rw[ev,cb];simp[hi]
      . rw[eb,FK hi,FK hp]
        have:(if i+1=0 then 0 else t.place.getD (i+1-1) 0+1)=t.place[i]+1:=by
          rw[WI .(0),Nat.add_sub_cancel];simp[hp]
        rw[this] at Z;exact Z
    . refine .inr ⟨by omega,λB U R Z=>S _ B U R ?_⟩
      rw[eb,LS .(0)];exact Z
end
section
variable {A:aT}{I T:Addr}
theorem Sm.ty{qs:List (kc×Addr)}(x:Sm w s.heap q qs):s.TypeIs (.ref q) "set":=let ⟨_,_,⟨o,_,g,ex,_⟩,_⟩:=x;⟨o,g,ex.1⟩
theorem Xf{ks:List (kc×Addr)}{Q:List ac->ai->Prop}(hh:A.handled=W1)(x:Sm w s.heap q ks)(hz:ks.length<=4000)(k:∀(L:List (kc×Addr)) (h':Heap) (tk:Nat),L.Perm ks->s.heap.objs.size<=h'.objs.size->(∀b o,s.heap.get? b=O0 o->h'.get? b=O0 o)->Q (L.map λx=>ba x.2) { s with heap:=h',toks:=tk }):
  ah (av prog w) A (sk (.ref q)) Q E s:=by
 obtain⟨lq⟩:Nonempty (q<s.heap.objs.size):=let ⟨_,_,⟨_,_,g,_⟩,_⟩:=x;⟨br g⟩;unfold sk;refine ag (B5 (kK EQ (show ah _ _ (do again (.builtin "list.__iadd__" ⟨[<-xv [],.ref q],[]⟩)) _ _ s from ?_)));refine ag (uS (aw ⟨E7 _ (by decide +kernel),kK ER (show ah _ _ (y0 (.ref s.heap.objs.size) (.ref q) (.ref s.heap.objs.size)) _ _ _ from ?_)⟩));have Y:Sm w (s.heap.push { cls:=.type "list",data:=.seq ([]:List ac).toArray }) q ks:=x.keep λo g=>bo _ g;unfold y0;refine ag (xh (T:="set") (Sm.ty (s:={ s with heap:=s.heap.push { cls:=.type "list",data:=.seq ([]:List ac).toArray } }) Y) ?_);have nr:LU (.ref s.heap.objs.size) (.ref q)=O2:=by simp[LU,ol lq]
 rw[WI (by rw[nr];decide)];refine ag (iY (s:={ s with heap:=s.heap.push { cls:=.type "list",data:=.seq ([]:List ac).toArray } }) Y λI h' p0=>?_);obtain⟨L,fp,Sx,hL,N0,S0,kp,W,st⟩:=p0;have x2:Sm w h' q ks:=Y.keep λo g=>kp q o g;refine ag (wpAny_holding (mZ (s:={ s with heap:=h' }) (Sm.ty (s:={ s with heap:=h' }) x2) ?_));have gS:h'.get? s.heap.objs.size=O0 { cls:=.type "list",dict:=W1,data:=.seq #[] 0,slots:=#[] }:=kp _ _ (ce _ rfl);have O:(s.heap.push { cls:=.type "list",data:=.seq ([]:List ac).toArray }).objs.size=s.heap.objs.size+1:=iO _ _;have nS:s.heap.objs.size∉fp:=λm=>by
  rcases S0 _ m with z | z
  .exact XI z (ol lq)
  .have z':(s.heap.push { cls:=.type "list",data:=.seq ([]:List ac).toArray }).objs.size<=s.heap.objs.size:=z;rw[O] at z';exact XI z' (Nat.not_succ_le_self _)
 have S:s.heap.objs.size+1<=I:=by rw[<-O];exact N0
 rw[VI (by decide +kernel)];refine ag (sL (ag (show ah _ _ (AN s.heap.objs.size (·.push .none) >>= λ_=>AN s.heap.objs.size (·.pop)) _ _ _ from ag (xC gS rfl ?_))));have g1:=nX (kG (·.push fF)) gS rfl;refine xC (hz:=by seq_fits) g1 rfl ?_;have g2:=nX (kG (·.pop)) g1 rfl;have Zp:∀b o,b≠s.heap.objs.size->h'.get? b=O0 o->((h'.update s.heap.objs.size (kG (·.push fF))).update s.heap.objs.size (kG (·.pop))).get? b=O0 o:=λb o nb g=>(lI _ _ (ci nb)).trans ((lI _ _ (ci nb)).trans g);have Z:=(W A hh).frame 0 _ _ st λb m o g=>Zp b o (λz=>nS (z▸m)) g;refine aw ⟨pS PySem.F.plain_extend_loop _,codeAny_extend_loopS (W _ (by simp[hh])).toS (de (by rw[hL.length_eq];exact hz) .(2)) s.heap.objs.size nS _ L.length 0 { s with heap:=(h'.update s.heap.objs.size (kG (·.push fF))).update s.heap.objs.size (kG (·.pop)) } #[] _ rfl (fE _) Z g2 (ItemsOf.nil _) λs' J c' hm U ha=>?_⟩;rw[Moved.eq_with hm];show ah _ A (load s.heap.objs.size >>= _) _ _ _;have ev:J.toList=L.map λx=>ba x.2:=by
  apply IR;intro i;have hl:J.toList.length=L.length:=by rw[gE];exact ha.1
  by_cases c:i<L.length
  .have ga:J.toList[i]?=O0 (J.toList[i]'(by omega)):=dc .(0);rw[ga];exact (ha.2 i _ (by rw[<-Fn];exact ga)).symm
  .rw[pE .(0),pE (by rw[aE];omega)]
 refine ag (wa U (aw (ev▸k L s'.heap s'.toks hL (sR (br U)) λb o g=>?_)));have lb:b<s.heap.objs.size:=br g;refine hm.heap b o (λm=>?_) (Zp b o (bS lb) (kp b o (bo _ g)))
 rcases bp.mp m with z | z
 .exact XI z (bS lb)
 .exact XI (mP.mp z) (bS (fh lb (Nat.le_of_succ_le S)))
theorem ZJ{qs:List (kc×Addr)}(hh:A.handled=W1)(x:Sm w s.heap q qs)(S:∀x∈qs,Sr prog w s.heap x.1 x.2)(nd:(qs.map (·.1)).Nodup)(k:∀(L:List (kc×Addr)) (e:Nat) (l:Addr) (h':Heap) (tk:Nat),L.Perm qs->(L.map λx=>Sb x.1).Pairwise (·<·)->h'.get? l=O0 (qc "list" (L.map λx=>ba x.2).toArray e)->s.heap.objs.size<=l->(∀b o,s.heap.get? b=O0 o->h'.get? b=O0 o)->Q (.ref l) { s with heap:=h',toks:=tk }):
  ah (av prog w) A (call (.builtin "sorted") [.ref q]) Q E s:=by
 have sz:qs.length<=18:=let ⟨_,_,_,f⟩:=x;f.sz;refine ES ET EU EV (EW _) ?_;unfold eK.«sorted»;refine ag (m:=EZ "sorted" 1 1 _) (aw (ag (Xf (A:=A.in1) hh x .(0) λL Y tk J le O=>?_)));have z:(L.map λx=>ba x.2).length<=60:=by rw[aE,J.length_eq];omega
 refine ag (uS ?_ (de z .(2)));have U:(Y.push { cls:=.type "list",data:=.seq (L.map λx=>ba x.2).toArray }).get? Y.objs.size=O0 (qc "list" (L.map λx=>ba x.2).toArray 0):=ce _ rfl;refine ag (wpAny_holding (iF F0 ⟨_,U,rfl⟩ F3 (U0 U (λx hx=>(S x (J.mem_iff.mp hx)).keep λo g=>bo _ (O _ o g)) ((J.map (·.1)).nodup_iff.mpr nd) (by rw[J.length_eq];omega) λL2 p2 Z=>⟨_,rfl,?_⟩) (F4 _)));obtain⟨c,hc⟩:=F6 (out:=(L2.map λx=>ba x.2).toArray) U;refine aw ⟨_,rfl,k L2 c _ _ tk (p2.trans J) Z hc le λb o g=>?_⟩;have W:=br (O b o g);rw[F7 (bS W) (by rw[iO];exact mN W)];exact bo _ (O b o g)
end
abbrev ZK (w:bE) (q:Addr) (rs:List (kc×Addr)):HO:=.ext λh=>Sm w h q rs
abbrev US (qs:List (kc×Addr)):List V:=qs.map λx=>V.ref x.2
def AtP(X:Cx)(H:Hp)(qs:List (kc×Addr)):Prop:=∀x∈qs,Sz x.1/\On X.K H x.2 ((kk x.1).map kV)
section
theorem Xg(val:Nat->kc):∀{n:Nat}{y:kc},y∈TN val n↔∃i,i<n/\val i=y
 |0,y=>by simp[TN]
 |n+1,y=>by
  rw[RW];unfold addQ;have I:=Xg val (n:=n) (y:=y);split
  .rename_i h;rw[I];constructor
   .rintro⟨i,z,e⟩;exact⟨i,by omega,e⟩
   .rintro⟨i,z,e⟩
    by_cases c:i=n
    .subst c;obtain⟨j,U,J⟩:=(Xg val (n:=i) (y:=val i)).mp h;exact⟨j,U,J.trans e⟩
    .exact⟨i,by omega,e⟩
  .rw[eA,I,mP];constructor
   .rintro (⟨i,z,e⟩ | e)
    .exact⟨i,by omega,e⟩
    .exact⟨n,by omega,e.symm⟩
   .rintro⟨i,z,e⟩
    by_cases c:i=n
    .subst c;exact .inr e.symm
    .exact .inl ⟨i,by omega,e⟩
def d8{qs:List (kc×Addr)}(I:Inv X π σ H s)(h:AtP X H qs):∀x∈qs,Sr X.prog X.w s.heap x.1 x.2:=λx z=>⟨(h x z).1,tup_is I (h x z).2⟩
def ZL{qs:List (kc×Addr)}(r:fc (US qs) us)(i:Nat)(v:ac)(h:us[i]?=O0 v):v=.ref (qs.getD i ((0,0),0)).2:=by
 have e:us=(qs.map (·.2)).map ba:=TQ (bs:=qs.map (·.2)) (by rw[ca];exact r);rw[e,ca,cb] at h;obtain⟨x,z,rfl⟩:=ku.mp h;simp[z]
def prsL{qs:List (kc×Addr)}(i:Inv X π σ H s)(h:NS X.K H p (US qs)):PrsAt X.prog X.w "list" p qs.length (λi=>(qs.getD i ((0,0),0)).2) s.heap:=by
 obtain⟨I,r,L,_⟩:=i.list h;obtain⟨o,g,c,m,d⟩:=L.isList;have Y:=r.length;rw[aE] at Y;refine⟨λz e=>⟨o,e o g,c⟩,by rw[pT];kernel_rfl,by rw[pT];kernel_rfl,by decide,br g,λA E z Q S e lt k=>?_⟩;have J:z.heap.IsList p I.toArray:=⟨o,e o g,c,m,d⟩;refine A8 J (k _ (λi h=>h.IsListIter z.heap.objs.size p i/\h.IsList p I.toArray) (λi v=>I.toArray[i]?=O0 v) (λT O=>by rw[Y,<-cE];exact AQ O _ p (bS lt) I.toArray) ⟨⟨_,ce _ rfl,rfl,rfl⟩,J.push _⟩ λi v q=>ZL r i v (by simpa using q))
def prsT{qs:List (kc×Addr)}(i:Inv X π σ H s)(h:NO X.K H p (US qs)):PrsAt X.prog X.w "tuple" p qs.length (λi=>(qs.getD i ((0,0),0)).2) s.heap:=by
 obtain⟨I,r,L,_⟩:=i.tuple h;obtain⟨o,g,c,m,d⟩:=(show s.heap.IsTuple p I.toArray from L);have Y:=r.length;rw[aE] at Y;refine⟨λz e=>⟨o,e o g,c⟩,by rw[pT];kernel_rfl,by rw[pT];kernel_rfl,by decide,br g,λA E z Q U e lt k=>?_⟩;have J:z.heap.IsTuple p I.toArray:=⟨o,e o g,c,m,d⟩;refine wb J (k _ (λi h=>h.IsTupleIter z.heap.objs.size p i/\h.IsTuple p I.toArray) (λi v=>I.toArray[i]?=O0 v) (λW O=>by rw[Y,<-cE];exact Walks.tuple O _ p (bS lt) I.toArray) ⟨⟨_,ce _ rfl,rfl,rfl⟩,J.at λT S=>bo _ S⟩ λi v q=>ZL r i v (by simpa using q))
def wX(X:Cx):List V->Hp->VK->Prop:=λxs H Q=>∃p qs,xs=[.ref p]/\(NS X.K H p (US qs)∨NO X.K H p (US qs))/\AtP X H qs/\qs.length<=17/\∀l J,H l=W1->(J.map (·.1)).Nodup->(∀x∈J,x∈qs)->(∀x∈qs,x.1∈J.map (·.1))->Q (.ref l) (gq H l (ZK X.w l J))
theorem iZ(hu:X.A.units+64<bv)(hc:X.calm=O1):D_ X (.type "set") (wX X):=by
 intro π s Z H xs us Q I r h;obtain⟨p,qs,rfl,hs,U,hz,k⟩:=h;obtain⟨u,rfl,ru⟩:=Ts r;cases ru;have O:=d8 I U;have Y:∀{T:String},PrsAt X.prog X.w T p qs.length (λi=>(qs.getD i ((0,0),0)).2) s.heap->ah (av X.prog X.w) X.A (call (.type "set") [.ref p]) (EP X π Z Q) X.xe s:=λt=>by
  refine uY (B:=λb=>b∈qs.map (·.2)) (val:=λi=>(qs.getD i ((0,0),0)).1) .(0) (I.ok.hd hc) t (λi z=>?_) hz (λi z=>?_) (λb hb=>?_) λh' tk x W=>?_
  .rw[show qs.getD i ((0,0),0)=qs[i] by simp[z]];exact O _ (gi z)
  .rw[show qs.getD i ((0,0),0)=qs[i] by simp[z]];exact bn.mpr ⟨_,gi z,rfl⟩
  .obtain⟨y,J,rfl⟩:=bn.mp hb;obtain⟨_,o,_,_,g,_⟩:=O y J;exact br g
  .obtain⟨es,t,S,ob,f,pm,bq⟩:=x;have sub:∀x∈S,x∈qs:=λx L=>by
    obtain⟨y,J,e⟩:=bn.mp (bq x L);have iy:=(O y J).keep (g:=h') λo g=>W _ o g;have ix:=f.isp x L;rw[<-e] at ix;have:=zB (ix.2.inj iy.2);rw[show x=y from rh this e.symm];exact J
   refine⟨.ref s.heap.objs.size,_,I.laid (a:=s.heap.objs.size) (o:=ZK X.w s.heap.objs.size S) (t':=tk) W (aI _) ⟨⟨es,t,ob,f.toQ⟩,?_,λh1 h2 x1 e=>x1.keep e⟩,rfl,k _ S I.fresh f.nd sub λx L=>?_⟩
   .obtain⟨o,_,g,_⟩:=ob;exact⟨o,g⟩
   .obtain⟨i,z,e⟩:=so.mp L;exact pm.mem_iff.mpr ((Xg _).mpr ⟨i,z,by simp[z,e]⟩)
 rcases hs with hs | hs
 .exact Y (prsL I hs)
 .exact Y (prsT I hs)
def U3(X:Cx):List V->Hp->VK->Prop:=λxs H Q=>∃p J,xs=[.ref p]/\(H p=O0 (ZK X.w p J)∨((NS X.K H p (US J)∨NO X.K H p (US J))/\J.length<=60))/\AtP X H J/\(J.map (·.1)).Nodup/\∀l z,H l=W1->z.Perm J->(z.map λx=>Sb x.1).Pairwise (·<·)->Q (.ref l) (gq H l (.lst (US z)))
theorem U4:∀(qs:List (kc×Addr)),fc (US qs) (qs.map λx=>ba x.2)
 |[]=>.nil
 |x::r=>.cons rfl (U4 r)
theorem ZM{A:aT}{l:Addr}{T:String}{Q:List ac->ai->Prop}(U:T="list"∨T="tuple")(I:s.heap.get? l=O0 o)(L:o.cls=.type T)(J:o.data=.seq vs.toArray n)(hz:vs.length<=1000)(k:∀h',s.heap.objs.size<=h'.objs.size->(∀b o,s.heap.get? b=O0 o->h'.get? b=O0 o)->Q vs { s with heap:=h' }):ah (av prog w) A (sk (.ref l)) Q E s:=by
 unfold sk;refine ag (B5 (kK EQ (show ah _ _ (do again (.builtin "list.__iadd__" ⟨[<-xv [],.ref l],[]⟩)) _ _ s from ?_)));refine ag (uS (aw ⟨E7 _ (by decide +kernel),kK ER (show ah _ _ (y0 (.ref s.heap.objs.size) (.ref l) (.ref s.heap.objs.size)) _ _ { s with heap:=s.heap.push (qc "list" #[] 0) } from ?_)⟩));have z:(s.heap.push (qc "list" #[] 0)).get? l=O0 o:=bo _ I;unfold y0;refine ag (xh (T:=T) ⟨o,z,L⟩ ?_);rw[VI (by rcases U with rfl | rfl<;>simp)];refine ag (LV z J (ag (LV (xs:=#[]) (n:=0) (ce _ rfl) rfl ?_)));rw[WI .(1)];refine ag (PyProof.Rows.listUpdate_at (xs:=#[]) (n:=0) (ce _ rfl) rfl ?_ (fE _) (by simp only[Array.size_append,cE,nE,ia];omega));refine aw (show ah (av prog w) A (load s.heap.objs.size >>= _) Q E _ from ag (wa (PyProof.Rows.get?_update_seq (ce _ rfl) _) ?_));show ah _ _ (pure ((#[]:Array ac)++vs.toArray).toList) Q E _;rw[show ((#[]:Array ac)++vs.toArray).toList=vs by simp];refine aw (k _ (by rw[Heap.size_update,iO];exact lj _) λb o g=>?_);rw[Heap.get?_update_ne _ _ _ _ (bS (br g))];exact bo _ g
theorem QW(hc:X.calm=O1):D_ X (.builtin "sorted") (U3 X):=by
 intro π s σ H xs us Q I r h;obtain⟨p,O,rfl,J,T0,nd,k⟩:=h;obtain⟨u,rfl,ru⟩:=Ts r;cases ru;have W:=d8 I T0
 rcases J with J | ⟨J,hz⟩
 .obtain⟨x,_,_⟩:=(show Bg X.prog X.w H s.heap p (ZK X.w p O) from I.hok p _ J);have sz:O.length<=18:=let ⟨_,_,_,f⟩:=x;f.sz;refine ZJ (I.ok.hd hc) x W nd λL e l h' tk hL hS g S U=>?_;exact⟨.ref l,_,I.laid (a:=l) (o:=.lst (US L)) (t':=tk) U S ⟨by rw[aE,hL.length_eq,ia];omega,_,e,U4 L,g⟩,rfl,k l L (I.hok.fresh S) hL hS⟩
 .have go:∀{T:String}{o:Obj}{n:Nat},(T="list"∨T="tuple")->s.heap.get? p=O0 o->o.cls=.type T->o.data=.seq (O.map λx=>ba x.2).toArray n->ah (av X.prog X.w) X.A (call (.builtin "sorted") [.ref p]) (EP X π σ Q) X.xe s:=λ{T o n} hT ho N0 hd=>by
   refine ES ET EU EV (EW _) ?_;unfold eK.«sorted»;refine ag (m:=EZ "sorted" 1 1 _) (aw (ag (ZM hT ho N0 hd (by rw[aE];omega) λY S U=>?_)));refine ag (uS ?_ (by rw[aE,ia];omega));have gl:(Y.push { cls:=.type "list",data:=.seq (O.map λx=>ba x.2).toArray }).get? Y.objs.size=O0 (qc "list" (O.map λx=>ba x.2).toArray 0):=ce _ rfl;refine ag (wpAny_holding (iF F0 ⟨_,gl,rfl⟩ F3 (U0 gl (λx hx=>(W x hx).keep λo g=>bo _ (U _ o g)) nd .(0) λL2 p2 s2=>⟨_,rfl,?_⟩) (F4 _)));obtain⟨c,S0⟩:=F6 (out:=(L2.map λx=>ba x.2).toArray) gl;refine aw ⟨_,rfl,.ref Y.objs.size,_,I.laid (a:=Y.objs.size) (o:=.lst (US L2)) (t':=s.toks) (λb o g=>?_) S ⟨by rw[aE,p2.length_eq,ia];omega,_,c,U4 L2,S0⟩,rfl,k _ L2 (I.hok.fresh S) p2 s2⟩;have lb:=br (U b o g);rw[F7 (bS lb) (by rw[iO];exact mN lb)];exact bo _ (U b o g)
  have ei:∀{z:List ac},fc (US O) z->z=O.map λx=>ba x.2:=λ{z} r=>by
   have:=TQ (bs:=O.map (·.2)) (us:=z) (by rw[ca];exact r);rw[this,ca];rfl
  rcases J with J | J
  .obtain⟨z,r,Z,_⟩:=I.list J;obtain⟨o,g,c,m,d⟩:=Z.isList;exact go (.inl rfl) g c (by rw[<-ei r];exact d)
  .obtain⟨z,r,Z,_⟩:=I.tuple J;obtain⟨o,g,c,m,d⟩:=(show s.heap.IsTuple p z.toArray from Z);exact go (.inr rfl) g c (by rw[<-ei r];exact d)
end
def Xt(p:kc):List kc->List kc
 |[]=>[p]
 |q::r=>if Sb p<Sb q then p::q::r else if Sb p=Sb q then q::r else q::Xt p r
def Ah(ps:List kc):List kc:=ps.foldr Xt []
abbrev Pp (l:List kc):Prop:=(l.map Sb).Pairwise (·<·)
theorem U5{p x:kc}(z:Sz p):∀{l:List kc},(∀q∈l,Sz q)->(x∈Xt p l↔x=p∨x∈l)
 |[],_=>by simp[Xt]
 |q::r,h=>by
  have I:=U5 (x:=x) z (l:=r) λy J=>h y (by simp[J]);unfold Xt;split
  .simp
  .split
   .rename_i _ e;have:p=q:=du z (h q .(1)) e;subst this;simp
   .rw[bp,I,bp];constructor
    .rintro (a | a | a)
     .exact .inr (.inl a)
     .exact .inl a
     .exact .inr (.inr a)
    .rintro (a | a | a)
     .exact .inr (.inl a)
     .exact .inl a
     .exact .inr (.inr a)
theorem ZP{p:kc}(S:Sz p):∀{l:List kc},(∀q∈l,Sz q)->Pp l->Pp (Xt p l)
 |[],_,_=>by simp[Xt,Pp]
 |q::r,h,s=>by
  have L:∀y∈r,Sz y:=λy I=>h y (by simp[I]);have J:(∀y∈r,Sb q<Sb y)/\Pp r:=by
   rw[Pp,bb,kL] at s;exact⟨λy I=>s.1 _ (bn.mpr ⟨y,I,rfl⟩),s.2⟩
  have T:=ZP S L J.2;unfold Xt;split
  .rename_i c;rw[Pp,bb,kL];refine⟨λy I=>?_,s⟩;obtain⟨z,O,rfl⟩:=bn.mp I
   rcases bp.mp O with rfl | O
   .exact c
   .exact IE c (J.1 z O)
  .split
   .exact s
   .rename_i W U;rw[Pp,bb,kL];refine⟨λy I=>?_,T⟩;obtain⟨z,O,rfl⟩:=bn.mp I
    rcases (U5 S L).mp O with rfl | O
    .omega
    .exact J.1 z O
theorem QX:∀{ps:List kc},(∀p∈ps,Sz p)->Pp (Ah ps)/\∀x,x∈Ah ps↔x∈ps
 |[],_=>⟨by simp[Ah,Pp],λx=>by simp[Ah]⟩
 |p::r,h=>by
  have J:∀y∈r,Sz y:=λy z=>h y (by simp[z]);obtain⟨a,b⟩:=QX J;have hs:∀q∈Ah r,Sz q:=λq U=>J q ((b q).mp U);exact⟨ZP (h p .(1)) hs a,λx=>by show x∈Xt p (Ah r)↔_;rw[U5 (h p .(1)) hs,b,bp]⟩
theorem Xh:∀{l m:List kc},Pp l->Pp m->(∀x,x∈l↔x∈m)->l=m
 |[],[],_,_,_=>rfl
 |[],y::m,_,_,h=>XI ((h y).mpr .(1)) .(1)
 |x::l,[],_,_,h=>XI ((h x).mp .(1)) .(1)
 |x::l,y::m,a,b,h=>by
  rw[Pp,bb,kL] at a b;have S:∀z∈l,Sb x<Sb z:=λz O=>a.1 _ (bn.mpr ⟨z,O,rfl⟩);have b1:∀z∈m,Sb y<Sb z:=λz O=>b.1 _ (bn.mpr ⟨z,O,rfl⟩);have e:x=y:=by
   rcases bp.mp ((h x).mp .(1)) with z | z
   .exact z
   .rcases bp.mp ((h y).mpr .(1)) with w | w
    .exact w.symm
    .have:=b1 x z;have:=S y w;omega
  subst e;have:=Xh a.2 b.2 λz=>by
   have O:=h z;rw[bp,bp] at O;constructor
   .intro c
    rcases O.mp (.inr c) with d | d
    .subst d;have:=S z c;omega
    .exact d
   .intro c
    rcases O.mpr (.inr c) with d | d
    .subst d;have:=b1 z c;omega
    .exact d
  rw[this]
abbrev prT (p:kc):D:=.tup [.int (p.1:Int),.int (p.2:Int)]
def tssL(ds:List D):Option D:=(Sf ds).bind λps=>if ps.length<=17 then O0 (.tup ((Ah ps).map prT)) else W1
def tssD:D->Option D
 |.lst ds=>tssL ds
 |.tup ds=>tssL ds
 |_=>W1
def tslL(ds:List D):Option D:=(Sf ds).bind λps=>if ps.length<=17/\ps.Nodup then O0 (.tup ((Ah ps).map prT)) else W1
def tslD:D->Option D
 |.lst ds=>tslL ds
 |.tup ds=>tslL ds
 |_=>W1
section
variable {a:Expr}{fa:FE}
theorem NY{H:Hp}:∀{ks:List kc}{bs:List Addr},mh (λk c=>On X.K H c (k.map kV)) (SY ks) bs->(∀p∈ks,Sz p)->∃qs:List (kc×Addr),bs=qs.map (·.2)/\ks=qs.map (·.1)/\AtP X H qs
 |[],_,.nil,_=>⟨[],rfl,rfl,λx z=>by cases z⟩
 |k::ks,_,.cons r t,h=>by
  obtain⟨qs,O,L,J⟩:=NY t λp I=>h p (by simp[I]);refine⟨(k,_)::qs,by rw[bb,<-O],by rw[bb,<-L],λx z=>?_⟩
  rcases bp.mp z with rfl | z
  .exact⟨h k .(1),r⟩
  .exact J x z
def Mv{qs:List (kc×Addr)}(s:af H H')(h:AtP X H qs):AtP X H' qs:=λx I=>by
 obtain⟨a,b⟩:=h x I;refine⟨a,?_⟩
 rcases b with (z | ⟨o,z⟩) | z
 .exact .inl (.inl (s _ _ z))
 .exact .inl (.inr ⟨o,s _ _ z⟩)
 .exact .inr z
theorem uc{J:List (kc×Addr)}(W:G.K=X.K)(h:AtP X (be A H) J):bc G (be A H) (US J) ((J.map (·.1)).map prT):=by
 refine⟨by simp,λi x d z I=>?_⟩;rw[cb] at z;rw[ca,cb] at I;cases e:J[i]? with
 |none=>rw[e] at z;cases z
 |some y=>
  rw[e] at z I;cases z;cases I;obtain⟨_,t⟩:=h y (oS e);rw[<-W] at t;refine .tup (xs:=[.int (y.1.1:Int),.int (y.1.2:Int)]) t rfl λj x d z I=>?_
  match j,z,I with
  |0,z,I=>cases z;cases I;exact .int _
  |1,z,I=>cases z;cases I;exact .int _
  |j+2,z,_=>simp at z
def V8{qs z:List (kc×Addr)}{ps:List kc}(e:ps=qs.map (·.1))(W:∀p∈ps,Sz p)(U:(z.map λx=>Sb x.1).Pairwise (·<·))(J:∀x,x∈z.map (·.1)↔x∈ps):z.map (·.1)=Ah ps:=by
 obtain⟨I,S⟩:=QX W;refine Xh ?_ I λx=>by rw[J,S]
 rw[Pp,ca];exact U
def d9{I:Hp}{l:Addr}{z:List (kc×Addr)}{ps:List kc}{Q:VK}(W:G.K=X.K)(o:Pi G A σ H ρ)(S:af H I)(J:AtP X (be A I) z)(Y:I l=W1)(T:z.map (·.1)=Ah ps)(k:∀v H',af H H'->jl G (be A H') v (.tup ((Ah ps).map prT))->Q v H'):(∃p ys,[V.ref l]=[.ref p]/\((NS X.K (gq I l (.lst (US z))) p ys/\∀m,gq I l (.lst (US z)) m=W1->Q (.ref m) (gq (gq I l (.lst (US z))) m (.tup ys)))∨(NO X.K (gq I l (.lst (US z))) p ys/\Q (.ref p) (gq I l (.lst (US z)))))):=by
 refine⟨l,US z,rfl,.inl ⟨.of Ak,λm L=>k _ _ ?_ ?_⟩⟩
 .exact (S.trans (Al Y _)).trans (Al L _)
 .have O:af H (gq I l (.lst (US z))):=S.trans (Al Y _);refine Gb (o.mono O).live L ?_;rw[<-T];exact uc W (Mv (BP (Al Y _)) J)
theorem zJ{z:Str}{p q r I:Pos}(hu:X.A.units+64<bv)(hc:X.calm=O1)(hG:G.K=X.K)(hg:Gl X z)(hm:X.mg z=W1)(hv:d4 z=O0 (.type "tuple"))(Q2:Gl X x)(X1:X.mg x=W1)(N1:d4 x=O0 (.builtin "sorted"))(Y1:Gl X y)(U1:X.mg y=W1)(X0:d4 y=O0 (.type "set"))(ha:PU X G a fa)(hn:z≠"__name__":=by decide)(S2:(z==("__debug__":Str))=O2:=by decide)(S1:x≠"__name__":=by decide)(N0:(x==("__debug__":Str))=O2:=by decide)(P1:y≠"__name__":=by decide)(Y:(y==("__debug__":Str))=O2:=by decide)(he:ay [a] X.env=[(O2,eval a X.env)]:=by rfl)(Z:ay [.Call (.Name y q) [a] [] pos2] X.env=[(O2,eval (.Call (.Name y q) [a] [] pos2) X.env)]:=by rfl)(U:ay [.Call (.Name x p) [.Call (.Name y q) [a] [] pos2] [] I] X.env=[(O2,eval (.Call (.Name x p) [.Call (.Name y q) [a] [] pos2] [] I) X.env)]:=by rfl):
  PF X G (.Call (.Name z r) [.Call (.Name x p) [.Call (.Name y q) [a] [] pos2] [] I] [] pos) (uF tssD fa):=λA=>CT (HQ OD hg hm hv (Ca (MN (QW hc) Q2 X1 N1 (Ca (HQ (iZ hu hc) Y1 U1 X0 (Ca (@ha A) Ei he) P1 Y he rfl) Ei Z) S1 N0 Z rfl) Ei U) hn S2 U rfl)<|by
 rintro σ H Q ⟨ρ,d,o,e,k⟩
 obtain⟨dx,e1,e2⟩:=Gk e;refine⟨ρ,dx,o,e1,λv T s1 r1=>?_⟩;have S:∀(ds:List D) (J:Addr) (L:List V),tssL ds=O0 d->v=.ref J->(NS G.K T J L∨NO G.K T J L)->bc G (be A T) L ds->wX X [v] T λx2 H2=>U3 X [x2] H2 λx3 H3=>(∃p ys,[x3]=[.ref p]/\((NS X.K H3 p ys/\∀l,H3 l=W1->Q (.ref l) (gq H3 l (.tup ys)))∨(NO X.K H3 p ys/\Q (.ref p) H3))):=λds J L e3 ev hs rr=>by
  unfold tssL at e3;obtain⟨ps,ez,e4⟩:=yT.mp e3;split at e4
  .rename_i hz;cases e4;obtain⟨i5,bs,rfl,pr⟩:=TV rr ez;rw[hG] at pr;obtain⟨qs,eb,eq,at0⟩:=NY pr i5;have er:bs.map V.ref=US qs:=by rw[eb,ca];rfl
   have S0:AtP X T qs:=Mv Ao at0;refine⟨J,qs,by rw[ev],by rw[<-hG,<-er];exact hs,S0,by rw[eq,aE] at hz;exact hz,λl rs hl nd sub all=>⟨l,rs,rfl,.inl Ak,Mv (Al hl _) λx O=>S0 x (sub x O),nd,λm ts hm W T0=>?_⟩⟩;have s2:af H (gq T l (ZK X.w l rs)):=s1.trans (Al hl _);refine d9 (ps:=ps) hG o s2 (λx O=>Mv (BP (Al hl _)) at0 x (sub x (W.mem_iff.mp O))) hm (V8 eq i5 T0 λx=>?_) k;constructor
   .intro O;obtain⟨y,hy,rfl⟩:=bn.mp O;rw[eq];exact bn.mpr ⟨y,sub y (W.mem_iff.mp hy),rfl⟩
   .intro O;rw[eq] at O;obtain⟨y,hy,rfl⟩:=bn.mp O;obtain⟨z,hz,ez⟩:=bn.mp (all y hy);exact bn.mpr ⟨z,W.mem_iff.mpr hz,ez⟩
  .cases e4
 unfold tssD at e2;split at e2
 .obtain⟨J,L,ev,hs,r⟩:=r1.lst;exact S _ J L e2 ev (.inl hs) r
 .obtain⟨J,L,ev,hs,r⟩:=r1.tup;exact S _ J L e2 ev (.inr hs) r
 .cases e2
def zK{z:Str}{p r I:Pos}(hc:X.calm=O1)(hG:G.K=X.K)(hg:Gl X z)(hm:X.mg z=W1)(hv:d4 z=O0 (.type "tuple"))(N1:Gl X x)(X0:X.mg x=W1)(S0:d4 x=O0 (.builtin "sorted"))(ha:PU X G a fa)(hn:z≠"__name__":=by decide)(P1:(z==("__debug__":Str))=O2:=by decide)(T0:x≠"__name__":=by decide)(T:(x==("__debug__":Str))=O2:=by decide)(he:ay [a] X.env=[(O2,eval a X.env)]:=by rfl)(S:ay [.Call (.Name x p) [a] [] I] X.env=[(O2,eval (.Call (.Name x p) [a] [] I) X.env)]:=by rfl):
  PF X G (.Call (.Name z r) [.Call (.Name x p) [a] [] I] [] pos) (uF tslD fa):=λA=>CT (HQ OD hg hm hv (Ca (MN (QW hc) N1 X0 S0 (Ca (@ha A) Ei he) T0 T he rfl) Ei S) hn P1 S rfl)<|by
 rintro σ H Q ⟨ρ,d,o,e,k⟩
 obtain⟨dx,e1,Y⟩:=Gk e;refine⟨ρ,dx,o,e1,λv H1 s1 r1=>?_⟩;have O:∀(ds:List D) (J:Addr) (L:List V),tslL ds=O0 d->v=.ref J->(NS G.K H1 J L∨NO G.K H1 J L)->bc G (be A H1) L ds->U3 X [v] H1 λx3 Z=>(∃p ys,[x3]=[.ref p]/\((NS X.K Z p ys/\∀l,Z l=W1->Q (.ref l) (gq Z l (.tup ys)))∨(NO X.K Z p ys/\Q (.ref p) Z))):=λds J L e3 U hs rr=>by
  unfold tslL at e3;obtain⟨ps,ez,e4⟩:=yT.mp e3;split at e4
  .rename_i hz;cases e4;obtain⟨i5,bs,rfl,pr⟩:=TV rr ez;rw[hG] at pr;obtain⟨qs,eb,eq,at0⟩:=NY pr i5;have er:bs.map V.ref=US qs:=by rw[eb,ca];rfl
   have S1:AtP X H1 qs:=Mv Ao at0;have lz:qs.length<=17:=by have:=hz.1;rw[eq,aE] at this;exact this
   refine⟨J,qs,by rw[U],.inr ⟨by rw[<-hG,<-er];exact hs,by omega⟩,S1,by rw[<-eq];exact hz.2,λm ts hm W N0=>?_⟩;refine d9 (ps:=ps) hG o s1 (λx hx=>at0 x (W.mem_iff.mp hx)) hm (V8 eq i5 N0 λx=>?_) k;rw[eq];exact (W.map (·.1)).mem_iff
  .cases e4
 unfold tslD at Y;split at Y
 .obtain⟨J,L,U,hs,r⟩:=r1.lst;exact O _ J L Y U (.inl hs) r
 .obtain⟨J,L,U,hs,r⟩:=r1.tup;exact O _ J L Y U (.inr hs) r
 .cases Y
end
open PyProof.Rows hiding St
def mnN(val:Nat->Int):Nat->Int
 |0=>val 0
 |k+1=>if val (k+1)<mnN val k then val (k+1) else mnN val k
def d_(x y:D):Option D:=match x with
 |.lst ds=>(KH ds).map λO=>if O=[] then y else .int (mnN (λi=>O.getD i 0) (O.length-1))
 |_=>W1
def ie(a v:ac):nN "min" ⟨[a],[(dE "default",v)]⟩:=by unfold nN;kernel_rfl
theorem ZQ(val:Nat->Int):∀k,val (iA (λi j=>decide (val i<val j)) k)=mnN val k
 |0=>rfl
 |k+1=>by
  have z:=ZQ val k;unfold iA mnN
  by_cases h:val (k+1)<mnN val k
  .rw[VI (by rw[z];exact ZI h),VI h]
  .rw[WI (by rw[z];simpa using h),WI h];exact z
theorem V9{f g:Nat->Int}:∀{k:Nat},(∀i,i<=k->f i=g i)->mnN f k=mnN g k
 |0,h=>h 0 (aI _)
 |k+1,h=>by
  unfold mnN;rw[h (k+1) (aI _),V9 λi z=>h i (AM z)]
def mMin:Mm:=⟨"min","min.loop",.Lt,λi j=>decide (i<j),mnN,by decide,PySem.F.plain_min_loop,PySem.F.entry_min_loop,PySem.F.kind_min,PySem.F.plain_min,PySem.F.entry_min,ie,CmpOf.ints_lt,ZQ,V9⟩
section
variable {a b:Expr}{fa fb:FE}{p kpos:Pos}
def ud(T:X.calm=O1)(Z:G.K=X.K)(W:Gl X x)(L:X.mg x=W1)(I:d4 x=O0 (.builtin "min"))(Y:PU X G a fa)(U:PF X G b fb)(J:x≠"__name__":=by decide)(z:(x==("__debug__":Str))=O2:=by decide)(S:ay [a] X.env=[(O2,eval a X.env)]:=by rfl)(O:ii [⟨O0 (dE "default"),b,kpos⟩] X.env=[(O0 (dE "default"),eval b X.env)]:=by rfl):
  PF X G (.Call (.Name x p) [a] [⟨O0 (dE "default"),b,kpos⟩] pos) (bF d_ fa fb):=vy mMin T Z W L I Y U J z S O
end
def wZ(K:aS):R2:=λx y H Q=>∃a b xs z,x=.ref a/\y=.ref b/\NO K H a xs/\NO K H b z/\z≠[]/\xs.length+z.length<=sizeLine ∧
 (xs=[]->Q (.ref b) H)/\∀p,H p=W1->Q (.ref p) (gq H p (.tup (xs++z)))
def catU:D->D->Option D
 |.tup ds,.tup es=>if es≠[]/\ds.length+es.length<=1000 then O0 (.tup (ds++es)) else W1
 |_,_=>W1
section
theorem ue:NR X (i9 .Add) (wZ X.K):=by
 intro π s σ H x y v u Q I rx ry h;obtain⟨a,b,xs,ys,rfl,rfl,ha,hb,hy,hz,q1,q2⟩:=h;cases rx;cases ry;obtain⟨L,Y,p1,_⟩:=I.tuple ha;obtain⟨J,W,p2,_⟩:=I.tuple hb
 by_cases Z:L=[]
 .obtain⟨⟨cls,dd,T0,sl⟩,ho,hc,n,hd⟩:=id p1;obtain⟨⟨X0,N0,S0,U⟩,O,T,n2,S⟩:=id p2;simp only at hc hd T S;subst hc hd T S;exact AA ⟨_,ho,rfl⟩ ⟨_,O,rfl⟩ D8 D9 Da DA (DB _ _)
   (tuple_addW0 a b L.toArray J.toArray n n2 dd N0 sl U (by simp[Z])) ⟨ho,O,⟨.ref b,H,I,rfl,q1 (Y.nil_iff.mp Z)⟩⟩
 .refine HT.rM p1 p2 Z (λz=>XI (W.nil_iff.mp z) hy) (λz=>?_) (by rw[<-Y.length,<-W.length];exact hz);refine⟨.ref s.heap.objs.size,_,I.laid (t':=s.toks) (o:=.tup (xs++ys)) (λb ob q=>bo _ q) (aI _) ?_,rfl,q2 _ (I.hok.fresh (aI _))⟩;exact⟨by rw[eB];exact hz,_,Y.append W,DI _ _⟩
def oX:Ea G (wZ G.K) catU:=by
 intro A H x y dx dy d Q U rx I h k;unfold catU at h;split at h
 .rename_i ds es;split at h
  .rename_i W;cases h;obtain⟨l,T,rfl,Z,J⟩:=rx.tup;obtain⟨m,S,rfl,Y,O⟩:=I.tup;refine⟨l,m,T,S,rfl,rfl,Z,Y,λz=>W.1 ?_,by rw[J.1,O.1,ia];omega,λz=>?_,λp L=>k _ _ (Al L _) (Gb U L (J.append O))⟩
   .rw[z] at O;exact pw.mp O.1.symm
   .have:ds=[]:=by
     rw[z] at J;exact pw.mp J.1.symm
    rw[this,jp] at k
    rcases I with I | ⟨a,e,I⟩
    .exact k _ H (af.refl H) I
    .exact I.elim
  .cases h
 .cases h
end
section
variable {A:aT}
def NxOk(prog:cy)(w:bE)(s:ai)(it:Addr)(x:ac)(P:Heap->Prop):Prop:=∀(B:aT) (U:ac->ai->Prop) (R:ac->ai->Prop),(∀h1,ff it s.heap h1->P h1->R x { s with heap:=h1 })->ah (av prog w) B (BB (.ref it)) R U s
def uf{e:Addr}{x old:ac}{P:Heap->Prop}{Q:Option ac->ai->Prop}(he:mT s.heap e it i old)(L:e≠it)(nx:NxOk prog w s it x P)(st:∀g g',P g->(∀o,g.get? it=O0 o->g'.get? it=O0 o)->P g')(k:∀h',IsEnumOut h' e it ((i:Int)+1) x s.heap.objs.size->P h'->h'.get? s.heap.objs.size=O0 { cls:=.type "tuple",data:=.seq #[.int i s.toks,x] }->h'.objs.size=s.heap.objs.size+1->(∀b o,b≠e->b≠it->s.heap.get? b=O0 o->h'.get? b=O0 o)->Q (O0 (.ref s.heap.objs.size)) { s with heap:=h',toks:=s.toks+1 }):
  ah (av prog w) A (gI (.ref e)) Q E s:=by
 have ty:s.TypeIs (.ref e) "enumerate":=⟨_,he,rfl⟩;have le:e<s.heap.objs.size:=br he;unfold gI;refine ag (AR (rj (name:=dE "__next__") ty BC (iF BC ty LW ?_ (LX _))));obtain⟨T,U,Y,tk,S⟩:=s;show ah _ _ (qo (.ref e) 2 >>= _) _ _ _;refine ag (kq he rfl (x:=.ref it) rfl (ag (nx _ _ _ λW (J:ff it T W) p1=>?_)));have e1:mT W e it i old:=(J.2 e L).trans he;show ah _ _ (qo (.ref e) 3 >>= _) _ _ ⟨W,U,Y,tk,S⟩;refine ag (kq e1 rfl (x:=fN i) rfl ?_);show ah _ _ (qo (.ref e) 4 >>= _) _ _ ⟨W,U,Y,tk,S⟩;refine ag (kq e1 rfl (x:=.none) rfl ?_);show ah _ _ (mkInt i >>= _) _ _ ⟨W,U,Y,tk,S⟩;refine ag (wpAny_mkInt ?_);show ah _ _ (setField (.ref e) 3 (fN ((i:Int)+1)) >>= _) _ _ ⟨W,U,Y,tk+1,S⟩;refine ag (ze e1 .(1) λg2 (e2:mT g2 e it ((i:Int)+1) old) (I:ff e W g2)=>?_);show ah _ _ (setField (.ref e) 4 .none >>= _) _ _ ⟨g2,U,Y,tk+1,S⟩;refine ag (ze e2 .(1) λg3 (e3:mT g3 e it ((i:Int)+1) old) (z:ff e g2 g3)=>?_);show ah _ _ (newTuple [.int i tk,x] >>= _) _ _ ⟨g3,U,Y,tk+1,S⟩;refine ag (wpAny_newTuple ?_);have z3:g3.objs.size=T.objs.size:=by rw[z.1,I.1,J.1]
 obtain⟨g4,Z⟩:∃g4,g4=g3.push { cls:=.type "tuple",data:=.seq #[.int i tk,x] }:=⟨_,rfl⟩;have e4:mT g4 e it ((i:Int)+1) old:=Z▸bo _ e3;have t4:g4.get? T.objs.size=O0 { cls:=.type "tuple",data:=.seq #[.int i tk,x] }:=by rw[Z,<-z3];exact ce _ rfl
 have z4:g4.objs.size=T.objs.size+1:=by rw[Z,iO,z3]
 have k4:∀b o,b≠e->b≠it->T.get? b=O0 o->g4.get? b=O0 o:=λb o O bi q=>by
  rw[Z];exact bo _ ((z.2 b O).trans ((I.2 b O).trans ((J.2 b bi).trans q)))
 have p4:P g4:=st W g4 p1 λo q=>by
  rw[Z];exact bo _ ((z.2 it (ci L)).trans ((I.2 it (ci L)).trans q))
 show ah _ _ (LY (.ref e) >>= _) _ _ ⟨g3.push { cls:=.type "tuple",data:=.seq #[.int i tk,x] },U,Y,tk+1,S⟩;rw[<-Z,z3];clear Z e3 z e2 I e1 J p1 z3;unfold LY;refine ag (ag (kq e4 rfl (x:=.none) rfl (aw ?_)));simp only[TK];refine ag (sL (ag (kq e4 rfl (x:=old) rfl (ag (ze e4 .(1) λg5 (e5:mT g5 e it ((i:Int)+1) x) (T0:ff e g4 g5)=>?_)))));show ah _ _ (LZ (.ref e) (.ref T.objs.size) >>= _) _ _ ⟨g5,U,Y,tk+1,S⟩;unfold LZ;refine ag (ag (ze e5 .(1) λg6 (e6:IsEnumOut g6 e it ((i:Int)+1) x T.objs.size) (S0:ff e g5 g6)=>?_));refine ze e6 .(1) λg7 (e7:IsEnumOut g7 e it ((i:Int)+1) x T.objs.size) (N0:ff e g6 g7)=>?_;have up:∀b,b≠e->∀o,g4.get? b=O0 o->g7.get? b=O0 o:=λb O o q=>(N0.2 b O).trans ((S0.2 b O).trans ((T0.2 b O).trans q));refine ag (xD (aw ⟨_,rfl,aw (k g7 e7 (st g4 g7 p4 (up it (ci L))) (up _ (ol le) _ t4) (by rw[N0.1,S0.1,T0.1,z4]) λb o O bi q=>up b O o (k4 b o O bi q))⟩))
def zL{t:Addr}{us:Array ac}{x:ac}(z:s.heap.IsTupleIter it t i)(O:s.heap.IsTuple t us)(I:us[i]?=O0 x):NxOk prog w s it x (λh=>h.IsTupleIter it t (i+1)):=λB U R k=>by
 obtain⟨o,g,c,d⟩:=id z;obtain⟨L,J,_,S,dt⟩:=O;unfold BB;refine ag (rj (name:=dE "__next__") z.typeIs BD (iF BD z.typeIs M0 ?_ (M1 _)));show ah _ _ (qo (.ref it) 0 >>= _) _ _ s;refine ag (kq g d (x:=.ref t) rfl ?_);show ah _ _ (if (ba t==fF)=O1 then _ else _) _ _ s;rw[WI (show ¬ ((ba t==fF)=O1) from d6)];show ah _ _ (qo (.ref it) 1 >>= _) _ _ s;refine ag (kq g d (x:=.int i 0) rfl (show ah _ _ (xy (.ref t) >>= _) _ _ s from ag (nc J dt ?_)));simp only[g9,I];refine ag (EB g d .(1) (aw ⟨x,rfl,aw (k _ (xI ..) ?_)⟩));exact⟨_,nX _ g (Ee (uu d _)),(EA ..).trans c,by rw[uu d];simp[fN]⟩
theorem oY{t:Addr}{us:Array ac}(J:A.handled=W1)(z:s.heap.IsTupleIter it t i)(O:s.heap.IsTuple t us)(I:us[i]?=W1)(k:∀h' v,B1 it s.heap h'->(∃o,h'.get? v=O0 o/\o.cls=.type "StopIteration")->E (.ref v) { s with heap:=h' }):ah (av prog w) A (BB (.ref it)) Q E s:=by
 obtain⟨o,g,c,d⟩:=id z;obtain⟨S,L,_,T,dt⟩:=O;unfold BB;refine ag (rj (name:=dE "__next__") z.typeIs BD (iF BD z.typeIs M0 ?_ (M1 _)));show ah _ _ (qo (.ref it) 0 >>= _) _ _ s;refine ag (kq g d (x:=.ref t) rfl ?_);show ah _ _ (if (ba t==fF)=O1 then _ else _) _ _ s;rw[WI (show ¬ ((ba t==fF)=O1) from d6)];show ah _ _ (qo (.ref it) 1 >>= _) _ _ s;refine ag (kq g d (x:=.int i 0) rfl (show ah _ _ (xy (.ref t) >>= _) _ _ s from ag (nc L dt ?_)));simp only[g9,I];refine ag (sL (ag (EB g d .(1) ?_)));show ah _ _ (newExc (.type "StopIteration") [] >>= _) _ _ _;refine ag ?_;simp only[newExc,newTuple];refine ag (kD ?_ (by size_fits));refine ag (m:=AS _ _) (AO (a:=fF) (by first | rfl | (simp only[AS];rfl)) (kD ?_ (by size_fits)));simp only[raiseNew];refine ag (wpAny_handled ?_);rw[show A.in1.handled=W1 from J];exact ag (aw (wpAny_throw (k _ _ (((xI ..).extBut.push _).push _) ⟨_,ce _ rfl,rfl⟩)))
theorem ig{e t:Addr}{us:Array ac}{L:ac}{Q:Option ac->ai->Prop}(U:A.handled=W1)(I:mT s.heap e it i L)(z:s.heap.IsTupleIter it t i)(S:s.heap.IsTuple t us)(J:us[i]?=W1)(k:∀h',B1 it s.heap h'->Q W1 { s with heap:=h' }):ah (av prog w) A (gI (.ref e)) Q E s:=by
 have ty:s.TypeIs (.ref e) "enumerate":=⟨_,I,rfl⟩;unfold gI;refine ag (AR (rj (name:=dE "__next__") ty BC (iF BC ty LW ?_ (LX _))));show ah _ _ (qo (.ref e) 2 >>= _) _ _ _;refine ag (kq I rfl (x:=.ref it) rfl (ag (oY U z S J λh' v W O=>?_)));obtain⟨o,g,c⟩:=O;exact ag (sM (T:="StopIteration") (b:=O1) ⟨o,g,c⟩ isSubtype_stop (aw (k _ W)))
def ik(t:Addr)(us:Array ac)(n:Nat)(I:Option Addr)(sl:Array (Option ac)):Meets (eK.«enumerate.__new__» ⟨[.type "enumerate",.ref t],[]⟩) (λ_ R s=>s.heap.get? t=O0 { cls:=.type "tuple",dict:=I,data:=.seq us n,slots:=sl } ∧
  R (.ok (.ret (.ref (s.heap.push { cls:=.type "tuple_iterator",data:=.fields #[.ref t,.int 0 0] }).objs.size))) { s with heap:=(s.heap.push { cls:=.type "tuple_iterator",data:=.fields #[.ref t,.int 0 0] }).push { cls:=.type "enumerate",data:=.fields #[.none,.bool O2,.ref s.heap.objs.size,fN 0,.none,.none] } }):=.of_wp λJ w A R s h=>by
 obtain⟨O,U,Y,tk,L⟩:=s;obtain⟨g,h⟩:=h;have T:=sub_enumerate;have z:Heap.IsTuple (Shared.heap ⟨O,U,Y,tk,L⟩) t us:=⟨_,g,rfl,n,rfl⟩
 wp_walk using BE g
 refine wpAny_stack_any λS=>aw ?_;split
 .rename_i c _ _ _ _ _;cases (c==md "enumerate")
  .wp_walk using BE g,wb z
   exact⟨_,rfl,h⟩
  .wp_walk using BE g,wb z
   exact⟨_,rfl,h⟩
 .wp_walk using BE g,wb z
  exact⟨_,rfl,h⟩
theorem aj{t:Addr}{us:Array ac}(J:s.heap.IsTuple t us)(k:∀h',mT h' (s.heap.objs.size+1) s.heap.objs.size 0 .none->h'.IsTupleIter s.heap.objs.size t 0->h'.objs.size=s.heap.objs.size+2->(∀b o,s.heap.get? b=O0 o->h'.get? b=O0 o)->Q (.ref (s.heap.objs.size+1)) { s with heap:=h' }):
  ah (av prog w) A (call (.type "enumerate") [.ref t]) Q E s:=by
 obtain⟨⟨c,I,dt,Z⟩,g,S,n,L⟩:=J;obtain rfl:c=.type "tuple":=S;obtain rfl:dt=.seq us n:=L;refine callType_new F.called_enumerate .(2) (F.typeCall_enumerate_1 _) (F.newCall_enumerate_1 _) (λob=>F.args_object_init_2 ob _) F.entry_enumerate_new (ik t us n I Z) ⟨g,?_⟩;have O:(s.heap.push { cls:=.type "tuple_iterator",data:=.fields #[.ref t,.int 0 0] }).objs.size=s.heap.objs.size+1:=iO ..;show _/\_;rw[O];have z:mT ((s.heap.push { cls:=.type "tuple_iterator",data:=.fields #[.ref t,.int 0 0] }).push { cls:=.type "enumerate",data:=.fields #[.none,.bool O2,.ref s.heap.objs.size,fN 0,.none,.none] }) (s.heap.objs.size+1) s.heap.objs.size 0 .none:=by
  have:=ce (s.heap.push { cls:=.type "tuple_iterator",data:=.fields #[.ref t,.int 0 0] }) (o:={ cls:=.type "enumerate",data:=.fields #[.none,.bool O2,.ref s.heap.objs.size,fN 0,.none,.none] }) rfl
  rwa [O] at this
 exact⟨⟨_,z,rfl⟩,k _ z ⟨_,bo _ (ce _ rfl),rfl,rfl⟩ (by rw[iO,O]) λb o x=>bo _ (bo _ x)⟩
end
section
variable {a:Expr}{fa:FE}{ta:TA}{p:Pos}
def IteT(K:aS)(a:Addr):It:=
 ⟨λi H=>∃xs x,NO K H a xs/\xs[i]?=O0 x,λi H x z=>∃T y,H T=W1/\(∀xs,NO K H a xs->xs[i]?=O0 y)/\x=.ref T/\z=gq H T (.tup [.int i,y]),λi H=>∃xs,NO K H a xs/\xs.length<=i⟩
theorem ak{K:aS}(a it e:Addr)(N0:e≠it):
  XW P w K (.Tuple elts x1 tp) (IteT K a) [e,it] e (λi h=>(∃L,mT h e it ((i:Nat):Int) L)/\h.IsTupleIter it a i) where
 mem:=by simp
 obj:=λi h S b O=>by
  obtain⟨⟨L,U⟩,o,eo,c,d⟩:=S
  rcases bp.mp O with z | z
  .subst z;exact⟨_,U,λv z=>by
    have z':CB _=CC v:=z;cases z'⟩
  .have z:b=it:=by simpa using z
   subst z;exact⟨o,eo,λv z=>by rw[d] at z;cases z⟩
 keep:=λi h h' S k=>⟨let ⟨L,z⟩:=S.1;⟨L,k e .(1) _ z⟩,S.2.at λo z=>k it .(1) o z⟩
 item:=by
  intro X hP hw hK hc i π s σ H E I hf S hg;subst hP hw hK;obtain⟨⟨L,U⟩,T⟩:=S;obtain⟨xs,x,hq,hx⟩:=hg;obtain⟨T0,rv,p,hz⟩:=I.tuple hq;obtain⟨u,hu,ru⟩:=rv.get hx;obtain⟨f0,f1,f2,f3,f4,f5⟩:=hf e .(1);obtain⟨g0,g1,g2,g3,g4,g5⟩:=hf it .(1);have Z:e<s.heap.objs.size:=br U;have W:it<s.heap.objs.size:=by obtain⟨o,eo,_⟩:=id T;exact br eo
  refine uf U N0 (zL T p (x:=u) (by simpa using hu)) (λg g' q z=>q.at z) λh1 N1 Y X0 S1 kk=>?_;refine⟨_,rfl,wpAny_letOwnedTupleGo_enum (s:={ s with heap:=h1,toks:=s.toks+1 }) N1 λh2 S0 sb=>?_⟩;have hT:H s.heap.objs.size=W1:=I.hok.fresh (aI _);have I1:Inv X π σ (gq H s.heap.objs.size (.tup [.int i,x])) { s with heap:=s.heap.push { cls:=.type "tuple",data:=.seq #[.int i s.toks,u] } }:=
   I.laid (a:=s.heap.objs.size) (t':=s.toks) (λb u e=>bo _ e) (aI _) ⟨by show 2<=sizeLine;decide,[.int i s.toks,u],.cons ⟨_,rfl⟩ (.cons ru .nil),_,ce _ rfl,rfl,_,rfl⟩
  let hA:=(s.heap.push { cls:=.type "tuple",data:=.seq #[.int i s.toks,u] })
  have P1:s.heap.objs.size<h1.objs.size:=by omega
  obtain⟨oi,U1,_⟩:=id Y;have I2:Inv X π σ (gq H s.heap.objs.size (.tup [.int i,x])) { s with heap:=h2,toks:=s.toks+1 }:=by
   have fr:({ cls:=.type "enumerate",data:=.fields #[.none,.bool O2,.ref it,fN ((i:Nat):Int),.none,L] }:Obj).isFreed=O2:=rfl;have gm:=nX (λ_=>({ cls:=.type "enumerate",data:=.fields #[.none,.bool O2,.ref it,fN ((i:Nat):Int),.none,L] }:Obj)) S0 fr;have go:∀b,b≠e->(h2.update e (λ_=>({ cls:=.type "enumerate",data:=.fields #[.none,.bool O2,.ref it,fN ((i:Nat):Int),.none,L] }:Obj))).get? b=h2.get? b:=λb O=>lI _ _ (ci O);generalize h2.update e (λ_=>({ cls:=.type "enumerate",data:=.fields #[.none,.bool O2,.ref it,fN ((i:Nat):Int),.none,L] }:Obj))=hm at gm go;have k1:∀b o,b≠it->(s.heap.push { cls:=.type "tuple",data:=.seq #[.int i s.toks,u] }).get? b=O0 o->hm.get? b=O0 o:=λb o O z=>by
    by_cases J:b=e
    .rcases EH z with ⟨q,_⟩ | q
     .rw[J] at q;exact XI q (bS Z)
     .rw[J] at q ⊢;have:s.heap.get? e=_:=U;rw[this] at q;cases q;exact gm
    .rw[go b J];refine (sb.2 b J).trans ?_
     rcases EH z with ⟨q,rfl⟩ | q
     .rw[q];exact X0
     .exact kk b o J O q
   have I3:=L2.Inv.turned (t':=s.toks+1) (it:=it) (h':=hm) I1 k1 (by rw[Am (bS W)];exact g0) g1 g3 g4 g5;exact L2.Inv.turned (s:={ s with heap:=hm,toks:=s.toks+1 }) (t':=s.toks+1) (it:=e) (h':=h2) I3 (λb o O z=>by have z':hm.get? b=O0 o:=z;rw[go b O] at z';exact z') (by rw[Am (bS Z)];exact f0) f1 f3 f4 f5
  refine⟨.ref s.heap.objs.size,_,I2,rfl,⟨_,x,hT,λys hy=>by rw[I.tuple_inj hy hq];exact hx,rfl,rfl⟩,⟨⟨u,by simpa using S0⟩,Y.at λo z=>(sb.2 it (ci N0)).trans z⟩,λb O=>?_⟩
  rcases bp.mp O with z | z
  .rw[z,Am (bS Z)];exact f0
  .have z:b=it:=by simpa using z
   rw[z,Am (bS W)];exact g0
 done:=by
  intro X hP hw hK hc i π s σ H E I hf S hg;subst hP hw hK;obtain⟨⟨L,U⟩,T⟩:=S;obtain⟨xs,hq,hx⟩:=hg;obtain⟨T0,rv,p,hz⟩:=I.tuple hq;obtain⟨g0,g1,g2,g3,g4,g5⟩:=hf it .(1);have hl:=rv.length;exact ig (I.ok.hd hc) U T p (by simp;omega) λh' eb=>⟨rfl,I.turned (t':=s.toks) (λb o O e=>eb b o O e) g0 g1 g3 g4 g5⟩
 self:=λ_ _ _ _ _ S h=>let ⟨L,z⟩:=S.1;M2 z h
def zM(K:aS)(J:TA):TI:=λI H R=>J I H λvs z=>∃a,vs=[.ref a]/\(∃xs,NO K z a xs)/\R (IteT K a) z
theorem oZ(hg:Gl X "enumerate")(hm:X.mg "enumerate"=W1)(ha:PA X [a] ta)(hs:ay [a] X.env=[(O2,eval a X.env)]:=by rfl):PI X (.Tuple elts x1 tp) (.Call (.Name "enumerate" p) [a] [] pos) (zM X.K ta):=by
 intro U s T H R I h;refine PyProof.Rows.Call_ (Qs I hg hm UM (CD (lu (ha pos U s T H _ I h) λus J q0=>?_) hs rfl));obtain⟨vs,Y,L,r1,q1⟩:=q0;obtain⟨l,e,⟨xs,hq⟩,q⟩:=q1;subst e;cases r1 with
 |cons r Z=>
  cases Z;cases r;obtain⟨N0,rv,p,hz⟩:=L.tuple hq;refine aj p λh' W O S0 kp=>?_;refine M2 W ?_;have I2:Inv X U T Y { J with heap:=h' }:=L.kept (t':=J.toks) kp;refine⟨J.heap.objs.size+1,[J.heap.objs.size+1,J.heap.objs.size],_,_,Y,rfl,I2,ak l J.heap.objs.size (J.heap.objs.size+1) (IN _),⟨⟨_,W⟩,O⟩,λb hb=>?_,q⟩;have S:J.heap.objs.size<=b:=by
   rcases bp.mp hb with z | z
   .rw[z];exact lj _
   .have z:b=J.heap.objs.size:=by simpa using z
    rw[z];exact aI _
  exact L.fpOk S (L.hok.fresh S)
def enIT(f:FE):FI:=λρ=>match f ρ with | some (.tup ds)=>O0 (enD 0 ds) | _=>W1
def ir(h:NO G.K F1 q xs)(r:bc G F2 xs ds):Src G (IteT G.K q) (enD 0 ds) F1 F2 where
 go:=λi H s I=>⟨xs,xs[i]'(by rw[r.1];rwa [TF] at I),EY s h,by rw[TF] at I;simp[r.1,I]⟩
 yld:=λi H x Y d s W y=>by
  obtain⟨T,z,U,Z,rfl,rfl⟩:=y;obtain⟨e,O,rfl⟩:=dU 0 ds i d W;have S:jl G F2 z e:=r.2 i z e (Z xs (EY s h)) O;refine⟨Al U _,λB L J=>?_⟩;rw[mS];exact Gb L U (.cons (.int _) (.cons (S.mono J) .nil))
 stop:=λi H s I=>⟨xs,EY s h,by rw[TF] at I;rw[r.1];exact I⟩
def iu(W:G.K=X.K)(S:Gl X "enumerate")(O:X.mg "enumerate"=W1)(h:PF X G a fa)(hs:ay [a] X.env=[(O2,eval a X.env)]:=by rfl):Sa X G O2 (.Tuple elts x1 tp) (.Call (.Name "enumerate" p) [a] [] pos) (enIT fa):=λA=>UJ (oZ S O (Ca (@h A) Ei hs) hs)<|by
 rintro Z H R ⟨z,ds,o,e,k⟩
 unfold enIT at e;split at e
 .rename_i U T;cases e;refine⟨z,_,o,T,λv Y J L=>?_⟩;cases L with
  |tup h l r=>
   rename_i b I;refine⟨b,rfl,⟨I,by rw[<-W];exact EY Ao h⟩,?_⟩;rw[<-W];exact k _ Y J (ir h ⟨l,r⟩)
 .cases e
end
section
variable {a:Expr}{fa:FE}{p:Pos}
def enIB(f:FE):FI:=λρ=>match f ρ with | some (.lst ds)=>O0 (enD 0 ds) | some (.tup ds)=>O0 (enD 0 ds) | _=>W1
end
def K7(P:cy)(w:bE)(m:Addr)(xs:List (List (List Key)×Addr×ac)):Heap->Prop:=λh=>∃o es ep,h.get? m=O0 o/\o.ExactDict/\o.data=.dict es ep/\es.toList=xs.map (C0 (PV.Tf (Av P w)))/\(xs.map (·.1)).Nodup
structure Pres (P:cy) (w:bE) (K:aS) (f:Str) (H:Hp) (a b m:Addr) (F:List (List Key)->Int) (xs:List (List (List Key)×Addr×ac)) (ks:List (List Key)):Prop where
 at_:∃C dx fs,H a=O0 (.ins C dx fs)/\NW K C/\Bf K C f/\fs.lookup f=O0 (.ref m)
 sm:(m==hU)=O2
 ext:H m=O0 (.ext (K7 P w m xs))
 al:∀q∈xs,NM K H q.1 q.2.1/\Wp q.1/\cc (.int (F q.1)) q.2.2
 ky:NM K H ks b
 pr:(dA xs ks).isSome=O1
def spP(P:cy)(w:bE)(K:aS)(f:Str):Sp:=λvs H Q _=>∃a b m F xs ks,vs=[.ref a,.ref b]/\Pres P w K f H a b m F xs ks/\Q (.int (F ks)) H
def tP(P:cy)(w:bE)(K:aS)(f:Str):TS:=λD z H=>∃a b m F xs ks,z[0]?=O0 (O0 (.ref a))/\z[1]?=O0 (O0 (.ref b))/\Pres P w K f H a b m F xs ks/\D.rt (.int (F ks)) H
section
def RX{m:Addr}{xs:List (List (List Key)×Addr×ac)}(I:Inv X π σ H s)(h:Pres X.prog X.w X.K f H a b m F xs ks):s.heap.DictOfH (nK X) m xs:=by
 obtain⟨⟨o,L,O,g,J,d,e,z⟩,_,_⟩:=(show Bg X.prog X.w H s.heap m (.ext (K7 X.prog X.w m xs)) from I.hok m _ h.ext);exact⟨o,L,O,g,J,d,e,λq U=>N5 I (h.al q U).1,z⟩
theorem ou{m:Addr}(W:X.N[i]?=O0 x)(L:XU X.env.scope x)(T:(x==("__debug__":Str))=O2)(J:(x==("__classdict__":Str))=O2)(U:gT (.Name x p1) f X.env (eval (.Name x p1) X.env)=eval (.Name x p1) X.env)(I:Inv X π σ H s)(h1:σ[i]?=O0 (O0 (.ref a)))(h:∃C dx fs,H a=O0 (.ins C dx fs)/\NW X.K C/\Bf X.K C f/\fs.lookup f=O0 (.ref m))(k:∀tk,Q (.ref m) { s with toks:=tk }):ah (av X.prog X.w) X.A (eval (.Attribute (.Name x p1) f p2) X.env) Q E s:=by
 obtain⟨C,dx,fs,Y,c,n,l⟩:=h;refine Wg U (JQ W L T J I h1 λu r=>?_);obtain rfl:u=ba a:=r;obtain⟨mA,O,r,_,_,_⟩:=Nq I.hok Y;obtain⟨u,S,z⟩:=OR.some_of (v:=.ref m) (o:=mA f) (by rw[<-l];exact r f);obtain rfl:u=ba m:=z;exact Wf I.kIn O (c.get f) c.hd n S (Qv (v:=.ref m) rfl) (k _)
def ug{Y W:Pos}(hu:X.A.units+64<bv)(hN:X.N[0]?=O0 x)(hv:XU X.env.scope x)(T:X.N[1]?=O0 y)(Z:XU X.env.scope y)(hm:fw .NotIn (.Attribute (.Name x p2) f p3)=O2:=by rfl)(S0:NoSl (.Name y p13):=by intro _ _;rfl)(hd:(x==("__debug__":Str))=O2:=by decide)(J:(x==("__classdict__":Str))=O2:=by decide)(z:(y==("__debug__":Str))=O2:=by decide)(O:(y==("__classdict__":Str))=O2:=by decide)(hb:∀p,gT (.Name x p) f X.env (eval (.Name x p) X.env)=eval (.Name x p) X.env:=by intro _;rfl):
  UP X [.If (.Compare (.Name y p1) [.NotIn] [.Attribute (.Name x p2) f p3] p4) body [] p10,.Return (O0 (.Subscript (.Attribute (.Name x p11) f p12) (.Name y p13) Y)) W] (tP X.prog X.w X.K f):=by
 rintro π s σ H D I ⟨a,b,m,F,xs,ks,h0,h1,h,k⟩
 refine kX (w9 (t5 (JQ T Z z O I h1 λu r=>ou hN hv hd J (hb _) I h0 h.at_ λtk=>?_) hm));obtain rfl:u=ba b:=r;have I1:=I.tok tk;refine LD (knd:=nK X) (by show X.A.units+1+1<bv;omega) (N5 I1 h.ky) h.sm (RX I1 h) (jI ?_);rw[h.pr];show ah _ _ (jS [] X.env) _ _ _;refine kA ?_;have S:∀tk,Inv X π σ H { s with toks:=tk }:=λtk=>I.tok tk;refine kX (lu (?_:ah (av X.prog X.w) X.A (exec (.Return (O0 (.Subscript (.Attribute (.Name x p11) f p12) (.Name y p13) Y)) W) X.env) (SP X π D) X.xe _) λfl s1 q=>?_)
 .refine A6 (bx EF.lookup S0 (ou hN hv hd J (hb _) (S _) h0 h.at_ λL=>JQ T Z z O (S L) h1 λu r=>⟨(RX (S L) h).typeIs,?_⟩));obtain rfl:u=ba b:=r;exact di (F:=F) .(0) (S L) h.ky (RX (S L) h) h.al h.pr λu N0 ru=>⟨.int (F ks),σ,H,S N0,ru,k⟩
 .cases fl with
  |next=>
   obtain⟨U,H2,I3,q⟩:=q;exact Jq (X:=X) π s1 U H2 D I3 q
  |ret v=>exact q
  |brk=>exact q
  |cont=>exact q
def fn_P{K:aS}{base:Heap}{f:Addr}{k:Nat}{J:Str}(F:Fun K x qual st f fd)(S:am N ps (Ab st))(Y:ps.length=2)(U:∀(cdv:ac) (A:aT) (z:List Env) (s:ai) (H:Hp) (E:XK),Room k (A.deeper (fR qual (Ab st) s.heap.objs.size f cdv))->UP (Qb CX0 P w K mg base N qual (Ab st) f cdv A z s H E).nox (Bo st) (tP P w K J)):
  gn P w K mg base CX0 (k+1) f fd ps (spP P w K J):=by
 refine F.ok S (λL H Q E h=>?_) (λcdv A z s H L Q E T h=>?_)
 .obtain⟨a,b,m,F,I,O,rfl,_⟩:=h;rw[Y];rfl
 .obtain⟨a,b,m,F,I,O,rfl,h,q⟩:=h;exact⟨_,U cdv A z s H E T,a,b,m,F,I,O,rfl,rfl,h,q⟩
def memB(i:Nat)(f:Str)(j:Nat)(ft:FT)(c z:Str)(fr:FE):FS:=λρ=>match uF (fk f) (vF i) ρ,(vF j ρ).bind Sj,ft ρ with
 |some (.mem F),O0 ps,O0 O1=>fx fr ρ
 |some (.mem F),O0 ps,O0 O2=>if F (SY ps)=0/\(vF i ρ).map (Ck c z)=O0 O1 then O0 (.rt (.int 0) ρ) else W1
 |_,_,_=>W1
def ZR{K:aS}{m:Addr}{o:HO}(I:∀u,H m=O0 u->¬ Tu u)(h:NM K H ks b):NM K (gq H m o) ks b:=by
 have T:∀{c:Addr}{xs:List V},On K H c xs->On K (gq H m o) c xs:=λ{c xs} z=>by
  rcases z with (z | ⟨u,z⟩) | z
  .exact .inl (.inl (by rw[Am (λe=>I (.tup xs) (by rw[<-e];exact z) trivial)];exact z))
  .exact .inl (.inr ⟨u,by rw[Am (λe=>I (.frz u (.tup xs)) (by rw[<-e];exact z) trivial)];exact z⟩)
  .exact .inr z
 obtain⟨bs,L,J⟩:=h;exact⟨bs,T L,Paired.mapP J λ_ _ z=>T z⟩
theorem ZS{m:Addr}{o u:HO}(h:H m=O0 u):gq (gq H m o) m u=H:=by
 funext c;unfold gq;split
 .rename_i e;rw[e,h]
 .rfl
theorem o6{L:Str}{sf:Stmt}{Q2:List Str}{k0:Nat}{P1:Expr}{fr:FE}{q1 q2 q3 q4 q5:Pos}{jj:Nat}{pl:Sem Bool}{d:Mx X.K C L qual sf Q2}(hu:X.A.units+64<bv)(hG:G.K=X.K)(N3:∀c C,G.cl c=O0 C->NW X.K C/\Bf X.K C f)(hc:G.cl c=O0 C)(hN:X.N[i]?=O0 x)(hv:XU X.env.scope x)(N1:X.N[j]?=O0 y)(S0:XU X.env.scope y)(ht:Sn X G P1 ft)(F2:gn X.prog X.w X.K X.mg X.base CX0 k0 d.f d.fd Q2 (spP X.prog X.w X.K f))(hr:Room k0 X.A)(X2:UR X G (.Return (O0 (.Call (.Attribute (.Name x q1) L q2) [.Name y q3] [] q4)) q5) (fx fr))(hs:eP (.Constant (.int 0) jj p9) (O0 (.Subscript (.Attribute (.Name x p5) f p6) (.Name y p7) p8)) p10.line X.env=pure O2:=by rfl)(hm:fw .NotIn (.Attribute (.Name x p2) f p3)=O2:=by rfl)(hd:(x==("__debug__":Str))=O2:=by decide)(X0:(x==("__classdict__":Str))=O2:=by decide)(T0:(y==("__debug__":Str))=O2:=by decide)(T:(y==("__classdict__":Str))=O2:=by decide)(hb:∀p,gT (.Name x p) f X.env (eval (.Name x p) X.env)=eval (.Name x p) X.env:=by intro _;rfl)(T2:ay [.Name y q3] X.env=(O2,eval (.Name y q3) X.env)::ay [] X.env:=by rfl)(P5:(da q4 (ay [] X.env)).any (·.1)=O2:=by rfl)(S1:eval (.Call (.Attribute (.Name x q1) L q2) [.Name y q3] [] q4) X.env=(do
      let ov <-eval (.Name x q1) X.env
      nh q2.atName
      let (f,first) <-lh [ov] (oB ov L pl)
      rf q4 f first (da q4 (ay [.Name y q3] X.env)) (kB q4 (ii [] X.env))):=by rfl):
    RY X G [.If (.BoolOp .And [.Compare (.Name y p1) [.NotIn] [.Attribute (.Name x p2) f p3] p4,.UnaryOp .Not P1 p11] p12) [.Assign [.Subscript (.Attribute (.Name x p5) f p6) (.Name y p7) p8] (.Constant (.int 0) jj p9) p10] [] p13,.Return (O0 (.Call (.Attribute (.Name x q1) L q2) [.Name y q3] [] q4)) q5] (memB i f j ft c L fr):=by
  rintro A0 He Z s Y H D I ⟨ρ,o,⟨A,w⟩,e,k⟩
  unfold memB at e;split at e
  . rename_i F ps ef ek et
    refine Ad (oG hu hG N3 hN hv N1 S0 ht hs hm hd X0 T0 T hb) (Ae X2) (A0:=A0) He Z s Y H D I ⟨ρ,o,⟨A,w⟩,?_,k⟩;unfold cx memZ;rw[ef,ek,et];simp only[true_or,TK];exact e
  . rename_i F ps ef ek et
    split at e
    . rename_i hF
      obtain⟨hF,N0⟩:=hF;cases e;obtain⟨dk,f8,P7⟩:=yT.mp ek;obtain⟨m,fm⟩:=oE (X:=X) hG N3 w.ok ef;obtain⟨b,U1,mk,kin⟩:=Mt (X:=X) hG w.ok f8 P7;obtain⟨od,eo,N0⟩:=ku.mp N0;have Y2:∃a C' dx fs,Y[i]?=O0 (O0 (.ref a))/\H a=O0 (.ins C' dx fs)/\NW X.K C'/\Bf X.K C' f/\fs.lookup f=O0 (.ref m)/\C'=C/\fs.lookup L=W1:=by
        have hz:ρ[i]?=O0 (.fz od):=by
          unfold vF at eo;split at eo
          . rename_i z hz;cases eo;exact hz
          . cases eo
        obtain⟨v,g1,g2⟩:=w.ok.fz i od hz;obtain⟨a,C',dx,fs,a1,a2,a3,a4,a5⟩:=fm.at_;cases od with
        |ob c' gs=>
          simp only[Ck,eI,SK,sg] at N0;obtain⟨rfl,hn⟩:=N0;cases g2 with
          | @ob a' C2 N9 _ r9 _ t1 t2 t3 t4=>
            rw[a1] at g1;cases g1;have Y1:=Ao _ _ t2;rw[a2] at Y1;cases Y1;rw[hc] at t1;cases t1;exact⟨a,C,dx,fs,a1,a2,a3,a4,a5,rfl,Nz t3 hn⟩
        |_=>simp[Ck] at N0
      obtain⟨a,C',dx,fs,a1,a2,a3,a4,a5,rfl,a6⟩:=Y2;have hQ:∀(O:Hp) (s':ai) (J:List (List (List Key)×Addr×ac)),af H O->Inv X Z Y O s'->s'.heap.DictOfH (nK X) m J->(∀q∈J,NM X.K O q.1 q.2.1/\Wp q.1/\cc (.int (F q.1)) q.2.2)->(dA J (SY ps)).isSome=O1 ->
          ah (av X.prog X.w) X.A (jS [.Return (O0 (.Call (.Attribute (.Name x q1) L q2) [.Name y q3] [] q4)) q5] X.env) (SP X Z D) X.xe s':=λO s' J S I' dd al pr=>by
        have U:O m=O0 (.mem F X.K):=S _ _ fm.mem;have S2:∀u,O m=O0 u->¬ Tu u:=λu e z=>by rw[U] at e;cases e;exact z
        obtain⟨U2,_⟩:=aW I' U;obtain⟨o',es,ep,g,ex,dt,ee,is,nd⟩:=id dd;have ph:K7 X.prog X.w m J s'.heap:=⟨o',es,ep,g,ex,dt,ee,nd⟩;have W:Inv X Z Y (gq O m (.ext (K7 X.prog X.w m J))) s':=I'.write (x:=m) (e:=m) (o:=.ext (K7 X.prog X.w m J)) (h':=s'.heap) (t':=s'.toks) (by rw[U];exact trivial) (.inl rfl) (λ_ _ _ z=>z) ⟨o',g⟩
          ⟨ph,⟨o',g⟩,(by rintro h1 h2 ⟨o,es,ep,z1,z2⟩ kk;exact ⟨o,es,ep,kk _ z1,z2⟩)⟩
        have P3:gq O m (.ext (K7 X.prog X.w m J)) a=O0 (.ins C' dx fs):=by
          rw[Am (λe=>by have:=S _ _ a2;rw[e,U] at this;cases this)];exact S _ _ a2
        have P2:Pres X.prog X.w X.K f (gq O m (.ext (K7 X.prog X.w m J))) a b m F J (SY ps):=⟨⟨C',dx,fs,P3,a3,a4,a5⟩,U2,Ak,λq hq=>⟨ZR S2 (al q hq).1,(al q hq).2⟩,ZR S2 (JF S mk),pr⟩;have S4:=Wh (pl:=pl) (Zr hN hv hd X0) a3 d.me F2 hr d.B .nil Ry (Ca (Zr N1 S0 T0 T) Ei T2) T2 P5 S1 Z s' Y _ (λv H3=>v=.int 0/\H3=gq O m (.ext (K7 X.prog X.w m J))) W ⟨_,a1,a,dx,fs,rfl,P3,a6,_,U1,a,b,m,F,J,SY ps,rfl,P2,by rw[hF],rfl⟩;have one:ah (av X.prog X.w) X.A (exec (.Return (O0 (.Call (.Attribute (.Name x q1) L q2) [.Name y q3] [] q4)) q5) X.env) (SP X Z D) X.xe s':=by
          refine A6 (lu S4 λu s1 q=>?_);obtain⟨v,H3,I3,ru,ev,eH⟩:=q;subst ev eH;obtain⟨⟨o4,r6,P6,z1,z2,z3,z4,z5⟩,_,_⟩:=(show Bg X.prog X.w _ s1.heap m (.ext (K7 X.prog X.w m J)) from I3.hok m _ Ak);have I4:=I3.write (x:=m) (e:=m) (o:=.mem F X.K) (h':=s1.heap) (t':=s1.toks) (by rw[Ak];exact trivial) (.inl rfl) (λ_ _ _ z=>z) ⟨o4,z1⟩ (by
            rw[ZS U];exact⟨U2,J,al,o4,r6,P6,z1,z2,z3,z4,z5⟩)
          rw[ZS U] at I4;exact⟨.int 0,Y,O,I4,ru,k (.int 0) Y O A (w.mono S) (.int 0)⟩
        refine kX (lu one λfl s1 q=>?_);cases fl with
        |next=>
          obtain⟨S3,H2,W,q⟩:=q;exact Jq (X:=X) Z s1 S3 H2 D W q
        |ret v=>exact q
        |brk=>exact q
        |cont=>exact q
      have put:∀(O:Hp) (s':ai),af H O->Inv X Z Y O s'->ah (av X.prog X.w) X.A (jS [.Assign [.Subscript (.Attribute (.Name x p5) f p6) (.Name y p7) p8] (.Constant (.int 0) jj p9) p10] X.env) (λfl s'=>fl=.next/\∃H2 J,af H H2/\Inv X Z Y H2 s'/\s'.heap.DictOfH (nK X) m J/\(∀q∈J,NM X.K H2 q.1 q.2.1/\Wp q.1/\cc (.int (F q.1)) q.2.2)/\(dA J (SY ps)).isSome=O1) X.xe s':=λO s' S I'=>by
        refine kX (AF (C7 ?_) hs);have W:=I'.tok (s'.toks+1);refine O9 hN hv hd X0 (hb _) W (fm.mono S) λX1=>JQ N1 S0 T0 T (W.tok X1) U1 λu r=>?_;obtain rfl:u=ba b:=r;refine WZ (F:=F) .(0) (W.tok X1) (S _ _ fm.mem) (JF S mk) kin (by rw[hF];exact⟨_,rfl⟩) λY3 s2 I3 u8 P8 P4=>?_;exact kA ⟨rfl,O,Y3,S,I3,u8,P8,P4⟩
      refine kX (lu (Q:=λfl s'=>fl=.next/\∃H2 J,af H H2/\Inv X Z Y H2 s'/\s'.heap.DictOfH (nK X) m J/\(∀q∈J,NM X.K H2 q.1 q.2.1/\Wp q.1/\cc (.int (F q.1)) q.2.2)/\(dA J (SY ps)).isSome=O1) (w9 (tf (t5 (JQ N1 S0 T0 T I U1 λu r=>O9 hN hv hd X0 (hb _) I fm λtk=>?_) hm))) λfl s1 q=>?_)
      . obtain rfl:u=ba b:=r
        refine RV (F:=F) .(0) (I.tok tk) fm.mem mk λJ N4 dd al=>jI ?_;have W:=(I.tok tk).tok N4;cases pr:(dA J (SY ps)).isSome with
        |true=>
          show ah _ _ (jS [] X.env) _ _ _;exact kA ⟨rfl,H,J,af.refl H,W,dd,al,pr⟩
        |false=>
          show ah _ _ (oj _ _ _) _ _ _;refine tf (Cb (lu (@ht A Z _ Y H (λb H1=>af H H1/\b=O2) W ⟨ρ,_,w.ok,et,λH1 s1=>⟨s1,rfl⟩⟩) λb s1 q0=>?_));obtain⟨H1,I1,S,eb⟩:=q0;subst eb;refine C9 ?_;show ah _ _ (jS [_] X.env) _ _ _;exact put H1 s1 S I1
      . obtain⟨rfl,H2,J,S,W,dd,al,pr⟩:=q
        exact hQ H2 s1 J S W dd al pr
    . cases e
  . cases e
end
def gxL(K:aS)(l:List (Str×Addr)):Gx:={ K:=K,cl:=λc=>l.lookup c }
section
variable {K:aS}{a b:Str}{C1:Addr}{l:List (Str×Addr)}
def ao:(gxL K ((a,C)::l)).cl a=O0 C:=by
 show bP a ((a,C)::l)=O0 C;rw[bX,NL]
def aq(e:(b==a)=O2)(h:(gxL K l).cl b=O0 C):(gxL K ((a,C1)::l)).cl b=O0 C:=by
 show bP b ((a,C1)::l)=O0 C;rw[bX,e];exact h
def FlOk(K:aS)(l:List (Str×Addr))(x:Str):Prop:=∀c C,l.lookup c=O0 C->NW K C/\Bf K C x
def fl_n:FlOk K [] x:=λ_ _ h=>by cases h
def fl_c(S:NW K C)(n:fA K (.ref C) x=O0 W1)(h:FlOk K l x):FlOk K ((a,C)::l) x:=λc I e=>by
 rw[bX] at e;split at e
 .cases e;exact⟨S,n⟩
 .exact h _ _ e
def K8(X:K.In h)(f:FlOk K l x):∀c I,(gxL K l).cl c=O0 I->NW K I/\Bf K I x:=λc I h=>f c I h
def kxL{g:Addr}{n:Nat}{z:Array ac}{xs:List Str}(X:K.In h)(N:h.Ns gy mg)(a:B3 K gy x=O0 (O0 (.ref g)))(I:K.lookup g=O0 ⟨.type "tuple",od,.seq z n,osl⟩)(hz:z.size<=sizeLine)(r:fc (xs.map V.str) z.toList):Kx (gxL K l) mg x (.tup (xs.map .str)):=⟨g,si X N a,h_ I hz r⟩
end
end PV
namespace PV
open PySem PySem.Spec L2 EX
open PyProof.Rows hiding St
def seeO(z:Mu):D->D
 |.ob c L=>.ob c (L.map λp=>(p.1,seeM z p.2))
 |d=>seeM z d
def Hw(I:Mu):Slot->Slot
 |.fz d=>.fz (seeO I d)
 |z=>z
section
def o7(o:Na G A0 He Hb A σ H ρ μ){v:V}{d:D}(r:jl G (be A H) v d):jl G (be (A.filter λa=>decide (a∉uj μ)) H) v (seeO μ d):=by
 cases d with
 |ob c S=>
  cases r with
  |ob O L T J=>
   refine .ob O (DW (λa I=>(dS.mp I).1) _ _ L) (by rw[T,ca];rfl) λi x d U z=>?_;rw[ca,cb] at z;cases q:S[i]? with
   |none=>rw[q] at z;cases z
   |some p=>
    rw[q] at z;cases z;exact XX o (J i x p.2 U (by rw[cb,q];rfl))
 |_=>exact XX o r
theorem Na.lendO(o:Na G A0 He Hb A σ H ρ μ):Pi G (A.filter λa=>decide (a∉uj μ)) σ H (ρ.map (Hw μ)):=by
 have k:=o.lend;have TR:∀{i:Nat}{d:D},(ρ.map (Hw μ))[i]?=O0 (.ow d)->(ρ.map (Uu μ))[i]?=O0 (.ow d):=λ{i d} O=>by
  rw[cb] at O ⊢;cases q:ρ[i]? with
  |none=>rw[q] at O;cases O
  |some y=>
   rw[q] at O;cases y with
   |fz d=>cases O
   |ow d=>cases O;rfl
   |un=>cases O
 refine⟨by rw[aE];exact o.w.ok.len,k.live,λi d O=>?_,λi d O=>k.ow i d (TR O),λi j d e a I z=>k.inj i j d e a (TR I) (TR z)⟩;rw[cb] at O;cases q:ρ[i]? with
 |none=>rw[q] at O;cases O
 |some y=>
  rw[q] at O;cases y with
  |fz J=>
   cases O;obtain⟨v,q1,q2⟩:=o.w.ok.fz i J q;exact⟨v,q1,o7 o q2⟩
  |ow d=>cases O
  |un=>cases O
end
def scD:D->Bool
 |.non=>O1
 |.bl _=>O1
 |.int _=>O1
 |.str _=>O1
 |_=>O2
def lewD:D->Bool
 |.tup ds=>ds.all scD
 |d=>scD d
def o8{d:D}(h:scD d=O1)(r:jl G H v d):jl G H' v d:=by
 cases d with
 |non=>cases r;exact .non
 |bl b=>cases r;exact .bl b
 |int b=>cases r;exact .int b
 |str b=>cases r;exact .str b
 |_=>cases h
def zN{d:D}(L:∀a xs,a∈A->¬ Rd (be B H) a (.tup xs))(h:lewD d=O1)(r:jl G (be B H) v d):jl G (be A H) v d:=by
 cases d with
 |tup W=>
  cases r with
  | @tup a xs _ I S O=>
   refine .tup ?_ S λi x d U J=>o8 (eS.mp h d (oS J)) (O i x d U J)
   rcases I with I | I
   .have T:a∉A:=λz=>L a xs z I;refine .inl (I.imp (λq=>?_) λ⟨o,q⟩=>⟨o,?_⟩)
    .rw[A_ T];exact Ao _ _ q
    .rw[A_ T];exact Ao _ _ q
   .exact .inr I
 |_=>exact o8 h r
def lnX(f:FE):FXM:=λρ z K=>∃d,f (ρ.map (Hw z))=O0 d/\lewD d=O1/\K d z
def wg(g:FG)(h:FXM):FM:=λρ J K=>h ρ J λd I=>∃z,g d ρ=O0 z/\K (.nx z) I
def mutE(J:FE)(g:D->List D->Option (D×D))(fs:FA):FXM:=λρ z K=>∃a ds c v I,J ρ=O0 (.adr a)/\fs ρ=O0 ds/\z.lookup a=O0 c/\g c ds=O0 (v,I)/\K v (putA a I z)
def o9(c m:Str)(g:GM)(I:FE)(fs:FA):FXM:=λρ z K=>∃o ds,I ρ=O0 o/\Ck c m o=O1/\fs ρ=O0 ds/\g (o::ds) z K
section
variable {a c ob:Expr}{fa fo:FE}{es:List Expr}{fs:FA}{h:FXM}
theorem uh{a:Addr}{d:D}(t:Nd G A H a d):¬ Rd H a (.tup xs):=λz=>by
 cases d with
 |lst J=>obtain⟨I,q,_⟩:=t;rcases z with z | ⟨o,z⟩<;>(rw[q] at z;cases z)
 |dk J=>obtain⟨I,q,_⟩:=t;rcases z with z | ⟨o,z⟩<;>(rw[q] at z;cases z)
 |dt J=>obtain⟨I,q,_⟩:=t;rcases z with z | ⟨o,z⟩<;>(rw[q] at z;cases z)
 |ob c L=>obtain⟨C,dx,I,q,_⟩:=t;rcases z with z | ⟨o,z⟩<;>(rw[q] at z;cases z)
 |_=>exact t
def Mw(ha:PF X G a fa):PMX X G a (lnX fa):=λA0 He S s O H Q I ⟨ρ,J,K,⟨A,Hb,w⟩,⟨d,e1,fl,q⟩,k⟩=>
 @ha (A.filter λa=>decide (a∉uj J)) S s O H Q I ⟨_,d,w.lendO,e1,λv L T U=>by
  have Y:=w.mono T;refine k v L d J A Hb q Y (zN (λa xs hA z=>?_) fl U)
  by_cases y:a∈uj J
  .obtain⟨d',W⟩:=nM y;exact uh (Y.top _ W) (z.imp (λq=>Ao _ _ q) (by rintro ⟨o,q⟩;exact ⟨o,Ao _ _ q⟩))
  .have Z:a∈A.filter λa=>decide (a∉uj J):=dS.mpr ⟨hA,ZI y⟩;have n:be (A.filter λa=>decide (a∉uj J)) L a=W1:=by unfold be;rw[VI Z]
   rcases z with z | ⟨o,z⟩<;>(rw[n] at z;cases z)⟩
def o_{g:FG}(hg:PGD X G tg g)(ha:PMX X G a h)(hs:Co [tg] a pos.line X.env=pure O2:=by rfl)(hw:Ct [tg] a X.env=pure W1:=by rfl)(h1:(i8 [tg] X.env).map (·.2)=[mB tg X.env]:=by rfl):PSM X G (.Assign [tg] a pos) (wg g h):=by
 rintro A0 He T s J H D I ⟨W,μ,K,ok,e,k⟩
 have U:PG X tg (λv J H Q=>∃B O,tGD G B O g v J H Q):=(by rintro T s J H v u Q I r ⟨B,O,q⟩;exact @hg B O T s J H v u Q I r q);refine jP (@ha A0 He) U hs hw h1 T s J H D I ⟨W,μ,_,ok,e,λv H' d Z A Hb q0 w r=>?_⟩;obtain⟨L,e2,q⟩:=q0;obtain⟨O,w1,lf⟩:=w.lift;exact⟨_,_,A,W,d,L,w1,r,e2,(by rintro z S ⟨Y,w'⟩;exact k _ _ q z S ⟨Y,O,lf Y z S L w'⟩)⟩
def pA{name:Str}{T id:String}{r:V->List V->Hp->VK->Prop}{gm:D->List D->Option (D×D)}(pa:PlainAttrs T)(S:E8 T name id)(W:typeOf (.builtin id)=pure (.type "method_descriptor"))(hm:MtM X id r)(sn:SndM G r gm)(tv:∀(A:List Addr) (H:Hp) (l:Addr) (c:D) (ds:List D) (vc:D×D),gm c ds=O0 vc->Nd G A H l c->tyV X.K T (.ref l) H)(ho:PF X G ob fo)(ha:To X G (a::es) fs)(J:gT ob name X.env (eval ob X.env)=eval ob X.env:=by rfl)(L:((da pos (ay (a::es) X.env)).all (λx=>!x.1)&&(kB pos (ii [] X.env)).all (λx=>x.1.isSome)&&decide ((a::es).length+([]:List mE).length+(if ([]:List mE).isEmpty then 0 else 1)<30))=O1:=by rfl)(z:(apos.endLine==pos.line)=O1:=by rfl)(hs:ay (a::es) X.env=(O2,eval a X.env)::ay es X.env:=by rfl)(Z:(da pos (ay es X.env)).any (·.1)=O2:=by rfl):
  PMX X G (.Call (.Attribute ob name apos) (a::es) [] pos) (mutE fo gm fs):=by
 rintro A0 He π s σ H Q I ⟨ρ,μ,K,⟨A,Hb,w⟩,⟨l,ds,c,v,c',e0,e1,hl,e2,q⟩,k⟩
 have U:=PY hl;refine vW pa S W hm (@ho A) (@ha A) J L z hs Z π s σ H Q I ⟨ρ,.adr l,w.w.ok,e0,λx H0 s0 r0=>?_⟩;cases r0;have O:=w.mono s0;refine⟨tv _ _ _ _ _ _ e2 (O.top _ U),ρ,ds,O.w.ok,e1,λvs H1 s1 r1=>?_⟩;have Y:=O.mono s1;exact sn A H1 l vs c ds v c' Q Y.w.ok.live (w.inA (Ms U)) (Y.top _ U) r1 e2 λvv H' sx t rv=>k vv H' v _ A _ q (Y.wr (Ms U) sx t) rv
def pB(L:PF X G ob fo)(O:To X G [a] fs)(I:gT ob "append" X.env (eval ob X.env)=eval ob X.env:=by rfl)(J:((da pos (ay [a] X.env)).all (λx=>!x.1)&&(kB pos (ii [] X.env)).all (λx=>x.1.isSome)&&decide ([a].length+([]:List mE).length+(if ([]:List mE).isEmpty then 0 else 1)<30))=O1:=by rfl)(z:(apos.endLine==pos.line)=O1:=by rfl)(hs:ay [a] X.env=[(O2,eval a X.env)]:=by rfl):PMX X G (.Call (.Attribute ob "append" apos) [a] [] pos) (mutE fo appM fs):=
 pA JI JJ JO Qy nU y_ L O I J z hs rfl
theorem ZV{k:Nat}{c:Str}{d:Mx X.K C m qual st ps}{g:GM}{pl:Sem Bool}(Z:G.cl c=O0 C)(cl:NW X.K C)(F:gn X.prog X.w X.K X.mg X.base CX0 k d.f d.fd ps (spM G g))(hr:Room k' X.A)(ho:PF X G ob fo)(ha:To X G (a::es) fs)(O:k<=k':=by omega)(J:ay (a::es) X.env=(O2,eval a X.env)::ay es X.env:=by rfl)(L:(da pos (ay es X.env)).any (·.1)=O2:=by rfl)(ht:eval (.Call (.Attribute ob m apos) (a::es) [] pos) X.env=(do
   let ov <-eval ob X.env
   nh apos.atName
   let (f,first) <-lh [ov] (oB ov m pl)
   rf pos f first (da pos (ay (a::es) X.env)) (kB pos (ii [] X.env))):=by rfl):
  PMX X G (.Call (.Attribute ob m apos) (a::es) [] pos) (o9 c m g fo fs):=by
 rintro A0 He π s σ H Q I ⟨S,μ,K,⟨A,Hb,w⟩,⟨W,ds,e0,z,e1,e2⟩,k⟩
 refine Wh (@ho A) cl d.me F (hr.mono O) d.B .nil Ry (@ha A) J L ht π s σ H Q I ⟨S,W,w.w.ok,e0,λv H1 U r1=>?_⟩;cases W with
 |ob c' gs=>
  simp only[Ck,eI,SK,sg] at z;obtain⟨rfl,hn⟩:=z;cases r1 with
  |ob hC h1 Y r2=>
   rw[Z] at hC;cases hC;refine⟨_,_,_,rfl,Ao _ _ h1,Nz Y hn,S,ds,w.w.ok.mono U,e1,λvs H2 T r3=>?_⟩;refine nQ ((w.mono U).mono T) ?_ e2 k;rw[fI];exact .cons (jl.mono (.ob Z h1 Y r2) (BP T)) r3
 |_=>simp[Ck] at z
end
def plE(L:List (Str×D)):Ef:=L.map λp=>(p.1,O2,p.2)
theorem tu.last{G:Gx}{A0 A:List Addr}{H:Hp}{x:Addr}{f:Str}{d:D}:∀{gs:List (Str×D)}{fs:List (Str×V)}{as:List Addr},tu G A0 A H x fs (plE gs++[(f,O1,d)]) as->∃vs b,fs=vs++[(f,.ref b)]/\vs.map (·.1)=gs.map (·.1)/\bc G (be A H) (vs.map (·.2)) (gs.map (·.2))/\b∈A/\b∉A0/\b≠x/\Nd G A H b d
 |[],fs,as,h=>by
  cases h with
  |ow L z T I t r=>
   cases r;exact⟨[],_,rfl,rfl,.nil,L,z,T,t⟩
 | (g,O)::gs,fs,as,h=>by
  cases h with
  |pl J r=>
   obtain⟨vs,b,rfl,z,T,I⟩:=tu.last r;exact⟨(g,_)::vs,b,rfl,by simp[z],.cons J T,I⟩
theorem ZW{G:Gx}{H:Hp}{v:V}{d:D}:∀{vs:List V}{ds:List D},bc G H vs ds->jl G H v d->bc G H (vs++[v]) (ds++[d])
 |[],ds,r,h=>by
  rw[xS r.1.symm];exact .cons h .nil
 |x::vs,[],r,h=>by cases r.1
 |x::vs,y::ds,r,h=>by
  obtain⟨z,J,e,I,O⟩:=r.uncons;cases e;exact .cons I (ZW O h)
theorem VY.openL{x:Addr}{d:D}(o:VY G c A0 He x A σ H ρ (plE gs++[(f,O1,d)])):
  ∃b,He b=W1/\b≠x/\af He H/\Nd G (b::A0) H b d/\jl G (be (b::A0) H) (.ref x) (.ob c (gs++[(f,.adr b)])):=by
 obtain⟨C,dx,fs,as,S,O,T⟩:=o.ob;obtain⟨J,b,rfl,W,U,Y,n0,I,t⟩:=tu.last T;have sub:∀a∈b::A0,a∈A:=λa L=>by
  rcases bp.mp L with z | z
  .rw[z];exact Y
  .exact o.w.sub a z
 refine⟨b,(o.w.fr b Y).resolve_left n0,I,o.w.same,t.sub sub,.ob (dx:=dx) (fs:=J++[(f,.ref b)]) O ?_ (by simp[W]) ?_⟩
 .rw[A_]
  .exact S
  .intro z
   rcases bp.mp z with z | z
   .exact I z.symm
   .exact o.x0 z
 .rw[dP,dP];exact (ZW (U.mono (DW sub)) (.adr b)).2
def tEM(G:Gx)(c f:Str)(A0:List Addr)(J:Hp)(x:Addr)(g:Pc):TS:=λD S H=>∃ρ L r O d,EOkS G c A0 J x S H ρ L/\g ρ L=O0 r/\r.2=plE O++[(f,O1,d)]/\∀I z b,J b=W1->b≠x->af J z->Nd G (b::A0) z b d->jl G (be (b::A0) z) (.ref x) (.ob c (O++[(f,.adr b)]))->D.nx I z
def PSIM(X:Cx)(G:Gx)(c f:Str)(st:List Stmt)(g:Pc):Prop:=∀⦃A0⦄ He x,UP X st (tEM G c f A0 He x g)
def pC:PSIM X G c f [] nilE:=by
 rintro A0 He x J s z H D I ⟨ρ,O,r,Z,d,⟨A,o⟩,e,L,k⟩
 cases e;have L:O=plE Z++[(f,O1,d)]:=L;subst L;obtain⟨b,Y,W,U,T,S⟩:=o.openL;exact Jq J s z H D I (k z H b Y W U T S)
def RZ{hQ:List Stmt}{g O:Pc}(h1:PSE X G c st g)(h2:PSIM X G c f hQ O):PSIM X G c f (st::hQ) (Em g O):=by
 rintro T S x Y s W H D I ⟨J,L,r,fs,d,o,e,er,k⟩
 refine MJ (@h1 T S x) (@h2 T S x) Y s W H D I ?_;unfold Em at e;cases z:g J L with
 |none=>simp[z] at e
 |some q=>
  simp only[z,dL] at e;exact⟨J,L,q,o,z,λU H' Z=>⟨q.1,q.2,r,fs,d,Z,e,er,k⟩⟩
def spIM(G:Gx)(c f:Str)(g:Addr->List D->Option Ef):Sp:=λvs H Q _=>∃A x z ds L d C dx,vs=.ref x::z/\(∀a∈A,Nt (H a))/\x∉A/\H x=O0 (.ins C dx [])/\G.cl c=O0 C/\bc G (be (x::A) H) z ds/\g x ds=O0 (plE L++[(f,O1,d)]) ∧
 ∀I b,Ml x H I->H b=W1->Nd G (b::A) I b d->jl G (be (b::A) I) (.ref x) (.ob c (L++[(f,.adr b)]))->Q .non I
def ABH{base:Heap}{f0:Str}{f:Addr}{k:Nat}{b:Pc}(F:Fun G.K x qual st f fd)(S:am N ps (Ab st))(hl:ps.length<=N.length)(Y:∀(cdv:ac) (A:aT) (I:List Env) (s:ai) (H:Hp) (E:XK),Room k (A.deeper (fR qual (Ab st) s.heap.objs.size f cdv))->PSIM (Qb CX0 P w G.K mg base N qual (Ab st) f cdv A I s H E).nox G c f0 (Bo st) b):
  gn P w G.K mg base CX0 (k+1) f fd ps (spIM G c f0 (SV N.length ps.length b)):=by
 refine F.ok S (λvs H Q E h=>?_) (λcdv A I s H vs Q E hr h=>?_)
 .obtain⟨A,x,L,O,gs,d,C,dx,rfl,U,W,Z,hc,r,e,_⟩:=h;unfold SV at e;split at e
  .rename_i hz;rw[ck,r.1];exact hz
  .cases e
 .obtain⟨A1,x,L,O,gs,d,C,dx,rfl,U,W,Z,hc,r,e,k⟩:=h;unfold SV at e;split at e
  .rename_i hz;have T:∀a∈x::A1,Nt (H a):=λa J=>by
    rcases bp.mp J with z | z
    .rw[z,Z];exact Nt.ins
    .exact U a z
   have r':bc G (be (x::A1) H) (.ref x::L) (.adr x::O):=.cons (.adr x) r;obtain⟨B,w⟩:=Mf (N:=N) T r' (by rw[ck,r.1];omega);cases e1:b (Mq N.length x O) [] with
   |none=>simp[e1] at e
   |some q=>
    simp only[e1,iq] at e;have er:=cS e;have hzz:=Y cdv A I s H E hr;refine⟨_,@hzz A1 (be [x] H) x,Mq N.length x O,[],q,gs,d,?_,e1,er,λN0 H' y hy ny s' t rv=>k H' y (λb o Y ho=>s' b o (by rw[A_ (by simpa using Y)];exact ho)) (by rw[A_ (by simpa using ny)] at hy;exact hy) t rv⟩;refine⟨B,⟨Ao,λa J=>w.sub a (cw _ J),λa J=>?_,λa J=>?_,w.ok,λi d a h _=>XI h (Ce (HW _ _) i d),λy d _ h=>XI h (Ce (HW _ _) 0 d)⟩,HW _ _,w.sub x df,W,rfl,C,dx,[],[],Z,hc,.nil⟩
    .rcases w.fr a J with z | z
     .rcases bp.mp z with z | z
      .right;unfold be;rw[VI (by simp[z])]
      .exact .inl z
     .right;unfold be;split
      .rfl
      .exact z
    .rw[A_ (λz=>W (by simp at z;rw[<-z];exact J))];exact (U a J).ne
  .cases e
def mkM(c f:Str)(g:Addr->List D->Option Ef)(fs:FA):FXM:=λρ z K=>∃ds L d,fs ρ=O0 ds/\(∀x,g x ds=O0 (plE L++[(f,O1,d)]))/\∀p,p∉uj z->K (.ob c (L++[(f,.adr p)])) ((p,d)::z)
def pD{a:Expr}{es:List Expr}{fs:FA}{p:Pos}{k:Nat}{f:Addr}{g:Addr->List D->Option Ef}{cn fl:Str}(X0:G.cl cn=O0 C)(M:Mk X.K C f)(F:gn X.prog X.w X.K X.mg X.base CX0 k f fd ps (spIM G cn fl g))(hr:Room (k+1) X.A)(hg:Gl X x)(hm:X.mg x=O0 (.ref C))(J:MU X.K fd ps [])(ha:To X G (a::es) fs)(T0:(x==("__debug__":Str))=O2:=by decide)(he:ay (a::es) X.env=(O2,eval a X.env)::ay es X.env:=by rfl)(Z:(da pos (ay es X.env)).any (·.1)=O2:=by rfl):
  PMX X G (.Call (.Name x p) (a::es) [] pos) (mkM cn fl g fs):=by
 rintro A0 He π s σ H Q I ⟨ρ,μ,K,⟨A,Hb,w⟩,⟨ds,gs,d,e1,O,q⟩,k⟩
 refine bj M F hr hg hm J .nil Ry (@ha A) T0 he Z π s σ H Q I ⟨ρ,ds,w.w.ok,e1,λvs S s1 rv=>λy dx U S0 N0=>?_⟩;have T:af S (gq (gq S dx (.own y)) y (.ins C dx [])):=(Al S0 _).trans (Al (by rw[Am (ci N0)];exact U) _);have w1:=w.mono s1;have L:=w1.w.ok.live;refine⟨A,y,vs,ds,gs,d,C,dx,by rw[fI],λb J=>?_,λz=>(L y z).ne U,Ak,X0,rv.mono (JC T U),O y,λH' b sx J t W=>⟨rfl,?_⟩⟩
 .exact (L b J).mono λu e=>T _ _ e
 .have s2:af S H':=λc u hc=>sx c u (λz=>by rw[z,U] at hc;cases hc) (T _ _ hc);have N1:S b=W1:=by
   cases e:S b with
   |none=>rfl
   |some u=>rw[T _ _ e] at J;cases J
  obtain⟨_,Y,m⟩:=w1.new s2 N1 t;exact k _ H' _ _ _ _ (q b Y) m W
end PV
namespace K66
open PySem L2 PV
abbrev cs (x:Str):List Nat:=x.cps.toList
def LET:Str:="abcdefghijklmnopqrstuvwxyz"
def IsL(x:Str):Prop:=∀c∈cs x,c∈cs LET
def KEPT:List Str:=["not","and","or","some","all"]
structure Wd (x:Str):Prop where
 lo:1<=x.length
 hi:x.length<=8
 isL:IsL x
 kept:x∉KEPT
structure Wl where
 n:Nat
 ms:List (Str×List Nat)
 ts:List (Str×List (Nat×Nat))
abbrev iN (t:Nat):D:=.int (t:Int)
abbrev pN (q:Nat×Nat):D:=.tup [.int (q.1:Int),.int (q.2:Int)]
def lM(l:List Nat):D:=.lst (l.map iN)
def lT(l:List (Nat×Nat)):D:=.lst (l.map pN)
def eM(J:List (Str×List Nat)):List (Key×D):=J.map λp=>(.inr p.1,lM p.2)
def eT(z:List (Str×List (Nat×Nat))):List (Key×D):=z.map λp=>(.inr p.1,lT p.2)
def kM(l:List Nat):D:=.dk (l.map λ(t:Nat)=>((.inl (t:Int):Key),.bl O1))
def kT(l:List (Nat×Nat)):D:=.dt (l.map λq=>([(.inl (q.1:Int):Key),.inl (q.2:Int)],.bl O1))
def oM(J:List (Str×List Nat)):List (Key×D):=J.map λp=>(.inr p.1,kM p.2)
def oT(z:List (Str×List (Nat×Nat))):List (Key×D):=z.map λp=>(.inr p.1,kT p.2)
def bm(W:Wl):D:=.ob "World" [("size",.int W.n),("marked",.dk (oM W.ms)),("tied",.dk (oT W.ts))]
structure la (W:Wl):Prop where
 n5:W.n<=5
 m3:W.ms.length<=3
 t3:W.ts.length<=3
 mw:∀p∈W.ms,Wd p.1
 tw:∀p∈W.ts,Wd p.1
 nd:(W.ms.map (·.1)++W.ts.map (·.1)).Nodup
 ml:∀p∈W.ms,p.2.Nodup/\p.2.length<=100/\∀t∈p.2,t<W.n
 tl:∀p∈W.ts,p.2.Nodup/\p.2.length<=100/\∀q∈p.2,q.1<W.n/\q.2<W.n
def wd(W:Wl):D:=.lst [.int (W.n:Int),.dk (eM W.ms),.dk (eT W.ts)]
def lN(z:List Nat):D:=.lst (z.map iN)
abbrev Pr:=Nat×Nat
def mk(W:Wl)(w:Str)(i:Nat):Bool:=match W.ms.find? (λp=>p.1=w) with | some p=>decide (i∈p.2) | none=>O2
def tk(W:Wl)(w:Str)(i j:Nat):Bool:=match W.ts.find? (λp=>p.1=w) with | some p=>decide ((i,j)∈p.2) | none=>O2
abbrev mw (W:Wl):List Str:=W.ms.map (·.1)
abbrev tw (W:Wl):List Str:=W.ts.map (·.1)
def QZ(W V:Wl)(q:Pr):Bool:=(mw W).all λw=>mk W w q.1==mk V w q.2
def KY(W V:Wl)(p q:Pr):Bool:=(tw W).all λw=>tk W w p.1 q.1==tk V w p.2 q.2
def ZY(W V:Wl)(p q:Pr):Bool:=(decide (p.1=q.1)==decide (p.2=q.2))&&(KY W V p q&&KY W V q p)
def UX(W V:Wl)(ps:List Pr)(q:Pr):Bool:=(QZ W V q&&KY W V q q)&&ps.all λp=>ZY W V p q
def NN(n:Nat)(xs:List Nat):List Nat:=(bg n).filter λt=>decide (t∉xs)
def MO(W V:Wl):Nat:=max W.n V.n+1
def Pf(l:List Nat):Nat:=l.foldr max 0
def stp(W V:Wl)(R:List Pr->Nat)(ps:List Pr):Nat:=
 let fs:=NN W.n (ps.map (·.1))
 let Z:=NN V.n (ps.map (·.2))
 let rw:=λq:Pr=>if UX W V ps q then R (Ah (ps++[q])) else 0
 min (MO W V) (1+((fs.map λf=>Pf (Z.map λs=>rw (f,s)))++Z.map λs=>Pf (fs.map λf=>rw (f,s))).foldr min (MO W V))
def rkN(W V:Wl):Nat->List Pr->Nat
 |0,_=>0
 |n+1,ps=>stp W V (rkN W V n) ps
def Pw(W V:Wl)(ps:List Pr):Bool:=ps.all λp=>(QZ W V p&&KY W V p p)&&ps.all (ZY W V p)
def MQ(W V:Wl)(ps:List Pr):Nat:=if Pw W V ps then rkN W V 6 ps else 0
def unk1:List Key->Pr
 |[.inl i,.inl j]=>(i.toNat,j.toNat)
 |_=>(0,0)
def FW(W V:Wl)(ks:List (List Key)):Int:=(MQ W V (ks.map unk1):Nat)
open Classical in
noncomputable def FF(a b:D):List (List Key)->Int:=if h:∃x:Wl×Wl,a=bm x.1/\b=bm x.2 then FW (choose h).1 (choose h).2 else λ_=>0
noncomputable def Phi(ρ:Rho):Option (List (List Key)->Int):=match vF 1 ρ,vF 2 ρ with
 |some a,O0 b=>O0 (FF a b)
 |_,_=>W1
def V_(_:List D)(d:D):Prop:=d=.bl O1
open PySem.Spec EX
open PyProof.Rows hiding St
noncomputable section
def UI:D:=(.tup ((["not","and","or","some","all"]:List Str).map .str))
def Gn:FT:=ui (bF (mf O2) (bF cA (bF shrD (vF 3) (bF tx (bF Si (kF (.int 5)) (vF 5)) (vF 9))) (kF (.int 1))) (kF (.int 1)))
def My:FE:=vF 9
def Gp:FS:=putF 4 (bF im (vF 1) (vF 5)) (Bc (Nc (vF 0)) (Gn) (My))
def Gq:FT:=ui (bF (mf O2) (bF cA (bF shrD (vF 3) (bF tx (bF tx (bF tx (kF (.int 15)) (bF Si (kF (.int 25)) (vF 5))) (bF Si (kF (.int 5)) (vF 8))) (vF 9))) (kF (.int 1))) (kF (.int 1)))
def JR:FE:=OT (Aa (vF 8) (Aa (vF 9) (ab)))
def Gr:FS:=ll 7 (bF tx (vF 7) (Bc (Nc (vF 0)) (Gq) (JR)))
def Gs:FS:=cx (ll 7 (rz (ab))) (cx (Nw (Nc (vF 0)) (Be 8) (Gr)) (putF 6 (bF im (vF 2) (vF 5)) (vF 7)))
def K9:FS:=cx (setW 4 (kF (.dk []))) (cx (Nw (Nc (uF wh (vF 1))) (Be 5) (Gp)) (cx (setW 6 (kF (.dk []))) (cx (Nw (Nc (uF wh (vF 2))) (Be 5) (Gs)) (fzS [4,6] (fx (rz (Aa (vF 0) (Aa (vF 4) (Aa (vF 6) (ab))))))))))
def Fb:List D->Option D:=il 9 4 K9
def Ib:FE:=bF im (vF 1) (vF 5)
def GF:FS:=putF 2 (vF 3) (Bc (mu (bF im (bF im (vF 0) (kF (.int 1))) (vF 3))) (pp) (Ib))
def Ie:FE:=OT (Aa (bF im (vF 1) (bF im (vF 5) (kF (.int 0)))) (Aa (bF im (vF 1) (bF im (vF 5) (kF (.int 1)))) (ab)))
def GJ:FS:=putF 4 (vF 3) (Bc (mu (bF im (bF im (vF 0) (kF (.int 2))) (vF 3))) (pp) (Ie))
def J6:FS:=cx (setW 2 (kF (.dk []))) (cx (Nw (mu (bF im (vF 0) (kF (.int 1)))) (Be 3) (GF)) (cx (setW 4 (kF (.dk []))) (cx (Nw (mu (bF im (vF 0) (kF (.int 2)))) (Be 3) (GJ)) (fzS [2,4] (fx (rz (Aa (bF im (vF 0) (kF (.int 0))) (Aa (vF 2) (Aa (vF 4) (ab))))))))))
def Hm:List D->Option D:=il 5 2 J6
def Bq:FT:=ui (bF (mf O1) (vF 2) (rz (ab)))
def CZ:FS:=cx (ll 4 (bF MR (vF 0) (uF SW (vF 2)))) (cx (ll 0 (bF Hu (vF 0) (uF SW (vF 2)))) (cx (Zs VU 3 (bF ixD (vF 2) (vF 4))) (ll 2 (bF tx (slF (vF 2) (noO) (Pv (vF 4))) (slF (vF 2) (Pv (bF tx (vF 4) (kF (.int 1)))) (noO))))))
def K_:FS:=cx (ll 2 (uF Y4 (vF 1))) (cx (setW 3 (rz (ab))) (cx (HR (Bq) (CZ) 60) (fzS [3] (fx (vF 3)))))
def Iv:List D->Option D:=il 5 2 K_
def JS:FT:=ui (bF (mf O1) (vF 2) (vF 1))
def JT:FE:=vF 2
def LC:FS:=cx (Pe (ui (bF (Po O2) (vF 1) (vF 0))) (fx (Bc (mu (vF 0)) (JS) (JT))) (PR)) (fx (bF tx (vF 0) (rz (Aa (vF 1) (ab)))))
def Dw:List D->Option D:=il 2 2 LC
def Dp:FS:=cx (UN (vF 0) (MV 3 (Aw 2 (Aw 3 (Aw 4 (MY)))))) (cx (ll 5 (bF MR (vF 1) (bF ZN (vF 2) (kF (.int 1))))) (cx (ll 6 (bF MR (bF Hu (vF 1) (kF (.int 5))) (bF ZN (vF 2) (kF (.int 1))))) (cx (Pe (orT (ui (bF (mf O2) (vF 2) (kF (.int 0)))) (ui (bF (mf O2) (bF tx (uF wh (vF 3)) (uF wh (vF 4))) (kF (.int 0))))) (fx (vF 0)) (PR)) (cx (ll 7 (bF MR (bF Hu (vF 1) (kF (.int 25))) (bF tx (uF wh (vF 3)) (uF wh (vF 4))))) (cx (setW 8 (uF Vx (vF 3))) (cx (setW 9 (uF Vx (vF 4))) (cx (Pe (ui (bF ltD (vF 7) (uF wh (vF 3)))) (cx (ll 10 (bF im (uF QY (vF 3)) (vF 7))) (putF 8 (vF 10) (Aj (Dw) (Aa (bF im (vF 3) (vF 10)) (Aa (vF 5) (ab)))))) (cx (ll 10 (bF im (uF QY (vF 4)) (bF SU (vF 7) (uF wh (vF 3))))) (putF 9 (vF 10) (Aj (Dw) (Aa (bF im (vF 4) (vF 10)) (Aa (OT (Aa (vF 5) (Aa (vF 6) (ab)))) (ab))))))) (fzS [8,9] (fx (rz (Aa (vF 2) (Aa (vF 8) (Aa (vF 9) (ab))))))))))))))
def Cv:List D->Option D:=il 11 2 Dp
def Fe:FS:=cx (UN (vF 0) (MV 4 (Aw 1 (Aw 2 (Aw 3 (Aw 4 (MY))))))) (cx (ll 5 (bF MR (bF Si (vF 2) (kF (.int 27182818284590452353602874713526624977572470936999595749669))) (bF shlD (kF (.int 1)) (kF (.int 90))))) (cx (Pe (ui (bF (mf O2) (bF MR (vF 1) (kF (.int 3))) (kF (.int 2)))) (ll 5 (bF MR (vF 2) (bF shlD (kF (.int 1)) (kF (.int 90))))) (PR)) (cx (ll 6 (bF MR (bF Si (bF Hu (vF 1) (kF (.int 3))) (kF (.int 1000000007))) (kF (.int 2147483647)))) (cx (ll 7 (bF im (rz (Aa (kF (.int 2)) (Aa (kF (.int 3)) (Aa (kF (.int 1)) (Aa (kF (.int 3)) (Aa (kF (.int 4)) (Aa (kF (.int 2)) (Aa (kF (.int 3)) (Aa (kF (.int 0)) (Aa (kF (.int 4)) (Aa (kF (.int 2)) (Aa (kF (.int 3)) (Aa (kF (.int 4)) (ab)))))))))))))) (bF MR (vF 6) (kF (.int 12))))) (cx (ll 8 (slF (rz (Aa (kF (.str "red")) (Aa (kF (.str "o")) (Aa (kF (.str "redo")) (ab))))) (noO) (Pv (bF MR (bF Hu (vF 6) (kF (.int 12))) (kF (.int 3)))))) (cx (ll 9 (slF (rz (Aa (kF (.str "near")) (Aa (kF (.str "n")) (Aa (kF (.str "under")) (ab))))) (noO) (Pv (bF MR (bF Hu (vF 6) (kF (.int 36))) (kF (.int 3)))))) (cx (ll 10 (Aj (Fb) (Aa (vF 7) (Aa (vF 8) (Aa (vF 9) (Aa (vF 5) (ab))))))) (cx (ll 11 (bF MR (vF 3) (kF (.int 5)))) (cx (Pe (ui (bF (mf O2) (vF 11) (kF (.int 0)))) (fx (rz (Aa (vF 10) (Aa (Aj (Fb) (Aa (bF MR (bF Hu (vF 3) (kF (.int 5))) (kF (.int 5))) (Aa (vF 8) (Aa (vF 9) (Aa (bF MR (vF 4) (bF shlD (kF (.int 1)) (kF (.int 90)))) (ab)))))) (ab))))) (PR)) (cx (Pe (ui (bF (mf O2) (vF 11) (kF (.int 1)))) (fx (rz (Aa (vF 10) (Aa (Aj (Fb) (Aa (bF WV (bF tx (vF 7) (kF (.int 1))) (kF (.int 4))) (Aa (vF 8) (Aa (vF 9) (Aa (vF 5) (ab)))))) (ab))))) (PR)) (cx (ll 12 (Aj (Hm) (Aa (vF 10) (Aa (Aj (Iv) (Aa (bF Hu (vF 3) (kF (.int 5))) (Aa (vF 7) (ab)))) (ab))))) (cx (Pe (ui (bF (mf O2) (vF 11) (kF (.int 2)))) (fx (rz (Aa (vF 10) (Aa (vF 12) (ab))))) (PR)) (fx (rz (Aa (vF 10) (Aa (Aj (Cv) (Aa (vF 12) (Aa (bF Hu (vF 4) (kF (.int 3))) (ab)))) (ab)))))))))))))))))
def Dc:List D->Option D:=il 13 1 Fe
def JV:FS:=Pe (ui (bF gtD (vF 0) (vF 1))) (badF) (PR)
def Bj:List D->Option D:=il 2 2 JV
def Gu:FS:=Pe (orT (ui (bF ltD (vF 1) (kF (.int 0)))) (ui (bF geD (vF 1) (vF 0)))) (badF) (PR)
def BV:List D->Option D:=il 2 2 Gu
def GK:FS:=cx (Fo (Aj (BV) (Aa (vF 0) (Aa (vF 3) (ab))))) (putF 2 (vF 3) (kF (.bl O1)))
def J7:FS:=cx (setW 2 (kF (.dk []))) (cx (Nw (mu (vF 1)) (Be 3) (GK)) (fzS [2] (fx (vF 2))))
def Eg:List D->Option D:=il 4 2 J7
def Gv:FS:=cx (Fo (Aj (BV) (Aa (vF 0) (Aa (vF 3) (ab))))) (cx (Fo (Aj (BV) (Aa (vF 0) (Aa (vF 4) (ab))))) (Yt 2 (Aa (vF 3) (Aa (vF 4) (ab))) (kF (.bl O1))))
def LK:FS:=cx (setW 2 (kF (.dt []))) (cx (Nw (mu (vF 1)) (MV 2 (Aw 3 (Aw 4 (MY)))) (Gv)) (fzS [2] (fx (vF 2))))
def Ff:List D->Option D:=il 5 2 LK
def Hx:FE:=bF (Po O2) (vF 1) (kF (.str "abcdefghijklmnopqrstuvwxyz"))
def Ra:FS:=cx (Pe (orT (ui (bF (Po O2) (vF 0) (kF UI))) (orT (ui (bF (mf O2) (uF wh (vF 0)) (kF (.int 0)))) (ui (bF gtD (uF wh (vF 0)) (kF (.int 8)))))) (fx (kF (.bl O2))) (PR)) (fx (uF allD (Bc (mu (vF 0)) (pp) (Hx))))
def Fg:List D->Option D:=il 1 1 Ra
def Cw:Pc:=Em (ifE (Uj (OV (Yf (Aj (Fg) (Aa (vF 4) (ab))))))) (R3 "marked" (vF 4) (Aj (Eg) (Aa (vF 1) (Aa (vF 5) (ab)))))
def Cy:Pc:=Em (ifE (orTE (Uj (OV (Yf (Aj (Fg) (Aa (vF 4) (ab)))))) (inTE "marked" (vF 4)))) (R3 "tied" (vF 4) (Aj (Ff) (Aa (vF 1) (Aa (vF 6) (ab)))))
def HX:Pc:=Em (OM (Fo (Aj (Bj) (Aa (vF 1) (Aa (kF (.int 5)) (ab)))))) (Em (OM (Fo (Aj (Bj) (Aa (uF wh (vF 2)) (Aa (kF (.int 3)) (ab)))))) (Em (OM (Fo (Aj (Bj) (Aa (uF wh (vF 3)) (Aa (kF (.int 3)) (ab)))))) (Em (HN "size" (vF 1)) (Em (Mp "marked" (kF (.dk []))) (Em (Mp "tied" (kF (.dk []))) (Em (forE (RK (vF 2)) (MV 2 (Aw 4 (Aw 5 (MY)))) (Cw)) (Em (forE (RK (vF 3)) (MV 2 (Aw 4 (Aw 6 (MY)))) (Cy)) (nilE))))))))
def Cq:Addr->List D->Option Ef:=SV 7 4 HX
def GZ:FS:=fx (uF sdkD (uF (fk "marked") (vF 0)))
def Cz:List D->Option D:=il 1 1 GZ
def Gw:FS:=fx (uF sdkD (uF (fk "tied") (vF 0)))
def Dd:List D->Option D:=il 1 1 Gw
def Ig:FS:=Pe (orT (ui (bF (mf O1) (CW "World" "mark_words" (Cz) (vF 0) ab) (CW "World" "mark_words" (Cz) (vF 1) ab))) (ui (bF (mf O1) (CW "World" "tie_words" (Dd) (vF 0) ab) (CW "World" "tie_words" (Dd) (vF 1) ab)))) (badF) (PR)
def DP:List D->Option D:=il 2 2 Ig
def HY:Pc:=Em (HN "one" (vF 1)) (Em (HN "other" (vF 2)) (Em (HN "reckoned" (memE Phi)) (Em (HN "endless" (bF tx (bF ZN (uF (fk "size") (vF 1)) (uF (fk "size") (vF 2))) (kF (.int 1)))) (nilE))))
def CJ:Addr->List D->Option Ef:=SV 3 3 HY
def Ih:Pc:=Em (OM (Fo (Aj (DP) (Aa (vF 1) (Aa (vF 2) (ab)))))) (Em (HN "ranks" (mkI "Ranks" (CJ) (Aa (vF 1) (Aa (vF 2) (ab))))) (Em (Mp "put" (rz (ab))) (nilE)))
def Ec:Addr->List D->Option Ef:=SV 3 3 Ih
def CP:FS:=cx (Fo (Aj (BV) (Aa (uF (fk "size") (vF 0)) (Aa (vF 3) (ab))))) (Fo (Aj (BV) (Aa (uF (fk "size") (vF 1)) (Aa (vF 4) (ab)))))
def Dy:FS:=cx (Fo (Aj (DP) (Aa (vF 0) (Aa (vF 1) (ab))))) (Nw (mu (vF 2)) (MV 2 (Aw 3 (Aw 4 (MY)))) (CP))
def Ci:List D->Option D:=il 5 3 Dy
def LQ:FT:=ui (bF (Po O1) (vF 2) (vF 1))
def LR:FE:=vF 2
def O_:FS:=fx (Bc (Nc (vF 0)) (LQ) (LR))
def JW:List D->Option D:=il 2 2 O_
def Gy:FS:=Pe (ui (bF (mf O1) (bF (Po O2) (bF im (vF 2) (kF (.int 0))) (bF im (uF (fk "marked") (vF 0)) (vF 3))) (bF (Po O2) (bF im (vF 2) (kF (.int 1))) (bF im (uF (fk "marked") (vF 1)) (vF 3))))) (fx (kF (.bl O2))) (PR)
def Ii:FS:=cx (Nw (mu (uF (fk "marked") (vF 0))) (Be 3) (Gy)) (fx (kF (.bl O1)))
def GP:List D->Option D:=il 4 3 Ii
def Gz:FS:=Pe (ui (bF (mf O1) (inTF (Aa (bF im (vF 2) (kF (.int 0))) (Aa (bF im (vF 3) (kF (.int 0))) (ab))) (bF im (uF (fk "tied") (vF 0)) (vF 4))) (inTF (Aa (bF im (vF 2) (kF (.int 1))) (Aa (bF im (vF 3) (kF (.int 1))) (ab))) (bF im (uF (fk "tied") (vF 1)) (vF 4))))) (fx (kF (.bl O2))) (PR)
def Ij:FS:=cx (Nw (mu (uF (fk "tied") (vF 0))) (Be 4) (Gz)) (fx (kF (.bl O1)))
def DQ:List D->Option D:=il 5 4 Ij
def J8:FS:=cx (Pe (ui (bF (mf O1) (bF (mf O2) (bF im (vF 2) (kF (.int 0))) (bF im (vF 3) (kF (.int 0)))) (bF (mf O2) (bF im (vF 2) (kF (.int 1))) (bF im (vF 3) (kF (.int 1)))))) (fx (kF (.bl O2))) (PR)) (fx (OY (Aj (DQ) (Aa (vF 0) (Aa (vF 1) (Aa (vF 2) (Aa (vF 3) (ab)))))) (Aj (DQ) (Aa (vF 0) (Aa (vF 1) (Aa (vF 3) (Aa (vF 2) (ab))))))))
def Hn:List D->Option D:=il 4 4 J8
def J9:FE:=Aj (Hn) (Aa (vF 0) (Aa (vF 1) (Aa (vF 4) (Aa (vF 3) (ab)))))
def Mz:FS:=cx (Pe (orT (OV (Yf (Aj (GP) (Aa (vF 0) (Aa (vF 1) (Aa (vF 3) (ab))))))) (OV (Yf (Aj (DQ) (Aa (vF 0) (Aa (vF 1) (Aa (vF 3) (Aa (vF 3) (ab))))))))) (fx (kF (.bl O2))) (PR)) (fx (uF allD (Bc (mu (vF 2)) (pp) (J9))))
def Hy:List D->Option D:=il 4 4 Mz
def G3(z:List D->Option D):FS:=cx (Pe (OV (Yf (Aj (Hy) (Aa (uF (fk "one") (vF 0)) (Aa (uF (fk "other") (vF 0)) (Aa (vF 1) (Aa (vF 2) (ab)))))))) (fx (kF (.int 0))) (PR)) (fx (CW "Ranks" "rank_of_fitting" (z) (vF 0) (Aa (uF tslD (bF catU (vF 1) (OT (Aa (vF 2) (ab))))) (ab))))
def Br(z:List D->Option D):List D->Option D:=il 3 3 (G3 z)
def Fq(z:List D->Option D):FE:=CW "Ranks" "rank_with" (Br z) (vF 0) (Aa (vF 1) (Aa (vF 3) (ab)))
def G4(z:List D->Option D):FS:=fx (bF Yc (Bc (mu (vF 2)) (pp) ((Fq z))) (kF (.int 0)))
def Ar(z:List D->Option D):List D->Option D:=il 3 3 (G4 z)
def Es(z:List D->Option D):FE:=bF im (vF 7) (kF (.int 0))
def Et(z:List D->Option D):FE:=bF im (vF 7) (kF (.int 1))
def Eu(z:List D->Option D):FE:=OT (Aa (vF 5) (Aa (vF 7) (ab)))
def De(z:List D->Option D):FS:=Zs VU 4 (CW "Ranks" "best_rank" (Ar z) (vF 0) (Aa (vF 1) (Aa (Bc (mu (vF 3)) (pp) ((Eu z))) (ab))))
def Ew(z:List D->Option D):FE:=OT (Aa (vF 7) (Aa (vF 6) (ab)))
def Df(z:List D->Option D):FS:=Zs VU 4 (CW "Ranks" "best_rank" (Ar z) (vF 0) (Aa (vF 1) (Aa (Bc (mu (vF 2)) (pp) ((Ew z))) (ab))))
def Ga(z:List D->Option D):FS:=cx (ll 2 (Aj (JW) (Aa (uF (fk "size") (uF (fk "one") (vF 0))) (Aa (Bc (mu (vF 1)) (pp) ((Es z))) (ab))))) (cx (ll 3 (Aj (JW) (Aa (uF (fk "size") (uF (fk "other") (vF 0))) (Aa (Bc (mu (vF 1)) (pp) ((Et z))) (ab))))) (cx (setW 4 (rz (ab))) (cx (Nw (mu (vF 2)) (Be 5) ((De z))) (cx (Nw (mu (vF 3)) (Be 6) ((Df z))) (fx (bF WV (uF (fk "endless") (vF 0)) (bF tx (kF (.int 1)) (bF d_ (vU 4) (uF (fk "endless") (vF 0))))))))))
def C_(z:List D->Option D):List D->Option D:=il 7 2 (Ga z)
def Bm(z:List D->Option D):FS:=memR 0 "reckoned" 1 (CW "Ranks" "least_rank" (C_ z) (vF 0) (Aa (vF 1) (ab)))
def Ai:Nat->List D->Option D
 |0=>λ_=>W1
 |n+1=>il 2 2 (Bm (Ai n))
def M3:FE:=Aj (Hy) (Aa (vF 0) (Aa (vF 1) (Aa (slF (vF 2) (noO) (Pv (vF 3))) (Aa (vF 4) (ab)))))
def Rb:FS:=fx (uF allD (Y8 (enIT (vF 2)) (pp) (M3)))
def JG:List D->Option D:=il 3 3 Rb
def GQ:FS:=cx (ll 2 (uF tssD (vF 1))) (memB 0 "reckoned" 2 (Yf (Aj (JG) (Aa (uF (fk "one") (vF 0)) (Aa (uF (fk "other") (vF 0)) (Aa (vF 2) (ab)))))) "Ranks" "rank_of_fitting" (CW "Ranks" "rank_of_fitting" (Ai 8) (vF 0) (Aa (vF 2) (ab))))
def Bb:List D->Option D:=il 3 2 GQ
def G5:FS:=cx (ll 2 (CW "Ranks" "rank_of" (Bb) (vF 0) (Aa (vF 1) (ab)))) (fx (ifF (ui (bF (mf O2) (vF 2) (uF (fk "endless") (vF 0)))) (kF .non) (vF 2)))
def Bs:List D->Option D:=il 3 2 G5
def au:FS:=cx (Fo (Aj (Ci) (Aa (vF 0) (Aa (vF 1) (Aa (vF 2) (ab)))))) (fx (CW "Ranks" "told_rank" (Bs) (mkI "Ranks" (CJ) (Aa (vF 0) (Aa (vF 1) (ab)))) (Aa (vF 2) (ab))))
def PB:List D->Option D:=il 3 3 au
def M4:FS:=fx (CW "Ranks" "told_rank" (Bs) (uF (fk "ranks") (vF 0)) (Aa (uF (fk "put") (vF 0)) (ab)))
def Du:List D->Option D:=il 1 1 M4
def Di:FS:=Fo (Aj (Bj) (Aa (bF tx (uF wh (uF (fk "put") (vF 0))) (kF (.int 1))) (Aa (kF (.int 5)) (ab))))
def Bk:List D->Option D:=il 1 1 Di
def JX:FS:=fx (ifF (ui (bF (mf O2) (vF 1) (kF (.int 0)))) (uF (fk "size") (uF (fk "one") (vF 0))) (uF (fk "size") (uF (fk "other") (vF 0))))
def DG:List D->Option D:=il 2 2 JX
def Rc:FS:=fx (ifF (ui (bF (mf O2) (vF 0) (kF (.int 0)))) (OT (Aa (vF 1) (Aa (vF 2) (ab)))) (OT (Aa (vF 2) (Aa (vF 1) (ab)))))
def KZ:List D->Option D:=il 3 3 Rc
def J_:FE:=Aj (KZ) (Aa (vF 1) (Aa (vF 2) (Aa (vF 3) (ab))))
def M5:FS:=fx (Bc (Nc (Aj (DG) (Aa (vF 0) (Aa (bF SU (kF (.int 1)) (vF 1)) (ab))))) (pp) (J_))
def Hz:List D->Option D:=il 3 3 M5
def Ha:FE:=CW "Ranks" "rank_of" (Bb) (vF 0) (Aa (bF tx (vF 1) (rz (Aa (vF 4) (ab)))) (ab))
def JZ:FS:=fx (Bc (mu (Aj (Hz) (Aa (vF 0) (Aa (vF 2) (Aa (vF 3) (ab)))))) (pp) (Ha))
def G6:List D->Option D:=il 4 4 JZ
def Ay:FS:=Pe (ui (bF ltD (bF Yc (Aj (G6) (Aa (vF 0) (Aa (vF 1) (Aa (vF 3) (Aa (vF 4) (ab)))))) (kF (.int 0))) (vF 2))) (fx (OT (Aa (vF 3) (Aa (vF 4) (ab))))) (PR)
def En:FS:=Nw (Nc (Aj (DG) (Aa (vF 0) (Aa (vF 3) (ab))))) (Be 4) (Ay)
def Ik:FS:=cx (ll 2 (CW "Ranks" "rank_of" (Bb) (vF 0) (Aa (vF 1) (ab)))) (cx (Pe (orT (ui (bF (mf O2) (vF 2) (kF (.int 0)))) (ui (bF (mf O2) (vF 2) (uF (fk "endless") (vF 0))))) (badF) (PR)) (Nw (mu (OT (Aa (kF (.int 0)) (Aa (kF (.int 1)) (ab))))) (Be 3) (En)))
def Bv:List D->Option D:=il 5 2 Ik
def PJ:FS:=cx (Fo (CW "Play" "refuse_sixth_pair" (Bk) (vF 0) ab)) (fx (Aj (Bv) (Aa (uF (fk "ranks") (vF 0)) (Aa (uF (fk "put") (vF 0)) (ab)))))
def Ex:List D->Option D:=il 1 1 PJ
def Og:FM:=Cs (QS 2 (lnX (CW "Play" "ask" (Ex) (vF 0) ab))) (Cs (nO (lnX (Aj (BV) (Aa (Aj (DG) (Aa (uF (fk "ranks") (vF 0)) (Aa (bF SU (kF (.int 1)) (bF im (vF 2) (kF (.int 0)))) (ab)))) (Aa (vF 1) (ab)))))) (Cs (nO (mutE (uF (fk "put") (vF 0)) appM (Aa (Aj (KZ) (Aa (bF im (vF 2) (kF (.int 0))) (Aa (bF im (vF 2) (kF (.int 1))) (Aa (vF 1) (ab))))) (ab)))) (V2 (lnX (CW "Play" "rank" (Du) (vF 0) ab)))))
def Ho:GM:=VO 3 2 Og
def Il:FS:=fx (OY (uF (isiD "int") (vF 0)) (OY (VS (uF (isiD "bool") (vF 0))) (OY (bF leD (kF (.int 0)) (vF 0)) (bF ltD (vF 0) (vF 1)))))
def DR:List D->Option D:=il 2 2 Il
def Iw:FS:=Pe (ui (bF (mf O1) (bF (Po O2) (vF 3) (bF im (bF im (vF 0) (kF (.int 1))) (vF 5))) (bF (Po O2) (vF 4) (bF im (bF im (vF 1) (kF (.int 1))) (vF 5))))) (fx (kF (.bl O2))) (PR)
def Iz:FS:=Pe (ui (bF (mf O1) (bF (Po O2) (OT (Aa (vF 3) (Aa (vF 6) (ab)))) (bF im (bF im (vF 0) (kF (.int 2))) (vF 5))) (bF (Po O2) (OT (Aa (vF 4) (Aa (vF 7) (ab)))) (bF im (bF im (vF 1) (kF (.int 2))) (vF 5))))) (fx (kF (.bl O2))) (PR)
def G7:FS:=cx (Pe (ui (bF (mf O1) (bF (mf O2) (vF 3) (vF 6)) (bF (mf O2) (vF 4) (vF 7)))) (fx (kF (.bl O2))) (PR)) (Nw (mu (bF im (vF 0) (kF (.int 2)))) (Be 5) (Iz))
def G8:FS:=cx (Nw (mu (bF im (vF 0) (kF (.int 1)))) (Be 5) (Iw)) (Nw (mu (vF 2)) (MV 2 (Aw 6 (Aw 7 (MY)))) (G7))
def La:FS:=cx (Nw (mu (vF 2)) (MV 2 (Aw 3 (Aw 4 (MY)))) (G8)) (fx (kF (.bl O1)))
def Dj:List D->Option D:=il 8 3 La
def Bw:FT:=andT (ui (uF (Os O1) (vF 7))) (ui (bF gtD (vF 7) (kF (.int 0))))
def Im:FM:=Cs (wg (MV 2 (Aw 9 (Aw 10 (MY)))) (lnX (CW "Play" "ask" (Ex) (vF 5) ab))) (Cs (WU (Pe (orT (ui (bF (Po O1) (vF 9) (rz (Aa (kF (.int 0)) (Aa (kF (.int 1)) (ab)))))) (OV (Yf (Aj (DR) (Aa (vF 10) (Aa (bF im (vF 6) (vF 9)) (ab))))))) (fx (kF (.bl O2))) (PR))) (Cs (WU (Pe (ui (bF (mf O2) (bF im (vF 6) (bF SU (kF (.int 1)) (vF 9))) (kF (.int 0)))) (fx (bF (mf O2) (uF wh (vU 8)) (kF (.int 0)))) (PR))) (Cs (WU (ll 11 (bF MR (bF im (vF 0) (uF wh (vU 8))) (bF im (vF 6) (bF SU (kF (.int 1)) (vF 9)))))) (Cs (WU (Zs VU 8 (bF im (rz (Aa (OT (Aa (vF 10) (Aa (vF 11) (ab)))) (Aa (OT (Aa (vF 11) (Aa (vF 10) (ab)))) (ab)))) (vF 9)))) (Cs (QS 12 (o9 "Play" "answer" (Ho) (vF 5) (Aa (vF 11) (ab)))) (Cs (WU (Pe (OV (Yf (Aj (DR) (Aa (vF 12) (Aa (vF 7) (ab)))))) (fx (kF (.bl O2))) (PR))) (WU (ll 7 (vF 12)))))))))
def Hq:FM:=Cs (QS 5 (mkM "Play" "put" (Ec) (Aa (vF 1) (Aa (vF 2) (ab))))) (Cs (WU (ll 6 (rz (Aa (bF im (vF 3) (kF (.int 0))) (Aa (bF im (vF 4) (kF (.int 0))) (ab)))))) (Cs (WU (ll 7 (Aj (PB) (Aa (vF 1) (Aa (vF 2) (Aa (rz (ab)) (ab))))))) (Cs (ifM [] (ui (bF (mf O2) (bF MR (bF im (vF 0) (kF (.int 0))) (kF (.int 2))) (kF (.int 1)))) (QS 7 (lnX (CW "Play" "rank" (Du) (vF 5) ab))) (nxM)) (Cs (WU (setW 8 (rz (ab)))) (Cs (J5 (Bw) (Im) 60) (WU (fzS [8] (fx (orF (OY (uF (Os O2) (vF 7)) (bF (mf O2) (vU 8) (rz (ab)))) (OY (bF (mf O2) (vF 7) (kF (.int 0))) (VS (Aj (Dj) (Aa (vF 3) (Aa (vF 4) (Aa (vF 8) (ab))))))))))))))))
def Hr:List D->Option D:=YV (VO 13 5 Hq) V_
def Lb:FS:=fx (uF QY (uF (fk "put") (vF 0)))
def Cj:List D->Option D:=il 1 1 Lb
def Dq:FM:=ifM [] (andT (ui (uF (Os O1) (vF 6))) (andT (ui (bF gtD (vF 6) (kF (.int 0)))) (ui (bF gtD (vF 7) (kF (.int 0)))))) (Cs (QS 9 (o9 "Play" "answer" (Ho) (vF 5) (Aa (bF MR (vF 8) (vF 7)) (ab)))) (Cs (WU (Pe (OV (Yf (Aj (DR) (Aa (vF 9) (Aa (vF 6) (ab)))))) (fx (kF (.bl O2))) (PR))) (WU (ll 6 (vF 9))))) (nxM)
def G9:FM:=Cs (QS 5 (mkM "Play" "put" (Ec) (Aa (vF 1) (Aa (vF 2) (ab))))) (Cs (WU (ll 6 (Aj (PB) (Aa (vF 1) (Aa (vF 2) (Aa (rz (ab)) (ab))))))) (Cs (ifM [] (ui (bF (mf O2) (bF MR (bF Hu (bF im (vF 0) (kF (.int 0))) (kF (.int 5))) (kF (.int 2))) (kF (.int 1)))) (QS 6 (lnX (CW "Play" "rank" (Du) (vF 5) ab))) (nxM)) (Cs (WU (ll 7 (bF WV (bF im (vF 3) (kF (.int 0))) (bF im (vF 4) (kF (.int 0)))))) (Cs (forM (mu (vF 0)) (Be 8) (Dq)) (Cs (ifM [] (orT (ui (bF (mf O2) (vF 7) (kF (.int 0)))) (ui (uF (Os O2) (vF 6)))) (V2 (lnX (bF (mf O2) (CW "Play" "pairs" (Cj) (vF 5) ab) (rz (ab))))) (nxM)) (V2 (lnX (OY (bF (mf O2) (vF 6) (kF (.int 0))) (VS (Aj (Dj) (Aa (vF 3) (Aa (vF 4) (Aa (CW "Play" "pairs" (Cj) (vF 5) ab) (ab))))))))))))))
def Ja:List D->Option D:=YV (VO 10 5 G9) V_
def Jt:FS:=cx (Pe (ui (bF ltD (vF 1) (uF SW (vF 0)))) (fx (bF ixD (vF 0) (vF 1))) (PR)) (fx (kF (.int 0)))
def Ge:List D->Option D:=il 2 2 Jt
def TX:FE:=Aj (Ge) (Aa (vF 0) (Aa (vF 8) (ab)))
def Xi:FE:=bF Hu (bF im (vF 5) (bF MR (bF tx (bF tx (vF 6) (bF Si (bF Si (kF (.int 4)) (vF 8)) (vF 8))) (vF 8)) (uF wh (vF 5)))) (kF (.int 7))
def Qa:FS:=cx (ll 7 (Bc (Nc (kF (.int 6))) (pp) (Xi))) (Pe (OV (Yf (Aj (Hr) (Aa (vF 7) (Aa (vF 3) (Aa (vF 4) (Aa (vF 1) (Aa (vF 2) (ab))))))))) (fx (kF (.bl O2))) (PR))
def Xj:FE:=bF Hu (Aj (Ge) (Aa (vF 0) (Aa (bF tx (kF (.int 4)) (vF 8)) (ab)))) (kF (.int 7))
def pF:FS:=cx (UN (Aj (Dc) (Aa (Bc (Nc (kF (.int 4))) (pp) (TX)) (ab))) (MV 2 (Aw 1 (Aw 2 (MY))))) (cx (ll 3 (mkI "World" (Cq) (Aa (bF im (vF 1) (kF (.int 0))) (Aa (bF im (vF 1) (kF (.int 1))) (Aa (bF im (vF 1) (kF (.int 2))) (ab)))))) (cx (ll 4 (mkI "World" (Cq) (Aa (bF im (vF 2) (kF (.int 0))) (Aa (bF im (vF 2) (kF (.int 1))) (Aa (bF im (vF 2) (kF (.int 2))) (ab)))))) (cx (ll 5 (slF (vF 0) (Pv (kF (.int 4))) (Pv (kF (.int 64))))) (cx (Nw (Nc (bF WV (uF wh (vF 5)) (kF (.int 4)))) (Be 6) (Qa)) (cx (ll 7 (Bc (Nc (kF (.int 5))) (pp) (Xj))) (cx (Pe (OV (Yf (Aj (Ja) (Aa (vF 7) (Aa (vF 3) (Aa (vF 4) (Aa (vF 1) (Aa (vF 2) (ab))))))))) (fx (kF (.bl O2))) (PR)) (fx (Aj (Hr) (Aa (rz (Aa (kF (.int 0)) (Aa (kF (.int 1)) (Aa (kF (.int 2)) (Aa (kF (.int 3)) (Aa (kF (.int 4)) (Aa (kF (.int 5)) (ab)))))))) (Aa (vF 3) (Aa (vF 4) (Aa (vF 1) (Aa (vF 2) (ab))))))))))))))
def ZX:List D->Option D:=il 8 1 pF
end
def top(i:Nat):Stmt:=PySem.Challenge.pw_twinrounds_k66_whole_first_hand.main.body.getD i (.Pass ⟨0,0,0,0⟩)
abbrev I_:Stmt:=top 43
abbrev Hs:Stmt:=top 45
abbrev Qc:Stmt:=top 44
abbrev Ld:Stmt:=top 46
abbrev M6:Stmt:=top 47
abbrev Qd:Stmt:=top 48
abbrev M7:Stmt:=top 15
abbrev Ju:Stmt:=top 16
abbrev Oh:Stmt:=top 17
abbrev Qe:Stmt:=top 18
abbrev Rf:Stmt:=top 14
abbrev Ka:Stmt:=nq (top 19) 0
abbrev Jb:Stmt:=nq (top 19) 3
abbrev Jv:Stmt:=nq (top 19) 4
abbrev Lh:Stmt:=top 21
abbrev Kc:Stmt:=nq (top 30) 0
abbrev Li:Stmt:=nq (top 40) 0
abbrev G_:Stmt:=top 22
abbrev PL:Stmt:=top 29
abbrev Lj:Stmt:=top 23
abbrev Ln:Stmt:=top 24
abbrev Oi:Stmt:=top 25
abbrev M8:Stmt:=top 26
abbrev Jw:Stmt:=nq (top 30) 3
abbrev HB:Stmt:=nq (top 30) 4
abbrev CK:Stmt:=nq (top 30) 5
abbrev Gf:Stmt:=nq (top 30) 2
abbrev Rg:Stmt:=top 27
abbrev Lp:Stmt:=nq (top 30) 1
abbrev Jx:Stmt:=nq (top 30) 6
abbrev pG:Stmt:=top 31
abbrev R5:Stmt:=nq (top 40) 7
abbrev Fy:Stmt:=nq (top 40) 1
abbrev M9:Stmt:=top 33
abbrev WD:Stmt:=top 34
abbrev M_:Stmt:=top 35
abbrev Jc:Stmt:=top 36
abbrev Lq:Stmt:=top 37
abbrev U6:Stmt:=nq (top 40) 3
abbrev Oj:Stmt:=nq (top 40) 4
abbrev Lr:Stmt:=top 50
abbrev U7:Stmt:=top 49
abbrev Ol:Stmt:=top 51
abbrev Qf:Stmt:=nq (top 40) 5
abbrev NB:Stmt:=top 52
abbrev R6:Stmt:=top 42
abbrev ZZ:Stmt:=top 53
set_option genInjectivity false in
structure Tx (G:Gx) (mg:Str->Option ac) where
 c_:Addr
 f_:G.cl "World"=O0 c_
 r_:NW G.K c_
 s_:mg "World"=O0 (.ref c_)
 w_:Addr
 d0:G.cl "Ranks"=O0 w_
 p0:NW G.K w_
 z0:mg "Ranks"=O0 (.ref w_)
 y1:Addr
 y2:G.cl "Play"=O0 y1
 E2:NW G.K y1
 y3:mg "Play"=O0 (.ref y1)
 E3:Dx G.K mg "_law_world" I_ ["_law_size","_law_marks","_law_ties","_law_bits"]
 y4:Dx G.K mg "_law_turned" Hs ["_law_world_here","_law_order_here"]
 w6:Dx G.K mg "_law_order" Qc ["_law_cell_here","_law_size"]
 y6:Dx G.K mg "_law_other" Ld ["_law_row","_law_item"]
 h7:Dx G.K mg "_law_changed" M6 ["_law_world_here","_law_cell_here"]
 e8:Dx G.K mg "_law_twins" Qd ["_law_cells"]
 h8:Dx G.K mg "refuse_above" M7 ["number","most"]
 h9:Dx G.K mg "refuse_no_thing" Ju ["size","thing"]
 NA:Dx G.K mg "kept_things" Oh ["size","things"]
 OA:Dx G.K mg "kept_pairs" Qe ["size","pairs"]
 QA:Dx G.K mg "is_word" Rf ["text"]
 RA:Ix G.K c_ "World.__init__" Ka ["self","size","marks","ties"]
 SA:Mx G.K c_ "mark_words" "World.mark_words" Jb ["self"]
 UA:Mx G.K c_ "tie_words" "World.tie_words" Jv ["self"]
 VA:Dx G.K mg "refuse_unlike" Lh ["one","other"]
 WA:Ix G.K w_ "Ranks.__init__" Kc ["self","one","other"]
 XA:Ix G.K y1 "Play.__init__" Li ["self","one","other"]
 YA:Dx G.K mg "refuse_strange_pairs" G_ ["one","other","pairs"]
 ZA:Dx G.K mg "unpaired" PL ["size","paired"]
 lB:Dx G.K mg "bear_the_same" Lj ["one","other","pair"]
 OB:Dx G.K mg "lead_the_same" Ln ["one","other","pair","further"]
 SB:Dx G.K mg "go_together" Oi ["one","other","pair","further"]
 TB:Dx G.K mg "fits_with" M8 ["one","other","pairs","further"]
 UB:Mx G.K w_ "rank_with" "Ranks.rank_with" Jw ["self","pairs","further"]
 WB:Mx G.K w_ "best_rank" "Ranks.best_rank" HB ["self","pairs","choices"]
 XB:Mx G.K w_ "least_rank" "Ranks.least_rank" CK ["self","pairs"]
 ZB:Mx G.K w_ "rank_of_fitting" "Ranks.rank_of_fitting" Gf ["self","pairs"]
 NC:Dx G.K mg "all_fit" Rg ["one","other","pairs"]
 OC:Mx G.K w_ "rank_of" "Ranks.rank_of" Lp ["self","pairs"]
 SC:Mx G.K w_ "told_rank" "Ranks.told_rank" Jx ["self","pairs"]
 TC:Dx G.K mg "rank" pG ["one","other","pairs"]
 UC:Mx G.K y1 "rank" "Play.rank" R5 ["self"]
 VC:Mx G.K y1 "refuse_sixth_pair" "Play.refuse_sixth_pair" Fy ["self"]
 WC:Dx G.K mg "size_of_side" M9 ["ranks","side"]
 ND:Dx G.K mg "pair_of" WD ["side","thing","replied"]
 PD:Dx G.K mg "new_pairs" M_ ["ranks","side","thing"]
 SD:Dx G.K mg "ranks_behind" Jc ["ranks","pairs","side","thing"]
 TD:Dx G.K mg "good_pointing" Lq ["ranks","pairs"]
 UD:Mx G.K y1 "ask" "Play.ask" U6 ["self"]
 NE:Mx G.K y1 "answer" "Play.answer" Oj ["self","thing"]
 OE:Dx G.K mg "_law_is_thing" Lr ["_law_found","_law_size"]
 QE:Dx G.K mg "_law_fit" U7 ["_law_first","_law_second","_law_row"]
 RE:Dx G.K mg "_law_played" Ol ["_law_cells","_law_here","_law_there","_law_first","_law_second"]
 SE:Mx G.K y1 "pairs" "Play.pairs" Qf ["self"]
 UE:Dx G.K mg "_law_unasked" NB ["_law_cells","_law_here","_law_there","_law_first","_law_second"]
 VE:Dx G.K mg "_law_cell" R6 ["_law_script","_law_k"]
 WE:Dx G.K mg "law" ZZ ["_law_script"]
 XE:mg "all"=W1
 YE:mg "bool"=W1
 ZE:mg "dict"=W1
 NF:mg "enumerate"=W1
 OF:mg "int"=W1
 RF:mg "isinstance"=W1
 SF:mg "len"=W1
 UF:mg "list"=W1
 NG:mg "max"=W1
 OG:mg "min"=W1
 SG:mg "range"=W1
 WG:mg "set"=W1
 XG:mg "sorted"=W1
 hH:mg "tuple"=W1
 NH:Sx mg "MOST_LETTERS" (.int 8)
 OH:Sx mg "LETTERS" (.str "abcdefghijklmnopqrstuvwxyz")
 PH:Sx mg "MOST_THINGS" (.int 5)
 RH:Sx mg "MOST_WORDS" (.int 3)
 SH:Sx mg "MOST_PAIRS" (.int 5)
 TH:∀c C,G.cl c=O0 C->NW G.K C/\Bf G.K C "size"
 UH:∀c C,G.cl c=O0 C->NW G.K C/\Bf G.K C "marked"
 WH:∀c C,G.cl c=O0 C->NW G.K C/\Bf G.K C "tied"
 ZH:∀c C,G.cl c=O0 C->NW G.K C/\Bf G.K C "one"
 NI:∀c C,G.cl c=O0 C->NW G.K C/\Bf G.K C "other"
 OI:∀c C,G.cl c=O0 C->NW G.K C/\Bf G.K C "reckoned"
 QI:∀c C,G.cl c=O0 C->NW G.K C/\Bf G.K C "endless"
 RI:∀c C,G.cl c=O0 C->NW G.K C/\Bf G.K C "ranks"
 SI:∀c C,G.cl c=O0 C->NW G.K C/\Bf G.K C "put"
 UI:Kx G mg "KEPT_TEXTS" K66.UI
section
variable {base:Heap}
abbrev Dz:List Str:=["_law_size","_law_marks","_law_ties","_law_bits","_law_some","_law_k","_law_others","_law_found","_law_thing"]
def Cm:am Dz ["_law_size","_law_marks","_law_ties","_law_bits"] (Ab I_):=Nn
theorem KC(T:Tx G mg):QN P w base T.E3 1 (MS G Fb):=
 Rl (k:=0) (N:=Dz) (b:=K9) T.E3 Cm λ_ _ _ _ _ _ J=>Ad (sW Cm.nd 4 (Ui)) (Ad (Cg eD rfl (GD rfl T.SG (pU (BK ((BX rfl).or BZ) CV rfl T.SF Dn (vp 1)))) (Cd (gN Cm.nd 5)) (Ae (K1 (Ip J) (pv 4) (iX J (vp 1) (vp 5)) (Dk ["_law_size","_law_marks","_law_ties","_law_bits","_law_some","_law_k","_law_others","_law_found","","_law_thing"] (by show Ej "_law_thing" Dz++(["_law_thing"]:List Str)=_;decide +kernel) (cO (N:=Dz) (sc:=Ab I_) rfl rfl) rfl (GD rfl T.SG (vp 0)) (λ_ _ _=>P0 (YN J (pU (HS jT Ye (pU (HS jR cB (vp 3) (pU (OQ (pU (bMul (iP) (vp 5))) (vp 9))))) (iP))) (iP))) (λ_ _ _=>vr 9))))) (Ad (sW Cm.nd 6 (Ui)) (Ad (Cg eD rfl (GD rfl T.SG (pU (BK ((BX rfl).or BZ) CV rfl T.SF Dn (vp 2)))) (Cd (gN Cm.nd 5)) (Ad (sF Cm.nd 7 (DN (Ac))) (Ad (Cg eD rfl (GD rfl T.SG (vp 0)) (Cd (gN Cm.nd 8)) (Ae (sF Cm.nd 7 (OQ (vp 7) (pU (Dk (nT Dz "_law_to") (by show Ej "_law_to" Dz++(["_law_to"]:List Str)=_;decide +kernel) (cO (N:=Dz) (sc:=Ab I_) rfl rfl) rfl (GD rfl T.SG (vp 0)) (λ_ _ _=>P0 (YN J (pU (HS jT Ye (pU (HS jR cB (vp 3) (pU (OQ (pU (OQ (pU (OQ (iP) (pU (bMul (iP) (vp 5))))) (pU (bMul (iP) (vp 8))))) (vp 9))))) (iP))) (iP))) (λ_ _ _=>Gj (dq 8 (dq 9 (Ac)))))))))) (Ae (K1 (Ip J) (pv 6) (iX J (vp 2) (vp 5)) (vr 7)))))) (Ae (O3 [4,6] (Ag (DN (dq 0 (dq 4 (dq 6 (Ac)))))))))))
abbrev Cp:List Str:=["_law_world_here","_law_order_here","_law_some","_law_word","_law_others"]
def Ey:am Cp ["_law_world_here","_law_order_here"] (Ab Hs):=Nn
theorem U8(T:Tx G mg):QN P w base T.y4 1 (MS G Hm):=
 Rl (k:=0) (N:=Cp) (b:=J6) T.y4 Ey λ_ _ _ _ _ _ J=>Ad (sW Ey.nd 2 (Ui)) (Ad (Cg eD rfl (BJ rfl (iX J (vp 0) (iP))) (Cd (gN Ey.nd 3)) (Ae (K1 (Ip J) (pv 2) (vr 3) (Dk (nT Cp "_law_thing") (by show Ej "_law_thing" Cp++(["_law_thing"]:List Str)=_;decide +kernel) (cO (N:=Cp) (sc:=Ab Hs) rfl rfl) rfl (Sa.top (BJ rfl (iX J (pU (iX J (vp 0) (iP))) (vp 3)))) (λ_ _ _=>Cr) (λ_ _ _=>iX J (vp 1) (vp 5)))))) (Ad (sW Ey.nd 4 (Ui)) (Ad (Cg eD rfl (BJ rfl (iX J (vp 0) (iP))) (Cd (gN Ey.nd 3)) (Ae (K1 (Ip J) (pv 4) (vr 3) (Dk (nT Cp "_law_both") (by show Ej "_law_both" Cp++(["_law_both"]:List Str)=_;decide +kernel) (cO (N:=Cp) (sc:=Ab Hs) rfl rfl) rfl (Sa.top (BJ rfl (iX J (pU (iX J (vp 0) (iP))) (vp 3)))) (λ_ _ _=>Cr) (λ_ _ _=>Gj (Af (iX J (vp 1) (pU (iX J (vp 5) (iP)))) (Af (iX J (vp 1) (pU (iX J (vp 5) (iP)))) (Ac) An) An)))))) (Ae (O3 [2,4] (Ag (DN (Af (iX J (vp 0) (iP)) (dq 2 (dq 4 (Ac))) An))))))))
abbrev Qg:List Str:=["_law_cell_here","_law_size","_law_left","_law_found","_law_at"]
def Eh:am Qg ["_law_cell_here","_law_size"] (Ab Qc):=Nn
theorem Vh(T:Tx G mg):QN P w base T.w6 1 (MS G Iv):=
 Rl (k:=0) (N:=Qg) (b:=K_) T.w6 Eh λ_ _ _ _ _ _ J=>Ad (sF Eh.nd 2 (uO rfl T.UF rfl T.SG (vp 1))) (Ad (sW Eh.nd 3 (Ww (Ac))) (Ad (gr 60 eD (tNe J (vp 2) (pU (DN (Ac)))) (Ad (sF Eh.nd 4 (OL (vp 0) (pU (BK (BX rfl) Sv rfl T.SF Dn (vp 2))))) (Ad (sF Eh.nd 0 (Tb (vp 0) (pU (BK (BX rfl) Sv rfl T.SF Dn (vp 2))))) (Ad (Sy (pv 3) (iD (vp 2) (vp 4))) (Ae (sF Eh.nd 2 (OQ (pU (KJ rfl (vp 2) (Ma) (JL (vp 4)))) (pU (KJ rfl (vp 2) (JL (pU (OQ (vp 4) (iP)))) (Ma)))))))))) (Ae (O3 [3] (Ag (vr 3))))))
abbrev HD:List Str:=["_law_row","_law_item"]
def Vi:am HD ["_law_row","_law_item"] (Ab Ld):=Nn
theorem Om(T:Tx G mg):QN P w base T.y6 1 (MS G Dw):=
 Rl (k:=0) (N:=HD) (b:=LC) T.y6 Vi λ_ _ _ _ _ _ J=>Ad (By (tIn J (vp 1) (vp 0)) (Ae (Ag (Dk (nT HD "_law_one") (by show Ej "_law_one" HD++(["_law_one"]:List Str)=_;decide +kernel) (cO (N:=HD) (sc:=Ab Ld) rfl rfl) rfl (Sa.top (BJ rfl (vr 0))) (λ_ _ _=>P0 (tNe J (vp 2) (vp 1))) (λ_ _ _=>vr 2)))) (Bd)) (Ae (Ag (OQ (vp 0) (pU (DN (dq 1 (Ac)))))))
abbrev NK:List Str:=["_law_world_here","_law_cell_here","_law_size","_law_some","_law_others","_law_here","_law_there","_law_at","_law_marked","_law_tied","_law_word"]
def BL:am NK ["_law_world_here","_law_cell_here"] (Ab M6):=Nn
theorem SN(T:Tx G mg):QN P w base T.h7 2 (MS G Cv):=
 Rl (k:=1) (N:=NK) (b:=Dp) T.h7 BL λ_ _ _ _ _ _ J=>Ad (XD (Hl rfl rfl (Ax (gN BL.nd 2) (Ax (gN BL.nd 3) (Ax (gN BL.nd 4) (Fw))))) (vr 0)) (Ad (sF BL.nd 5 (OL (vp 1) (pU (JM (Qt rfl) T_ rfl T.NG UW (vp 2) (iP))))) (Ad (sF BL.nd 6 (OL (pU (Tb (vp 1) (iP))) (pU (JM (Qt rfl) T_ rfl T.NG UW (vp 2) (iP))))) (Ad (By (YU.pt (Kv (YN J (vp 2) (iP)) (Gd (YN J (pU (OQ (pU (BK ((BX rfl).or BZ) CV rfl T.SF Dn (vp 3))) (pU (BK ((BX rfl).or BZ) CV rfl T.SF Dn (vp 4))))) (iP))))) (Ae (Ag (vr 0))) (Bd)) (Ad (sF BL.nd 7 (OL (pU (Tb (vp 1) (iP))) (pU (OQ (pU (BK ((BX rfl).or BZ) CV rfl T.SF Dn (vp 3))) (pU (BK ((BX rfl).or BZ) CV rfl T.SF Dn (vp 4))))))) (Ad (sW BL.nd 8 (dC rfl T.ZE cF (vp 3))) (Ad (sW BL.nd 9 (dC rfl T.ZE cF (vp 4))) (Ad (By (tLt (vp 7) (pU (BK ((BX rfl).or BZ) CV rfl T.SF Dn (vp 3)))) (Ad (sF BL.nd 10 (iX J (pU (Q8 (Ku.or (K3 rfl)) RL rfl T.UF Sw (vp 3))) (vp 7))) (Ae (K1 (Ip J) (pv 8) (vr 10) (fX (Om T) J (Af (iX J (vp 3) (vp 10)) (dq 5 (Ac)) An))))) (Ad (sF BL.nd 10 (iX J (pU (Q8 (Ku.or (K3 rfl)) RL rfl T.UF Sw (vp 4))) (pU (bSub (vp 7) (pU (BK ((BX rfl).or BZ) CV rfl T.SF Dn (vp 3))))))) (Ae (K1 (Ip J) (pv 9) (vr 10) (fX (Om T) J (Af (iX J (vp 4) (vp 10)) (Af (Gj (dq 5 (dq 6 (Ac)))) (Ac) Ur) An)))))) (Ae (O3 [8,9] (Ag (DN (dq 2 (dq 8 (dq 9 (Ac)))))))))))))))
abbrev Qh:List Str:=["_law_cells","_law_one","_law_two","_law_three","_law_four","_law_bits","_law_number","_law_size","_law_marks","_law_ties","_law_first","_law_kind","_law_second"]
def Az:am Qh ["_law_cells"] (Ab Qd):=Nn
theorem Vj(T:Tx G mg):QN P w base T.e8 3 (MS G Dc):=
 Rl (k:=2) (N:=Qh) (b:=Fe) T.e8 Az λ_ _ _ _ _ _ J=>Ad (XD (Hl rfl rfl (Ax (gN Az.nd 1) (Ax (gN Az.nd 2) (Ax (gN Az.nd 3) (Ax (gN Az.nd 4) (Fw)))))) (vr 0)) (Ad (sF Az.nd 5 (OL (pU (bMul (vp 2) (iP))) (pU (HS Wq Wr (iP) (iP))))) (Ad (By (YN J (pU (OL (vp 1) (iP))) (iP)) (Ae (sF Az.nd 5 (OL (vp 2) (pU (HS Wq Wr (iP) (iP)))))) (Bd)) (Ad (sF Az.nd 6 (OL (pU (bMul (pU (Tb (vp 1) (iP))) (iP))) (iP))) (Ad (sF Az.nd 7 (iX J (pU (DN (iI (iI (iI (iI (iI (iI (iI (iI (iI (iI (iI (iI (Ac))))))))))))))) (pU (OL (vp 6) (iP))))) (Ad (sF Az.nd 8 (KJ rfl (pU (DN (iS (iS (iS (Ac)))))) (Ma) (JL (pU (OL (pU (Tb (vp 6) (iP))) (iP)))))) (Ad (sF Az.nd 9 (KJ rfl (pU (DN (iS (iS (iS (Ac)))))) (Ma) (JL (pU (OL (pU (Tb (vp 6) (iP))) (iP)))))) (Ad (sF Az.nd 10 (fX (KC T) J (dq 7 (dq 8 (dq 9 (dq 5 (Ac))))))) (Ad (sF Az.nd 11 (OL (vp 3) (iP))) (Ad (By (YN J (vp 11) (iP)) (Ae (Ag (DN (dq 10 (Af (fX (KC T) J (Af (OL (pU (Tb (vp 3) (iP))) (iP)) (dq 8 (dq 9 (Af (OL (vp 4) (pU (HS Wq Wr (iP) (iP)))) (Ac) Fx))) Fx)) (Ac) Gm))))) (Bd)) (Ad (By (YN J (vp 11) (iP)) (Ae (Ag (DN (dq 10 (Af (fX (KC T) J (Af (JM (Np rfl) Pz rfl T.OG Ua (pU (OQ (vp 7) (iP))) (iP)) (dq 8 (dq 9 (dq 5 (Ac)))) Gm)) (Ac) Gm))))) (Bd)) (Ad (sF Az.nd 12 (fX (U8 T) J (dq 10 (Af (fX (Vh T) J (Af (Tb (vp 3) (iP)) (dq 7 (Ac)) Fx)) (Ac) Gm)))) (Ad (By (YN J (vp 11) (iP)) (Ae (Ag (DN (dq 10 (dq 12 (Ac)))))) (Bd)) (Ae (Ag (DN (dq 10 (Af (fX (SN T) J (dq 12 (Af (Tb (vp 4) (iP)) (Ac) Fx))) (Ac) Gm)))))))))))))))))
abbrev NP:List Str:=["number","most"]
def SQ:am NP ["number","most"] (Ab M7):=Nn
theorem GR(T:Tx G mg):QN P w base T.h8 1 (MS G Bj):=
 Rl (k:=0) (N:=NP) (b:=JV) T.h8 SQ λ_ _ _ _ _ _ J=>Ae (By (tGt (vp 0) (vp 1)) (Ae (JB)) (Bd))
abbrev Jy:List Str:=["size","thing"]
def PP:am Jy ["size","thing"] (Ab Ju):=Nn
theorem CN(T:Tx G mg):QN P w base T.h9 1 (MS G BV):=
 Rl (k:=0) (N:=Jy) (b:=Gu) T.h9 PP λ_ _ _ _ _ _ J=>Ae (By (YU.pt (Kv (tLt (vp 1) (iP)) (Gd (tGe (vp 1) (vp 0))))) (Ae (JB)) (Bd))
abbrev Oo:List Str:=["size","things","kept","thing"]
def Jd:am Oo ["size","things"] (Ab Oh):=Nn
theorem U9(T:Tx G mg):QN P w base T.NA 2 (MS G Eg):=
 Rl (k:=1) (N:=Oo) (b:=J7) T.NA Jd λ_ _ _ _ _ _ J=>Ad (sW Jd.nd 2 (Ui)) (Ad (Cg eD rfl (BJ rfl (vr 1)) (Cd (gN Jd.nd 3)) (Ad (Dm (fX (CN T) J (dq 0 (dq 3 (Ac))))) (Ae (K1 (Ip J) (pv 2) (vr 3) (HJ))))) (Ae (O3 [2] (Ag (vr 2)))))
abbrev Qi:List Str:=["size","pairs","kept","one","other"]
def Ht:am Qi ["size","pairs"] (Ab Qe):=Nn
theorem Vk(T:Tx G mg):QN P w base T.OA 2 (MS G Ff):=
 Rl (k:=1) (N:=Qi) (b:=LK) T.OA Ht λ_ _ _ _ _ _ J=>Ad (sW Ht.nd 2 (AAn)) (Ad (Cg eD rfl (BJ rfl (vr 1)) (Hl rfl rfl (Ax (gN Ht.nd 3) (Ax (gN Ht.nd 4) (Fw)))) (Ad (Dm (fX (CN T) J (dq 0 (dq 3 (Ac))))) (Ad (Dm (fX (CN T) J (dq 0 (dq 4 (Ac))))) (Ae (m8 (Ip J) (pv 2) (dq 3 (dq 4 (Ac))) (HJ)))))) (Ae (O3 [2] (Ag (vr 2)))))
abbrev Kd:List Str:=["text"]
def az:am Kd ["text"] (Ab Rf):=Nn
theorem U_(T:Tx G mg):QN P w base T.QA 1 (MS G Fg):=
 Rl (k:=0) (N:=Kd) (b:=Ra) T.QA az λ_ _ _ _ _ _ J=>Ad (By (YU.pt (Kv (tIn J (vp 0) (pU (JH (Kr (v:=.ref T.UI.a) rfl T.UI.m rfl) T.UI.r))) (Kv (YN J (pU (BK ((BX rfl).or BZ) CV rfl T.SF Dn (vp 0))) (iP)) (Gd (tGt (pU (BK ((BX rfl).or BZ) CV rfl T.SF Dn (vp 0))) (pU (JH (Kr (v:=(.int 8)) rfl T.NH.m ⟨_,rfl⟩) (.int _)))))))) (Ae (Ag (HJ))) (Bd)) (Ae (Ag (BK (RN rfl) XH rfl T.XE aO (pU (Dk (nT Kd "letter") (by show Ej "letter" Kd++(["letter"]:List Str)=_;decide +kernel) (cO (N:=Kd) (sc:=Ab Rf) rfl rfl) rfl (Sa.top (BJ rfl (vr 0))) (λ_ _ _=>Cr) (λ_ _ _=>cIn J (vp 1) (pU (JH (Kr (v:=(.str "abcdefghijklmnopqrstuvwxyz")) rfl T.OH.m ⟨_,rfl⟩) (.str _)))))))))
abbrev Ke:List Str:=["self","size","marks","ties","word","things","pairs"]
def Dg:am Ke ["self","size","marks","ties"] (Ab Ka):=Nn
theorem Jz(T:Tx G mg):gn P w G.K mg base CX0 3 T.RA.f T.RA.fd ["self","size","marks","ties"] (spI G "World" Cq):=
 fn_I (c:="World") (k:=2) (N:=Ke) (b:=HX) T.RA.F Dg .(2) λI A z s H E J=>Eb (QL (Dm (fX (GR T) J (dq 1 (Af (JH (Kr (v:=(.int 5)) rfl T.PH.m ⟨_,rfl⟩) (.int _)) (Ac) QR)))) S7) (Eb (QL (Dm (fX (GR T) J (Af (BK ((BX rfl).or BZ) CV rfl T.SF Dn (vp 2)) (Af (JH (Kr (v:=(.int 3)) rfl T.RH.m ⟨_,rfl⟩) (.int _)) (Ac) QR) Gm))) S7) (Eb (QL (Dm (fX (GR T) J (Af (BK ((BX rfl).or BZ) CV rfl T.SF Dn (vp 3)) (Af (JH (Kr (v:=(.int 3)) rfl T.RH.m ⟨_,rfl⟩) (.int _)) (Ac) QR) Gm))) S7) (Eb (KR T.TH (pv 0) (vr 1)) (Eb (Uk T.UH (pv 0) Ui) (Eb (Uk T.WH (pv 0) Ui) (Eb (dH eD rfl (Vy (top:=O2) (vr 2)) (Hl rfl rfl (Ax (gN Dg.nd 4) (Ax (gN Dg.nd 5) (Fw)))) (nD (S8 .(2) (S8 .(2) (nC)))) (Yy (nA (Yz (Hk (Gi (pU (fX (U_ T) J (dq 4 (Ac)))) rfl))) (Ae JB)) (dG (Y0 (Ip J) T.UH (pv 0) (vr 4) (fX (U9 T) J (dq 1 (dq 5 (Ac)))))))) (Eb (dH eD rfl (Vy (top:=O2) (vr 3)) (Hl rfl rfl (Ax (gN Dg.nd 4) (Ax (gN Dg.nd 6) (Fw)))) (nD (S8 .(2) (S8 .(2) (nC)))) (Yy (nA (PWE.pt (yo (Yz (Hk (Gi (pU (fX (U_ T) J (dq 4 (Ac)))) rfl))) (uI (yp (Ip J) T.UH (pv 0) (vr 4))))) (Ae JB)) (dG (Y0 (Ip J) T.WH (pv 0) (vr 4) (fX (Vk T) J (dq 1 (dq 6 (Ac)))))))) (dI))))))))
abbrev Je:List Str:=["self"]
def N8:am Je ["self"] (Ab Jb):=Nn
theorem Ir(T:Tx G mg):gn P w G.K mg base CX0 1 T.SA.f T.SA.fd ["self"] (MS G Cz):=
 Ta (k:=0) (N:=Je) (b:=GZ) T.SA.F N8 .(2) λ_ _ _ _ _ _ J=>Ae (Ag (BK (Oe rfl) dR rfl T.XG Nr (pU (BW T.UH (vp 0)))))
abbrev J0:List Str:=["self"]
def PQ:am J0 ["self"] (Ab Jv):=Nn
theorem Jf(T:Tx G mg):gn P w G.K mg base CX0 1 T.UA.f T.UA.fd ["self"] (MS G Dd):=
 Ta (k:=0) (N:=J0) (b:=Gw) T.UA.F PQ .(2) λ_ _ _ _ _ _ J=>Ae (Ag (BK (Oe rfl) dR rfl T.XG Nr (pU (BW T.WH (vp 0)))))
abbrev Ls:List Str:=["one","other"]
def Rh:am Ls ["one","other"] (Ab Lh):=Nn
theorem Kf(T:Tx G mg):QN P w base T.VA 2 (MS G DP):=
 Rl (k:=1) (N:=Ls) (b:=Ig) T.VA Rh λ_ _ _ _ _ _ J=>Ae (By (YU.pt (Kv (tNe J (pU (mO T.f_ T.r_ (Ir T) J (vr 0))) (pU (mO T.f_ T.r_ (Ir T) J (vr 1)))) (Gd (tNe J (pU (mO T.f_ T.r_ (Jf T) J (vr 0))) (pU (mO T.f_ T.r_ (Jf T) J (vr 1))))))) (Ae (JB)) (Bd))
abbrev Kg:List Str:=["self","one","other"]
def Qj:am Kg ["self","one","other"] (Ab Kc):=Nn
theorem J1(T:Tx G mg):gn P w G.K mg base CX0 1 T.WA.f T.WA.fd ["self","one","other"] (spI G "Ranks" CJ):=
 fn_I (c:="Ranks") (k:=0) (N:=Kg) (b:=HY) T.WA.F Qj .(2) λI A z s H E J=>Eb (KR T.ZH (pv 0) (vr 1)) (Eb (KR T.NI (pv 0) (vr 2)) (Eb (KR T.OI (pv 0) (zG rfl)) (Eb (KR T.QI (pv 0) (OQ (pU (JM (Qt rfl) T_ rfl T.NG UW (pU (BW T.TH (vp 1))) (pU (BW T.TH (vp 2))))) (iP))) (dI))))
abbrev Lw:List Str:=["self","one","other"]
def Ri:am Lw ["self","one","other"] (Ab Li):=Nn
theorem Kh(T:Tx G mg):gn P w G.K mg base CX0 3 T.XA.f T.XA.fd ["self","one","other"] (spIM G "Play" "put" Ec):=
 ABH (c:="Play") (f0:="put") (k:=2) (N:=Lw) (b:=Ih) T.XA.F Ri .(2) λI A z s H E J=>RZ (QL (Dm (fX (Kf T) J (dq 1 (dq 2 (Ac))))) S7) (RZ (KR T.RI (pv 0) (XN T.d0 T.WA.mM (J1 T) (J.mono .(0)) rfl T.z0 T.WA.B (dq 1 (dq 2 (Ac))))) (RZ (Uk T.SI (pv 0) (Ww (Ac))) (pC)))
abbrev HF:List Str:=["one","other","pairs","first","second"]
def Dr:am HF ["one","other","pairs"] (Ab G_):=Nn
theorem Kl(T:Tx G mg):QN P w base T.YA 3 (MS G Ci):=
 Rl (k:=2) (N:=HF) (b:=Dy) T.YA Dr λ_ _ _ _ _ _ J=>Ad (Dm (fX (Kf T) J (dq 0 (dq 1 (Ac))))) (Ae (Cg eD rfl (BJ rfl (vr 2)) (Hl rfl rfl (Ax (gN Dr.nd 3) (Ax (gN Dr.nd 4) (Fw)))) (Ad (Dm (fX (CN T) J (Af (BW T.TH (vp 0)) (dq 3 (Ac)) Bl))) (Ae (Dm (fX (CN T) J (Af (BW T.TH (vp 1)) (dq 4 (Ac)) Bl)))))))
abbrev Jg:List Str:=["size","paired"]
def Za:am Jg ["size","paired"] (Ab PL):=Nn
theorem R7(T:Tx G mg):QN P w base T.ZA 1 (MS G JW):=
 Rl (k:=0) (N:=Jg) (b:=O_) T.ZA Za λ_ _ _ _ _ _ J=>Ae (Ag (Dk (nT Jg "thing") (by show Ej "thing" Jg++(["thing"]:List Str)=_;decide +kernel) (cO (N:=Jg) (sc:=Ab PL) rfl rfl) rfl (GD rfl T.SG (vp 0)) (λ_ _ _=>P0 (tNi J (vp 2) (vp 1))) (λ_ _ _=>vr 2)))
abbrev Lx:List Str:=["one","other","pair","word"]
def Km:am Lx ["one","other","pair"] (Ab Lj):=Nn
theorem Rj(T:Tx G mg):QN P w base T.lB 1 (MS G GP):=
 Rl (k:=0) (N:=Lx) (b:=Ii) T.lB Km λ_ _ _ _ _ _ J=>Ad (Cg eD rfl (BJ rfl (BW T.UH (vp 0))) (Cd (gN Km.nd 3)) (Ae (By (tNe J (pU (cIn J (pU (iX J (vp 2) (iP))) (pU (iX J (pU (BW T.UH (vp 0))) (vp 3))))) (pU (cIn J (pU (iX J (vp 2) (iP))) (pU (iX J (pU (BW T.UH (vp 1))) (vp 3)))))) (Ae (Ag (HJ))) (Bd)))) (Ae (Ag (HJ)))
abbrev Ly:List Str:=["one","other","pair","further","word"]
def Ko:am Ly ["one","other","pair","further"] (Ab Ln):=Nn
theorem Hh(T:Tx G mg):QN P w base T.OB 1 (MS G DQ):=
 Rl (k:=0) (N:=Ly) (b:=Ij) T.OB Ko λ_ _ _ _ _ _ J=>Ad (Cg eD rfl (BJ rfl (BW T.WH (vp 0))) (Cd (gN Ko.nd 4)) (Ae (By (tNe J (pU (nJ J (Af (iX J (vp 2) (iP)) (Af (iX J (vp 3) (iP)) (Ac) An) An) (pU (iX J (pU (BW T.WH (vp 0))) (vp 4))))) (pU (nJ J (Af (iX J (vp 2) (iP)) (Af (iX J (vp 3) (iP)) (Ac) An) An) (pU (iX J (pU (BW T.WH (vp 1))) (vp 4)))))) (Ae (Ag (HJ))) (Bd)))) (Ae (Ag (HJ)))
abbrev Oq:List Str:=["one","other","pair","further"]
def VB:am Oq ["one","other","pair","further"] (Ab Oi):=Nn
theorem VD(T:Tx G mg):QN P w base T.SB 2 (MS G Hn):=
 Rl (k:=1) (N:=Oq) (b:=J8) T.SB VB λ_ _ _ _ _ _ J=>Ad (By (tNe J (pU (cEq J (pU (iX J (vp 2) (iP))) (pU (iX J (vp 3) (iP))))) (pU (cEq J (pU (iX J (vp 2) (iP))) (pU (iX J (vp 3) (iP)))))) (Ae (Ag (HJ))) (Bd)) (Ae (Ag (Oz (fX (Hh T) J (dq 0 (dq 1 (dq 2 (dq 3 (Ac)))))) (Q6 (fX (Hh T) J (dq 0 (dq 1 (dq 3 (dq 2 (Ac))))))))))
abbrev H_:List Str:=["one","other","pairs","further"]
def Xk:am H_ ["one","other","pairs","further"] (Ab M8):=Nn
theorem Qk(T:Tx G mg):QN P w base T.TB 3 (MS G Hy):=
 Rl (k:=2) (N:=H_) (b:=Mz) T.TB Xk λ_ _ _ _ _ _ J=>Ad (By (YU.pt (Kv (Hk (Gi (pU (fX (Rj T) J (dq 0 (dq 1 (dq 3 (Ac)))))) rfl)) (Gd (Hk (Gi (pU (fX (Hh T) J (dq 0 (dq 1 (dq 3 (dq 3 (Ac))))))) rfl))))) (Ae (Ag (HJ))) (Bd)) (Ae (Ag (BK (RN rfl) XH rfl T.XE aO (pU (Dk (nT H_ "pair") (by show Ej "pair" H_++(["pair"]:List Str)=_;decide +kernel) (cO (N:=H_) (sc:=Ab M8) rfl rfl) rfl (Sa.top (BJ rfl (vr 2))) (λ_ _ _=>Cr) (λ_ _ _=>fX (VD T) J (dq 0 (dq 1 (dq 4 (dq 3 (Ac)))))))))))
abbrev J2:List Str:=["self","pairs","further"]
def PX:am J2 ["self","pairs","further"] (Ab Jw):=Nn
theorem Pa(T:Tx G mg){m:Nat}{z:List D->Option D}(L:3<=m)(I:gn P w G.K mg base CX0 m T.ZB.f T.ZB.fd ["self","pairs"] (MS G z)):gn P w G.K mg base CX0 (m+1) T.UB.f T.UB.fd ["self","pairs","further"] (MS G (Br z)):=
 Ta (k:=m+0) (N:=J2) (b:=G3 z) T.UB.F PX .(2) λ_ _ _ _ _ _ J=>Ad (By (Hk (Gi (pU (fX (Qk T) J (Af (BW T.ZH (vp 0)) (Af (BW T.NI (vp 0)) (dq 1 (dq 2 (Ac))) Bl) Bl))) rfl)) (Ae (Ag (Q4))) (Bd)) (Ae (Ag (mA T.d0 T.p0 (I) J (vr 0) (Af (zK rfl rfl rfl T.hH Yx rfl T.XG Nr (pU (HS ue oX (vp 1) (pU (Gj (dq 2 (Ac))))))) (Ac) Gm))))
abbrev Dh:List Str:=["self","pairs","choices"]
def Pb:am Dh ["self","pairs","choices"] (Ab HB):=Nn
theorem Jh(T:Tx G mg){m:Nat}{z:List D->Option D}(L:3<=m)(I:gn P w G.K mg base CX0 m T.ZB.f T.ZB.fd ["self","pairs"] (MS G z)):gn P w G.K mg base CX0 (m+2) T.WB.f T.WB.fd ["self","pairs","choices"] (MS G (Ar z)):=
 Ta (k:=m+1) (N:=Dh) (b:=G4 z) T.WB.F Pb .(2) λ_ _ _ _ _ _ J=>Ae (Ag (cD rfl rfl rfl T.NG UW (pU (Dk (nT Dh "further") (by show Ej "further" Dh++(["further"]:List Str)=_;decide +kernel) (cO (N:=Dh) (sc:=Ab HB) rfl rfl) rfl (Sa.top (BJ rfl (vr 2))) (λ_ _ _=>Cr) (λ_ _ _=>mA T.d0 T.p0 (Pa T .(0) (I)) J (vr 0) (dq 1 (dq 3 (Ac)))))) (Q4)))
abbrev Aq:List Str:=["self","pairs","firsts","seconds","reached","first","second"]
def Bt:am Aq ["self","pairs"] (Ab CK):=Nn
theorem N_(T:Tx G mg){m:Nat}{z:List D->Option D}(L:3<=m)(I:gn P w G.K mg base CX0 m T.ZB.f T.ZB.fd ["self","pairs"] (MS G z)):gn P w G.K mg base CX0 (m+3) T.XB.f T.XB.fd ["self","pairs"] (MS G (C_ z)):=
 Ta (k:=m+2) (N:=Aq) (b:=Ga z) T.XB.F Bt .(2) λ_ _ _ _ _ _ J=>Ad (sF Bt.nd 2 (fX (R7 T) J (Af (BW T.TH (pU (BW T.ZH (vp 0)))) (Af (Dk (nT Aq "pair") (by show Ej "pair" Aq++(["pair"]:List Str)=_;decide +kernel) (cO (N:=Aq) (sc:=Ab CK) rfl rfl) rfl (Sa.top (BJ rfl (vr 1))) (λ_ _ _=>Cr) (λ_ _ _=>iX J (vp 7) (iP))) (Ac) Hv) Bl))) (Ad (sF Bt.nd 3 (fX (R7 T) J (Af (BW T.TH (pU (BW T.NI (vp 0)))) (Af (Dk (nT Aq "pair") (by show Ej "pair" Aq++(["pair"]:List Str)=_;decide +kernel) (cO (N:=Aq) (sc:=Ab CK) rfl rfl) rfl (Sa.top (BJ rfl (vr 1))) (λ_ _ _=>Cr) (λ_ _ _=>iX J (vp 7) (iP))) (Ac) Hv) Bl))) (Ad (sW Bt.nd 4 (Ww (Ac))) (Ad (Cg eD rfl (BJ rfl (vr 2)) (Cd (gN Bt.nd 5)) (Ae (Sy (pv 4) (mA T.d0 T.p0 (Jh T .(0) (I)) J (vr 0) (dq 1 (Af (Dk ["self","pairs","firsts","seconds","reached","first","","second"] (by show Ej "second" Aq++(["second"]:List Str)=_;decide +kernel) (cO (N:=Aq) (sc:=Ab CK) rfl rfl) rfl (Sa.top (BJ rfl (vr 3))) (λ_ _ _=>Cr) (λ_ _ _=>Gj (dq 5 (dq 7 (Ac))))) (Ac) Hv)))))) (Ad (Cg eD rfl (BJ rfl (vr 3)) (Cd (gN Bt.nd 6)) (Ae (Sy (pv 4) (mA T.d0 T.p0 (Jh T .(0) (I)) J (vr 0) (dq 1 (Af (Dk ["self","pairs","firsts","seconds","reached","","second","first"] (by show Ej "first" Aq++(["first"]:List Str)=_;decide +kernel) (cO (N:=Aq) (sc:=Ab CK) rfl rfl) rfl (Sa.top (BJ rfl (vr 2))) (λ_ _ _=>Cr) (λ_ _ _=>Gj (dq 7 (dq 6 (Ac))))) (Ac) Hv)))))) (Ae (Ag (JM (Np rfl) Pz rfl T.OG Ua (pU (BW T.QI (vp 0))) (pU (OQ (iP) (pU (ud rfl rfl rfl T.OG Ua (vq 4) (BW T.QI (vp 0)))))))))))))
abbrev Ds:List Str:=["self","pairs"]
def Fz:am Ds ["self","pairs"] (Ab Gf):=Nn
theorem F_(T:Tx G mg):∀n:Nat,gn P w G.K mg base CX0 (n*4+3) T.ZB.f T.ZB.fd ["self","pairs"] (MS G (Ai n))
 |0=>tR
 |n+1=>(Ta (k:=n*4+6) (N:=Ds) (b:=Bm (Ai n)) T.ZB.F Fz .(2) λ_ _ _ _ _ _ J=>oF J.units rfl T.OI rfl (by first | exact dn rfl | exact cr (dn rfl) | exact cr (cr rfl)) rfl (by first | exact dn rfl | exact cr (dn rfl) | exact cr (cr rfl)) (mA T.d0 T.p0 (N_ T .(0) (F_ T n)) J (vr 0) (dq 1 (Ac)))).mono .(0)
theorem Jm(T:Tx G mg):gn P w G.K mg base CX0 1 T.ZB.f T.ZB.fd ["self","pairs"] (spP P w G.K "reckoned"):=
 fn_P (k:=0) (N:=Ds) T.ZB.F Fz rfl λ_ _ _ _ _ _ J=>ug J.units rfl (by first | exact dn rfl | exact cr (dn rfl) | exact cr (cr rfl)) rfl (by first | exact dn rfl | exact cr (dn rfl) | exact cr (cr rfl))
abbrev N6:List Str:=["one","other","pairs"]
def a_:am N6 ["one","other","pairs"] (Ab Rg):=Nn
theorem bA(T:Tx G mg):QN P w base T.NC 4 (MS G JG):=
 Rl (k:=3) (N:=N6) (b:=Rb) T.NC a_ λ_ _ _ _ _ _ J=>Ae (Ag (BK (RN rfl) XH rfl T.XE aO (pU (PN.pf (nY ["one","other","pairs","at","pair"] (by show CG ["at","pair"] N6++(["at","pair"]:List Str)=_;decide +kernel) (cO2 (N:=N6) (sc:=Ab Rg) rfl rfl) rfl rfl (Sa.top (iu rfl rfl T.NF (vr 2))) (λ_ _ _=>Cr) (λ_ _ _=>fX (Qk T) J (dq 0 (dq 1 (Af (KJ rfl (vp 2) (Ma) (JL (vp 3))) (dq 4 (Ac)) An)))))))))
abbrev Lz:List Str:=["self","pairs","known"]
def Kp:am Lz ["self","pairs"] (Ab Lp):=Nn
theorem Hi(T:Tx G mg):gn P w G.K mg base CX0 36 T.OC.f T.OC.fd ["self","pairs"] (MS G Bb):=
 Ta (k:=35) (N:=Lz) (b:=GQ) T.OC.F Kp .(2) λ_ _ _ _ _ _ J=>Ad (sF Kp.nd 2 (zJ J.units rfl rfl rfl T.hH Yx rfl T.XG Nr rfl T.WG ye (vp 1))) (o6 (d:=T.ZB) J.units rfl T.OI T.d0 rfl (by first | exact dn rfl | exact cr (dn rfl) | exact cr (cr rfl)) rfl (by first | exact dn rfl | exact cr (dn rfl) | exact cr (cr rfl)) (Gi (pU (fX (bA T) J (Af (BW T.ZH (vp 0)) (Af (BW T.NI (vp 0)) (dq 2 (Ac)) Bl) Bl))) rfl) (Jm T) (J.mono .(0)) (Ag (mA T.d0 T.p0 (F_ T 8) J (vr 0) (dq 2 (Ac)))))
abbrev J3:List Str:=["self","pairs","reached"]
def Ji:am J3 ["self","pairs"] (Ab Jx):=Nn
theorem Jj(T:Tx G mg):gn P w G.K mg base CX0 37 T.SC.f T.SC.fd ["self","pairs"] (MS G Bs):=
 Ta (k:=36) (N:=J3) (b:=G5) T.SC.F Ji .(2) λ_ _ _ _ _ _ J=>Ad (sF Ji.nd 2 (mA T.d0 T.p0 (Hi T) J (vr 0) (dq 1 (Ac)))) (Ae (Ag (j_ (YN J (vp 2) (pU (BW T.QI (vp 0)))) (yL) (vr 2))))
abbrev pH:List Str:=["one","other","pairs"]
def ul:am pH ["one","other","pairs"] (Ab pG):=Nn
theorem eE(T:Tx G mg):QN P w base T.TC 38 (MS G PB):=
 Rl (k:=37) (N:=pH) (b:=au) T.TC ul λ_ _ _ _ _ _ J=>Ad (Dm (fX (Kl T) J (dq 0 (dq 1 (dq 2 (Ac)))))) (Ae (Ag (mA T.d0 T.p0 (Jj T) J (XN T.d0 T.WA.mM (J1 T) (J.mono .(0)) rfl T.z0 T.WA.B (dq 0 (dq 1 (Ac)))) (dq 2 (Ac)))))
abbrev R8:List Str:=["self"]
def Xl:am R8 ["self"] (Ab R5):=Nn
theorem Le(T:Tx G mg):gn P w G.K mg base CX0 38 T.UC.f T.UC.fd ["self"] (MS G Du):=
 Ta (k:=37) (N:=R8) (b:=M4) T.UC.F Xl .(2) λ_ _ _ _ _ _ J=>Ae (Ag (mA T.d0 T.p0 (Jj T) J (BW T.RI (vp 0)) (Af (BW T.SI (vp 0)) (Ac) Bl)))
abbrev GC:List Str:=["self"]
def Jo:am GC ["self"] (Ab Fy):=Nn
theorem Jp(T:Tx G mg):gn P w G.K mg base CX0 2 T.VC.f T.VC.fd ["self"] (MS G Bk):=
 Ta (k:=1) (N:=GC) (b:=Di) T.VC.F Jo .(2) λ_ _ _ _ _ _ J=>Ae (Dm (fX (GR T) J (Af (OQ (pU (BK ((BX rfl).or BZ) CV rfl T.SF Dn (pU (BW T.SI (vp 0))))) (iP)) (Af (JH (Kr (v:=(.int 5)) rfl T.SH.m ⟨_,rfl⟩) (.int _)) (Ac) QR) Fx)))
abbrev NQ:List Str:=["ranks","side"]
def SX:am NQ ["ranks","side"] (Ab M9):=Nn
theorem Io(T:Tx G mg):QN P w base T.WC 1 (MS G DG):=
 Rl (k:=0) (N:=NQ) (b:=JX) T.WC SX λ_ _ _ _ _ _ J=>Ae (Ag (j_ (YN J (vp 1) (iP)) (BW T.TH (pU (BW T.ZH (vp 0)))) (BW T.TH (pU (BW T.NI (vp 0))))))
abbrev WF:List Str:=["side","thing","replied"]
def bB:am WF ["side","thing","replied"] (Ab WD):=Nn
theorem VF(T:Tx G mg):QN P w base T.ND 1 (MS G KZ):=
 Rl (k:=0) (N:=WF) (b:=Rc) T.ND bB λ_ _ _ _ _ _ J=>Ae (Ag (j_ (YN J (vp 0) (iP)) (Gj (dq 1 (dq 2 (Ac)))) (Gj (dq 2 (dq 1 (Ac))))))
abbrev IK:List Str:=["ranks","side","thing"]
def Xm:am IK ["ranks","side","thing"] (Ab M_):=Nn
theorem Xn(T:Tx G mg):QN P w base T.PD 2 (MS G Hz):=
 Rl (k:=1) (N:=IK) (b:=M5) T.PD Xm λ_ _ _ _ _ _ J=>Ae (Ag (Dk (nT IK "replied") (by show Ej "replied" IK++(["replied"]:List Str)=_;decide +kernel) (cO (N:=IK) (sc:=Ab M_) rfl rfl) rfl (GD rfl T.SG (pU (fX (Io T) J (dq 0 (Af (bSub (iP) (vp 1)) (Ac) Fx))))) (λ_ _ _=>Cr) (λ_ _ _=>fX (VF T) J (dq 1 (dq 2 (dq 3 (Ac)))))))
abbrev Ez:List Str:=["ranks","pairs","side","thing"]
def Sd:am Ez ["ranks","pairs","side","thing"] (Ab Jc):=Nn
theorem Sg(T:Tx G mg):QN P w base T.SD 37 (MS G G6):=
 Rl (k:=36) (N:=Ez) (b:=JZ) T.SD Sd λ_ _ _ _ _ _ J=>Ae (Ag (Dk (nT Ez "pair") (by show Ej "pair" Ez++(["pair"]:List Str)=_;decide +kernel) (cO (N:=Ez) (sc:=Ab Jc) rfl rfl) rfl (Sa.top (BJ rfl (fX (Xn T) J (dq 0 (dq 2 (dq 3 (Ac))))))) (λ_ _ _=>Cr) (λ_ _ _=>mA T.d0 T.p0 (Hi T) J (vr 0) (Af (OQ (vp 1) (pU (DN (dq 4 (Ac))))) (Ac) Fx))))
abbrev L_:List Str:=["ranks","pairs","reached","side","thing"]
def Fi:am L_ ["ranks","pairs"] (Ab Lq):=Nn
theorem Rk(T:Tx G mg):QN P w base T.TD 38 (MS G Bv):=
 Rl (k:=37) (N:=L_) (b:=Ik) T.TD Fi λ_ _ _ _ _ _ J=>Ad (sF Fi.nd 2 (mA T.d0 T.p0 (Hi T) J (vr 0) (dq 1 (Ac)))) (Ad (By (YU.pt (Kv (YN J (vp 2) (iP)) (Gd (YN J (vp 2) (pU (BW T.QI (vp 0))))))) (Ae (JB)) (Bd)) (Ae (Cg eD rfl (BJ rfl (Gj (iI (iI (Ac))))) (Cd (gN Fi.nd 3)) (Ae (Cg eD rfl (GD rfl T.SG (pU (fX (Io T) J (dq 0 (dq 3 (Ac)))))) (Cd (gN Fi.nd 4)) (Ae (By (tLt (pU (cD rfl rfl rfl T.NG UW (pU (fX (Sg T) J (dq 0 (dq 1 (dq 3 (dq 4 (Ac))))))) (Q4))) (vp 2)) (Ae (Ag (Gj (dq 3 (dq 4 (Ac)))))) (Bd))))))))
abbrev VG:List Str:=["self"]
def Zb:am VG ["self"] (Ab U6):=Nn
theorem R9(T:Tx G mg):gn P w G.K mg base CX0 39 T.UD.f T.UD.fd ["self"] (MS G Ex):=
 Ta (k:=38) (N:=VG) (b:=PJ) T.UD.F Zb .(2) λ_ _ _ _ _ _ J=>Ad (Dm (mO T.y2 T.E2 (Jp T) J (vr 0))) (Ae (Ag (fX (Rk T) J (Af (BW T.RI (vp 0)) (Af (BW T.SI (vp 0)) (Ac) Bl) Bl))))
abbrev Ot:List Str:=["self","thing","pointed"]
def NT:am Ot ["self","thing"] (Ab Oj):=Nn
theorem NZ(T:Tx G mg):gn P w G.K mg base CX0 40 T.NE.f T.NE.fd ["self","thing"] (spM G Ho):=
 fn_M (k:=39) (N:=Ot) (b:=Og) T.NE.F.d NT .(2) λ_ _ _ _ _ _ J=>BR (sXM NT.nd 2 (Mw (mO T.y2 T.E2 (R9 T) J (vr 0)))) (BR (Y7 (Mw (fX (CN T) J (Af (fX (Io T) J (Af (BW T.RI (vp 0)) (Af (bSub (iP) (pU (iX J (vp 2) (iP)))) (Ac) Fx) Bl)) (dq 1 (Ac)) Gm)))) (BR (Y7 (pB (BW T.SI (vp 0)) (Af (fX (VF T) J (Af (iX J (vp 2) (iP)) (Af (iX J (vp 2) (iP)) (dq 1 (Ac)) An) An)) (Ac) Gm))) (Iu (Ut (Mw (mO T.y2 T.E2 (Le T) J (vr 0)))))))
abbrev MF:List Str:=["_law_found","_law_size"]
def Rm:am MF ["_law_found","_law_size"] (Ab Lr):=Nn
theorem Hj(T:Tx G mg):QN P w base T.OE 1 (MS G DR):=
 Rl (k:=0) (N:=MF) (b:=Il) T.OE Rm λ_ _ _ _ _ _ J=>Ae (Ag (Oz (lE tL rfl rfl T.RF Oc rfl T.OF yc (vp 0)) (Oz (aA (lE lF rfl rfl T.RF Oc rfl T.YE tO (vp 0))) (Oz (Wo AAX yN (iP) (vp 0) (MK _)) (Q6 (Wo vQ j9 (vp 0) (vp 1) (MK _)))))))
abbrev VH:List Str:=["_law_first","_law_second","_law_row","_law_one","_law_other_here","_law_word","_law_far","_law_there"]
def E_:am VH ["_law_first","_law_second","_law_row"] (Ab U7):=Nn
theorem R_(T:Tx G mg):QN P w base T.QE 1 (MS G Dj):=
 Rl (k:=0) (N:=VH) (b:=La) T.QE E_ λ_ _ _ _ _ _ J=>Ad (Cg eD rfl (BJ rfl (vr 2)) (Hl rfl rfl (Ax (gN E_.nd 3) (Ax (gN E_.nd 4) (Fw)))) (Ad (Cg eD rfl (BJ rfl (iX J (vp 0) (iP))) (Cd (gN E_.nd 5)) (Ae (By (tNe J (pU (cIn J (vp 3) (pU (iX J (pU (iX J (vp 0) (iP))) (vp 5))))) (pU (cIn J (vp 4) (pU (iX J (pU (iX J (vp 1) (iP))) (vp 5)))))) (Ae (Ag (HJ))) (Bd)))) (Ae (Cg eD rfl (BJ rfl (vr 2)) (Hl rfl rfl (Ax (gN E_.nd 6) (Ax (gN E_.nd 7) (Fw)))) (Ad (By (tNe J (pU (cEq J (vp 3) (vp 6))) (pU (cEq J (vp 4) (vp 7)))) (Ae (Ag (HJ))) (Bd)) (Ae (Cg eD rfl (BJ rfl (iX J (vp 0) (iP))) (Cd (gN E_.nd 5)) (Ae (By (tNe J (pU (cIn J (pU (Gj (dq 3 (dq 6 (Ac))))) (pU (iX J (pU (iX J (vp 0) (iP))) (vp 5))))) (pU (cIn J (pU (Gj (dq 4 (dq 7 (Ac))))) (pU (iX J (pU (iX J (vp 1) (iP))) (vp 5)))))) (Ae (Ag (HJ))) (Bd)))))))))) (Ae (Ag (HJ)))
abbrev Ou:List Str:=["_law_cells","_law_here","_law_there","_law_first","_law_second","_law_play","_law_sizes","_law_height","_law_row","_law_side","_law_thing","_law_partner","_law_after"]
def Ba:am Ou ["_law_cells","_law_here","_law_there","_law_first","_law_second"] (Ab Ol):=Nn
theorem Nb(T:Tx G mg):QN P w base T.RE 41 (MS G Hr):=
 fnDM (k:=40) (N:=Ou) (b:=Hq) T.RE Ba λ_ _ _ _ _ _ J=>BR (sXM Ba.nd 5 (pD T.y2 T.XA.mM (Kh T) (J.mono .(0)) rfl T.y3 T.XA.B (dq 1 (dq 2 (Ac))))) (BR (DY (sF Ba.nd 6 (DN (Af (iX J (vp 3) (iP)) (Af (iX J (vp 4) (iP)) (Ac) An) An)))) (BR (DY (sF Ba.nd 7 (fX (eE T) J (dq 1 (dq 2 (Af (DN (Ac)) (Ac) XR)))))) (BR (XS [] (YN J (pU (OL (pU (iX J (vp 0) (iP))) (iP))) (iP)) (Iu (sXM Ba.nd 7 (Mw (mO T.y2 T.E2 (Le T) J (vr 5))))) (S_)) (BR (DY (sW Ba.nd 8 (Ww (Ac)))) (BR (iU 60 eD (YU.pt (Ws (Yw (vp 7)) (T8 (tGt (vp 7) (iP))))) (BR (o_ (Hl rfl rfl (Ax (gN Ba.nd 9) (Ax (gN Ba.nd 10) (Fw)))) (Mw (mO T.y2 T.E2 (R9 T) J (vr 5)))) (BR (DY (By (YU.pt (Kv (tNi J (vp 9) (pU (DN (iI (iI (Ac)))))) (Gd (Hk (Gi (pU (fX (Hj T) J (dq 10 (Af (iX J (vp 6) (vp 9)) (Ac) An)))) rfl))))) (Ae (Ag (HJ))) (Bd))) (BR (DY (By (YN J (pU (iX J (vp 6) (pU (bSub (iP) (vp 9))))) (iP)) (Ae (Ag (cEq J (pU (BK ((BX rfl).or BZ) CV rfl T.SF Dn (vq 8))) (iP)))) (Bd))) (BR (DY (sF Ba.nd 11 (OL (pU (iX J (vp 0) (pU (BK ((BX rfl).or BZ) CV rfl T.SF Dn (vq 8))))) (pU (iX J (vp 6) (pU (bSub (iP) (vp 9)))))))) (BR (DY (Sy (pv 8) (iX J (pU (DN (Af (Gj (dq 10 (dq 11 (Ac)))) (Af (Gj (dq 11 (dq 10 (Ac)))) (Ac) Ur) Ur))) (vp 9)))) (BR (sXM Ba.nd 12 (ZV T.y2 T.E2 (NZ T) J (vr 5) (dq 11 (Ac)))) (BR (DY (By (Hk (Gi (pU (fX (Hj T) J (dq 12 (dq 7 (Ac))))) rfl)) (Ae (Ag (HJ))) (Bd))) (Iu (DY (sF Ba.nd 7 (vr 12)))))))))))) (Iu (DY (O3 [8] (Ag (AAi (Oz (ym (vp 7)) (Q6 (cEq J (vq 8) (pU (DN (Ac)))))) (Q6 (Oz (cEq J (vp 7) (iP)) (Q6 (aA (fX (R_ T) J (dq 3 (dq 4 (dq 8 (Ac)))))))))))))))))))
abbrev Ql:List Str:=["self"]
def Vl:am Ql ["self"] (Ab Qf):=Nn
theorem Ov(T:Tx G mg):gn P w G.K mg base CX0 1 T.SE.f T.SE.fd ["self"] (MS G Cj):=
 Ta (k:=0) (N:=Ql) (b:=Lb) T.SE.F Vl .(2) λ_ _ _ _ _ _ J=>Ae (Ag (Q8 (Ku.or (K3 rfl)) RL rfl T.UF Sw (pU (BW T.SI (vp 0)))))
abbrev Nf:List Str:=["_law_cells","_law_here","_law_there","_law_first","_law_second","_law_play","_law_height","_law_least","_law_cell_here","_law_after"]
def Bx:am Nf ["_law_cells","_law_here","_law_there","_law_first","_law_second"] (Ab NB):=Nn
theorem Sh(T:Tx G mg):QN P w base T.UE 41 (MS G Ja):=
 fnDM (k:=40) (N:=Nf) (b:=G9) T.UE Bx λ_ _ _ _ _ _ J=>BR (sXM Bx.nd 5 (pD T.y2 T.XA.mM (Kh T) (J.mono .(0)) rfl T.y3 T.XA.B (dq 1 (dq 2 (Ac))))) (BR (DY (sF Bx.nd 6 (fX (eE T) J (dq 1 (dq 2 (Af (DN (Ac)) (Ac) XR)))))) (BR (XS [] (YN J (pU (OL (pU (Tb (pU (iX J (vp 0) (iP))) (iP))) (iP))) (iP)) (Iu (sXM Bx.nd 6 (Mw (mO T.y2 T.E2 (Le T) J (vr 5))))) (S_)) (BR (DY (sF Bx.nd 7 (JM (Np rfl) Pz rfl T.OG Ua (pU (iX J (vp 3) (iP))) (pU (iX J (vp 4) (iP)))))) (BR (uQ eD rfl (BJ rfl (vr 0)) (Cd (gN Bx.nd 8)) (Iu (XS [] (YU.pt (Ws (Yw (vp 6)) (Ws (tGt (vp 6) (iP)) (T8 (tGt (vp 7) (iP)))))) (BR (sXM Bx.nd 9 (ZV T.y2 T.E2 (NZ T) J (vr 5) (Af (OL (vp 8) (vp 7)) (Ac) Fx))) (BR (DY (By (Hk (Gi (pU (fX (Hj T) J (dq 9 (dq 6 (Ac))))) rfl)) (Ae (Ag (HJ))) (Bd))) (Iu (DY (sF Bx.nd 6 (vr 9)))))) (S_)))) (BR (XS [] (YU.pt (Kv (YN J (vp 7) (iP)) (Gd (uH (vp 6))))) (Iu (Ut (Mw (cEq J (pU (mO T.y2 T.E2 (Ov T) J (vr 5))) (pU (DN (Ac))))))) (S_)) (Iu (Ut (Mw (Oz (cEq J (vp 6) (iP)) (Q6 (aA (fX (R_ T) J (dq 3 (dq 4 (Af (mO T.y2 T.E2 (Ov T) J (vr 5)) (Ac) Gm)))))))))))))))
abbrev SJ:List Str:=["_law_script","_law_k"]
def Xo:am SJ ["_law_script","_law_k"] (Ab R6):=Nn
theorem Qm(T:Tx G mg):QN P w base T.VE 1 (MS G Ge):=
 Rl (k:=0) (N:=SJ) (b:=Jt) T.VE Xo λ_ _ _ _ _ _ J=>Ad (By (tLt (vp 1) (pU (BK (BX rfl) Sv rfl T.SF Dn (vp 0)))) (Ae (Ag (iD (vp 0) (vp 1)))) (Bd)) (Ae (Ag (Q4)))
abbrev Ng:List Str:=["_law_script","_law_first","_law_second","_law_here","_law_there","_law_cells","_law_at","_law_some"]
def Lf:am Ng ["_law_script"] (Ab ZZ):=Nn
theorem zO(T:Tx G mg):QN P w base T.WE 42 (MS G ZX):=
 Rl (k:=41) (N:=Ng) (b:=pF) T.WE Lf λ_ _ _ _ _ _ J=>Ad (XD (Hl rfl rfl (Ax (gN Lf.nd 1) (Ax (gN Lf.nd 2) (Fw)))) (fX (Vj T) J (Af (Dk (nT Ng "_law_k") (by show Ej "_law_k" Ng++(["_law_k"]:List Str)=_;decide +kernel) (cO (N:=Ng) (sc:=Ab ZZ) rfl rfl) rfl (GD rfl T.SG (iP)) (λ_ _ _=>Cr) (λ_ _ _=>fX (Qm T) J (dq 0 (dq 8 (Ac))))) (Ac) Hv))) (Ad (sF Lf.nd 3 (XN T.f_ T.RA.mM (Jz T) (J.mono .(0)) rfl T.s_ T.RA.B (Af (iX J (vp 1) (iP)) (Af (iX J (vp 1) (iP)) (Af (iX J (vp 1) (iP)) (Ac) An) An) An))) (Ad (sF Lf.nd 4 (XN T.f_ T.RA.mM (Jz T) (J.mono .(0)) rfl T.s_ T.RA.B (Af (iX J (vp 2) (iP)) (Af (iX J (vp 2) (iP)) (Af (iX J (vp 2) (iP)) (Ac) An) An) An))) (Ad (sF Lf.nd 5 (KJ rfl (vp 0) (JL (iP)) (JL (iP)))) (Ad (Cg eD rfl (GD rfl T.SG (pU (JM (Np rfl) Pz rfl T.OG Ua (pU (BK ((BX rfl).or BZ) CV rfl T.SF Dn (vp 5))) (iP)))) (Cd (gN Lf.nd 6)) (Ad (Yn (i:=7) (nT Ng "_law_k") (by show Ej "_law_k" Ng++(["_law_k"]:List Str)=_;decide +kernel) (cO (N:=Ng) (sc:=Ab ZZ) rfl rfl) rfl Lf.nd rfl (by first | exact dn rfl | exact cr rfl) (GD rfl T.SG (iP)) (λ_ _ _=>Cr) (λ_ _ _=>Tb (pU (iX J (vp 5) (pU (OL (pU (OQ (pU (OQ (vp 6) (pU (bMul (pU (bMul (iP) (vp 8))) (vp 8))))) (vp 8))) (pU (BK ((BX rfl).or BZ) CV rfl T.SF Dn (vp 5))))))) (iP))) (Ae (By (Hk (Gi (pU (fX (Nb T) J (dq 7 (dq 3 (dq 4 (dq 1 (dq 2 (Ac)))))))) rfl)) (Ae (Ag (HJ))) (Bd))))) (Ad (Yn (i:=7) (nT Ng "_law_k") (by show Ej "_law_k" Ng++(["_law_k"]:List Str)=_;decide +kernel) (cO (N:=Ng) (sc:=Ab ZZ) rfl rfl) rfl Lf.nd rfl (by first | exact dn rfl | exact cr rfl) (GD rfl T.SG (iP)) (λ_ _ _=>Cr) (λ_ _ _=>Tb (pU (fX (Qm T) J (dq 0 (Af (OQ (iP) (vp 8)) (Ac) Fx)))) (iP))) (Ad (By (Hk (Gi (pU (fX (Sh T) J (dq 7 (dq 3 (dq 4 (dq 1 (dq 2 (Ac)))))))) rfl)) (Ae (Ag (HJ))) (Bd)) (Ae (Ag (fX (Nb T) J (Af (DN (iI (iI (iI (iI (iI (iI (Ac)))))))) (dq 3 (dq 4 (dq 1 (dq 2 (Ac))))) XR))))))))))
end
abbrev gx (K:aS) (c_ w_ y1:Addr):Gx:=gxL K [("World",c_),("Ranks",w_),("Play",y1)]
def wj(K:aS):Sp:=λvs H Q _=>∃(a:Addr) (O:List Int),vs=[.ref a]/\NS K H a (O.map V.int)/\O.length<=63/\(∀i∈O,i7 i<=1048576)/\∀z,Q (.bl O1) z
theorem zP(Y:∀O:List Int,O.length<=63->(∀i∈O,i7 i<=1048576)->ZX [.lst (O.map .int)]=O0 (.bl O1)){K:aS}{I J L:Addr}(vs:List V)(H:Hp)(Q:VK)(E:XK)(h:wj K vs H Q E):MS (gx K I J L) ZX vs H Q E:=by
 obtain⟨a,O,rfl,hs,Z,T,k⟩:=h;refine⟨[],[.lst (O.map .int)],.bl O1,(λ_ z=>nomatch z),bc.cons ?_ bc.nil,Y O Z T,λv H2 _ r=>?_⟩
 .have e:be [] H=H:=by funext b;exact A_ (λz=>nomatch z)
  rw[e];refine .lst hs .(1) λi x d S U=>?_;rw[cb] at S U;cases W:O[i]? with
  |none=>rw[W] at S;cases S
  |some z=>rw[W] at S U;cases S;cases U;exact .int z
 .cases r;exact k H2
end K66
section
open PySem L2 PV
local macro_rules | `(tactic| w_up) => `(tactic| (rw [List.map_cons, Ed, RO, Ky, Jr]; simp only [List.set_cons_zero, List.set_cons_succ]))
local macro_rules | `(tactic| simp only [cK, $ls,*] $[$l:location]?) => `(tactic| simp only [Fv, OP, e_rt, vz, e_if, v8, v9, cQ, Wz, v_, lQ, lR, cT, e_b, XT, e_u, e_us, aD, W0, aF, W2, R1, wC, cU, lU, lV, W3, lW, lX, lY, lZ, e_bl, wD, lg, cV, cW, wF, lw, l_, mC, aG, W4, W5, wG, mD, mF, aH, W6, wH, mG, mH, e_sl, wI, wJ, cX, Yr, e_v, PZ, e_vU, wK, wL, e_k, Uc, Ue, O4, mJ, mK, mL, Mh, mQ, Do, KQ, e_tr, mU, cY, wN, mV, RC, Ed, El, QF, Ky, RO, Jr, List.length_cons, List.length_nil, List.map_cons, List.map_nil, List.cons_append, List.nil_append, List.replicate_succ, List.replicate_zero, List.getElem?_cons_zero, List.getElem?_cons_succ, List.set_cons_zero, List.set_cons_succ, Nat.reduceAdd, Nat.reduceSub, Nat.reduceEqDiff, Nat.zero_add, truB, Bool.not_true, Bool.not_false, decide_true, decide_false, List.append_nil, Int.reduceLT, Int.reduceLE, Int.reduceNeg, Int.reduceEq, Int.reduceToNat, Nat.reduceLeDiff, ixt0, ixt1, $ls,*] $[$l:location]?)
local macro_rules | `(tactic| simp only [cK]) => `(tactic| simp only [cK, OP])
local macro_rules | `(tactic| simp only [kC, $ls,*] $[$l:location]?) => `(tactic| simp only [$ls,*, Fv, OP, e_rt, vz, e_if, v8, v9, cQ, Wz, v_, lQ, lR, cT, e_b, XT, e_u, e_us, aD, W0, aF, W2, R1, wC, cU, lU, lV, W3, lW, lX, lY, lZ, e_bl, wD, lg, cV, cW, wF, lw, l_, mC, aG, W4, W5, wG, mD, mF, aH, W6, wH, mG, mH, e_sl, wI, wJ, cX, Yr, e_v, PZ, e_vU, wK, wL, e_k, Uc, Ue, O4, mJ, mK, mL, Mh, mQ, Do, KQ, e_tr, mU, cY, wN, mV, RC, Ed, El, QF, Ky, RO, Jr, List.length_cons, List.length_nil, List.map_cons, List.map_nil, List.cons_append, List.nil_append, List.replicate_succ, List.replicate_zero, List.getElem?_cons_zero, List.getElem?_cons_succ, List.set_cons_zero, List.set_cons_succ, Nat.reduceAdd, Nat.reduceSub, Nat.reduceEqDiff, Nat.zero_add, truB, Bool.not_true, Bool.not_false, decide_true, decide_false, List.append_nil, Int.reduceLT, Int.reduceLE, Int.reduceNeg, Int.reduceEq, Int.reduceToNat, Nat.reduceLeDiff, ixt0, ixt1] $[$l:location]?)
local macro_rules | `(tactic| simp only [kiC, $ls,*] $[$l:location]?) => `(tactic| simp only [kC, $ls,*, GX, Ek, Ia, Q_, Vu, cL, cM, lL, QB, cP] $[$l:location]?)
local macro_rules | `(tactic| simp only [dK, $ls,*] $[$l:location]?) => `(tactic| simp only [cK, yq, K4, dJ, dM, Cu, FN, QM, K5, Um, O5, yr, uM, AAs, AAt, yt, K6, Uo, $ls,*] $[$l:location]?)
local macro_rules | `(tactic| simp only [ciK, $ls,*] $[$l:location]?) => `(tactic| simp only [cK, GX, Ek, Ia, Q_, Vu, cL, cM, lL, QB, cP, $ls,*] $[$l:location]?)
local macro_rules | `(tactic| simp only [diK, $ls,*] $[$l:location]?) => `(tactic| simp only [dK, GX, Ek, Ia, Q_, Vu, cL, cM, lL, QB, cP, $ls,*] $[$l:location]?)
namespace K66
open PySem L2 PV
def eF(O:List Int)(k:Nat):Ge [.lst (O.map .int),.int (k:Int)]=O0 (.int (O.getD k 0)):=by
 by_cases h:k<O.length
 .have z:O.getD k 0=O[k]:=by simp[h]
  rw[z];have e:atI (O.map D.int) (k:Int)=O0 (.int O[k]):=by
   rw[yf .(0) (by simpa using h)];simp[h]
  simp[Ge,il,Jt,cx,Pe,ui,bF,vF,uF,DK,SW,Vu,h,fx,ixD,e]
 .have z:O.getD k 0=0:=by simp[kH.mp h]
  rw[z];simp[Ge,il,Jt,cx,Pe,ui,bF,vF,uF,DK,SW,Vu,h,fx,PR,kF]
def zQ(x:Str):(cs x).length=x.length:=by simp[cs,DJ]
def eG(L:List D)(x:D)(h:L.length<=1000):VU (.lst L) x=O0 (.lst (L++[x])):=by
 unfold VU;show (if L.length<sizeLine then O0 (D.lst (L++[x])) else W1)=_;rw[VI (nI h .(2))]
def Kq(n:Nat)(t:Nat)(h:t<n):BV [.int (n:Int),.int (t:Int)]=O0 .non:=by
 have J:¬ ((t:Int)<0):=by omega
 have U:¬ ((n:Int)<=t):=by omega
 simp only[ciK,BV,Gu,J,U]
def pI{t:Nat}(h:t∉l):(.inl (t:Int):Key)∉(l.map λ(t:Nat)=>((.inl (t:Int):Key),D.bl O1)).map (·.1):=by
 intro z;rw[ca] at z;obtain⟨u,S,e⟩:=bn.mp z;simp at e;have O:u=t:=by omega
 exact h (O▸S)
theorem WK(n:Nat)(x L:Slot):∀(r p:List Nat) (z:Slot),(p++r).Nodup->(∀t∈r,t<n)->(p++r).length<=100 ->
  ∃S,vb (PM (Be 3) GK) (r.map iN) [.fz (.int (n:Int)),x,.ow (kM p),z]=O0 (.nx [.fz (.int (n:Int)),x,.ow (kM (p++r)),S])
 |[],p,z,_,_,_=>⟨z,by rw[fI];rfl⟩
 |t::r,p,z,J,Y,I=>by
  have O:t∉p:=by
   intro q;rw[f6] at J;exact J.2.2 t q t .(1) rfl
  have Z:=Kq n t (Y t .(1));have W:Dt (kM p) (.int (t:Int)) (.bl O1)=O0 (kM (p++[t])):=by
   show Dt (.dk _) _ _=_;rw[yu _ _ _ (by simp at I ⊢;omega),MZ (pI O)];simp[kM]
  have b:GK [.fz (.int (n:Int)),x,.ow (kM p),.fz (iN t)]=O0 (.nx [.fz (.int (n:Int)),x,.ow (kM (p++[t])),.fz (iN t)]):=by
   simp only[dK,GK,Z,W]
  obtain⟨S,T⟩:=WK n x L r (p++[t]) (.fz (iN t)) (by simpa using J) (λu U=>Y u (by simp[U])) (by simpa using I);refine⟨S,?_⟩
  w_up
  rw[b,El,T];simp
def um(n:Nat)(l:List Nat)(I:l.Nodup)(Y:∀t∈l,t<n)(z:l.length<=100):Eg [.int (n:Int),lM l]=O0 (kM l):=by
 obtain⟨S,e⟩:=WK n (.fz (lM l)) .un l [] .un (by simpa using I) Y (by simpa using z);rw[jp] at e;have J:(D.dk [])=kM []:=rfl;simp only[dK,Eg,J7,J,lM,e] at e ⊢
def pJ{t:Nat×Nat}{l:List (Nat×Nat)}(h:t∉l):[(.inl (t.1:Int):Key),.inl (t.2:Int)]∉(l.map λ(q:Nat×Nat)=>([(.inl (q.1:Int):Key),.inl (q.2:Int)],D.bl O1)).map (·.1):=by
 intro z;rw[ca] at z;obtain⟨u,S,e⟩:=bn.mp z;simp at e;have O:u=t:=by
  obtain⟨a,b⟩:=u;obtain⟨c,d⟩:=t;simp at e ⊢;omega
 exact h (O▸S)
theorem VJ(n:Nat)(x:Slot):∀(r p:List (Nat×Nat)) (z Y:Slot),(p++r).Nodup->(∀t∈r,t.1<n/\t.2<n)->(p++r).length<=100 ->
  ∃S J,vb (PM (MV 2 (Aw 3 (Aw 4 MY))) Gv) (r.map pN) [.fz (.int (n:Int)),x,.ow (kT p),z,Y]=O0 (.nx [.fz (.int (n:Int)),x,.ow (kT (p++r)),S,J])
 |[],p,z,Y,_,_,_=>⟨z,Y,by rw[fI];rfl⟩
 |t::r,p,z,Y,L,O,I=>by
  have U:t∉p:=by
   intro q;rw[f6] at L;exact L.2.2 t q t .(1) rfl
  have e1:=Kq n t.1 (O t .(1)).1;have T:=Kq n t.2 (O t .(1)).2;have e2:QK (kT p) [.int (t.1:Int),.int (t.2:Int)] (.bl O1)=O0 (kT (p++[t])):=by
   show QK (.dt _) _ _=_;rw[yw _ _ _ _ (by simp at I ⊢;omega),MZ (pJ U)];simp[kT]
  have b:Gv [.fz (.int (n:Int)),x,.ow (kT p),.fz (.int (t.1:Int)),.fz (.int (t.2:Int))]=O0 (.nx [.fz (.int (n:Int)),x,.ow (kT (p++[t])),.fz (.int (t.1:Int)),.fz (.int (t.2:Int))]):=by
   simp only[dK,Gv,e1,T,e2]
  obtain⟨S,J,W⟩:=VJ n x r (p++[t]) (.fz (.int (t.1:Int))) (.fz (.int (t.2:Int))) (by simpa using L) (λu Z=>O u (by simp[Z])) (by simpa using I);refine⟨S,J,?_⟩;rw[bb,Ed,RO,K6,Jr];simp only[gu,gv];rw[b,El,W];simp
def pK(n:Nat)(l:List (Nat×Nat))(I:l.Nodup)(Y:∀t∈l,t.1<n/\t.2<n)(z:l.length<=100):Ff [.int (n:Int),lT l]=O0 (kT l):=by
 obtain⟨S,J,e⟩:=VJ n (.fz (lT l)) l [] .un .un (by simpa using I) Y (by simpa using z);rw[jp] at e;have L:(D.dt [])=kT []:=rfl;simp only[dK,Ff,LK,L,lT,e] at e ⊢
def zR(c:Nat):inD O2 (.str ⟨#[c]⟩) (.str LET)=O0 (.bl (!(oy LET ⟨#[c]⟩ 0 LET.length 1).isEmpty)):=fy _
def zT:∀c∈cs LET,(!(oy LET ⟨#[c]⟩ 0 LET.length 1).isEmpty)=O1:=by decide +kernel
def uo(h:x∉KEPT):Po O2 (.str x) UI=O0 (.bl O2):=by
 have e:Po O2 (.str x) UI=inD O2 (.str x) (.lst (KEPT.map .str)):=rfl;rw[e,t6];have:(KEPT.any λy=>y==x)=O2:=by
  rw[HG];intro y z O;have:=beq_iff_eq.mp O;exact h (this▸z)
 rw[this]
def zU(x:Str)(h:x.length<=10000000):wh (.str x)=O0 (.int x.length):=AAm x h
theorem eO(h:Wd x):Fg [.str x]=O0 (.bl O1):=by
 have k:=uo h.kept;have Z:=h.lo;have W:=h.hi;have l:=zU x .(0);have T:¬ ((x.length:Int)=0):=by omega
 have O:¬ ((8:Int)<x.length):=by omega
 have L:∀l:List Nat,(∀c∈l,c∈cs LET)->KD [.fz (.str x)] pp Hx (l.map λc=>.str ⟨#[c]⟩)=O0 (l.map λ_=>.bl O1):=by
  intro l
  induction l with
  |nil=>intro _;rfl
  |cons c r z=>
   intro Y;have v:Hx ([.fz (.str x)]++[.fz (.str ⟨#[c]⟩)])=O0 (.bl O1):=by
    have e:Po O2 (.str ⟨#[c]⟩) (.str LET)=O0 (.bl O1):=by
     show inD O2 (.str ⟨#[c]⟩) (.str LET)=_;rw[zR,zT c (Y c .(1))]
    have J:(dE "abcdefghijklmnopqrstuvwxyz")=LET:=rfl;simp only[cK,Hx,J,e]
   rw[bb,Kw,mJ,v,z λd I=>Y d (by simp[I])];rfl
 have S:Bc (mu (vF 0)) pp Hx [.fz (.str x)]=O0 (.lst ((cs x).map λ_=>.bl O1)):=by
  refine S6 (ds:=(cs x).map λc=>.str ⟨#[c]⟩) (by rfl) (by rw[aE,zQ];omega) (L (cs x) h.isL)
 have U:∀l:List Nat,allD (.lst (l.map λ_=>.bl O1))=O0 (.bl O1):=by
  intro l;have q:∀l:List Nat,RS (l.map λ_=>D.bl O1)=O0 (l.map λ_=>O1):=by
   intro l
   induction l with
   |nil=>rfl
   |cons c r z=>simp[RS,z]
  show (RS (l.map λ_=>D.bl O1)).map _=_;rw[q];simp
 simp only[ciK,Fg,Ra,k,l,T,O,S,U]
def Qn(i j:Int)(h:i<=j):Bj [.int i,.int j]=O0 .non:=by
 have c:¬ (j<i):=by omega
 simp only[ciK,Bj,JV,c]
abbrev fS (n:Nat):Str×Bool×D:=("size",O2,.int (n:Int))
abbrev fM (ms:List (Str×List Nat)):Str×Bool×D:=("marked",O1,.dk (oM ms))
abbrev fT (ts:List (Str×List (Nat×Nat))):Str×Bool×D:=("tied",O1,.dk (oT ts))
def q1:(("marked":Str)=="size")=O2:=by decide +kernel
def q2:(("tied":Str)=="size")=O2:=by decide +kernel
def q3:(("tied":Str)=="marked")=O2:=by decide +kernel
def n1:¬ (("size":Str)="marked"):=by decide +kernel
def n2:¬ (("size":Str)="tied"):=by decide +kernel
def n3:¬ (("marked":Str)="tied"):=by decide +kernel
def lkM(n:Nat)(d e:D):bP ("marked":Str) [fS n,("marked",O1,d),("tied",O1,e)]=O0 (O1,d):=by
 rw[bX,q1];show bP ("marked":Str) [("marked",O1,d),("tied",O1,e)]=_;rw[bX,show (("marked":Str)=="marked")=O1 by decide +kernel]
def lkT(n:Nat)(d e:D):bP ("tied":Str) [fS n,("marked",O1,d),("tied",O1,e)]=O0 (O1,e):=by
 rw[bX,q2];show bP ("tied":Str) [("marked",O1,d),("tied",O1,e)]=_;rw[bX,q3];show bP ("tied":Str) [("tied",O1,e)]=_;rw[bX,show (("tied":Str)=="tied")=O1 by decide +kernel]
def rpM(n:Nat)(d e d':D):OU "marked" d' [fS n,("marked",O1,d),("tied",O1,e)]=[fS n,("marked",O1,d'),("tied",O1,e)]:=by
 unfold OU OU;rw[WI n1,VI rfl]
def rpT(n:Nat)(d e O:D):OU "tied" O [fS n,("marked",O1,d),("tied",O1,e)]=[fS n,("marked",O1,d),("tied",O1,O)]:=by
 unfold OU OU OU;rw[WI n2,WI n3,VI rfl]
def Jk{I:Type}{w:Str}(f:I->D){l:List (Str×I)}(h:w∉l.map (·.1)):(.inr w:Key)∉(l.map λp=>((.inr p.1:Key),f p.2)).map (·.1):=by
 intro z;rw[ca] at z;obtain⟨u,S,e⟩:=bn.mp z;simp at e;exact h (bn.mpr ⟨u,S,e⟩)
theorem VL(n:Nat)(hn:n<=5)(x:Addr)(a b:D)(e:D)(z:Slot):∀(r p:List (Str×List Nat)) (S O:Slot),((p++r).map (·.1)).Nodup->(∀q∈r,Wd q.1/\q.2.Nodup/\q.2.length<=100/\∀t∈q.2,t<n)->(p++r).length<=3->(∀d,S≠.ow d)->(∀d,O≠.ow d)->(∀d,z≠.ow d) ->
  ∃J I,(∀d,J≠.ow d)/\(∀d,I≠.ow d)/\Js (MV 2 (Aw 4 (Aw 5 MY))) Cw (r.map λq=>.tup [.str q.1,lM q.2]) [.fz (.adr x),.fz (.int (n:Int)),.fz a,.fz b,S,O,z] [fS n,fM p,("tied",O1,e)]=O0 ([.fz (.adr x),.fz (.int (n:Int)),.fz a,.fz b,J,I,z],[fS n,fM (p++r),("tied",O1,e)])
 |[],p,S,O,_,_,_,Z,W,_=>⟨S,O,Z,W,by rw[fI];rfl⟩
 |t::r,p,S,O,T,Y,L,Z,W,U=>by
  obtain⟨w,l⟩:=t;obtain⟨hw,l1,l2,l3⟩:=Y (w,l) .(1);have nt:w∉p.map (·.1):=by
   intro q;rw[dP,f6] at T;exact T.2.2 w q w .(1) rfl
  have e1:=eO hw;have e2:=um n l l1 l3 l2;have e3:Dt (.dk (oM p)) (.str w) (kM l)=O0 (.dk (oM (p++[(w,l)]))):=by
   rw[O6 _ _ _ (by simp[oM] at L ⊢;omega)];have:(.inr w:Key)∉(oM p).map (·.1):=Jk kM nt;rw[MZ this];simp[oM]
  have b0:Cw [.fz (.adr x),.fz (.int (n:Int)),.fz a,.fz b,.fz (.str w),.fz (lM l),z] [fS n,fM p,("tied",O1,e)]=O0 ([.fz (.adr x),.fz (.int (n:Int)),.fz a,.fz b,.fz (.str w),.fz (lM l),z],[fS n,fM (p++[(w,l)]),("tied",O1,e)]):=by
   have t0:ifE (Uj (OV (Yf (Aj (Fg) (Aa (vF 4) (ab)))))) [.fz (.adr x),.fz (.int (n:Int)),.fz a,.fz b,.fz (.str w),.fz (lM l),z] [fS n,fM p,("tied",O1,e)]=O0 ([.fz (.adr x),.fz (.int (n:Int)),.fz a,.fz b,.fz (.str w),.fz (lM l),z],[fS n,fM p,("tied",O1,e)]):=by
    have:OV (Yf (Aj (Fg) (Aa (vF 4) (ab)))) [.fz (.adr x),.fz (.int (n:Int)),.fz a,.fz b,.fz (.str w),.fz (lM l),z]=O0 O2:=by simp only[cK,e1]
    unfold ifE Uj;rw[this]
   have t1:R3 "marked" (vF 4) (Aj (Eg) (Aa (vF 1) (Aa (vF 5) (ab)))) [.fz (.adr x),.fz (.int (n:Int)),.fz a,.fz b,.fz (.str w),.fz (lM l),z] [fS n,fM p,("tied",O1,e)]=O0 ([.fz (.adr x),.fz (.int (n:Int)),.fz a,.fz b,.fz (.str w),.fz (lM l),z],[fS n,fM (p++[(w,l)]),("tied",O1,e)]):=by
    have v1:Aj (Eg) (Aa (vF 1) (Aa (vF 5) (ab))) [.fz (.adr x),.fz (.int (n:Int)),.fz a,.fz b,.fz (.str w),.fz (lM l),z]=O0 (kM l):=by simp only[cK,e2]
    have v2:vF 4 [.fz (.adr x),.fz (.int (n:Int)),.fz a,.fz b,.fz (.str w),.fz (lM l),z]=O0 (.str w):=rfl;unfold R3;rw[v1,v2];show (match bP ("marked":Str) [fS n,fM p,("tied",O1,e)] with | some (O1,d)=>(Dt d (.str w) (kM l)).map λd'=>(_,OU "marked" d' [fS n,fM p,("tied",O1,e)]) | _=>W1)=_;rw[lkM];show (Dt (.dk (oM p)) (.str w) (kM l)).map _=_;rw[e3];show O0 (_,OU "marked" _ [fS n,fM p,("tied",O1,e)])=_;rw[rpM]
   unfold Cw;rw[Er,t0,DX,t1]
  obtain⟨J,I,g4,g5,ih⟩:=VL n hn x a b e z r (p++[(w,l)]) (.fz (.str w)) (.fz (lM l)) (by simpa using T) (λu hu=>Y u (by simp[hu])) (by simpa using L) (λd=>by simp) (λd=>by simp) U;refine⟨J,I,g4,g5,?_⟩;rw[bb];unfold Js;rw[K6];have no:OW [.fz (.adr x),.fz (.int (n:Int)),.fz a,.fz b,.fz (.str w),.fz (lM l),z]=O1:=by
   unfold OW;cases z with
   |ow d=>exact XI rfl (U d)
   |un=>rfl
   |fz d=>rfl
  show (if OW [.fz (.adr x),.fz (.int (n:Int)),.fz a,.fz b,.fz (.str w),.fz (lM l),z]=O1 then (Cw [.fz (.adr x),.fz (.int (n:Int)),.fz a,.fz b,.fz (.str w),.fz (lM l),z] _).bind _ else W1)=_;rw[VI no,b0];show Js _ _ _ _ _=_;rw[ih];simp
theorem WL(n:Nat)(hn:n<=5)(x:Addr)(a b:D)(J:List (Str×List Nat))(O:Slot)(h5:∀d,O≠.ow d):∀(r p:List (Str×List (Nat×Nat))) (T S:Slot),((p++r).map (·.1)).Nodup->(∀q∈r,Wd q.1/\q.1∉J.map (·.1)/\q.2.Nodup/\q.2.length<=100/\∀t∈q.2,t.1<n/\t.2<n)->(p++r).length<=3->(∀d,T≠.ow d)->(∀d,S≠.ow d) ->
  ∃L I,Js (MV 2 (Aw 4 (Aw 6 MY))) Cy (r.map λq=>.tup [.str q.1,lT q.2]) [.fz (.adr x),.fz (.int (n:Int)),.fz a,.fz b,T,O,S] [fS n,fM J,fT p]=O0 ([.fz (.adr x),.fz (.int (n:Int)),.fz a,.fz b,L,O,I],[fS n,fM J,fT (p++r)])
 |[],p,T,S,_,_,_,h4,h6=>⟨T,S,by rw[fI];rfl⟩
 |t::r,p,T,S,W,Z,z,h4,h6=>by
  obtain⟨w,l⟩:=t;obtain⟨hw,nm,l1,l2,l3⟩:=Z (w,l) .(1);have nt:w∉p.map (·.1):=by
   intro q;rw[dP,f6] at W;exact W.2.2 w q w .(1) rfl
  have e1:=eO hw;have e2:=pK n l l1 l3 l2;have e3:Dt (.dk (oT p)) (.str w) (kT l)=O0 (.dk (oT (p++[(w,l)]))):=by
   rw[O6 _ _ _ (by simp[oT] at z ⊢;omega)];have:(.inr w:Key)∉(oT p).map (·.1):=Jk kT nt;rw[MZ this];simp[oT]
  have e4:MM (.inr w:Key) (oM J)=W1:=RQ (Jk kM nm);have b0:Cy [.fz (.adr x),.fz (.int (n:Int)),.fz a,.fz b,.fz (.str w),O,.fz (lT l)] [fS n,fM J,fT p]=O0 ([.fz (.adr x),.fz (.int (n:Int)),.fz a,.fz b,.fz (.str w),O,.fz (lT l)],[fS n,fM J,fT (p++[(w,l)])]):=by
   have t0:ifE (orTE (Uj (OV (Yf (Aj (Fg) (Aa (vF 4) (ab)))))) (inTE "marked" (vF 4))) [.fz (.adr x),.fz (.int (n:Int)),.fz a,.fz b,.fz (.str w),O,.fz (lT l)] [fS n,fM J,fT p]=O0 ([.fz (.adr x),.fz (.int (n:Int)),.fz a,.fz b,.fz (.str w),O,.fz (lT l)],[fS n,fM J,fT p]):=by
    have u1:OV (Yf (Aj (Fg) (Aa (vF 4) (ab)))) [.fz (.adr x),.fz (.int (n:Int)),.fz a,.fz b,.fz (.str w),O,.fz (lT l)]=O0 O2:=by simp only[cK,e1]
    have U:vF 4 [.fz (.adr x),.fz (.int (n:Int)),.fz a,.fz b,.fz (.str w),O,.fz (lT l)]=O0 (.str w):=rfl;have u2:inTE "marked" (vF 4) [.fz (.adr x),.fz (.int (n:Int)),.fz a,.fz b,.fz (.str w),O,.fz (lT l)] [fS n,fM J,fT p]=O0 O2:=by
     unfold inTE;rw[U];show (match bP ("marked":Str) [fS n,fM J,fT p] with | some (O1,.dk Y)=>(Re (.str w)).map λq=>(MM q Y).isSome | _=>W1)=_;rw[lkM];show O0 ((MM (.inr w:Key) (oM J)).isSome)=_;rw[e4];rfl
    unfold ifE orTE Uj;rw[u1];show (match inTE "marked" (vF 4) _ _ with | some O2=>O0 _ | _=>W1)=_;rw[u2]
   have t1:R3 "tied" (vF 4) (Aj (Ff) (Aa (vF 1) (Aa (vF 6) (ab)))) [.fz (.adr x),.fz (.int (n:Int)),.fz a,.fz b,.fz (.str w),O,.fz (lT l)] [fS n,fM J,fT p]=O0 ([.fz (.adr x),.fz (.int (n:Int)),.fz a,.fz b,.fz (.str w),O,.fz (lT l)],[fS n,fM J,fT (p++[(w,l)])]):=by
    have v1:Aj (Ff) (Aa (vF 1) (Aa (vF 6) (ab))) [.fz (.adr x),.fz (.int (n:Int)),.fz a,.fz b,.fz (.str w),O,.fz (lT l)]=O0 (kT l):=by simp only[cK,e2]
    have U:vF 4 [.fz (.adr x),.fz (.int (n:Int)),.fz a,.fz b,.fz (.str w),O,.fz (lT l)]=O0 (.str w):=rfl;unfold R3;rw[v1,U];show (match bP ("tied":Str) [fS n,fM J,fT p] with | some (O1,d)=>(Dt d (.str w) (kT l)).map λd'=>(_,OU "tied" d' [fS n,fM J,fT p]) | _=>W1)=_;rw[lkT];show (Dt (.dk (oT p)) (.str w) (kT l)).map _=_;rw[e3];show O0 (_,OU "tied" _ [fS n,fM J,fT p])=_;rw[rpT]
   unfold Cy;rw[Er,t0,DX,t1]
  obtain⟨L,I,ih⟩:=WL n hn x a b J O h5 r (p++[(w,l)]) (.fz (.str w)) (.fz (lT l)) (by simpa using W) (λu hu=>Z u (by simp[hu])) (by simpa using z) (λd=>by simp) (λd=>by simp);refine⟨L,I,?_⟩;rw[bb];unfold Js;have tg:MV 2 (Aw 4 (Aw 6 MY)) (.tup [.str w,lT l]) [.fz (.adr x),.fz (.int (n:Int)),.fz a,.fz b,T,O,S]=O0 [.fz (.adr x),.fz (.int (n:Int)),.fz a,.fz b,.fz (.str w),O,.fz (lT l)]:=by rw[K6];rfl
  rw[tg];have no:OW [.fz (.adr x),.fz (.int (n:Int)),.fz a,.fz b,.fz (.str w),O,.fz (lT l)]=O1:=by
   unfold OW;cases O with
   |ow d=>exact XI rfl (h5 d)
   |un=>rfl
   |fz d=>rfl
  show (if OW [.fz (.adr x),.fz (.int (n:Int)),.fz a,.fz b,.fz (.str w),O,.fz (lT l)]=O1 then (Cy [.fz (.adr x),.fz (.int (n:Int)),.fz a,.fz b,.fz (.str w),O,.fz (lT l)] _).bind _ else W1)=_;rw[VI no,b0];show Js _ _ _ _ _=_;rw[ih];simp
def eQ(W:Wl)(h:la W)(x:Addr):Cq x [.int (W.n:Int),.dk (eM W.ms),.dk (eT W.ts)]=O0 [fS W.n,fM W.ms,fT W.ts]:=by
 have L:(W.ms.map (·.1)).Nodup:=(f6.mp h.nd).1;have J:(W.ts.map (·.1)).Nodup:=(f6.mp h.nd).2.1;obtain⟨S,O,g4,g5,m⟩:=VL W.n h.n5 x (.dk (eM W.ms)) (.dk (eT W.ts)) (.dk []) .un W.ms [] .un .un (by simpa using L) (λq U=>⟨h.mw q U,h.ml q U⟩) (by simpa using h.m3) (λd=>by simp) (λd=>by simp) (λd=>by simp);obtain⟨Y,T,t⟩:=WL W.n h.n5 x (.dk (eM W.ms)) (.dk (eT W.ts)) W.ms O g5 W.ts [] S .un (by simpa using J) (λq U=>⟨h.tw q U,λz=>(f6.mp h.nd).2.2 q.1 z q.1 (bn.mpr ⟨q,U,rfl⟩) rfl,h.tl q U⟩) (by simpa using h.t3) g4 (λd=>by simp);rw[jp] at m t;change Js _ _ _ _ [fS W.n,fM [],fT []]=O0 (_,[fS W.n,fM W.ms,fT []]) at m;have r1:=Qn (W.n:Int) 5 (by have:=h.n5;omega);have r2:=Qn ((eM W.ms).length:Int) 3 (by have:=h.m3;simp[eM];omega);have r3:=Qn ((eT W.ts).length:Int) 3 (by have:=h.t3;simp[eT];omega);have I:OW [.fz (.adr x),.fz (.int (W.n:Int)),.fz (.dk (eM W.ms)),.fz (.dk (eT W.ts)),.un,.un,.un]=O1:=rfl;have p1:OM (Fo (Aj (Bj) (Aa (vF 1) (Aa (kF (.int 5)) (ab))))) [.fz (.adr x),.fz (.int (W.n:Int)),.fz (.dk (eM W.ms)),.fz (.dk (eT W.ts)),.un,.un,.un] []=O0 ([.fz (.adr x),.fz (.int (W.n:Int)),.fz (.dk (eM W.ms)),.fz (.dk (eT W.ts)),.un,.un,.un],[]):=S9 (by simp only[cK,r1]) I;have p2:OM (Fo (Aj (Bj) (Aa (uF wh (vF 2)) (Aa (kF (.int 3)) (ab))))) [.fz (.adr x),.fz (.int (W.n:Int)),.fz (.dk (eM W.ms)),.fz (.dk (eT W.ts)),.un,.un,.un] []=O0 ([.fz (.adr x),.fz (.int (W.n:Int)),.fz (.dk (eM W.ms)),.fz (.dk (eT W.ts)),.un,.un,.un],[]):=S9 (by simp only[dK,r2]) I;have p3:OM (Fo (Aj (Bj) (Aa (uF wh (vF 3)) (Aa (kF (.int 3)) (ab))))) [.fz (.adr x),.fz (.int (W.n:Int)),.fz (.dk (eM W.ms)),.fz (.dk (eT W.ts)),.un,.un,.un] []=O0 ([.fz (.adr x),.fz (.int (W.n:Int)),.fz (.dk (eM W.ms)),.fz (.dk (eT W.ts)),.un,.un,.un],[]):=S9 (by simp only[dK,r3]) I;have s1:HN "size" (vF 1) [.fz (.adr x),.fz (.int (W.n:Int)),.fz (.dk (eM W.ms)),.fz (.dk (eT W.ts)),.un,.un,.un] []=O0 ([.fz (.adr x),.fz (.int (W.n:Int)),.fz (.dk (eM W.ms)),.fz (.dk (eT W.ts)),.un,.un,.un],[fS W.n]):=rfl;have s2:Mp "marked" (kF (.dk [])) [.fz (.adr x),.fz (.int (W.n:Int)),.fz (.dk (eM W.ms)),.fz (.dk (eT W.ts)),.un,.un,.un] [fS W.n]=O0 ([.fz (.adr x),.fz (.int (W.n:Int)),.fz (.dk (eM W.ms)),.fz (.dk (eT W.ts)),.un,.un,.un],[fS W.n,fM []]):=by
  have l:bP ("marked":Str) [fS W.n]=W1:=by
   rw[bX,q1];rfl
  unfold Mp;show (if (bP ("marked":Str) [fS W.n]).isNone=O1/\[fS W.n].length<1000 then O0 (_,[fS W.n]++[(("marked":Str),O1,D.dk [])]) else W1)=_;rw[l,VI ⟨rfl,(by show 1<1000;decide)⟩];rfl
 have s3:Mp "tied" (kF (.dk [])) [.fz (.adr x),.fz (.int (W.n:Int)),.fz (.dk (eM W.ms)),.fz (.dk (eT W.ts)),.un,.un,.un] [fS W.n,fM []]=O0 ([.fz (.adr x),.fz (.int (W.n:Int)),.fz (.dk (eM W.ms)),.fz (.dk (eT W.ts)),.un,.un,.un],[fS W.n,fM [],fT []]):=by
  have l:bP ("tied":Str) [fS W.n,fM []]=W1:=by
   rw[bX,q2];show bP ("tied":Str) [fM []]=W1;rw[bX,q3];rfl
  unfold Mp;show (if (bP ("tied":Str) [fS W.n,fM []]).isNone=O1/\[fS W.n,fM []].length<1000 then O0 (_,[fS W.n,fM []]++[(("tied":Str),O1,D.dk [])]) else W1)=_;rw[l,VI ⟨rfl,(by show 2<1000;decide)⟩];rfl
 have i1:RK (vF 2) [.fz (.adr x),.fz (.int (W.n:Int)),.fz (.dk (eM W.ms)),.fz (.dk (eT W.ts)),.un,.un,.un]=O0 (W.ms.map λq=>.tup [.str q.1,lM q.2]):=by
  show O0 ((eM W.ms).map λp=>D.tup [UU p.1,p.2])=_;simp only[eM,ca,eW,Uo]
 have i2:RK (vF 3) [.fz (.adr x),.fz (.int (W.n:Int)),.fz (.dk (eM W.ms)),.fz (.dk (eT W.ts)),S,O,.un]=O0 (W.ts.map λq=>.tup [.str q.1,lT q.2]):=by
  show O0 ((eT W.ts).map λp=>D.tup [UU p.1,p.2])=_;simp only[eT,ca,eW,Uo]
 have Z:Mq 7 x [.int (W.n:Int),.dk (eM W.ms),.dk (eT W.ts)]=[.fz (.adr x),.fz (.int (W.n:Int)),.fz (.dk (eM W.ms)),.fz (.dk (eT W.ts)),.un,.un,.un]:=rfl;unfold Cq SV;rw[VI (show [D.int (W.n:Int),.dk (eM W.ms),.dk (eT W.ts)].length+1=4 from rfl),Z];unfold HX;rw[Er,p1,DX,Er,p2,DX,Er,p3,DX,Er,s1,DX,Er,s2,DX,Er,s3,DX,Er,nG i1,m,DX,Er,nG i2,t,DX,aQ];rfl
def wk(W:Wl)(h:la W)(fs:FA)(ρ:Rho)(z:fs ρ=O0 [.int (W.n:Int),.dk (eM W.ms),.dk (eT W.ts)]):mkI "World" Cq fs ρ=O0 (bm W):=by
 unfold mkI;rw[z];simp only[dL,eQ W h 0];rw[VI (λx=>eQ W h x)];rfl
def N7(f:Nat->Bool)(h:Nat->D)(z:FI)(hs:z ρ=O0 (MX n))(S:n<=1000)(h1:∀k,k<n->ga (ρ++[.fz (.int k)])=O0 (f k))(O:∀k,k<n->fe (ρ++[.fz (.int k)])=O0 (h k)):Bc z ga fe ρ=O0 (.lst (((bg n).filter f).map h)):=by
 have c:∀l:List Nat,(∀k∈l,k<n)->KD ρ ga fe (l.map λ(k:Nat)=>D.int k)=O0 ((l.filter f).map h):=by
  intro l
  induction l with
  |nil=>intro _;rfl
  |cons k r I=>
   intro Y;rw[bb,Kw,h1 k (Y k .(1)),O k (Y k .(1)),I λd L=>Y d (by simp[L]),Mb];cases f k<;>rfl
 exact S6 hs (by rw[Mi];omega) (c (bg n) λk J=>cf.mp J)
def iw{l:List Str}(J:l.Nodup){i j:Nat}(I:i<l.length)(U:j<l.length)(e:l[i]=l[j]):i=j:=by
 have h:=ve.mp J
 rcases B6 i j with z | z | z
 .exact XI e (h i j I U z)
 .exact z
 .exact XI e.symm (h j i U I z)
def Jl(n:Nat)(f:Nat->Bool):((bg n).filter f).Nodup:=FL Mc ya
def Xp(n:Nat)(I:n<=100)(ρ:Rho)(i:Nat)(h:ρ[i]?=O0 (.fz (.int (n:Int)))):Nc (vF i) ρ=O0 (MX n):=by
 have z:=Ud (n:Int) .(0);simp only[Uc,e_v,h,PZ,z,g9]
def Qx{k:Nat}(h:k<ws.length):im (.lst (ws.map .str)) (.int (k:Int))=O0 (.str ws[k]):=by
 show atI (ws.map D.str) (k:Int)=_;rw[RB,cb];simp[h]
theorem VM{I:Type}(f:I->D)(w:Str):∀(l:List (Str×I)),MM (.inr w:Key) (l.map λp=>((.inr p.1:Key),f p.2))=(l.find? (λp=>p.1=w)).map λp=>f p.2
 |[]=>rfl
 |p::r=>by
  rw[bb,rq];show (if (.inr p.1:Key)=.inr w then O0 (f p.2) else MM (.inr w:Key) (r.map λp=>((.inr p.1:Key),f p.2)))=_
  by_cases h:p.1=w
  .simp[h]
  .have:¬ ((.inr p.1:Key)=.inr w):=λz=>h (BS z);rw[WI this,VM f w r];simp[h]
def Nh(W:Wl):fk "size" (bm W)=O0 (.int (W.n:Int)):=by
 show bP ("size":Str) _=_;rfl
theorem VN(W:Wl):fk "marked" (bm W)=O0 (.dk (oM W.ms)):=by
 show bP ("marked":Str) [(("size":Str),D.int (W.n:Int)),("marked",.dk (oM W.ms)),("tied",.dk (oT W.ts))]=_;simp only[bP,q1];rfl
theorem bC(W:Wl):fk "tied" (bm W)=O0 (.dk (oT W.ts)):=by
 show bP ("tied":Str) [(("size":Str),D.int (W.n:Int)),("marked",.dk (oM W.ms)),("tied",.dk (oT W.ts))]=_;simp only[bP,q2,q3];rfl
def eU(x:Nat)(l:List Nat):Po O2 (.int (x:Int)) (lM l)=O0 (.bl (l.any λt=>decide (t=x))):=by
 have h:∀I:List Nat,OO (I.map iN)=O0 (I.map λ(t:Nat)=>V.int t):=λI=>by
  induction I with
  |nil=>rfl
  |cons y r L=>simp[OO,UY,L]
 show ((UY (.int (x:Int))).bind λv=>(OO (l.map iN)).map λJ=>D.bl (YR v J))=_;rw[h];show O0 (D.bl (YR (.int (x:Int)) (l.map λ(t:Nat)=>V.int t)))=_;have e:∀t:Nat,TZ (.int (t:Int)) (.int (x:Int))=decide (t=x):=λt=>by
  by_cases z:t=x
  .subst z;simp[TZ]
  .have:¬ ((t:Int)=(x:Int)):=by omega
   simp[TZ,z,this]
 simp only[YR,ED,eW,e]
def VP(x y:Nat)(l:List (Nat×Nat)):Po O2 (.tup [.int (x:Int),.int (y:Int)]) (lT l)=O0 (.bl (l.any λq=>decide (q.1=x)&&decide (q.2=y))):=by
 have k:∀q:Nat×Nat,Sk 62 (pN q) (.tup [.int (x:Int),.int (y:Int)])=O0 (decide (q.1=x)&&decide (q.2=y)):=λq=>by
  have e:∀a b:Nat,Sk 61 (.int (a:Int)) (.int (b:Int))=O0 (decide (a=b)):=λa b=>by
   show O0 (TZ (.int (a:Int)) (.int (b:Int)))=_
   by_cases z:a=b
   .subst z;simp[TZ]
   .have:¬ ((a:Int)=(b:Int)):=by omega
    simp[TZ,z,this]
  show (if 2=2 then OZ (Sk 61) [.int (q.1:Int),.int (q.2:Int)] [.int (x:Int),.int (y:Int)] else W1)=_;rw[VI rfl];simp only[OZ,e];cases decide (q.1=x)<;>cases decide (q.2=y)<;>rfl
 have L:(l.map pN).all (SR (.tup [.int (x:Int),.int (y:Int)]))=O1:=by
  rw[eS];intro d I;obtain⟨q,_,rfl⟩:=bn.mp I;unfold SR;rw[k q];rfl
 have J:(l.map pN).any (Of (.tup [.int (x:Int),.int (y:Int)]))=l.any λq=>decide (q.1=x)&&decide (q.2=y):=by
  rw[ED];congr 1;funext q;show Of _ (pN q)=_;unfold Of;rw[k q]
 show (if (l.map pN).all (SR (.tup [.int (x:Int),.int (y:Int)]))=O1 then O0 (D.bl ((l.map pN).any (Of (.tup [.int (x:Int),.int (y:Int)])))) else W1)=_;rw[VI L,J]
def ABI(x:Nat)(l:List Nat):Po O2 (.int (x:Int)) (kM l)=O0 (.bl (l.any λt=>decide (t=x))):=by
 have h:∀l:List Nat,(MM (.inl (x:Int):Key) (l.map λ(t:Nat)=>((.inl (t:Int):Key),D.bl O1))).isSome=l.any λt=>decide (t=x):=λl=>by
  induction l with
  |nil=>rfl
  |cons t r I=>
   rw[bb,ro,<-I];show (if (.inl (t:Int):Key)=.inl (x:Int) then _ else _:Option D).isSome=_
   by_cases z:t=x
   .subst z;simp
   .have:¬ ((.inl (t:Int):Key)=.inl (x:Int)):=λq=>z (by have:=vS q;omega);rw[WI this];simp[z]
 show Po O2 (.int (x:Int)) (.dk _)=_;rw[dM];simp only[dQ,UK,h]
def Fj{z:Type}(l:List z)(e g:z->D)(hs:src ρ=O0 (l.map e))(L:l.length<=1000)(h:∀x∈l,fe (ρ++[.fz (e x)])=O0 (g x)):Bc src pp fe ρ=O0 (.lst (l.map g)):=by
 have c:∀l:List z,(∀x∈l,fe (ρ++[.fz (e x)])=O0 (g x))->KD ρ pp fe (l.map e)=O0 (l.map g):=by
  intro l
  induction l with
  |nil=>intro _;rfl
  |cons x r I=>
   intro Y;rw[bb,Kw,Y x .(1),I λd J=>Y d (by simp[J])];rfl
 exact S6 hs (by rw[aE];omega) (c l h)
def Xq(z:List Nat)(t:Nat)(h:t<z.length):im (lN z) (.int (t:Int))=O0 (iN (z.getD t 0)):=by
 show atI (z.map iN) (t:Int)=_;rw[RB,cb];simp[h]
def pM{z:Type}(f:z->D){l:List (Str×z)}(h:(l.map (·.1)).Nodup):((l.map λp=>((.inr p.1:Key),f p.2)).map (·.1)).Nodup:=by
 unfold m4 at h ⊢;rw[iE] at h;rw[ca,iE];exact h.imp λO e=>O (BS e)
def at_M(W:Wl)(h:la W){p:Str×List Nat}(z:p∈W.ms):im (.dk (eM W.ms)) (.str p.1)=O0 (lM p.2):=by
 rw[K4];exact XQ (pM lM (f6.mp h.nd).1) (bn.mpr ⟨p,z,rfl⟩)
def at_T(W:Wl)(h:la W){p:Str×List (Nat×Nat)}(z:p∈W.ts):im (.dk (eT W.ts)) (.str p.1)=O0 (lT p.2):=by
 rw[K4];exact XQ (pM lT (f6.mp h.nd).2.1) (bn.mpr ⟨p,z,rfl⟩)
def eX(k:List (Key×D)):QY (.dk k)=O0 (.lst (k.map λp=>UU p.1)):=fy _
def in_i(t:Nat)(l:List Nat):Po O2 (iN t) (.lst (l.map iN))=O0 (.bl (decide (t∈l))):=by
 have:=eU t l;unfold lM at this;rw[this];congr 2;rw[ke];simp
def in_p(t:Nat×Nat)(l:List (Nat×Nat)):Po O2 (pN t) (.lst (l.map pN))=O0 (.bl (decide (t∈l))):=by
 have:=VP t.1 t.2 l;unfold lT at this;rw[this];congr 2;rw[ke];simp
theorem Zc:∀{l m:List Nat},l.Nodup->(∀x∈l,x∈m)->l.length<=m.length
 |[],_,_,_=>fE _
 |x::r,m,h,hs=>by
  obtain⟨L,J⟩:=ly.mp h;have I:x∈m:=hs x df;have:=Zc (l:=r) (m:=m.erase x) J λy z=>(AV (λe=>by subst e;exact L z)).mpr (hs y (cw _ z));rw[AW I] at this;have O:0<m.length:=AX I;simp;omega
def Ph{J:Type}{l:List J}(L:l.Nodup){i j:Nat}(I:i<l.length)(U:j<l.length)(e:l[i]=l[j]):i=j:=by
 have h:=ve.mp L
 rcases B6 i j with z | z | z
 .exact XI e (h i j I U z)
 .exact z
 .exact XI e.symm (h j i U I z)
def Xr(z:l.Nodup)(h:∀t∈l,t<n):l.length<=n:=by
 have:=Zc z λt O=>cf.mpr (h t O);simpa using this
def pO{l:List (Nat×Nat)}(S:l.Nodup)(h:∀q∈l,q.1<n/\q.2<n):l.length<=n*n:=by
 have e:(l.map λq=>q.1*n+q.2).Nodup:=by
  unfold m4;rw[iE];refine qh (λ{a b} Z Y O e=>O ?_) S;have J:=h a Z;have I:=h b Y;have L:(a.1*n+a.2)/n=a.1:=by rw[BF,Md .(0),Me J.2];omega
  have d2:(b.1*n+b.2)/n=b.1:=by rw[BF,Md .(0),Me I.2];omega
  have z:(a.1*n+a.2)%n=a.2:=by rw[BF,Mn,Mo J.2]
  have T:(b.1*n+b.2)%n=b.2:=by rw[BF,Mn,Mo I.2]
  have e':a.1*n+a.2=b.1*n+b.2:=e;rw[e'] at L z;exact rh (L.symm.trans d2) (z.symm.trans T)
 have:=Xr (n:=n*n) e λt U=>by
  obtain⟨q,W,rfl⟩:=bn.mp U;have:=h q W
  calc q.1*n+q.2<q.1*n+n:=by omega
   _=(q.1+1)*n:=by rw[Nat.add_mul,Nat.one_mul]
   _<=n*n:=Nat.mul_le_mul_right _ .(0)
 simpa using this
def Rn(W:Wl)(h:la W)(L:List (Str×List Nat))(J:List (Str×List (Nat×Nat)))(T:(L.map (·.1)).Perm (W.ms.map (·.1)))(S:(J.map (·.1)).Perm (W.ts.map (·.1)))(O:∀p∈L,p.2.Nodup/\∀t∈p.2,t<W.n)(I:∀p∈J,p.2.Nodup/\∀q∈p.2,q.1<W.n/\q.2<W.n):la ⟨W.n,L,J⟩:=by
 refine⟨h.n5,?_,?_,λp z=>?_,λp z=>?_,?_,λp z=>⟨(O p z).1,?_,(O p z).2⟩,λp z=>⟨(I p z).1,?_,(I p z).2⟩⟩
 .have:=T.length_eq;simp at this;have:=h.m3;show L.length<=3;omega
 .have:=S.length_eq;simp at this;have:=h.t3;show J.length<=3;omega
 .obtain⟨q,U,e⟩:=bn.mp (T.mem_iff.mp (bn.mpr ⟨p,z,rfl⟩));rw[<-e];exact h.mw q U
 .obtain⟨q,U,e⟩:=bn.mp (S.mem_iff.mp (bn.mpr ⟨p,z,rfl⟩));rw[<-e];exact h.tw q U
 .exact ((T.append S).nodup_iff).mpr h.nd
 .have:=Xr (O p z).1 (O p z).2;have:=h.n5;omega
 .have:=pO (I p z).1 (I p z).2;have Y:=h.n5;have:W.n*W.n<=25:=Nat.mul_le_mul Y Y;omega
def VR{z:List Nat}(h:z.Perm (bg n)){s t:Nat}(hs:s<n)(O:t<n)(e:z.getD s 0=z.getD t 0):s=t:=by
 have Y:z.length=n:=by have:=h.length_eq;simpa using this
 have I:z.Nodup:=h.nodup_iff.mpr ya;rw[qq,qq,dc .(0),dc .(0)] at e;exact Ph I _ _ e
def Xu{z:List Nat}(h:z.Perm (bg n)){s:Nat}(hs:s<n):z.getD s 0<n:=by
 have Y:z.length=n:=by have:=h.length_eq;simpa using this
 rw[qq,dc .(0)];exact cf.mp (h.mem_iff.mp (gi .(0)))
def ABJ(x y:Nat)(l:List (Nat×Nat)):inTO (O0 [.int (x:Int),.int (y:Int)]) (O0 (kT l))=O0 (.bl (l.any λq=>decide (q.1=x)&&decide (q.2=y))):=by
 have h:∀l:List (Nat×Nat),(MM [(.inl (x:Int):Key),.inl (y:Int)] (l.map λ(q:Nat×Nat)=>([(.inl (q.1:Int):Key),.inl (q.2:Int)],D.bl O1))).isSome=l.any λq=>decide (q.1=x)&&decide (q.2=y):=λl=>by
  induction l with
  |nil=>rfl
  |cons t r I=>
   rw[bb,ro,<-I];show (if [(.inl (t.1:Int):Key),.inl (t.2:Int)]=[.inl (x:Int),.inl (y:Int)] then _ else _:Option D).isSome=_
   by_cases z:t.1=x/\t.2=y
   .obtain⟨Z,Y⟩:=z;subst Z Y;simp
   .have:¬ ([(.inl (t.1:Int):Key),.inl (t.2:Int)]=[.inl (x:Int),.inl (y:Int)]):=λq=>by
     simp only[zw,Sum.inl.injEq,and_true] at q;exact z ⟨by omega,by omega⟩
    rw[WI this];have:(decide (t.1=x)&&decide (t.2=y))=O2:=by
     rw[Bool.and_eq_false_iff]
     by_cases Z:t.1=x
     .right;exact YI λY=>z ⟨Z,Y⟩
     .left;exact YI Z
    rw[this,IC]
 have e:inTO (O0 [.int (x:Int),.int (y:Int)]) (O0 (kT l))=O0 (.bl ((MM [(.inl (x:Int):Key),.inl (y:Int)] (l.map λ(q:Nat×Nat)=>([(.inl (q.1:Int):Key),.inl (q.2:Int)],D.bl O1))).isSome)):=by
  unfold kT inTO;simp only[dL];rw[VI (QC (by show 2<=10000000;decide))];rfl
 rw[e,h]
def ABK(fs:FA)(z:FE)(ρ:Rho):inTF fs z ρ=inTO (fs ρ) (z ρ):=fy _
def Zd(J:List (Str×List Nat)):(oM J).map (λp=>UU p.1)=(J.map (·.1)).map .str:=by simp[oM,Uo]
def Ze(z:List (Str×List (Nat×Nat))):(oT z).map (λp=>UU p.1)=(z.map (·.1)).map .str:=by simp[oT,Uo]
def pP{k:List (Key×D)}{z:List Str}(h:k.map (λp=>UU p.1)=z.map .str)(I:z.Nodup)(Y:z.length<=60):sdkD (.dk k)=O0 (.lst ((Gh z).map .str)):=by
 show sdkL k=_;unfold sdkL;rw[h,iC,dL,VI ⟨I,Y⟩]
def eY(i:Nat)(l:List Nat):(l.any λt=>decide (t=i))=decide (i∈l):=by
 rw[ke];simp
def VV(i j:Nat)(l:List (Nat×Nat)):(l.any λq=>decide (q.1=i)&&decide (q.2=j))=decide ((i,j)∈l):=by
 rw[ke];simp
def TY{z:Type}{w:Str}{l:List (Str×z)}(h:w∈l.map (·.1)):∃q,q∈l/\l.find? (λp=>p.1=w)=O0 q:=by
 obtain⟨p,I,e⟩:=bn.mp h;cases q:l.find? (λp=>p.1=w) with
 |none=>exact XI (by simpa using e) (by simpa using Fk.mp q p I)
 |some x=>exact⟨x,B8 q,rfl⟩
def wu(W:Wl){w:Str}(h:w∈mw W)(i:Nat):∃d,im (.dk (oM W.ms)) (.str w)=O0 d/\Po O2 (.int (i:Int)) d=O0 (.bl (mk W w i)):=by
 obtain⟨q,_,e⟩:=TY h;refine⟨kM q.2,?_,?_⟩
 .rw[K4];unfold oM;rw[VM kM w,e];rfl
 .rw[ABI,eY,mk,e]
def ww(W:Wl){w:Str}(h:w∈tw W)(i j:Nat):∃d,im (.dk (oT W.ts)) (.str w)=O0 d/\inTO (O0 [.int (i:Int),.int (j:Int)]) (O0 d)=O0 (.bl (tk W w i j)):=by
 obtain⟨q,_,e⟩:=TY h;refine⟨kT q.2,?_,?_⟩
 .rw[K4];unfold oT;rw[VM kT w,e];rfl
 .rw[ABJ,VV,tk,e]
def wy(W:Wl){w:Str}(h:w∈mw W)(i:Nat):∃d,im (.dk (eM W.ms)) (.str w)=O0 d/\Po O2 (.int (i:Int)) d=O0 (.bl (mk W w i)):=by
 obtain⟨q,_,e⟩:=TY h;refine⟨lM q.2,?_,?_⟩
 .rw[K4];unfold eM;rw[VM lM w,e];rfl
 .rw[eU,eY,mk,e]
def wz(W:Wl){w:Str}(h:w∈tw W)(i j:Nat):∃d,im (.dk (eT W.ts)) (.str w)=O0 d/\Po O2 (.tup [.int (i:Int),.int (j:Int)]) d=O0 (.bl (tk W w i j))/\Po O2 (.tup [.int (j:Int),.int (i:Int)]) d=O0 (.bl (tk W w j i)):=by
 obtain⟨q,_,e⟩:=TY h;refine⟨lT q.2,?_,?_,?_⟩
 .rw[K4];unfold eT;rw[VM lT w,e];rfl
 .rw[VP,VV,tk,e]
 .rw[VP,VV,tk,e]
theorem Ni{I:Type}{tg:FG}{b:FS}(L:PV.Slot->Rho)(e:I->D)(P:I->Bool)(r:D)(O:∀d z,tg d (L z)=O0 (L (.fz d))):∀(l:List I) (z:PV.Slot),(∀x∈l,b (L (.fz (e x)))=O0 (if P x=O1 then .nx (L (.fz (e x))) else .rt r (L (.fz (e x))))) ->
  ∃S,vb (PM tg b) (l.map e) (L z)=O0 (if l.all P=O1 then .nx (L S) else .rt r (L S))
 |[],z,_=>⟨z,rfl⟩
 |x::l,z,h=>by
  rw[bb,Ed,RO,O,Jr,h x .(1),tq];cases U:P x with
  |false=>exact⟨_,rfl⟩
  |true=>
   obtain⟨S,J⟩:=Ni L e P r O l (.fz (e x)) λy T=>h y (by simp[T]);exact⟨S,by rw[VI rfl,El,J,sq]⟩
def WM(a b:Bool):mf O1 (.bl a) (.bl b)=O0 (.bl (!(a==b))):=by cases a<;>cases b<;>rfl
structure Sp (W V:Wl):Prop where
 mm:∀w∈mw W,w∈mw V
 tt:∀w∈tw W,w∈tw V
def ixp0(q:Pr):im (pN q) (.int 0)=O0 (.int (q.1:Int)):=rfl
def ixp1(q:Pr):im (pN q) (.int 1)=O0 (.int (q.2:Int)):=rfl
theorem uq(W V:Wl)(h:Sp W V)(q:Pr):GP [bm W,bm V,pN q]=O0 (.bl (QZ W V q)):=by
 have I:=VN W;have T:=VN V;have O:=ixp0 q;have L:=ixp1 q;have n1:=Zd W.ms;obtain⟨Y,e⟩:=Ni (tg:=Be 3) (b:=Gy) (λz=>[.fz (bm W),.fz (bm V),.fz (pN q),z]) D.str (λw=>mk W w q.1==mk V w q.2) (.bl O2) (λd z=>rfl) (mw W) .un λw J=>by
  obtain⟨d1,U,S⟩:=wu W J q.1;obtain⟨Z,b1,b2⟩:=wu V (h.mm w J) q.2;simp only[cK,Gy,I,T,O,L,U,S,b1,b2,WM];cases (mk W w q.1==mk V w q.2)<;>rfl
 have q1:Mr (O0 (D.dk (oM W.ms)))=O0 ((mw W).map .str):=by rw[K5,n1]
 simp only[cK,GP,Ii,Cu,I,q1,e];show _=O0 (D.bl ((mw W).all λw=>mk W w q.1==mk V w q.2));cases (mw W).all (λw=>mk W w q.1==mk V w q.2)<;>rfl
theorem Xv(W V:Wl)(h:Sp W V)(p q:Pr):DQ [bm W,bm V,pN p,pN q]=O0 (.bl (KY W V p q)):=by
 have I:=bC W;have T:=bC V;have U:=ixp0 p;have S:=ixp1 p;have O:=ixp0 q;have L:=ixp1 q;have n1:=Ze W.ts;obtain⟨z',e⟩:=Ni (tg:=Be 4) (b:=Gz) (λz=>[.fz (bm W),.fz (bm V),.fz (pN p),.fz (pN q),z]) D.str (λw=>tk W w p.1 q.1==tk V w p.2 q.2) (.bl O2) (λd z=>rfl) (tw W) .un λw J=>by
  obtain⟨d1,Z,Y⟩:=ww W J p.1 q.1;obtain⟨d2,b1,b2⟩:=ww V (h.tt w J) p.2 q.2;simp only[cK,Gz,ABK,I,T,U,S,O,L,Z,Y,b1,b2,WM];cases (tk W w p.1 q.1==tk V w p.2 q.2)<;>rfl
 have q1:Mr (O0 (D.dk (oT W.ts)))=O0 ((tw W).map .str):=by rw[K5,n1]
 simp only[cK,DQ,Ij,Cu,I,q1,e];show _=O0 (D.bl ((tw W).all λw=>tk W w p.1 q.1==tk V w p.2 q.2));cases (tw W).all (λw=>tk W w p.1 q.1==tk V w p.2 q.2)<;>rfl
def Xw(a b:Nat):decide ((a:Int)=(b:Int))=decide (a=b):=by
 by_cases z:a=b
 .subst z;simp
 .rw[YI z,YI .(0)]
def ABL(W V:Wl)(h:Sp W V)(p q:Pr):Hn [bm W,bm V,pN p,pN q]=O0 (.bl (ZY W V p q)):=by
 have I:=ixp0 p;have z:=ixp1 p;have O:=ixp0 q;have T:=ixp1 q;have L:=Xv W V h p q;have Z:=Xv W V h q p;simp only[ciK,Hn,J8,I,z,O,T,Xw,WM];unfold ZY;cases J:(decide (p.1=q.1)==decide (p.2=q.2)) with
 |false=>rfl
 |true=>
  simp only[cK,L,Z];cases KY W V p q with
  |false=>rfl
  |true=>simp only[cK,Z,sq]
def pQ{z:Type}(f:z->Bool)(l:List z):allD (.lst (l.map λx=>.bl (f x)))=O0 (.bl (l.all f)):=by
 show (RS _).map _=_;rw[dN];simp[eW]
def mzO(c m:Str)(g:List D->Option D)(o:Option D)(ds:Option (List D)):Option D:=o.bind λo=>if Ck c m o=O1 then ds.bind λds=>g (o::ds) else W1
def Dl(c m:Str)(g:List D->Option D)(z:FE)(fs:FA)(ρ:Rho):CW c m g z fs ρ=mzO c m g (z ρ) (fs ρ):=fy _
def Zf{o:D}(h:Ck c m o=O1):mzO c m g (O0 o) (O0 ds)=g (o::ds):=by
 show (if Ck c m o=O1 then _ else _)=_;rw[VI h];rfl
def xF(W:Wl):Ck "World" "mark_words" (bm W)=O1:=rfl
def xG(W:Wl):Ck "World" "tie_words" (bm W)=O1:=rfl
def WN{l m:List Str}(h:l.Perm m):Gh l=Gh m:=aJ (QG l) (QG m) λx=>by rw[Nv,Nv,h.mem_iff]
structure Spk (W V:Wl):Prop where
 mm:(mw V).Perm (mw W)
 tt:(tw V).Perm (tw W)
def Spk.sp{W V:Wl}(h:Spk W V):Sp W V:=⟨λw z=>h.mm.mem_iff.mpr z,λw z=>h.tt.mem_iff.mpr z⟩
def IV(a b:Nat):mf O2 (.int (a:Int)) (.int (b:Int))=O0 (.bl (decide (a=b))):=by rw[QB,Xw]
def pR(l:List Pr):wh (.lst (l.map pN))=O0 (.int (l.length:Int)):=by
 show SW (.lst (l.map pN))=_;rw[mR,aE]
def pW(a:Nat):gtD (.int (a:Int)) (.int 0)=O0 (.bl (decide (0<a))):=by
 rw[cL];congr 2
 by_cases z:0<a
 .rw[ZI z,ZI .(0)]
 .rw[YI z,YI .(0)]
def ABM(l:List Pr)(q:Pr)(h:l.length<=1000):VU (.lst (l.map pN)) (pN q)=O0 (.lst ((l++[q]).map pN)):=by
 rw[eG _ _ (by simpa using h),dP];rfl
def eZ(I:List Str):mf O1 (.lst (I.map .str)) (.lst (I.map .str))=O0 (.bl O2):=by
 have h:∀I:List Str,OZ (Sk 180) (I.map .str) (I.map .str)=O0 O1:=λI=>by
  induction I with
  |nil=>rfl
  |cons z r J=>
   show (match Sk 180 (.str z) (.str z),OZ (Sk 180) (r.map .str) (r.map .str) with | some a,O0 b=>O0 (a&&b) | _,_=>W1)=_;rw[J];have:Sk 180 (.str z) (.str z)=O0 O1:=by show O0 (TZ (.str z) (.str z))=_;simp[TZ]
   rw[this];rfl
 unfold mf;have:TU (.lst (I.map .str)) (.lst (I.map .str))=O0 O1:=by
  show (if (I.map D.str).length=(I.map D.str).length then OZ (Sk 180) (I.map .str) (I.map .str) else O0 O2)=_;rw[VI rfl,h]
 rw[this];rfl
def WP(W:Wl)(h:la W):Cz [bm W]=O0 (.lst ((Gh (mw W)).map .str))/\Dd [bm W]=O0 (.lst ((Gh (tw W)).map .str)):=by
 have z:=f6.mp h.nd;have T:=h.m3;have O:=h.t3;have I:=pP (Zd W.ms) z.1 (by simp;omega);have S:=pP (Ze W.ts) z.2.1 (by simp;omega);have J:=VN W;have L:=bC W;constructor
 .simp only[cK,Cz,GZ,J,I]
 .simp only[cK,Dd,Gw,L,S]
def WQ(W V:Wl)(h:la W)(O:la V)(hs:Spk W V):DP [bm W,bm V]=O0 .non:=by
 obtain⟨Y,U⟩:=WP W h;obtain⟨b1,b2⟩:=WP V O;rw[WN hs.mm] at b1;rw[WN hs.tt] at b2;have L:=xF W;have J:=xF V;have I:=xG W;have z:=xG V;have T:=eZ (Gh (mw W));have S:=eZ (Gh (tw W));simp only[cK,DP,Ig,Dl,Zf L,Zf J,Zf I,Zf z,Y,U,b1,b2,T,S]
theorem Qo(W V:Wl)(z:PV.Slot):∀(rows:List Pr) (I J:PV.Slot),(∀r∈rows,r.1<W.n/\r.2<V.n)->∃S L,vb (PM (MV 2 (Aw 3 (Aw 4 MY))) CP) (rows.map pN) [.fz (bm W),.fz (bm V),z,I,J]=O0 (.nx [.fz (bm W),.fz (bm V),z,S,L])
 |[],I,J,_=>⟨I,J,rfl⟩
 |r::rows,I,J,h=>by
  have Z:=Nh W;have Y:=Nh V;have T:=Kq W.n r.1 (h r .(1)).1;have O:=Kq V.n r.2 (h r .(1)).2;obtain⟨S,L,e⟩:=Qo W V z rows (.fz (.int (r.1:Int))) (.fz (.int (r.2:Int))) λx hx=>h x (by simp[hx]);refine⟨S,L,?_⟩;have U:CP [.fz (bm W),.fz (bm V),z,.fz (.int (r.1:Int)),.fz (.int (r.2:Int))]=O0 (.nx [.fz (bm W),.fz (bm V),z,.fz (.int (r.1:Int)),.fz (.int (r.2:Int))]):=by
   simp only[cK,CP,Z,Y,T,O]
  rw[bb,Ed,RO,K6,Jr];simp only[gu,gv];rw[U,El,e]
def bD(W V:Wl)(h:la W)(z:la V)(hs:Spk W V)(rows:List Pr)(J:∀r∈rows,r.1<W.n/\r.2<V.n):Ci [bm W,bm V,.lst (rows.map pN)]=O0 .non:=by
 have u:=WQ W V h z hs;obtain⟨S,L,e⟩:=Qo W V (.fz (.lst (rows.map pN))) rows .un .un J;simp only[cK,Ci,Dy,u,Cu,FN,e]
def ur{z L:Type}(f:z->L)(l:List z)(I J:Option Int):Oy (l.map f) I J=(Oy l I J).map f:=by
 unfold Oy;rw[aE,vj,Bz]
def zV(xs:List Nat):mf O1 (.lst (xs.map iN)) (.lst [])=O0 (.bl (decide (xs≠[]))):=by
 cases xs with
 |nil=>rfl
 |cons x r=>
  show (TU (.lst _) (.lst _)).map _=_;have:TU (.lst ((x::r).map iN)) (.lst [])=O0 O2:=by
   show (if ((x::r).map iN).length=([]:List D).length then OZ (Sk 180) ((x::r).map iN) [] else O0 O2)=O0 O2;exact WI .(1)
  rw[this];rfl
def JP{z:Type}(xs:List z)(j:Nat)(h:j<xs.length):(xs[j]::xs.eraseIdx j).Perm xs:=by
 rw[MA];have e:xs.take j++xs[j]::xs.drop (j+1)=xs:=by rw[<-ub h,B7]
 exact (LH.symm).trans (by rw[e])
def zW(n:Nat)(h:n<=100):Y4 (.int (n:Int))=O0 (lN (bg n)):=by
 show (if 0<=(n:Int)/\(n:Int)<=1000000 then O0 (D.lst (MX (n:Int).toNat)) else W1)=_;rw[VI ⟨by omega,by omega⟩,g9];rfl
def Xy(J:List (Str×List Nat)):(eM J).map (λp=>UU p.1)=(J.map (·.1)).map .str:=by simp[eM,Uo]
def Xz(z:List (Str×List (Nat×Nat))):(eT z).map (λp=>UU p.1)=(z.map (·.1)).map .str:=by simp[eT,Uo]
def ixw0(W:Wl):im (wd W) (.int 0)=O0 (.int (W.n:Int)):=rfl
def ixw1(W:Wl):im (wd W) (.int 1)=O0 (.dk (eM W.ms)):=rfl
def ixw2(W:Wl):im (wd W) (.int 2)=O0 (.dk (eT W.ts)):=rfl
def ut(W V:Wl)(p q:Pr):ZY W V p q=ZY W V q p:=by
 unfold ZY;rw[Bool.and_comm (KY W V p q),show decide (p.1=q.1)=decide (q.1=p.1) by simp[eq_comm],show decide (p.2=q.2)=decide (q.2=p.2) by simp[eq_comm]]
def pX(W V:Wl)(p:Pr):ZY W V p p=KY W V p p:=by simp[ZY]
def Tc(W V:Wl)(ps:List Pr):Pw W V ps=O1↔∀p∈ps,(QZ W V p=O1/\KY W V p p=O1)/\∀q∈ps,ZY W V p q=O1:=by
 simp only[Pw,eS,eI]
def e_(W V:Wl)(ps:List Pr)(q:Pr):UX W V ps q=O1↔(QZ W V q=O1/\KY W V q q=O1)/\∀p∈ps,ZY W V p q=O1:=by
 simp only[UX,eS,eI]
def fB{W V:Wl}{ps qs:List Pr}(h:∀x∈qs,x∈ps)(a:Pw W V ps=O1):Pw W V qs=O1:=by
 rw[Tc] at a ⊢;exact λp z=>⟨(a p (h p z)).1,λq U=>(a p (h p z)).2 q (h q U)⟩
def Qp{W V:Wl}{ps:List Pr}{q:Pr}:Pw W V (ps++[q])=O1↔Pw W V ps=O1/\UX W V ps q=O1:=by
 rw[Tc,Tc,e_];constructor
 .intro h;refine⟨λp z=>⟨(h p (by simp[z])).1,λr J=>(h p (by simp[z])).2 r (by simp[J])⟩,(h q .(1)).1,λp z=>(h p (by simp[z])).2 q .(1)⟩
 .rintro⟨L,I,T⟩ p z
  rcases eA.mp z with z | z
  .refine⟨(L p z).1,λr J=>?_⟩
   rcases eA.mp J with J | J
   .exact (L p z).2 r J
   .have:r=q:=by simpa using J
    exact this▸T p z
  .have:p=q:=by simpa using z
   subst this;refine⟨I,λr J=>?_⟩
   rcases eA.mp J with J | J
   .rw[ut];exact T r J
   .have:r=p:=by simpa using J
    rw[this,pX];exact I.2
def uv(W V:Wl):∀(ps:List Pr),((bg ps.length).all λk=>UX W V (ps.take k) (ps.getD k (0,0)))=Pw W V ps:=by
 intro ps;rw[ke];have:∀n,n<=ps.length->(((bg n).all λk=>UX W V (ps.take k) (ps.getD k (0,0)))=O1↔Pw W V (ps.take n)=O1):=by
  intro n
  induction n with
  |zero=>intro _;simp[Pw]
  |succ n z=>
   intro h;rw[DV,List.all_append,eI,z .(0)];have e:ps.take (n+1)=ps.take n++[ps.getD n (0,0)]:=by
    rw[FR,dc .(0),qq,dc .(0)];rfl
   rw[e,Qp];simp
 have h:=this ps.length (aI _);rw[FU] at h;exact h
def NV(W V:Wl)(ps:List Pr):Prop:=∀p∈ps,p.1<W.n/\p.2<V.n
def in5{W V:Wl}(z:la W)(I:la V){ps:List Pr}(h:NV W V ps):∀p∈ps,Sz p:=λp J=>by
 have:=h p J;have:=z.n5;have:=I.n5;exact⟨by omega,by omega⟩
def HH{W V:Wl}(z:la W)(I:la V){ps:List Pr}(h:NV W V ps)(x:Pr):x∈Ah ps↔x∈ps:=(QX (in5 z I h)).2 x
def IW{W V:Wl}(z:la W)(I:la V){ps:List Pr}(h:NV W V ps):NV W V (Ah ps):=λp J=>h p ((HH z I h p).mp J)
def Fl{W V:Wl}{ps:List Pr}{q:Pr}(h:NV W V ps)(U:q.1<W.n/\q.2<V.n):NV W V (ps++[q]):=λp z=>by
 rcases eA.mp z with z | z
 .exact h p z
 .have:p=q:=by simpa using z
  exact this▸U
def Nj{W V:Wl}(I:la W)(J:la V){ps:List Pr}(h:NV W V ps):Pw W V (Ah ps)=Pw W V ps:=by
 rw[ke];exact⟨fB λx z=>(HH I J h x).mpr z,fB λx z=>(HH I J h x).mp z⟩
def pZ:∀{l:List Pr},Pp l->l.Nodup:=λ{l} h=>by
 have:(l.map Sb).Nodup:=FV (λ{a b} h e=>XI h (by rw[e];exact kx _)) h;rw[m4,iE] at this;exact FV (λ{a b} h (e:a=b)=>h (by rw[e])) this
def Nk{W V:Wl}(z:la W)(I:la V){ps:List Pr}(h:NV W V ps):Pp (Ah ps):=(QX (in5 z I h)).1
def iz{W V:Wl}(z:la W)(I:la V){ps qs:List Pr}(h:NV W V ps)(k:NV W V qs)(e:∀x,x∈ps↔x∈qs):Ah ps=Ah qs:=Xh (Nk z I h) (Nk z I k) λx=>by rw[HH z I h,HH z I k,e]
theorem Zg:∀{l m:List Pr},l.Nodup->(∀x∈l,x∈m)->l.length<=m.length
 |[],_,_,_=>fE _
 |x::l,m,J,h=>by
  have I:=h x .(1);have W:=ly.mp J;have:=Zg (m:=m.erase x) W.2 λy z=>(AV (λe=>W.1 (by rw[<-e];exact z))).mpr (h y (by simp[z]));rw[AW I] at this;have:=AX I;simp only[ck];omega
def i_{W V:Wl}(z:la W)(I:la V){ps:List Pr}(h:NV W V ps):(Ah ps).length<=ps.length:=Zg (pZ (Nk z I h)) λx J=>(HH z I h x).mp J
def uw{W V:Wl}{ps:List Pr}(I:ps.Nodup)(h:NV W V ps)(a:Pw W V ps=O1):ps.length<=W.n:=by
 rw[Tc] at a;have z:(ps.map (·.1)).Nodup:=by
  rw[m4,iE];refine qh (λ{x y} L J ne e=>?_) I;have g:=(a x L).2 y J;unfold ZY at g;rw[eI] at g;have U:=g.1;rw[ZI e] at U;have:x.2=y.2:=by simpa using U
  exact ne (rh e this)
 have:=Xr z λt O=>by
  obtain⟨p,S,rfl⟩:=bn.mp O;exact (h p S).1
 rwa [aE] at this
def CQ{t:Nat}{xs:List Nat}:t∈NN n xs↔t<n/\t∉xs:=by simp[NN]
def zX{xs I:List Nat}(h:∀x∈xs,x∈I){t:Nat}(O:t∈NN n xs)(L:t∈I):(NN n I).length<(NN n xs).length:=by
 have e:NN n I=(NN n xs).filter λt=>decide (t∉I):=by
  unfold NN;rw[List.filter_filter];refine List.filter_congr λx _=>?_
  by_cases J:x∈I
  .simp[J]
  .have:x∉xs:=λz=>J (h x z);simp[J,this]
 rw[e];exact List.length_filter_lt_length_iff_exists.mpr ⟨t,O,by simp[L]⟩
def X3(n:Nat)(xs:List Nat):(NN n xs).length<=n:=by
 have:=FX (λt=>decide (t∉xs)) (bg n)
 rwa [lP] at this
theorem Ro{W V:Wl}{R I:List Pr->Nat}{ps:List Pr}(h:∀f∈NN W.n (ps.map (·.1)),∀s∈NN V.n (ps.map (·.2)),UX W V ps (f,s)=O1->R (Ah (ps++[(f,s)]))=I (Ah (ps++[(f,s)]))):stp W V R ps=stp W V I ps:=by
 have k:∀f∈NN W.n (ps.map (·.1)),∀s∈NN V.n (ps.map (·.2)),(if UX W V ps (f,s)=O1 then R (Ah (ps++[(f,s)])) else 0)=(if UX W V ps (f,s)=O1 then I (Ah (ps++[(f,s)])) else 0):=λf z s hs=>by
  split
  .rename_i e;exact h f z s hs e
  .rfl
 unfold stp;simp only;rw[pj (g:=λf=>Pf ((NN V.n (ps.map (·.2))).map λs=>if UX W V ps (f,s)=O1 then I (Ah (ps++[(f,s)])) else 0)) λf z=>by rw[pj λs hs=>k f z s hs],
  pj (l:=NN V.n (ps.map (·.2))) (g:=λs=>Pf ((NN W.n (ps.map (·.1))).map λf=>if UX W V ps (f,s)=O1 then I (Ah (ps++[(f,s)])) else 0)) λs hs=>by rw[pj λf z=>k f z s hs]]
theorem X4{W V:Wl}(z:la W)(I:la V){ps:List Pr}(h:NV W V ps){f s:Nat}(J:f∈NN W.n (ps.map (·.1)))(hs:s∈NN V.n (ps.map (·.2))):(NN W.n ((Ah (ps++[(f,s)])).map (·.1))).length<(NN W.n (ps.map (·.1))).length:=by
 have k:=Fl h (q:=(f,s)) ⟨(CQ.mp J).1,(CQ.mp hs).1⟩;refine zX (λx L=>?_) J (bn.mpr ⟨(f,s),(HH z I k _).mpr .(1),rfl⟩);obtain⟨p,O,rfl⟩:=bn.mp L;exact bn.mpr ⟨p,(HH z I k _).mpr (by simp[O]),rfl⟩
def Va{W V:Wl}(z:la W)(I:la V){ps:List Pr}(h:NV W V ps){f s:Nat}(J:f∈NN W.n (ps.map (·.1)))(hs:s∈NN V.n (ps.map (·.2))):NV W V (Ah (ps++[(f,s)])):=IW z I (Fl h ⟨(CQ.mp J).1,(CQ.mp hs).1⟩)
def ux{W V:Wl}(I:la W)(J:la V):∀(u k j:Nat) (ps:List Pr),NV W V ps->(NN W.n (ps.map (·.1))).length<=u->u<=k->u<=j->rkN W V (k+1) ps=rkN W V (j+1) ps:=by
 intro u
 induction u with
 |zero=>
  intro k j ps h S _ _;refine Ro λf z=>?_;rw[pw.mp (FY.mp S)] at z;cases z
 |succ u T=>
  intro k j ps h S U Y;refine Ro λf z s hs _=>?_;obtain⟨L,rfl⟩:=MB (show k≠0 by omega);obtain⟨O,rfl⟩:=MB (show j≠0 by omega);exact T L O _ (Va I J h z hs) (yA (fh (X4 I J h z hs) S)) .(0) .(0)
theorem Td{W V:Wl}(z:la W)(I:la V){ps:List Pr}(h:NV W V ps)(a:Pw W V ps=O1):MQ W V ps=stp W V (MQ W V) ps:=by
 have e:MQ W V ps=stp W V (rkN W V 5) ps:=by unfold MQ;rw[VI a];rfl
 rw[e];refine Ro λf L s hs J=>?_;have U:=Fl h (q:=(f,s)) ⟨(CQ.mp L).1,(CQ.mp hs).1⟩;have O:Pw W V (Ah (ps++[(f,s)]))=O1:=by rw[Nj z I U];exact Qp.mpr ⟨a,J⟩
 unfold MQ;rw[VI O];refine ux z I 4 4 5 _ (Va z I h L hs) ?_ .(0) .(0);exact yA (fh (X4 z I h L hs) (de (X3 W.n (ps.map (·.1))) z.n5))
def Rp{W V:Wl}{ps:List Pr}(a:Pw W V ps=O2):MQ W V ps=0:=by unfold MQ;rw[a];rfl
def X5{x:Nat}(h:x∈l):x<=Pf l:=by
 induction l with
 |nil=>cases h
 |cons y l z=>
  have e:Pf (y::l)=max y (Pf l):=rfl;rw[e]
  rcases bp.mp h with rfl | h
  .omega
  .have:=z h;omega
def bG{m:Nat}(J:0<m)(h:∀x∈l,x<m):Pf l<m:=by
 induction l with
 |nil=>exact J
 |cons y l z=>
  have e:Pf (y::l)=max y (Pf l):=rfl;rw[e];have:=z λx I=>h x (by simp[I]);have:=h y .(1);omega
def uy{e x:Nat}(h:x∈l):l.foldr min e<=x:=by
 induction l with
 |nil=>cases h
 |cons y l z=>
  rw[AU]
  rcases bp.mp h with rfl | h
  .omega
  .have:=z h;omega
def zY(l:List Nat)(e:Nat):l.foldr min e<=e:=by
 induction l with
 |nil=>exact aI _
 |cons y l z=>rw[AU];omega
def Zh(l:List Nat)(e:Nat):l.foldr min e=e∨l.foldr min e∈l:=by
 induction l with
 |nil=>exact .inl rfl
 |cons y l z=>
  rw[AU]
  rcases Nat.le_total y (l.foldr min e) with h | h
  .exact .inr (by rw[K0 h];simp)
  .rw[K2 h]
   rcases z with z | z
   .exact .inl z
   .exact .inr (by simp[z])
def fC{W V:Wl}(z:la W)(I:la V){ps:List Pr}(h:NV W V ps):MQ W V ps<=MO W V:=by
 cases a:Pw W V ps with
 |false=>rw[Rp a];exact fE _
 |true=>
  rw[Td z I h a];unfold stp;simp only;exact Nat.min_le_left ..
theorem p_{W V:Wl}(S:la W)(T:la V){ps:List Pr}(h:NV W V ps)(h0:MQ W V ps≠0)(he:MQ W V ps≠MO W V):
  (∃t,t<W.n/\∀s,s<V.n->MQ W V (Ah (ps++[(t,s)]))<MQ W V ps)∨(∃s,s<V.n/\∀t,t<W.n->MQ W V (Ah (ps++[(t,s)]))<MQ W V ps):=by
 cases a:Pw W V ps with
 |false=>exact XI (Rp a) h0
 |true=>
  have e:=Td S T h a;have N0:=fC S T h;generalize er:MQ W V ps=r at *;unfold stp at e;simp only at e;generalize el:((NN W.n (ps.map (·.1))).map λf=>Pf ((NN V.n (ps.map (·.2))).map λs=>if UX W V ps (f,s)=O1 then MQ W V (Ah (ps++[(f,s)])) else 0))++((NN V.n (ps.map (·.2))).map λs=>Pf ((NN W.n (ps.map (·.1))).map λf=>if UX W V ps (f,s)=O1 then MQ W V (Ah (ps++[(f,s)])) else 0))=l at e;have L:l.foldr min (MO W V)∈l:=by
   rcases Zh l (MO W V) with z | z
   .rw[z] at e;omega
   .exact z
  have e2:l.foldr min (MO W V)<r:=by omega
  generalize l.foldr min (MO W V)=m at L e2;have no:∀f s,f<W.n->s<V.n->¬ (f∈NN W.n (ps.map (·.1))/\s∈NN V.n (ps.map (·.2)))->(f∈NN W.n (ps.map (·.1))∨s∈NN V.n (ps.map (·.2)))->MQ W V (Ah (ps++[(f,s)]))<r:=λf s I hs hn ho=>by
   have Y:=Fl h (q:=(f,s)) ⟨I,hs⟩;have:Pw W V (Ah (ps++[(f,s)]))=O2:=by
    rw[Nj S T Y];cases z:Pw W V (ps++[(f,s)]) with
    |false=>rfl
    |true=>
     exfalso;have z2:=(e_ _ _ _ _).mp (Qp.mp z).2;have g:∀p∈ps,(p.1=f↔p.2=s):=λp J=>by
      have:=z2.2 p J;unfold ZY at this;rw[eI] at this;have t:=this.1;simp only[SK,decide_eq_decide] at t;exact t
     by_cases U:f∈NN W.n (ps.map (·.1))
     .have Z:s∉NN V.n (ps.map (·.2)):=λc=>hn ⟨U,c⟩;have:s∈ps.map (·.2):=vi λc=>Z (CQ.mpr ⟨hs,c⟩);obtain⟨p,J,e⟩:=bn.mp this;exact (CQ.mp U).2 (bn.mpr ⟨p,J,(g p J).mpr e⟩)
     .have Z:=ho.resolve_left U;have:f∈ps.map (·.1):=vi λc=>U (CQ.mpr ⟨I,c⟩);obtain⟨p,J,e⟩:=bn.mp this;exact (CQ.mp Z).2 (bn.mpr ⟨p,J,(g p J).mp e⟩)
   rw[Rp this];omega
  have O:∀f s,f∈NN W.n (ps.map (·.1))->s∈NN V.n (ps.map (·.2))->(if UX W V ps (f,s)=O1 then MQ W V (Ah (ps++[(f,s)])) else 0)<=m->MQ W V (Ah (ps++[(f,s)]))<r:=λf s I hs hm=>by
   have Y:=Fl h (q:=(f,s)) ⟨(CQ.mp I).1,(CQ.mp hs).1⟩;split at hm
   .omega
   .rename_i hz;have:Pw W V (Ah (ps++[(f,s)]))=O2:=by
     rw[Nj S T Y];cases z:Pw W V (ps++[(f,s)]) with
     |false=>rfl
     |true=>exact XI (Qp.mp z).2 hz
    rw[Rp this];omega
  rw[<-el] at L
  rcases eA.mp L with L | L
  .obtain⟨f,I,ef⟩:=bn.mp L;refine .inl ⟨f,(CQ.mp I).1,λs hs=>?_⟩
   by_cases c:s∈NN V.n (ps.map (·.2))
   .exact O f s I c (by rw[<-ef];exact X5 (bn.mpr ⟨s,c,rfl⟩))
   .exact no f s (CQ.mp I).1 hs (λz=>c z.2) (.inl I)
  .obtain⟨s,hs,es⟩:=bn.mp L;refine .inr ⟨s,(CQ.mp hs).1,λf I=>?_⟩
   by_cases c:f∈NN W.n (ps.map (·.1))
   .exact O f s c hs (by rw[<-es];exact X5 (bn.mpr ⟨f,c,rfl⟩))
   .exact no f s I (CQ.mp hs).1 (λz=>c z.1) (.inr hs)
def zZ{m:List Nat}(h:kM l=kM m):l=m:=by
 unfold kM at h;have h:=D.dk.inj h;have:=NJ (List.map λx:Key×D=>match x.1 with | .inl i=>i.toNat | _=>0) h;simpa [ca,eW] using this
def za{l m:List (Nat×Nat)}(h:kT l=kT m):l=m:=by
 unfold kT at h;have h:=D.dt.inj h;have:=NJ (List.map λx:List Key×D=>unk1 x.1) h;simpa [ca,eW,unk1] using this
theorem Vb{z J:Type}{f:z->J}(I:∀x y,f x=f y->x=y):∀{l m:List z},l.map f=m.map f->l=m
 |[],[],_=>rfl
 |[],_::_,h=>by cases h
 |_::_,[],h=>by cases h
 |x::l,y::m,h=>by
  rw[bb,bb] at h;obtain⟨O,L⟩:=List.cons.inj h;rw[I x y O,Vb I L]
def fD{W V:Wl}(h:bm W=bm V):W=V:=by
 obtain⟨n,L,J⟩:=W;obtain⟨n',ms',ts'⟩:=V;unfold bm at h;simp only[D.ob.injEq,zw,sN,true_and,and_true,D.int.injEq,D.dk.injEq] at h;obtain⟨h1,O,T⟩:=h;have e1:n=n':=by omega
 have U:L=ms':=Vb (λx y e=>by
  obtain⟨Y,I⟩:=x;obtain⟨z,Z⟩:=y;simp only[sN,MC] at e;rw[e.1,zZ e.2]) O
 have S:J=ts':=Vb (λx y e=>by
  obtain⟨Y,I⟩:=x;obtain⟨z,Z⟩:=y;simp only[sN,MC] at e;rw[e.1,za e.2]) T
 rw[e1,U,S]
def ABN(W V:Wl):FF (bm W) (bm V)=FW W V:=by
 have h:∃x:Wl×Wl,bm W=bm x.1/\bm V=bm x.2:=⟨(W,V),rfl,rfl⟩;unfold FF;rw[dif_pos h];have:=F8 h;rw[<-fD this.1,<-fD this.2]
theorem uz(ps:List Pr):(SY ps).map unk1=ps:=by
 unfold SY;rw[ca];have:(unk1 ∘ kk)=id:=by funext p;simp[unk1,kk]
 rw[this,List.map_id]
def xH(W V:Wl)(ps:List Pr):FW W V (SY ps)=(MQ W V ps:Nat):=by unfold FW;rw[uz]
def fw_t(W V:Wl)(h:Sp W V)(ps:List Pr)(Y:ps.length<=1000)(q:Pr):Hy [bm W,bm V,.tup (ps.map pN),pN q]=O0 (.bl (UX W V ps q)):=by
 have b1:=uq W V h q;have L:=Xv W V h q q;have z:Bc (mu (vF 2)) pp J9 [.fz (bm W),.fz (bm V),.fz (.tup (ps.map pN)),.fz (pN q)]=O0 (.lst (ps.map λp=>.bl (ZY W V p q))):=
  Fj ps pN (λp=>.bl (ZY W V p q)) (by simp only[cK,Cu,QM]) Y λp _=>by
   have g:=ABL W V h p q;simp only[cK,J9,g]
 have I:=pQ (λp=>ZY W V p q) ps;unfold UX;simp only[cK,Hy,Mz,b1];cases QZ W V q with
 |false=>simp only[cK,CA]
 |true=>
  simp only[cK,L];cases KY W V q q with
  |false=>simp only[cK,sq,CA]
  |true=>simp only[cK,z,I,sq]
def qC{J:Type}(l:List J)(I z g:J->D)(hs:src ρ=O0 (l.map λx=>.tup [I x,z x]))(S:l.length<=1000)(h:∀x∈l,fe (ρ++[.fz (I x),.fz (z x)])=O0 (g x)):Y8 src pp fe ρ=O0 (.lst (l.map g)):=by
 have c:∀l:List J,(∀x∈l,fe (ρ++[.fz (I x),.fz (z x)])=O0 (g x))->Fp bd2 ρ pp fe (l.map λx=>.tup [I x,z x])=O0 (l.map g):=by
  intro l
  induction l with
  |nil=>intro _;rfl
  |cons x r L=>
   intro Y;rw[bb];show (fe (ρ++[PV.Slot.fz (I x),PV.Slot.fz (z x)])).bind (λy=>(Fp bd2 ρ pp fe (r.map λx=>.tup [I x,z x])).map (y::·))=_;rw[Y x .(1),L λd O=>Y d (by simp[O])];rfl
 unfold Y8 JN;rw[hs];show (if (l.map λx=>D.tup [I x,z x]).length<=sizeLine then (Fp bd2 ρ pp fe (l.map λx=>D.tup [I x,z x])).map D.lst else W1)=_;rw[VI (QC (by rw[aE];omega)),c l h];rfl
theorem qD:∀(ps:List Pr) (i:Nat),enD i (ps.map pN)=(bg ps.length).map λk=>D.tup [.int ((i+k:Nat):Int),pN (ps.getD k (0,0))]
 |[],i=>rfl
 |p::r,i=>by
  rw[bb,ck,IS,bb,ca];show D.tup [.int (i:Int),pN p]::enD (i+1) (r.map pN)=_;rw[qD r (i+1)];congr 1;refine pj λk _=>?_;simp only[eW,List.getD_cons_succ];rw[show i+1+k=i+(k+1) by omega]
def sl_t(ds:List D)(k:Nat)(h:k<ds.length):slD (.tup ds) W1 (O0 (k:Int))=O0 (.tup (ds.take k)):=by
 show (if HT.sIx ds.length 0 W1=0/\HT.sIx ds.length ds.length (O0 (k:Int))=ds.length then W1 else O0 (D.tup (Oy ds W1 (O0 (k:Int)))))=_;rw[WI (by rw[HT.rN];omega),lJ]
def sl_l(ds:List D)(k:Nat):slD (.lst ds) W1 (O0 (k:Int))=O0 (.lst (ds.take k)):=by
 show O0 (D.lst (Oy ds W1 (O0 (k:Int))))=_;rw[lJ]
def ABO(f:FE)(ρ:Rho)(ds:List D)(h:f ρ=O0 (.tup ds)):enIT f ρ=O0 (enD 0 ds):=by unfold enIT;rw[h]
def af_t(W V:Wl)(h:Sp W V)(ps:List Pr)(Y:ps.length<=1000):JG [bm W,bm V,.tup (ps.map pN)]=O0 (.bl (Pw W V ps)):=by
 have J:Y8 (enIT (vF 2)) pp M3 [.fz (bm W),.fz (bm V),.fz (.tup (ps.map pN))]=O0 (.lst ((bg ps.length).map λk=>.bl (UX W V (ps.take k) (ps.getD k (0,0))))):=
  qC (bg ps.length) (λk=>.int ((0+k:Nat):Int)) (λk=>pN (ps.getD k (0,0))) _ (by rw[ABO _ _ (ps.map pN) rfl,qD]) (by simpa using Y) λk I=>by
   have f:=fw_t W V h (ps.take k) (by rw[ij];omega) (ps.getD k (0,0));have s:=sl_t (ps.map pN) k (by rw[aE];exact cf.mp I);rw[mS];rw[<-vj] at s;simp only[cK,M3,s,f]
 have z:=pQ (λk=>UX W V (ps.take k) (ps.getD k (0,0))) (bg ps.length);rw[uv] at z;simp only[cK,JG,Rb,J,z]
def xJ(t:Nat)(l:List Nat):Po O1 (.int (t:Int)) (.lst (l.map iN))=O0 (.bl (decide (t∉l))):=by
 have h:∀z:List Nat,OO (z.map iN)=O0 (z.map λ(t:Nat)=>V.int t):=λz=>by
  induction z with
  |nil=>rfl
  |cons y r J=>simp[OO,UY,J]
 have i:=in_i t l;change ((UY (.int (t:Int))).bind λv=>(OO (l.map iN)).map λI=>D.bl (YR v I))=_ at i;show ((UY (.int (t:Int))).bind λv=>(OO (l.map iN)).map λI=>D.bl (!YR v I))=_;rw[h] at i ⊢;have i:O0 (D.bl (YR (.int (t:Int)) (l.map λ(t:Nat)=>V.int t)))=O0 (D.bl (decide (t∈l))):=i;show O0 (D.bl (!YR (.int (t:Int)) (l.map λ(t:Nat)=>V.int t)))=_;injection i with i
 injection i with i
 rw[i];simp
def qF(n:Nat)(z:n<=100)(xs:List Nat):JW [.int (n:Int),.lst (xs.map iN)]=O0 (.lst ((NN n xs).map iN)):=by
 have J:Bc (Nc (vF 0)) LQ LR [.fz (.int (n:Int)),.fz (.lst (xs.map iN))]=O0 (.lst ((NN n xs).map iN)):=
  N7 (λt=>decide (t∉xs)) iN (Nc (vF 0)) (Xp n z _ 0 rfl) .(0) (λk I=>by
   have s:=xJ k xs;simp only[cK,LQ,s]) (λk I=>by simp only[cK,LR])
 simp only[cK,JW,O_,J]
def qG(l:List Nat):KH (l.map iN)=O0 (l.map λ(t:Nat)=>(t:Int)):=by
 induction l with
 |nil=>rfl
 |cons y r z=>
  show (KH (r.map iN)).map (_::·)=_;rw[z];rfl
theorem qH(f:Nat->Int):∀k,(∃i,i<=k/\mxN f k=f i)/\∀i,i<=k->f i<=mxN f k
 |0=>⟨⟨0,aI _,rfl⟩,λi I=>by rw[FY.mp I];exact BG _⟩
 |k+1=>by
  obtain⟨⟨i,I,e⟩,h⟩:=qH f k;have u:mxN f (k+1)=if f (k+1) > mxN f k then f (k+1) else mxN f k:=rfl
  rw[u];split
  .rename_i c;refine⟨⟨k+1,aI _,rfl⟩,λj U=>?_⟩
   rcases xE k j with z | z
   .have:j=k+1:=by omega
    rw[this];exact BG _
   .have:=h j z;omega
  .rename_i c;refine⟨⟨i,by omega,e⟩,λj U=>?_⟩
   rcases xE k j with z | z
   .have:j=k+1:=by omega
    rw[this];omega
   .exact h j z
theorem qI(f:Nat->Int):∀k,(∃i,i<=k/\mnN f k=f i)/\∀i,i<=k->mnN f k<=f i
 |0=>⟨⟨0,aI _,rfl⟩,λi I=>by rw[FY.mp I];exact BG _⟩
 |k+1=>by
  obtain⟨⟨i,I,e⟩,h⟩:=qI f k;have u:mnN f (k+1)=if f (k+1)<mnN f k then f (k+1) else mnN f k:=rfl
  rw[u];split
  .rename_i c;refine⟨⟨k+1,aI _,rfl⟩,λj U=>?_⟩
   rcases xE k j with z | z
   .have:j=k+1:=by omega
    rw[this];exact BG _
   .have:=h j z;omega
  .rename_i c;refine⟨⟨i,by omega,e⟩,λj U=>?_⟩
   rcases xE k j with z | z
   .have:j=k+1:=by omega
    rw[this];omega
   .exact h j z
def Rq(l:List Nat)(i:Nat)(h:i<l.length):(l.map λ(t:Nat)=>(t:Int)).getD i 0=(l[i]:Int):=by
 rw[qq,cb,dc h];rfl
theorem qJ(l:List Nat):Yc (.lst (l.map iN)) (.int 0)=O0 (.int ((Pf l:Nat):Int)):=by
 show (KH (l.map iN)).map _=_;rw[qG];show O0 (if (l.map λ(t:Nat)=>(t:Int))=[] then D.int 0 else .int (mxN (λi=>(l.map λ(t:Nat)=>(t:Int)).getD i 0) ((l.map λ(t:Nat)=>(t:Int)).length-1)))=_;cases l with
 |nil=>rfl
 |cons x r=>
  rw[WI .(1)];congr 2;have ⟨⟨i,hi,e⟩,h⟩:=qH (λi=>((x::r).map λ(t:Nat)=>(t:Int)).getD i 0) (((x::r).map λ(t:Nat)=>(t:Int)).length-1);rw[aE,ck] at hi e h;have Y:i<(x::r).length:=by rw[ck];omega
  rw[aE,ck,e];show ((x::r).map λ(t:Nat)=>(t:Int)).getD i 0=_;rw[Rq _ _ Y];have S:=X5 (gi Y);have L:Pf (x::r)<=(x::r)[i]:=by
   have:Pf (x::r)<(x::r)[i]+1:=bG .(0) λy I=>by
    obtain⟨j,U,J⟩:=so.mp I;have z:=h j (by rw[ck] at U;omega);rw[e] at z;change ((x::r).map λ(t:Nat)=>(t:Int)).getD j 0<=((x::r).map λ(t:Nat)=>(t:Int)).getD i 0 at z;rw[Rq _ _ Y,Rq _ _ U,J] at z;omega
   omega
  omega
theorem zb(l:List Nat)(e:Nat):∃m:Nat,d_ (.lst (l.map iN)) (.int (e:Int))=O0 (.int (m:Int))/\min e (1+m)=min e (1+l.foldr min e):=by
 have u:d_ (.lst (l.map iN)) (.int (e:Int))=O0 (if (l.map λ(t:Nat)=>(t:Int))=[] then D.int (e:Int) else .int (mnN (λi=>(l.map λ(t:Nat)=>(t:Int)).getD i 0) ((l.map λ(t:Nat)=>(t:Int)).length-1))):=by
  show (KH (l.map iN)).map _=_;rw[qG];rfl
 rw[u];cases l with
 |nil=>exact⟨e,rfl,rfl⟩
 |cons x r=>
  rw[WI .(1)];have ⟨⟨i,hi,ee⟩,h⟩:=qI (λi=>((x::r).map λ(t:Nat)=>(t:Int)).getD i 0) (((x::r).map λ(t:Nat)=>(t:Int)).length-1);rw[aE,ck] at hi ee h;have Y:i<(x::r).length:=by rw[ck];omega
  refine⟨(x::r)[i],?_,?_⟩
  .rw[aE,ck,ee];show O0 (D.int (((x::r).map λ(t:Nat)=>(t:Int)).getD i 0))=_;rw[Rq _ _ Y]
  .have S:=uy (e:=e) (gi Y);have L:=zY (x::r) e
   rcases Zh (x::r) e with z | z
   .rw[z] at S ⊢;omega
   .obtain⟨j,U,J⟩:=so.mp z;have I:=h j (by rw[ck] at U;omega);rw[ee] at I;change ((x::r).map λ(t:Nat)=>(t:Int)).getD i 0<=((x::r).map λ(t:Nat)=>(t:Int)).getD j 0 at I;rw[Rq _ _ Y,Rq _ _ U,J] at I;omega
def mr(W V:Wl):D:=.ob "Ranks" [("one",bm W),("other",bm V),("reckoned",.mem (FW W V)),("endless",.int (MO W V:Nat))]
def u1:(("other":Str)=="one")=O2:=by decide +kernel
def u2:(("reckoned":Str)=="one")=O2:=by decide +kernel
def u3:(("reckoned":Str)=="other")=O2:=by decide +kernel
def u4:(("endless":Str)=="one")=O2:=by decide +kernel
def u5:(("endless":Str)=="other")=O2:=by decide +kernel
def u6:(("endless":Str)=="reckoned")=O2:=by decide +kernel
def fG(W V:Wl):fk "one" (mr W V)=O0 (bm W):=by
 show bP ("one":Str) _=_;rfl
def Te(W V:Wl):fk "other" (mr W V)=O0 (bm V):=by
 show bP ("other":Str) [(("one":Str),bm W),("other",bm V),("reckoned",.mem (FW W V)),("endless",.int (MO W V:Nat))]=_;simp only[bP,u1];rfl
def qK(W V:Wl):fk "reckoned" (mr W V)=O0 (.mem (FW W V)):=by
 show bP ("reckoned":Str) [(("one":Str),bm W),("other",bm V),("reckoned",.mem (FW W V)),("endless",.int (MO W V:Nat))]=_;simp only[bP,u2,u3];rfl
def bH(W V:Wl):fk "endless" (mr W V)=O0 (.int (MO W V:Nat)):=by
 show bP ("endless":Str) [(("one":Str),bm W),("other",bm V),("reckoned",.mem (FW W V)),("endless",.int (MO W V:Nat))]=_;simp only[bP,u4,u5,u6];rfl
def Nm{W V:Wl}(h:Ck "Ranks" m (mr W V)=O1):mzO "Ranks" m g (O0 (mr W V)) (O0 ds)=g (mr W V::ds):=Zf h
def ob1(W V:Wl):Ck "Ranks" "rank_of_fitting" (mr W V)=O1:=rfl
def ob2(W V:Wl):Ck "Ranks" "rank_with" (mr W V)=O1:=rfl
def ob3(W V:Wl):Ck "Ranks" "best_rank" (mr W V)=O1:=rfl
def ob4(W V:Wl):Ck "Ranks" "least_rank" (mr W V)=O1:=rfl
def ob5(W V:Wl):Ck "Ranks" "rank_of" (mr W V)=O1:=rfl
def ob6(W V:Wl):Ck "Ranks" "told_rank" (mr W V)=O1:=rfl
def ABP{p:Pr}(h:Sz p):prD (pN p)=O0 p:=by
 obtain⟨a,b⟩:=p;obtain⟨I,z⟩:=h;show (if 0<=(a:Int)/\(a:Int)<5/\0<=(b:Int)/\(b:Int)<5 then O0 ((a:Int).toNat,(b:Int).toNat) else W1)=_;have I:a<5:=I;have z:b<5:=z;rw[VI .(0),g9,g9]
def bI{ps:List Pr}(h:∀p∈ps,Sz p):Sf (ps.map pN)=O0 ps:=by
 induction ps with
 |nil=>rfl
 |cons p r z=>
  show (prD (pN p)).bind (λp=>(Sf (r.map pN)).map (p::·))=_;rw[ABP (h p .(1)),z λq U=>h q (by simp[U])];rfl
def qL{ps:List Pr}(h:∀p∈ps,Sz p)(Y:ps.length<=5):Sj (.tup (ps.map pN))=O0 ps:=by
 show (Sf (ps.map pN)).bind (λps=>if ps.length<=5 then O0 ps else W1)=_;rw[bI h];show (if ps.length<=5 then O0 ps else W1)=_;rw[VI Y]
def zc{ps:List Pr}(h:∀p∈ps,Sz p)(Y:ps.length<=17):tssD (.lst (ps.map pN))=O0 (.tup ((Ah ps).map pN)):=by
 show (Sf (ps.map pN)).bind (λps=>if ps.length<=17 then O0 (D.tup ((Ah ps).map prT)) else W1)=_;rw[bI h];show (if ps.length<=17 then O0 (D.tup ((Ah ps).map prT)) else W1)=_;rw[VI Y]
def zf{ps:List Pr}(h:∀p∈ps,Sz p)(Y:ps.length<=17)(z:ps.Nodup):tslD (.tup (ps.map pN))=O0 (.tup ((Ah ps).map pN)):=by
 show (Sf (ps.map pN)).bind (λps=>if ps.length<=17/\ps.Nodup then O0 (D.tup ((Ah ps).map prT)) else W1)=_;rw[bI h];show (if ps.length<=17/\ps.Nodup then O0 (D.tup ((Ah ps).map prT)) else W1)=_;rw[VI ⟨Y,z⟩]
def zg(ps:List Pr)(q:Pr)(Y:ps.length<=100):catU (.tup (ps.map pN)) (.tup [pN q])=O0 (.tup ((ps++[q]).map pN)):=by
 show (if [pN q]≠[]/\(ps.map pN).length+[pN q].length<=1000 then O0 (D.tup (ps.map pN++[pN q])) else W1)=_;rw[VI ⟨by simp,by simp;omega⟩,dP];rfl
def zj{z:FE}{ps:List Pr}{v:Int}(h1:uF (fk f) (vF i) ρ=O0 (.mem F))(J:(vF j ρ).bind Sj=O0 ps)(T:z ρ=O0 (.int v))(I:v=F (SY ps)):memR i f j z ρ=O0 (.rt (.int v) ρ):=by
 unfold memR;rw[h1,J,T];exact VI I
def u0{fr:FE}{ps:List Pr}(h1:uF (fk f) (vF i) ρ=O0 (.mem F))(z:(vF j ρ).bind Sj=O0 ps)(T:ft ρ=O0 O1):memB i f j ft c m fr ρ=fx fr ρ:=by
 unfold memB;rw[h1,z,T]
def u9{fr:FE}{ps:List Pr}(h1:uF (fk f) (vF i) ρ=O0 (.mem F))(I:(vF j ρ).bind Sj=O0 ps)(T:ft ρ=O0 O2)(z:F (SY ps)=0)(S:(vF i ρ).map (Ck c m)=O0 O1):memB i f j ft c m fr ρ=O0 (.rt (.int 0) ρ):=by
 unfold memB;rw[h1,I,T];exact VI ⟨z,S⟩
abbrev Se (W V:Wl) (ps:List Pr) (q:Pr):Nat:=if UX W V ps q=O1 then MQ W V (Ah (ps++[q])) else 0
section
theorem u_{W V:Wl}(L:la W)(O:la V)(h:Sp W V){g:List D->Option D}{ps:List Pr}{q:Pr}(S:NV W V ps)(I:ps.Nodup)(hl:ps.length<=5)(U:q.1<W.n/\q.2<V.n)(Z:q∉ps)(T:UX W V ps q=O1->g [mr W V,.tup ((Ah (ps++[q])).map pN)]=O0 (.int (MQ W V (Ah (ps++[q])):Nat))):Br g [mr W V,.tup (ps.map pN),pN q]=O0 (.int (Se W V ps q:Nat)):=by
 have f:=fw_t W V h ps .(0) q;have a1:=fG W V;have Y:=Te W V;simp only[cK,Br,G3,a1,Y,f];cases e:UX W V ps q with
 |false=>
  simp only[cK,Se,e];rfl
 |true=>
  have c:=zg ps q .(0);have t:=zf (in5 L O (Fl S U)) (by simp;omega) (f6.mpr ⟨I,by simp,λx J y z e=>Z (by simp at z;rw[<-z,<-e];exact J)⟩);have m:=Nm (g:=g) (ds:=[.tup ((Ah (ps++[q])).map pN)]) (ob1 W V);simp only[cK,c,t,Dl,m,T e,Se,e,TK]
theorem fH{W V:Wl}{ps:List Pr}(qs:List Pr)(Y:qs.length<=1000)(z:∀q∈qs,Br g [mr W V,.tup (ps.map pN),pN q]=O0 (.int (Se W V ps q:Nat))):Ar g [mr W V,.tup (ps.map pN),.lst (qs.map pN)]=O0 (.int (Pf (qs.map (Se W V ps)):Nat)):=by
 have I:Bc (mu (vF 2)) pp (Fq g) [.fz (mr W V),.fz (.tup (ps.map pN)),.fz (.lst (qs.map pN))]=O0 (.lst (qs.map λq=>iN (Se W V ps q))):=
  Fj qs pN _ (by simp only[cK,Cu,FN]) Y λq U=>by
   have m:=Nm (g:=Br g) (ds:=[.tup (ps.map pN),pN q]) (ob2 W V);simp only[cK,Fq,Dl,m,z q U]
 have mx:=qJ (qs.map (Se W V ps));rw[ca] at mx;change Yc (.lst (qs.map λq=>iN (Se W V ps q))) (.int 0)=_ at mx;simp only[cK,Ar,G4,I,mx]
theorem xK{W V:Wl}{g:List D->Option D}{ps:List Pr}(fs Z:List Nat)(hs:Z.length<=100)(O:∀f∈fs,Ar g [mr W V,.tup (ps.map pN),.lst ((Z.map λs=>(f,s)).map pN)]=O0 (.int (Pf ((Z.map λs=>(f,s)).map (Se W V ps)):Nat)))(J I:Slot):
  ∀(r:List Nat) (l:List Nat) (z:Slot),(∀f∈r,f∈fs)->l.length+r.length<=900->∃S,vb (PM (Be 5) (De g)) (r.map iN) [.fz (mr W V),.fz (.tup (ps.map pN)),J,.fz (.lst (Z.map iN)),.ow (.lst (l.map iN)),z,I]=O0 (.nx [.fz (mr W V),.fz (.tup (ps.map pN)),J,.fz (.lst (Z.map iN)),.ow (.lst ((l++r.map λf=>Pf ((Z.map λs=>(f,s)).map (Se W V ps))).map iN)),S,I])
 |[],l,z,_,_=>⟨z,by rw[gg,gg,fI];rfl⟩
 |f::r,l,z,L,Y=>by
  rw[ck] at Y;have b:=O f (L f .(1));have cm:Bc (mu (vF 3)) pp (Eu g) [.fz (mr W V),.fz (.tup (ps.map pN)),J,.fz (.lst (Z.map iN)),.ow (.lst (l.map iN)),.fz (iN f),I]=O0 (.lst ((Z.map λs=>(f,s)).map pN)):=by
   rw[ca];exact Fj Z iN _ (by simp only[cK,Cu,FN]) .(0) λs _=>by simp only[cK,Eu,eW]
  have m:=Nm (g:=Ar g) (ds:=[.tup (ps.map pN),.lst ((Z.map λs=>(f,s)).map pN)]) (ob3 W V);have ap:=eG (l.map iN) (iN (Pf ((Z.map λs=>(f,s)).map (Se W V ps)))) (by simp;omega);have bd:De g [.fz (mr W V),.fz (.tup (ps.map pN)),J,.fz (.lst (Z.map iN)),.ow (.lst (l.map iN)),.fz (iN f),I]=O0 (.nx [.fz (mr W V),.fz (.tup (ps.map pN)),J,.fz (.lst (Z.map iN)),.ow (.lst ((l++[Pf ((Z.map λs=>(f,s)).map (Se W V ps))]).map iN)),.fz (iN f),I]):=by
   simp only[cK,De,Dl,cm,m,b,ap,dP]
  obtain⟨S,T⟩:=xK fs Z hs O J I r (l++[Pf ((Z.map λs=>(f,s)).map (Se W V ps))]) (.fz (iN f)) (λy U=>L y (by simp[U])) (by simp;omega);refine⟨S,?_⟩
  w_up
  rw[bd,El,T];simp
theorem xM{W V:Wl}{g:List D->Option D}{ps:List Pr}(fs Z:List Nat)(hs:fs.length<=100)(L:∀s∈Z,Ar g [mr W V,.tup (ps.map pN),.lst ((fs.map λf=>(f,s)).map pN)]=O0 (.int (Pf ((fs.map λf=>(f,s)).map (Se W V ps)):Nat)))(I O:Slot):
  ∀(r:List Nat) (l:List Nat) (z:Slot),(∀f∈r,f∈Z)->l.length+r.length<=900->∃S,vb (PM (Be 6) (Df g)) (r.map iN) [.fz (mr W V),.fz (.tup (ps.map pN)),.fz (.lst (fs.map iN)),I,.ow (.lst (l.map iN)),O,z]=O0 (.nx [.fz (mr W V),.fz (.tup (ps.map pN)),.fz (.lst (fs.map iN)),I,.ow (.lst ((l++r.map λs=>Pf ((fs.map λf=>(f,s)).map (Se W V ps))).map iN)),O,S])
 |[],l,z,_,_=>⟨z,by rw[gg,gg,fI];rfl⟩
 |s::r,l,z,J,Y=>by
  rw[ck] at Y;have b:=L s (J s .(1));have cm:Bc (mu (vF 2)) pp (Ew g) [.fz (mr W V),.fz (.tup (ps.map pN)),.fz (.lst (fs.map iN)),I,.ow (.lst (l.map iN)),O,.fz (iN s)]=O0 (.lst ((fs.map λf=>(f,s)).map pN)):=by
   rw[ca];exact Fj fs iN _ (by simp only[cK,Cu,FN]) .(0) λf _=>by simp only[cK,Ew,eW]
  have m:=Nm (g:=Ar g) (ds:=[.tup (ps.map pN),.lst ((fs.map λf=>(f,s)).map pN)]) (ob3 W V);have ap:=eG (l.map iN) (iN (Pf ((fs.map λf=>(f,s)).map (Se W V ps)))) (by simp;omega);have bd:Df g [.fz (mr W V),.fz (.tup (ps.map pN)),.fz (.lst (fs.map iN)),I,.ow (.lst (l.map iN)),O,.fz (iN s)]=O0 (.nx [.fz (mr W V),.fz (.tup (ps.map pN)),.fz (.lst (fs.map iN)),I,.ow (.lst ((l++[Pf ((fs.map λf=>(f,s)).map (Se W V ps))]).map iN)),O,.fz (iN s)]):=by
   simp only[cK,Df,Dl,cm,m,b,ap,dP]
  obtain⟨S,T⟩:=xM fs Z hs L I O r (l++[Pf ((fs.map λf=>(f,s)).map (Se W V ps))]) (.fz (iN s)) (λy U=>J y (by simp[U])) (by simp;omega);refine⟨S,?_⟩
  w_up
  rw[bd,El,T];simp
end
def X6(a b:Nat):WV (.int (a:Int)) (.int (b:Int))=O0 (.int ((min a b:Nat):Int)):=by
 show O0 (D.int (if (b:Int)<a then (b:Int) else a))=_;congr 2;split<;>omega
def qM(a b:Nat):ZN (.int (a:Int)) (.int (b:Int))=O0 (.int ((max a b:Nat):Int)):=by
 show O0 (D.int (if (b:Int) > a then (b:Int) else a))=_;congr 2;split<;>omega
def qN{W V:Wl}(hw:la W)(hv:la V)(h:Sp W V){g:List D->Option D}{ps:List Pr}(hi:NV W V ps)(nd:ps.Nodup)(hl:ps.length<=5)(T:∀f∈NN W.n (ps.map (·.1)),∀s∈NN V.n (ps.map (·.2)),UX W V ps (f,s)=O1->g [mr W V,.tup ((Ah (ps++[(f,s)])).map pN)]=O0 (.int (MQ W V (Ah (ps++[(f,s)])):Nat))):C_ g [mr W V,.tup (ps.map pN)]=O0 (.int (stp W V (MQ W V) ps:Nat)):=by
 have hn:=hw.n5;have hm:=hv.n5;generalize O:NN W.n (ps.map (·.1))=fs at T;generalize L:NN V.n (ps.map (·.2))=ss at T;have lf:fs.length<=5:=by rw[<-O];exact de (X3 _ _) hn
 have ls:ss.length<=5:=by rw[<-L];exact de (X3 _ _) hm
 have J:∀f∈fs,∀s∈ss,Br g [mr W V,.tup (ps.map pN),pN (f,s)]=O0 (.int (Se W V ps (f,s):Nat)):=λf I s hs=>by
  have S:=I;have Z:=hs;rw[<-O] at S;rw[<-L] at Z;exact u_ hw hv h hi nd hl ⟨(CQ.mp S).1,(CQ.mp Z).1⟩ (λz=>(CQ.mp S).2 (bn.mpr ⟨_,z,rfl⟩)) (T f I s hs)
 have b1:∀f∈fs,Ar g [mr W V,.tup (ps.map pN),.lst ((ss.map λs=>(f,s)).map pN)]=O0 (.int (Pf ((ss.map λs=>(f,s)).map (Se W V ps)):Nat)):=λf I=>
  fH _ (by simp;omega) λq U=>by
   obtain⟨s,hs,rfl⟩:=bn.mp U;exact J f I s hs
 have b2:∀s∈ss,Ar g [mr W V,.tup (ps.map pN),.lst ((fs.map λf=>(f,s)).map pN)]=O0 (.int (Pf ((fs.map λf=>(f,s)).map (Se W V ps)):Nat)):=λs hs=>
  fH _ (by simp;omega) λq U=>by
   obtain⟨f,I,rfl⟩:=bn.mp U;exact J f I s hs
 obtain⟨z5,l1⟩:=xK fs ss .(0) b1 (.fz (.lst (fs.map iN))) .un fs [] .un (λ_ z=>z) (by simp;omega);simp only[jp,gg] at l1;obtain⟨z6,l2⟩:=xM fs ss .(0) b2 (.fz (.lst (ss.map iN))) z5 ss (fs.map λf=>Pf ((ss.map λs=>(f,s)).map (Se W V ps))) .un (λ_ z=>z) (by simp;omega);have a1:=fG W V;have a2:=Te W V;have a3:=bH W V;have s1:=Nh W;have s2:=Nh V;have c1:Bc (mu (vF 1)) pp (Es g) [.fz (mr W V),.fz (.tup (ps.map pN)),.un,.un,.un,.un,.un]=O0 (.lst ((ps.map (·.1)).map iN)):=by
  rw[ca];exact Fj ps pN _ (by simp only[cK,Cu,QM]) .(0) λp _=>by
   have:=ixp0 p;simp only[cK,Es,this,eW]
 have c2:Bc (mu (vF 1)) pp (Et g) [.fz (mr W V),.fz (.tup (ps.map pN)),.fz (.lst (fs.map iN)),.un,.un,.un,.un]=O0 (.lst ((ps.map (·.2)).map iN)):=by
  rw[ca];exact Fj ps pN _ (by simp only[cK,Cu,QM]) .(0) λp _=>by
   have:=ixp1 p;simp only[cK,Et,this,eW]
 have u1:=qF W.n .(0) (ps.map (·.1));have u2:=qF V.n .(0) (ps.map (·.2));rw[O] at u1;rw[L] at u2;obtain⟨m,mi,me⟩:=zb ((fs.map λf=>Pf ((ss.map λs=>(f,s)).map (Se W V ps)))++(ss.map λs=>Pf ((fs.map λf=>(f,s)).map (Se W V ps)))) (MO W V);have ad:tx (.int 1) (.int (m:Int))=O0 (.int ((1+m:Nat):Int)):=by
  rw[Ia];congr 2
 have mn:=X6 (MO W V) (1+m);simp only[cK,C_,Ga,Cu,FN,a1,a2,s1,s2,c1,u1,c2,u2,l1,l2,a3,mi,ad,mn];rw[me];have Y:min (MO W V) (1+((fs.map λf=>Pf ((ss.map λs=>(f,s)).map (Se W V ps)))++(ss.map λs=>Pf ((fs.map λf=>(f,s)).map (Se W V ps)))).foldr min (MO W V))=stp W V (MQ W V) ps:=by
  unfold stp;simp only[O,L,ca,eW,Se]
 rw[Y]
def fJ(d:D):(O0 d:Option D).bind Sj=Sj d:=rfl
theorem qO{W V:Wl}(z:la W)(I:la V)(h:Sp W V):∀(n:Nat) (ps:List Pr),NV W V ps->Pp ps->Pw W V ps=O1->(NN W.n (ps.map (·.1))).length<n->Ai n [mr W V,.tup (ps.map pN)]=O0 (.int (MQ W V ps:Nat))
 |0,ps,_,_,_,U=>by omega
 |n+1,ps,J,hs,S,U=>by
  have T:=pZ hs;have Z:ps.length<=5:=de (uw T J S) z.n5;have lt:=qN (g:=Ai n) z I h J T Z λf O s hs L=>by
   have Y:=Fl J (q:=(f,s)) ⟨(CQ.mp O).1,(CQ.mp hs).1⟩;exact qO z I h n _ (Va z I J O hs) (Nk z I Y) (by rw[Nj z I Y];exact Qp.mpr ⟨S,L⟩) (fh (X4 z I J O hs) (yA U))
  rw[<-Td z I J S] at lt;have a:=qK W V;have m:=Nm (g:=C_ (Ai n)) (ds:=[.tup (ps.map pN)]) (ob4 W V);have k:=qL (in5 z I J) Z;have r:Bm (Ai n) [.fz (mr W V),.fz (.tup (ps.map pN))]=O0 (.rt (.int (MQ W V ps:Nat)) [.fz (mr W V),.fz (.tup (ps.map pN))]):=by
   unfold Bm;refine zj (F:=FW W V) (ps:=ps) ?_ ?_ ?_ (xH W V ps).symm
   .simp only[cK,a]
   .simp only[e_v,PZ,kN,kt,fJ,k]
   .simp only[cK,Dl,m,lt]
  show il 2 2 (Bm (Ai n)) [mr W V,.tup (ps.map pN)]=_;simp only[cK,r]
theorem of_ok{W V:Wl}(z:la W)(I:la V)(h:Sp W V)(rows:List Pr)(J:NV W V rows)(hl:rows.length<=5):Bb [mr W V,.lst (rows.map pN)]=O0 (.int (MQ W V (Ah rows):Nat)):=by
 have Y:=IW z I J;have S:(Ah rows).length<=5:=de (i_ z I J) hl;have t:=zc (in5 z I J) .(0);have k:=qL (in5 z I Y) S;have a:=qK W V;have a1:=fG W V;have Z:=Te W V;have U:=af_t W V h (Ah rows) .(0);have T:uF (fk "reckoned") (vF 0) [.fz (mr W V),.fz (.lst (rows.map pN)),.fz (.tup ((Ah rows).map pN))]=O0 (.mem (FW W V)):=by simp only[cK,a]
 have O:(vF 2 [.fz (mr W V),.fz (.lst (rows.map pN)),.fz (.tup ((Ah rows).map pN))]).bind Sj=O0 (Ah rows):=by simp only[e_v,PZ,kN,kt,fJ,k]
 cases e:Pw W V (Ah rows) with
 |true=>
  have L:=qO z I h 8 (Ah rows) Y (Nk z I J) e (nI (de (X3 _ _) z.n5) .(2));have m:=Nm (g:=Ai 8) (ds:=[.tup ((Ah rows).map pN)]) (ob1 W V);have b:=u0 (c:="Ranks") (m:="rank_of_fitting") (ft:=Yf (Aj (JG) (Aa (uF (fk "one") (vF 0)) (Aa (uF (fk "other") (vF 0)) (Aa (vF 2) (ab)))))) (fr:=CW "Ranks" "rank_of_fitting" (Ai 8) (vF 0) (Aa (vF 2) (ab))) T O (by simp only[cK,a1,Z,U,e]);simp only[cK,Bb,GQ,t];rw[b];simp only[cK,Dl,m,L]
 |false=>
  have b:=u9 (c:="Ranks") (m:="rank_of_fitting") (ft:=Yf (Aj (JG) (Aa (uF (fk "one") (vF 0)) (Aa (uF (fk "other") (vF 0)) (Aa (vF 2) (ab)))))) (fr:=CW "Ranks" "rank_of_fitting" (Ai 8) (vF 0) (Aa (vF 2) (ab))) T O (by simp only[cK,a1,Z,U,e]) (by rw[xH,Rp e];rfl) (by simp only[e_v,PZ,kt];rw[<-ob1 W V];rfl);simp only[cK,Bb,GQ,t];rw[b,Rp e];simp only[cK];rfl
def QP(W V:Wl)(r:Nat):D:=if r=MO W V then .non else .int (r:Nat)
theorem fK{W V:Wl}(z:la W)(I:la V)(h:Sp W V)(rows:List Pr)(J:NV W V rows)(Y:rows.length<=5):Bs [mr W V,.lst (rows.map pN)]=O0 (QP W V (MQ W V (Ah rows))):=by
 have o:=of_ok z I h rows J Y;have m:=Nm (g:=Bb) (ds:=[.lst (rows.map pN)]) (ob5 W V);have a:=bH W V;simp only[cK,Bs,G5,Dl,m,o,a,IV];unfold QP
 by_cases c:MQ W V (Ah rows)=MO W V
 .rw[ZI c,VI c];simp only[cK]
 .rw[YI c,WI c];simp only[cK]
abbrev rO (W:Wl):Str×Bool×D:=("one",O2,bm W)
abbrev rV (V:Wl):Str×Bool×D:=("other",O2,bm V)
abbrev rR (W V:Wl):Str×Bool×D:=("reckoned",O2,.mem (FW W V))
abbrev rE (W V:Wl):Str×Bool×D:=("endless",O2,.int (MO W V:Nat))
theorem Zi(W V:Wl)(x:Addr):CJ x [bm W,bm V]=O0 [rO W,rV V,rR W V,rE W V]:=by
 have z:=Nh W;have S:=Nh V;have mx:=qM W.n V.n;have Z:tx (.int ((max W.n V.n:Nat):Int)) (.int 1)=O0 (.int (MO W V:Nat)):=by
  rw[Ia];congr 2
 have L:bF tx (bF ZN (uF (fk "size") (vF 1)) (uF (fk "size") (vF 2))) (kF (.int 1)) [.fz (.adr x),.fz (bm W),.fz (bm V)]=O0 (.int (MO W V:Nat)):=by simp only[cK,z,S,mx,Z]
 have O:memE Phi [.fz (.adr x),.fz (bm W),.fz (bm V)]=O0 (.mem (FW W V)):=by
  show O0 (D.mem (FF (bm W) (bm V)))=_;rw[ABN]
 have U:Mq 3 x [bm W,bm V]=[.fz (.adr x),.fz (bm W),.fz (bm V)]:=rfl;unfold CJ SV;rw[VI (show [bm W,bm V].length+1=3 from rfl),U];unfold HY;have T:HN "one" (vF 1) [.fz (.adr x),.fz (bm W),.fz (bm V)] []=O0 ([.fz (.adr x),.fz (bm W),.fz (bm V)],[rO W]):=rfl;have J:HN "other" (vF 2) [.fz (.adr x),.fz (bm W),.fz (bm V)] [rO W]=O0 ([.fz (.adr x),.fz (bm W),.fz (bm V)],[rO W,rV V]):=by
  have l:bP ("other":Str) [rO W]=W1:=by rw[bX,u1];rfl
  unfold HN;show (if (bP ("other":Str) [rO W]).isNone=O1/\1<1000 then O0 (_,[rO W]++[rV V]) else W1)=_;rw[l,VI ⟨rfl,by decide⟩];rfl
 have Y:HN "reckoned" (memE Phi) [.fz (.adr x),.fz (bm W),.fz (bm V)] [rO W,rV V]=O0 ([.fz (.adr x),.fz (bm W),.fz (bm V)],[rO W,rV V,rR W V]):=by
  have l:bP ("reckoned":Str) [rO W,rV V]=W1:=by
   rw[bX,u2];show bP ("reckoned":Str) [rV V]=W1;rw[bX,u3];rfl
  unfold HN;rw[O];show (if (bP ("reckoned":Str) [rO W,rV V]).isNone=O1/\2<1000 then O0 (_,[rO W,rV V]++[rR W V]) else W1)=_;rw[l,VI ⟨rfl,by decide⟩];rfl
 have I:HN "endless" (bF tx (bF ZN (uF (fk "size") (vF 1)) (uF (fk "size") (vF 2))) (kF (.int 1))) [.fz (.adr x),.fz (bm W),.fz (bm V)] [rO W,rV V,rR W V]=O0 ([.fz (.adr x),.fz (bm W),.fz (bm V)],[rO W,rV V,rR W V,rE W V]):=by
  have l:bP ("endless":Str) [rO W,rV V,rR W V]=W1:=by
   rw[bX,u4];show bP ("endless":Str) [rV V,rR W V]=W1;rw[bX,u5];show bP ("endless":Str) [rR W V]=W1;rw[bX,u6];rfl
  unfold HN;rw[L];show (if (bP ("endless":Str) [rO W,rV V,rR W V]).isNone=O1/\3<1000 then O0 (_,[rO W,rV V,rR W V]++[rE W V]) else W1)=_;rw[l,VI ⟨rfl,by decide⟩];rfl
 rw[Er,T,DX,Er,J,DX,Er,Y,DX,Er,I,DX,aQ];rfl
def qP(W V:Wl)(fs:FA)(ρ:Rho)(z:fs ρ=O0 [bm W,bm V]):mkI "Ranks" CJ fs ρ=O0 (mr W V):=by
 unfold mkI;rw[z];simp only[dL,Zi W V 0];rw[VI (λx=>Zi W V x)];rfl
theorem fL{W V:Wl}(z:la W)(I:la V)(h:Spk W V)(rows:List Pr)(J:NV W V rows)(Y:rows.length<=5):PB [bm W,bm V,.lst (rows.map pN)]=O0 (QP W V (MQ W V (Ah rows))):=by
 have s:=bD W V z I h rows J;have t:=fK z I h.sp rows J Y;have m:=Nm (g:=Bs) (ds:=[.lst (rows.map pN)]) (ob6 W V);have mk:=qP W V (Aa (vF 0) (Aa (vF 1) ab)) [.fz (bm W),.fz (bm V),.fz (.lst (rows.map pN))] (by simp only[cK]);simp only[cK,PB,au,s,Dl,mk,m,t]
def rngN(n:Nat)(z:n<=100):rngO (O0 (.int (n:Int)))=O0 ((bg n).map iN):=by
 rw[Ud (n:Int) .(0),g9];rfl
def Pd(side t r:Nat):Pr:=if side=0 then (t,r) else (r,t)
def NX(W V:Wl)(side:Nat):Nat:=if side=0 then W.n else V.n
def bJ(W V:Wl)(side:Nat):DG [mr W V,.int (side:Int)]=O0 (.int (NX W V side:Nat)):=by
 have I:=fG W V;have L:=Te W V;have z:=Nh W;have S:=Nh V;have e:mf O2 (.int (side:Int)) (.int 0)=O0 (.bl (decide (side=0))):=IV side 0;simp only[cK,DG,JX,e];unfold NX
 by_cases c:side=0
 .rw[ZI c,VI c];simp only[cK,I,z]
 .rw[YI c,WI c];simp only[cK,L,S]
def fO(side t r:Nat):KZ [.int (side:Int),.int (t:Int),.int (r:Int)]=O0 (pN (Pd side t r)):=by
 have e:mf O2 (.int (side:Int)) (.int 0)=O0 (.bl (decide (side=0))):=IV side 0;simp only[cK,KZ,Rc,e];unfold Pd
 by_cases c:side=0
 .rw[ZI c,VI c];simp only[cK]
 .rw[YI c,WI c];simp only[cK]
def fP{W V:Wl}(z:la W)(I:la V)(side:Nat):NX W V side<=5:=by
 have:=z.n5;have:=I.n5;unfold NX;split<;>omega
def vA(n:Nat):((bg n).filter λ_=>O1)=bg n:=by simp
theorem Qq(h:Nat->D)(z:FI)(hs:z ρ=O0 (MX n))(I:n<=1000)(J:∀k,k<n->fe (ρ++[.fz (.int k)])=O0 (h k)):Bc z pp fe ρ=O0 (.lst ((bg n).map h)):=by
 have:=N7 (ga:=pp) (λ_=>O1) h z hs I (λ_ _=>rfl) J
 rwa [vA] at this
theorem vB{W V:Wl}(z:la W)(I:la V)(side t:Nat)(h1:side<=1):Hz [mr W V,.int (side:Int),.int (t:Int)]=O0 (.lst (((bg (NX W V (1-side))).map λr=>Pd side t r).map pN)):=by
 have S:SU (.int 1) (.int (side:Int))=O0 (.int ((1-side:Nat):Int)):=by
  rw[Q_];congr 2;omega
 have sz:=bJ W V (1-side);have J:Nc (Aj (DG) (Aa (vF 0) (Aa (bF SU (kF (.int 1)) (vF 1)) (ab)))) [.fz (mr W V),.fz (.int (side:Int)),.fz (.int (t:Int))]=O0 (MX (NX W V (1-side))):=by
  have:=fP z I (1-side);have:=rngN (NX W V (1-side)) .(0);simp only[cK,S,sz,this];rfl
 have L:=Qq (fe:=J_) (λr=>pN (Pd side t r)) _ J (by have:=fP z I (1-side);omega) λk _=>by
  have:=fO side t k;simp only[cK,J_,this]
 simp only[cK,Hz,M5,L,ca,eW]
def ABQ(l:List Pr)(q:Pr)(h:l.length<=1000):tx (.lst (l.map pN)) (.lst [pN q])=O0 (.lst ((l++[q]).map pN)):=by
 rw[Wy (by simp;omega)];simp
def X7{W V:Wl}{side t r:Nat}(h1:side<=1)(O:t<NX W V side)(J:r<NX W V (1-side)):(Pd side t r).1<W.n/\(Pd side t r).2<V.n:=by
 unfold Pd NX at *
 rcases MD.mp h1 with rfl | rfl
 .exact⟨O,J⟩
 .exact⟨J,O⟩
theorem jA{W V:Wl}(z:la W)(I:la V)(h:Sp W V)(rows:List Pr)(S:NV W V rows)(Y:rows.length<=4)(side t:Nat)(h1:side<=1)(O:t<NX W V side):
  G6 [mr W V,.lst (rows.map pN),.int (side:Int),.int (t:Int)]=O0 (.lst (((bg (NX W V (1-side))).map λr=>MQ W V (Ah (rows++[Pd side t r]))).map iN)):=by
 have J:=vB z I side t h1;have sz:=fP z I (1-side);have T:Bc (mu (Aj (Hz) (Aa (vF 0) (Aa (vF 2) (Aa (vF 3) (ab)))))) pp Ha [.fz (mr W V),.fz (.lst (rows.map pN)),.fz (.int (side:Int)),.fz (.int (t:Int))]=O0 (.lst (((bg (NX W V (1-side))).map λr=>Pd side t r).map λq=>iN (MQ W V (Ah (rows++[q]))))):=
  Fj _ pN _ (by simp only[cK,J,Cu,FN]) (by simp;omega) λq U=>by
   obtain⟨r,L,rfl⟩:=bn.mp U;have o:=of_ok z I h (rows++[Pd side t r]) (Fl S (X7 h1 O (cf.mp L))) (by simp;omega);have Z:=ABQ rows (Pd side t r) .(0);have m:=Nm (g:=Bb) (ds:=[.lst ((rows++[Pd side t r]).map pN)]) (ob5 W V);simp only[cK,Ha,Dl,Z,m,o]
 simp only[cK,G6,JZ,T,ca,eW]
abbrev bhd (W V:Wl) (rows:List Pr) (side t:Nat):Nat:=Pf ((bg (NX W V (1-side))).map λr=>MQ W V (Ah (rows++[Pd side t r])))
def qQ(a b:Nat):ltD (.int (a:Int)) (.int (b:Int))=O0 (.bl (decide (a<b))):=by
 rw[Vu];congr 2;rw[decide_eq_decide];omega
theorem inner{W V:Wl}(J:la W)(L:la V)(h:Sp W V)(rows:List Pr)(S:NV W V rows)(Y:rows.length<=4)(side R:Nat)(h1:side<=1):∀(r:List Nat) (z:Slot),(∀t∈r,t<NX W V side) ->
  (∃t ρ,t<NX W V side/\bhd W V rows side t<R/\vb (PM (Be 4) Ay) (r.map iN) [.fz (mr W V),.fz (.lst (rows.map pN)),.fz (.int (R:Int)),.fz (.int (side:Int)),z]=O0 (.rt (.tup [.int (side:Int),.int (t:Int)]) ρ)) ∨
  ((∀t∈r,¬ bhd W V rows side t<R)/\∃U,vb (PM (Be 4) Ay) (r.map iN) [.fz (mr W V),.fz (.lst (rows.map pN)),.fz (.int (R:Int)),.fz (.int (side:Int)),z]=O0 (.nx [.fz (mr W V),.fz (.lst (rows.map pN)),.fz (.int (R:Int)),.fz (.int (side:Int)),U]))
 |[],z,_=>.inr ⟨by simp,z,rfl⟩
 |t::r,z,O=>by
  have b:=jA J L h rows S Y side t h1 (O t .(1));have mx:=qJ ((bg (NX W V (1-side))).map λr=>MQ W V (Ah (rows++[Pd side t r])));have lt:=qQ (bhd W V rows side t) R;have bd:Ay [.fz (mr W V),.fz (.lst (rows.map pN)),.fz (.int (R:Int)),.fz (.int (side:Int)),.fz (iN t)]=(if bhd W V rows side t<R then O0 (.rt (.tup [.int (side:Int),.int (t:Int)]) [.fz (mr W V),.fz (.lst (rows.map pN)),.fz (.int (R:Int)),.fz (.int (side:Int)),.fz (iN t)]) else O0 (.nx [.fz (mr W V),.fz (.lst (rows.map pN)),.fz (.int (R:Int)),.fz (.int (side:Int)),.fz (iN t)])):=by
   simp only[cK,Ay,b,mx,lt]
   by_cases c:bhd W V rows side t<R
   .rw[ZI c,VI c];simp only[cK]
   .rw[YI c,WI c];simp only[cK]
  have st:vb (PM (Be 4) Ay) ((t::r).map iN) [.fz (mr W V),.fz (.lst (rows.map pN)),.fz (.int (R:Int)),.fz (.int (side:Int)),z]=forB (Ay [.fz (mr W V),.fz (.lst (rows.map pN)),.fz (.int (R:Int)),.fz (.int (side:Int)),.fz (iN t)]) (PM (Be 4) Ay) (r.map iN):=by
   w_up
  rw[st,bd]
  by_cases c:bhd W V rows side t<R
  .rw[VI c,QF];exact .inl ⟨t,_,O t .(1),c,rfl⟩
  .rw[WI c,El]
   rcases inner J L h rows S Y side R h1 r (.fz (iN t)) λy I=>O y (by simp[I]) with z | ⟨Z,T⟩
   .exact .inl z
   .exact .inr ⟨λy I=>by rcases bp.mp I with rfl | I;exact c;exact Z y I,T⟩
theorem qR{W V:Wl}(I:la W)(L:la V)(h:Spk W V)(rows:List Pr)(U:NV W V rows)(hl:rows.length<=4)(h0:MQ W V (Ah rows)≠0)(he:MQ W V (Ah rows)≠MO W V):
  ∃side t,side<=1/\t<NX W V side/\(∀r,r<NX W V (1-side)->MQ W V (Ah (rows++[Pd side t r]))<MQ W V (Ah rows))/\Bv [mr W V,.lst (rows.map pN)]=O0 (.tup [.int (side:Int),.int (t:Int)]):=by
 have o:=of_ok I L h.sp rows U .(0);have m:=Nm (g:=Bb) (ds:=[.lst (rows.map pN)]) (ob5 W V);have ae:=bH W V;have e1:mf O2 (.int ((MQ W V (Ah rows):Nat):Int)) (.int 0)=O0 (.bl O2):=by rw[show (D.int 0)=.int ((0:Nat):Int) from rfl,IV,YI h0]
 have e2:mf O2 (.int ((MQ W V (Ah rows):Nat):Int)) (.int (MO W V:Nat))=O0 (.bl O2):=by rw[IV,YI he]
 generalize eR:MQ W V (Ah rows)=R at *;have N0:(∃t,t<W.n/\bhd W V rows 0 t<R)∨∃s,s<V.n/\bhd W V rows 1 s<R:=by
  have rs:∀q:Pr,q.1<W.n/\q.2<V.n->Ah (Ah rows++[q])=Ah (rows++[q]):=λq hq=>iz I L (Fl (IW I L U) hq) (Fl U hq) λx=>by simp[HH I L U]
  rcases p_ I L (IW I L U) (by rw[eR];exact h0) (by rw[eR];exact he) with ⟨t,O,k⟩ | ⟨t,O,k⟩
  .refine .inl ⟨t,O,bG .(0) λx hx=>?_⟩;obtain⟨r,J,rfl⟩:=bn.mp hx;have J:=cf.mp J;have:=k r J;rw[rs (t,r) ⟨O,J⟩,eR] at this;exact this
  .refine .inr ⟨t,O,bG .(0) λx hx=>?_⟩;obtain⟨r,J,rfl⟩:=bn.mp hx;have J:=cf.mp J;have:=k r J;rw[rs (r,t) ⟨J,O⟩,eR] at this;exact this
 have S0:∀side t,side<=1->t<NX W V side->bhd W V rows side t<R->∀r,r<NX W V (1-side)->MQ W V (Ah (rows++[Pd side t r]))<R:=λside t _ _ S r J=>nI (X5 (bn.mpr ⟨r,cf.mpr J,rfl⟩)) S;have n5:=fP I L;have Z:∀side z,En [.fz (mr W V),.fz (.lst (rows.map pN)),.fz (.int (R:Int)),.fz (.int ((side:Nat):Int)),z]=vb (PM (Be 4) Ay) ((bg (NX W V side)).map iN) [.fz (mr W V),.fz (.lst (rows.map pN)),.fz (.int (R:Int)),.fz (.int (side:Int)),z]:=λside z=>by
  have sz:=bJ W V side;have r:=rngN (NX W V side) (by have:=n5 side;omega);simp only[cK,En,sz,r]
 have Y:Bv [mr W V,.lst (rows.map pN)]=runO (forB (vb (PM (Be 4) Ay) ((bg (NX W V 0)).map iN) [.fz (mr W V),.fz (.lst (rows.map pN)),.fz (.int (R:Int)),.fz (.int ((0:Nat):Int)),.un]) (PM (Be 3) En) [.int ((1:Nat):Int)]):=by
  rw[<-Z];simp only[cK,Bv,Ik,Dl,m,o,ae,e1,e2,Cu,QM];rfl
 have T:∀d,Bv [mr W V,.lst (rows.map pN)]=O0 d->Bv [mr W V,.lst (rows.map pN)]=O0 d:=λd e=>e
 rcases inner I L h.sp rows U hl 0 R .(0) (bg (NX W V 0)) .un (λt O=>cf.mp O) with ⟨t,ρ,O,S,e⟩ | ⟨no,z',e⟩
 .refine⟨0,t,by omega,O,S0 0 t .(0) O S,T _ ?_⟩;rw[Y,e,QF];simp only[cK]
 .rcases inner I L h.sp rows U hl 1 R .(0) (bg (NX W V 1)) z' (λt O=>cf.mp O) with ⟨t,ρ,O,S,e'⟩ | ⟨T0,_,_⟩
  .refine⟨1,t,by omega,O,S0 1 t .(0) O S,T _ ?_⟩;rw[Y,e,El,Ed,RO,Ky,Jr];simp only[gu,gv];rw[Z,e',QF];simp only[cK]
  .rcases N0 with ⟨t,O,S⟩ | ⟨t,O,S⟩
   .exact XI S (no t (cf.mpr O))
   .exact XI S (T0 t (cf.mpr O))
def ABR(a:Nat):leD (.int 0) (.int (a:Int))=O0 (.bl O1):=by
 rw[cM,ZI .(0)]
def Vc(t n:Nat):DR [.int (t:Int),.int (n:Int)]=O0 (.bl (decide (t<n))):=by
 have J:isiD "int" (.int (t:Int))=O0 (.bl O1):=rfl;have I:isiD "bool" (.int (t:Int))=O0 (.bl O2):=rfl;have z:=ABR t;have L:=qQ t n;simp only[cK,DR,Il,J,I,z,L]
def fQ(a b:D)(side:Nat)(h:side<=1):im (.lst [a,b]) (.int (side:Int))=O0 (if side=0 then a else b):=by
 rcases MD.mp h with rfl | rfl
 .rfl
 .rfl
def vC(side t r:Nat):(if side=0 then D.tup [.int (t:Int),.int (r:Int)] else .tup [.int (r:Int),.int (t:Int)])=pN (Pd side t r):=by
 unfold Pd;split<;>rfl
def vD(W V:Wl)(side:Nat):(if side=0 then D.int (W.n:Int) else .int (V.n:Int))=.int ((NX W V side:Nat):Int):=by
 unfold NX;split<;>rfl
def fU{W V:Wl}{r:Nat}(h:r<MO W V):QP W V r=.int (r:Int):=by
 unfold QP;rw[WI .(0)]
def qT(i j:Int)(h:0<=j):shrD (.int i) (.int j)=O0 (.int (i/2^j.toNat)):=by
 show (if 0<=j then O0 (D.int (i/2^j.toNat)) else W1)=_;rw[VI h]
def fV(i j:Int):cA (.int i) (.int j)=O0 (.int (ti i j)):=fy _
structure Mk (n:Nat) (ws:List Str) (k:Nat) (ms:List (Str×List Nat)):Prop where
 nm:ms.map (·.1)=ws.take k
 ok:∀p∈ms,p.2.Nodup/\p.2.length<=100/\∀t∈p.2,t<n
structure Tk (n:Nat) (ws:List Str) (k:Nat) (ts:List (Str×List (Nat×Nat))):Prop where
 nm:ts.map (·.1)=ws.take k
 ok:∀p∈ts,p.2.Nodup/\p.2.length<=100/\∀q∈p.2,q.1<n/\q.2<n
def qU{z:Type}{J:List (Str×z)}{k:Nat}(nm:J.map (·.1)=ws.take k)(I:ws.Nodup)(L:k<ws.length):ws[k]∉J.map (·.1):=by
 rw[nm];intro q;obtain⟨j,U,e⟩:=B2 q;rw[ij] at U;rw[L1] at e;have:=iw I .(0) L e;omega
def qW{z:Type}{J:List (Str×z)}{k:Nat}(nm:J.map (·.1)=ws.take k):J.length<=k:=by
 have:=NJ eJ nm;rw[aE,ij] at this;omega
def jB(n:Nat)(hn:n<=5)(T:Slot)(z:Int)(I:List Str)(hw:I.length<=3)(nd:I.Nodup)(k:Nat)(Y:k<I.length)(J:List (Str×List Nat))(U:Mk n I k J)(S O L:Slot):
  ∃ms',Gp [.fz (.int (n:Int)),.fz (.lst (I.map .str)),T,.fz (.int z),.ow (.dk (eM J)),.fz (.int (k:Int)),S,O,L]=O0 (.nx [.fz (.int (n:Int)),.fz (.lst (I.map .str)),T,.fz (.int z),.ow (.dk (eM ms')),.fz (.int (k:Int)),S,O,L])/\Mk n I (k+1) ms':=by
 obtain⟨f,hf⟩:∃f:Nat->Bool,∀t,t<n->Gn ([.fz (.int (n:Int)),.fz (.lst (I.map .str)),T,.fz (.int z),.ow (.dk (eM J)),.fz (.int (k:Int)),S,O,L]++[.fz (.int (t:Int))])=O0 (f t):=by
  refine⟨λt=>decide (ti (z/2^(5*(k:Int)+t).toNat) 1=1),λt W=>?_⟩;have m1:=S5 5 (k:Int) .(2);have Z:=qT z (5*(k:Int)+t) .(0);simp only[ciK,Gn,m1,Z,fV]
 have cm:Bc (Nc (vF 0)) Gn My [.fz (.int (n:Int)),.fz (.lst (I.map .str)),T,.fz (.int z),.ow (.dk (eM J)),.fz (.int (k:Int)),S,O,L]=O0 (lM ((bg n).filter f)):=
  N7 f iN _ (Xp n .(0) _ 0 rfl) .(0) hf λt W=>rfl
 have ix:=Qx Y;have nt:=qU U.nm nd Y;have pk:Dt (.dk (eM J)) (.str I[k]) (lM ((bg n).filter f))=O0 (.dk (eM (J++[(I[k],(bg n).filter f)]))):=by
  rw[O6 _ _ _ (by have:=qW U.nm;simp[eM];omega)];have:(.inr I[k]:Key)∉(eM J).map (·.1):=Jk lM nt;rw[MZ this];simp[eM]
 refine⟨J++[(I[k],(bg n).filter f)],?_,?_,?_⟩
 .simp only[Gp,Um,e_b,e_v,kN,kt,PZ,RC,XT,ix,cm,O5,pk,Mh,gu,gv]
 .rw[dP,U.nm,FR];simp[Y]
 .intro p hp
  rcases eA.mp hp with q | q
  .exact U.ok p q
  .simp at q;subst q;refine⟨Jl n f,?_,λt W=>cf.mp (dS.mp W).1⟩;have:=FX f (bg n);rw[lP] at this;show ((bg n).filter f).length<=100;omega
structure Fd (n k:Nat) (l:List (Nat×Nat)):Prop where
 nd:l.Nodup
 len:l.length<=5*k
 lt:∀q∈l,q.1<k/\q.2<n
def bK(n:Nat)(hn:n<=5)(S O L J:Slot)(I:Int)(k:Nat)(i:Nat)(hi:i<n)(l:List (Nat×Nat))(Y:Fd n i l):
  ∃l',Gr [.fz (.int (n:Int)),S,O,.fz (.int I),L,.fz (.int (k:Int)),J,.fz (lT l),.fz (.int (i:Int))]=O0 (.nx [.fz (.int (n:Int)),S,O,.fz (.int I),L,.fz (.int (k:Int)),J,.fz (lT l'),.fz (.int (i:Int))])/\Fd n (i+1) l':=by
 obtain⟨f,hf⟩:∃f:Nat->Bool,∀u,u<n->Gq ([.fz (.int (n:Int)),S,O,.fz (.int I),L,.fz (.int (k:Int)),J,.fz (lT l),.fz (.int (i:Int))]++[.fz (.int (u:Int))])=O0 (f u):=by
  refine⟨λu=>decide (ti (I/2^(15+25*(k:Int)+5*(i:Int)+u).toNat) 1=1),λu T=>?_⟩;have m1:=S5 25 (k:Int) .(2);have Z:=S5 5 (i:Int) .(2);have W:=qT I (15+25*(k:Int)+5*(i:Int)+u) .(0);simp only[ciK,Gq,m1,Z,W,fV]
 have cm:Bc (Nc (vF 0)) Gq JR [.fz (.int (n:Int)),S,O,.fz (.int I),L,.fz (.int (k:Int)),J,.fz (lT l),.fz (.int (i:Int))]=O0 (.lst (((bg n).filter f).map λu=>pN (i,u))):=
  N7 f (λu=>pN (i,u)) _ (Xp n .(0) _ 0 rfl) .(0) hf λu T=>by simp only[cK,JR]
 have fl:=FX f (bg n);rw[lP] at fl;have ad:tx (lT l) (.lst (((bg n).filter f).map λu=>pN (i,u)))=O0 (lT (l++((bg n).filter f).map λu=>(i,u))):=by
  show tx (.lst (l.map pN)) _=_;rw[Wy (by rw[aE,aE];have:=Y.len;omega)];simp[lT]
 refine⟨l++((bg n).filter f).map λu=>(i,u),?_,?_,?_,?_⟩
 .simp only[Gr,cQ,e_b,e_v,kN,kt,PZ,cm,XT,ad,Wz,gu,gv]
 .rw[f6];refine⟨Y.nd,?_,λa ha c hc e=>?_⟩
  .rw[m4,iE];exact FV (λU e=>U (by simpa using e)) (Jl n f)
  .subst e;obtain⟨u,_,rfl⟩:=bn.mp hc;have:=(Y.lt _ ha).1;simp at this
 .have:=Y.len;rw[eB,aE];omega
 .intro q hq
  rcases eA.mp hq with z | z
  .have:=Y.lt q z;exact⟨by omega,this.2⟩
  .obtain⟨u,T,rfl⟩:=bn.mp z;exact⟨by simp,cf.mp (dS.mp T).1⟩
def X8{d:D}(h:(MX n)[i]?=O0 d):i<n/\d=.int (i:Int):=by
 have z:i<n:=by
  have:=(iL.mp h).1
  rwa [Mi] at this
 refine⟨z,?_⟩;unfold MX at h;rw[cb,B4 z] at h;exact (cS h).symm
theorem qX(n:Nat)(hn:n<=5)(S O:Slot)(I:Int)(J:List Str)(hw:J.length<=3)(nd:J.Nodup)(k:Nat)(hk:k<J.length)(L:List (Str×List (Nat×Nat)))(T:Tk n J k L)(z7 W:Slot):
  ∃ts' y7 y8,Gs [.fz (.int (n:Int)),S,.fz (.lst (J.map .str)),.fz (.int I),O,.fz (.int (k:Int)),.ow (.dk (eT L)),z7,W]=O0 (.nx [.fz (.int (n:Int)),S,.fz (.lst (J.map .str)),.fz (.int I),O,.fz (.int (k:Int)),.ow (.dk (eT ts')),y7,y8])/\Tk n J (k+1) ts':=by
 obtain⟨N0,ef,l,z',rfl,Y⟩:=QD (b:=PM (Be 8) Gr) (ds:=MX n) (ρ:=[.fz (.int (n:Int)),S,.fz (.lst (J.map .str)),.fz (.int I),O,.fz (.int (k:Int)),.ow (.dk (eT L)),.fz (lT []),W])
  (P:=λi U=>∃l z,U=[.fz (.int (n:Int)),S,.fz (.lst (J.map .str)),.fz (.int I),O,.fz (.int (k:Int)),.ow (.dk (eT L)),.fz (lT l),z]/\Fd n i l) 0 ⟨[],_,rfl,by simp,by simp,by simp⟩ (by
   rintro i d U hd ⟨l,z,rfl,Y⟩;obtain⟨hi,rfl⟩:=X8 hd;obtain⟨l',e',Z⟩:=bK n hn S (.fz (.lst (J.map .str))) O (.ow (.dk (eT L))) I k i hi l (by rw[mS] at Y;exact Y);refine⟨_,?_,l',.fz (.int (i:Int)),rfl,by rw[mS];exact Z⟩;rw[RO,Ky,Jr];simp only[gu,gv];exact e')
 rw[Mi,mS] at Y;have ix:=Qx hk;have nt:=qU T.nm nd hk;have pk:Dt (.dk (eT L)) (.str J[k]) (lT l)=O0 (.dk (eT (L++[(J[k],l)]))):=by
  rw[O6 _ _ _ (by have:=qW T.nm;simp[eT];omega)];have:(.inr J[k]:Key)∉(eT L).map (·.1):=Jk lT nt;rw[MZ this];simp[eT]
 have rg:=Xp n .(0) [.fz (.int (n:Int)),S,.fz (.lst (J.map .str)),.fz (.int I),O,.fz (.int (k:Int)),.ow (.dk (eT L)),.fz (lT []),W] 0 rfl;have l0:(D.lst [])=lT []:=rfl;refine⟨L++[(J[k],l)],.fz (lT l),z',?_,?_,?_⟩
 .unfold Gs;rw[Fv,cQ,cU,R1,W3,Wz,OP];simp only[gu,gv];rw[l0,Fv,Ue,rg,O4,ef,OP];simp only[Um,e_b,e_v,kN,kt,PZ,RC,XT,ix,O5,pk,Mh,gu,gv]
 .rw[dP,T.nm,FR];simp[hk]
 .intro p hp
  rcases eA.mp hp with q | q
  .exact T.ok p q
  .simp at q;subst q;refine⟨Y.nd,by have:=Y.len;show l.length<=100;omega,Y.lt⟩
structure Wds (mws tws:List Str):Prop where
 m3:mws.length<=3
 t3:tws.length<=3
 nd:(mws++tws).Nodup
 mw:∀x∈mws,Wd x
 tw:∀x∈tws,Wd x
theorem Vd(n:Nat)(hn:n<=5)(mws tws:List Str)(h:Wds mws tws)(I:Int):∃W:Wl,W.n=n/\mw W=mws/\tw W=tws/\la W/\Fb [.int (n:Int),.lst (mws.map .str),.lst (tws.map .str),.int I]=O0 (wd W):=by
 have T0:=(f6.mp h.nd).1;have S0:=(f6.mp h.nd).2.1;have P1:=h.m3;have N1:=h.t3;obtain⟨U1,e1,J,z5,rfl,O⟩:=QD (b:=PM (Be 5) Gp) (ds:=MX mws.length) (ρ:=[.fz (.int (n:Int)),.fz (.lst (mws.map .str)),.fz (.lst (tws.map .str)),.fz (.int I),.ow (.dk (eM [])),.un,.un,.un,.un])
  (P:=λi S=>∃J z,S=[.fz (.int (n:Int)),.fz (.lst (mws.map .str)),.fz (.lst (tws.map .str)),.fz (.int I),.ow (.dk (eM J)),z,.un,.un,.un]/\Mk n mws i J) 0 ⟨[],_,rfl,by simp,by simp⟩ (by
   rintro i d S hd ⟨J,z,rfl,O⟩;obtain⟨hi,rfl⟩:=X8 hd;rw[mS] at O ⊢;obtain⟨X0,e',U⟩:=jB n hn (.fz (.lst (tws.map .str))) I mws P1 T0 i hi J O .un .un .un;refine⟨_,?_,X0,.fz (.int (i:Int)),rfl,U⟩;rw[RO,Ky,Jr];simp only[gu,gv];exact e')
 rw[Mi,mS] at O;obtain⟨S1,e2,L,y5,Y,T,rfl,ht⟩:=QD (b:=PM (Be 5) Gs) (ds:=MX tws.length) (ρ:=[.fz (.int (n:Int)),.fz (.lst (mws.map .str)),.fz (.lst (tws.map .str)),.fz (.int I),.ow (.dk (eM J)),z5,.ow (.dk (eT [])),.un,.un])
  (P:=λi S=>∃L z Y T,S=[.fz (.int (n:Int)),.fz (.lst (mws.map .str)),.fz (.lst (tws.map .str)),.fz (.int I),.ow (.dk (eM J)),z,.ow (.dk (eT L)),Y,T]/\Tk n tws i L) 0 ⟨[],_,_,_,rfl,by simp,by simp⟩ (by
   rintro i d S hd ⟨L,z,Y,T,rfl,O⟩;obtain⟨hi,rfl⟩:=X8 hd;rw[mS] at O ⊢;obtain⟨N0,w7,w8,e',U⟩:=qX n hn (.fz (.lst (mws.map .str))) (.ow (.dk (eM J))) I tws N1 S0 i hi L O Y T;refine⟨_,?_,N0,.fz (.int (i:Int)),w7,w8,rfl,U⟩;rw[RO,Ky,Jr];simp only[gu,gv];exact e')
 rw[Mi,mS] at ht;have mn:J.map (·.1)=mws:=by rw[O.nm,FU]
 have Z:L.map (·.1)=tws:=by rw[ht.nm,FU]
 refine⟨⟨n,J,L⟩,rfl,mn,Z,⟨hn,?_,?_,λp hp=>h.mw _ (by rw[<-mn];exact bn.mpr ⟨p,hp,rfl⟩),λp hp=>h.tw _ (by rw[<-Z];exact bn.mpr ⟨p,hp,rfl⟩),?_,O.ok,ht.ok⟩,?_⟩
 .have:=NJ eJ mn;rw[aE] at this;show J.length<=3;omega
 .have:=NJ eJ Z;rw[aE] at this;show L.length<=3;omega
 .show (J.map (·.1)++L.map (·.1)).Nodup;rw[mn,Z];exact h.nd
 .have lm:wh (.lst (mws.map .str))=O0 (.int (mws.length:Int)):=by rw[show wh (.lst (mws.map .str))=O0 (.int ((mws.map D.str).length:Int)) from fy _,aE]
  have lt:wh (.lst (tws.map .str))=O0 (.int (tws.length:Int)):=by rw[show wh (.lst (tws.map .str))=O0 (.int ((tws.map D.str).length:Int)) from fy _,aE]
  have r1:rngO (O0 (.int (mws.length:Int)))=O0 (MX mws.length):=by rw[Ud _ .(0),g9]
  have r2:rngO (O0 (.int (tws.length:Int)))=O0 (MX tws.length):=by rw[Ud _ .(0),g9]
  have e0:(D.dk [])=.dk (eM []):=rfl;have X1:(D.dk [])=.dk (eT []):=rfl;have s1:setW 4 (kF (.dk [])) [.fz (.int (n:Int)),.fz (.lst (mws.map .str)),.fz (.lst (tws.map .str)),.fz (.int I),.un,.un,.un,.un,.un]=O0 (.nx [.fz (.int (n:Int)),.fz (.lst (mws.map .str)),.fz (.lst (tws.map .str)),.fz (.int I),.ow (.dk (eM [])),.un,.un,.un,.un]):=rfl;have s2:setW 6 (kF (.dk [])) [.fz (.int (n:Int)),.fz (.lst (mws.map .str)),.fz (.lst (tws.map .str)),.fz (.int I),.ow (.dk (eM J)),z5,.un,.un,.un]=O0 (.nx [.fz (.int (n:Int)),.fz (.lst (mws.map .str)),.fz (.lst (tws.map .str)),.fz (.int I),.ow (.dk (eM J)),z5,.ow (.dk (eT [])),.un,.un]):=rfl;unfold Fb K9;rw[KQ,Do];simp only[ck,nE,bb,gg,sv,sA,sB,sC,sD,jp];rw[Fv,s1,OP,Fv,Ue,Uc,e_u,e_v];simp only[kN,kt];rw[PZ,e_us,lm,r1,O4,e1,OP,Fv,s2,OP,Fv,Ue,Uc,e_u,e_v];simp only[kN,kt];rw[PZ,e_us,lt,r2,O4,e2,OP]
  .rfl
  .rfl
def ABS(xs:List Nat)(j:Nat)(h:j<xs.length):ixD (.lst (xs.map iN)) (.int (j:Int))=O0 (iN xs[j]):=by
 show atI (xs.map iN) (j:Int)=_;rw[RB,cb,dc h];rfl
def vG(ds:List D)(k:Nat):slD (.lst ds) (O0 (k:Int)) W1=O0 (.lst (ds.drop k)):=by
 show O0 (D.lst (Oy ds (O0 (k:Int)) W1))=_;rw[lK]
theorem Zj(n:D):∀(k:Nat) (xs ys:List Nat) (i:Int) (f:Nat) (z:Slot),xs.length=k->xs.length+ys.length<=100->k<f->∃O J S,J.Perm xs ∧
  HR Bq CZ f [.fz (.int i),.fz n,.fz (lN xs),.ow (lN ys),z]=O0 (.nx [.fz (.int O),.fz n,.fz (.lst []),.ow (lN (ys++J)),S])
 |k,xs,ys,i,0,z,_,_,W=>by omega
 |0,xs,ys,i,f+1,z,Y,_,W=>by
  have e:xs=[]:=xS Y;subst e;refine⟨i,[],z,.nil,?_⟩;unfold HR;have t:Bq [.fz (.int i),.fz n,.fz (lN []),.ow (lN ys),z]=O0 O2:=by
   simp only[cK,Bq,lN];rfl
  rw[t,fI];rfl
 |k+1,xs,ys,i,f+1,z,Y,hs,W=>by
  have t:Bq [.fz (.int i),.fz n,.fz (lN xs),.ow (lN ys),z]=O0 O1:=by
   have q:=zV xs;have:xs≠[]:=λz=>by subst z;simp at Y
   simp only[cK,Bq,lN,q,this,ne_eq,not_false_eq_true]
  have j0:0<=i%(xs.length:Int):=zh _ .(0);have j1:i%(xs.length:Int)<xs.length:=zi _ .(0);obtain⟨j,ej⟩:∃j:Nat,(j:Int)=i%(xs.length:Int):=⟨(i%(xs.length:Int)).toNat,by omega⟩;have U:j<xs.length:=by omega
  have T:(xs.eraseIdx j).length=k:=by rw[List.length_eraseIdx_of_lt U];omega
  have m1:=GX i (xs.length:Int) .(0);have m2:=Ek i (xs.length:Int) (by skip;omega) (by skip;omega);have L:=mR (xs.map iN);rw[aE] at L;have ix:=ABS xs j U;have ap:VU (.lst (ys.map iN)) (iN xs[j])=O0 (.lst ((ys++[xs[j]]).map iN)):=by rw[eG _ _ (by simp;omega),dP];rfl
  have s1:=sl_l (xs.map iN) j;have a1:tx (.int (j:Int)) (.int 1)=O0 (.int ((j+1:Nat):Int)):=by rw[Ia];congr 2
  have Z:=vG (xs.map iN) (j+1);have ad:tx (.lst ((xs.map iN).take j)) (.lst ((xs.map iN).drop (j+1)))=O0 (lN (xs.eraseIdx j)):=by
   rw[Wy (by simp;omega),<-vj,<-Bz,<-dP,<-MA];rfl
  obtain⟨O,J,S,pz,ih⟩:=Zj n k (xs.eraseIdx j) (ys++[xs[j]]) (i/(xs.length:Int)) f (.fz (.int (j:Int))) T (by rw[T,eB];simp;omega) .(0);refine⟨O,xs[j]::J,S,(AY _ pz).trans (JP xs j U),?_⟩;have b2:CZ [.fz (.int i),.fz n,.fz (lN xs),.ow (lN ys),z]=O0 (.nx [.fz (.int (i/(xs.length:Int))),.fz n,.fz (lN (xs.eraseIdx j)),.ow (lN (ys++[xs[j]])),.fz (.int (j:Int))]):=by
   unfold CZ;simp only[cK,lN,L,m1,m2,<-ej];simp only[cK,ix,ap,s1,a1,Z,ad,lN]
  unfold HR;rw[t];show (match CZ _ with | some (.nx I)=>HR Bq CZ f I | some (.ct I)=>HR Bq CZ f I | some (.bk I)=>O0 (.nx I) | some (.rt e I)=>O0 (.rt e I) | none=>W1)=_;rw[b2];show HR Bq CZ f _=_;rw[ih,E5];rfl
def Uh(i:Int)(n:Nat)(L:n<=5):∃os:List Nat,os.Perm (bg n)/\Iv [.int i,.int (n:Int)]=O0 (lN os):=by
 obtain⟨O,z,S,I,e⟩:=Zj (.int (n:Int)) n (bg n) [] i 60 .un .(1) (by simp;omega) .(0);rw[jp] at e;refine⟨z,I,?_⟩;have r:=zW n .(0);have J:(D.lst [])=lN []:=rfl;simp only[dK,Iv,K_,r,J,e]
def trn(z:List Nat)(W:Wl):Wl:=⟨W.n,W.ms.map λp=>(p.1,p.2.map λt=>z.getD t 0),W.ts.map λp=>(p.1,p.2.map λq=>(z.getD q.1 0,z.getD q.2 0))⟩
def bL(z:List Nat)(W:Wl):mw (trn z W)=mw W:=by simp[trn,mw,eW]
def bM(z:List Nat)(W:Wl):tw (trn z W)=tw W:=by simp[trn,tw,eW]
def qY(W:Wl)(h:la W)(z:List Nat)(I:z.Perm (bg W.n)):la (trn z W):=by
 refine Rn W h _ _ (by rw[show ((W.ms.map λp=>(p.1,p.2.map λt=>z.getD t 0)).map (·.1))=W.ms.map (·.1) from bL z W]) (by rw[show ((W.ts.map λp=>(p.1,p.2.map λq=>(z.getD q.1 0,z.getD q.2 0))).map (·.1))=W.ts.map (·.1) from bM z W]) (λp T=>?_) (λp T=>?_)
 .obtain⟨q,U,rfl⟩:=bn.mp T;obtain⟨Z,_,Y⟩:=h.ml q U;refine⟨?_,λt S=>?_⟩
  .unfold m4;rw[iE];exact qh (λ{a b} L J O e=>O (VR I (Y a L) (Y b J) e)) Z
  .obtain⟨s,hs,rfl⟩:=bn.mp S;exact Xu I (Y s hs)
 .obtain⟨q,U,rfl⟩:=bn.mp T;obtain⟨Z,_,Y⟩:=h.tl q U;refine⟨?_,λt S=>?_⟩
  .unfold m4;rw[iE];refine qh (λ{a b} L J O e=>O ?_) Z;have e1:z.getD a.1 0=z.getD b.1 0:=NJ Prod.fst e;have e2:z.getD a.2 0=z.getD b.2 0:=NJ Prod.snd e;exact rh (VR I (Y a L).1 (Y b J).1 e1) (VR I (Y a L).2 (Y b J).2 e2)
  .obtain⟨s,hs,rfl⟩:=bn.mp S;exact⟨Xu I (Y s hs).1,Xu I (Y s hs).2⟩
def ABT{W:Wl}(h:la W):(mw W).Nodup:=(f6.mp h.nd).1
def ABU{W:Wl}(h:la W):(tw W).Nodup:=(f6.mp h.nd).2.1
def zm{W:Wl}(J:List (Str×List Nat))(w:Str)(l:List Nat)(h:w∉J.map (·.1))(Y:J.length<=100):Dt (.dk (eM J)) (.str w) (lM l)=O0 (.dk (eM (J++[(w,l)]))):=by
 rw[O6 _ _ _ (by simp[eM];omega)];have:(.inr w:Key)∉(eM J).map (·.1):=Jk lM h;rw[MZ this];simp[eM]
def zp{W:Wl}(J:List (Str×List (Nat×Nat)))(w:Str)(l:List (Nat×Nat))(h:w∉J.map (·.1))(Y:J.length<=100):Dt (.dk (eT J)) (.str w) (lT l)=O0 (.dk (eT (J++[(w,l)]))):=by
 rw[O6 _ _ _ (by simp[eT];omega)];have:(.inr w:Key)∉(eT J).map (·.1):=Jk lT h;rw[MZ this];simp[eT]
theorem qZ(W:Wl)(h:la W)(I:List Nat)(ho:I.length=W.n)(L:Slot):∀(r p:List (Str×List Nat)) (z:Slot),W.ms=p++r ->
  ∃S,vb (PM (Be 3) GF) ((r.map (·.1)).map .str) [.fz (wd W),.fz (lN I),.ow (.dk (eM (p.map λp=>(p.1,p.2.map λt=>I.getD t 0)))),z,L]=O0 (.nx [.fz (wd W),.fz (lN I),.ow (.dk (eM ((p++r).map λp=>(p.1,p.2.map λt=>I.getD t 0)))),S,L])
 |[],p,z,e=>⟨z,by rw[fI];rfl⟩
 |q::r,p,z,e=>by
  have U:q∈W.ms:=by rw[e];simp
  have i1:=ixw1 W;have a:=at_M W h U;have J:=ABT h;have O:=h.ml q U;have Z:q.1∉p.map (·.1):=by
   have:(W.ms.map (·.1)).Nodup:=J;rw[e,dP,f6] at this;exact λz=>this.2.2 q.1 z q.1 .(1) rfl
  have cm:Bc (mu (bF im (bF im (vF 0) (kF (.int 1))) (vF 3))) pp Ib [.fz (wd W),.fz (lN I),.ow (.dk (eM (p.map λp=>(p.1,p.2.map λt=>I.getD t 0)))),.fz (.str q.1),L]=O0 (.lst ((q.2.map λt=>I.getD t 0).map iN)):=by
   rw[ca];refine Fj q.2 iN _ ?_ .(0) λt ht=>?_
   .simp only[cK,i1,a,Cu];exact FN _
   .have:=Xq I t (by have:=O.2.2 t ht;omega);simp only[cK,Ib,this,eW]
  have T:=zm (W:=W) (p.map λp=>(p.1,p.2.map λt=>I.getD t 0)) q.1 (q.2.map λt=>I.getD t 0) (by rw[ca];exact Z) (by
   have:=NJ eJ e;rw[eB,ck] at this;have:=h.m3;rw[aE];omega)
  unfold lM at T;have b:GF [.fz (wd W),.fz (lN I),.ow (.dk (eM (p.map λp=>(p.1,p.2.map λt=>I.getD t 0)))),.fz (.str q.1),L]=O0 (.nx [.fz (wd W),.fz (lN I),.ow (.dk (eM ((p++[q]).map λp=>(p.1,p.2.map λt=>I.getD t 0)))),.fz (.str q.1),L]):=by
   rw[dP];simp only[GF,Um,e_v,kN,kt,PZ,RC,cm,O5,T,Mh,gu,gv,bb,gg]
  obtain⟨S,Y⟩:=qZ W h I ho L r (p++[q]) (.fz (.str q.1)) (by rw[e];simp);refine⟨S,?_⟩;rw[bb,bb,Ed,RO,Ky,Jr];simp only[gu,gv];rw[b,El,Y];simp
theorem qb(W:Wl)(h:la W)(I:List Nat)(ho:I.length=W.n)(J:Slot):∀(r p:List (Str×List (Nat×Nat))) (z:Slot),W.ts=p++r ->
  ∃S,vb (PM (Be 3) GJ) ((r.map (·.1)).map .str) [.fz (wd W),.fz (lN I),J,z,.ow (.dk (eT (p.map λp=>(p.1,p.2.map λq=>(I.getD q.1 0,I.getD q.2 0)))))]=O0 (.nx [.fz (wd W),.fz (lN I),J,S,.ow (.dk (eT ((p++r).map λp=>(p.1,p.2.map λq=>(I.getD q.1 0,I.getD q.2 0)))))])
 |[],p,z,e=>⟨z,by rw[fI];rfl⟩
 |q::r,p,z,e=>by
  have U:q∈W.ts:=by rw[e];simp
  have i1:=ixw2 W;have a:=at_T W h U;have Y:=ABU h;have O:=h.tl q U;have Z:q.1∉p.map (·.1):=by
   have:(W.ts.map (·.1)).Nodup:=Y;rw[e,dP,f6] at this;exact λz=>this.2.2 q.1 z q.1 .(1) rfl
  have cm:Bc (mu (bF im (bF im (vF 0) (kF (.int 2))) (vF 3))) pp Ie [.fz (wd W),.fz (lN I),J,.fz (.str q.1),.ow (.dk (eT (p.map λp=>(p.1,p.2.map λq=>(I.getD q.1 0,I.getD q.2 0)))))]=O0 (.lst ((q.2.map λq=>(I.getD q.1 0,I.getD q.2 0)).map pN)):=by
   rw[ca];refine Fj q.2 pN _ ?_ .(0) λt L=>?_
   .simp only[cK,i1,a,Cu];exact FN _
   .have h1:=Xq I t.1 (by have:=(O.2.2 t L).1;omega);have h2:=Xq I t.2 (by have:=(O.2.2 t L).2;omega);have j0:=ixp0 t;have j1:=ixp1 t;simp only[cK,Ie,j0,j1,h1,h2,eW]
  have T:=zp (W:=W) (p.map λp=>(p.1,p.2.map λq=>(I.getD q.1 0,I.getD q.2 0))) q.1 (q.2.map λq=>(I.getD q.1 0,I.getD q.2 0)) (by rw[ca];exact Z) (by
   have:=NJ eJ e;rw[eB,ck] at this;have:=h.t3;rw[aE];omega)
  unfold lT at T;have b:GJ [.fz (wd W),.fz (lN I),J,.fz (.str q.1),.ow (.dk (eT (p.map λp=>(p.1,p.2.map λq=>(I.getD q.1 0,I.getD q.2 0)))))]=O0 (.nx [.fz (wd W),.fz (lN I),J,.fz (.str q.1),.ow (.dk (eT ((p++[q]).map λp=>(p.1,p.2.map λq=>(I.getD q.1 0,I.getD q.2 0)))))]):=by
   rw[dP];simp only[GJ,Um,e_v,kN,kt,PZ,RC,cm,O5,T,Mh,gu,gv,bb,gg]
  obtain⟨S,ih⟩:=qb W h I ho J r (p++[q]) (.fz (.str q.1)) (by rw[e];simp);refine⟨S,?_⟩;rw[bb,bb,Ed,RO,Ky,Jr];simp only[gu,gv];rw[b,El,ih];simp
theorem jC(W:Wl)(h:la W)(z:List Nat)(ho:z.Perm (bg W.n)):Hm [wd W,lN z]=O0 (wd (trn z W)):=by
 have Y:z.length=W.n:=by rw[ho.length_eq,lP]
 obtain⟨Z,L⟩:=qZ W h z Y .un W.ms [] .un rfl;obtain⟨z2,I⟩:=qb W h z Y (.ow (.dk (eM (W.ms.map λp=>(p.1,p.2.map λt=>z.getD t 0))))) W.ts [] Z rfl;rw[jp] at L I;have U:=ixw0 W;have T:=ixw1 W;have O:=ixw2 W;have q1:Mr (O0 (.dk (eM W.ms)))=O0 ((W.ms.map (·.1)).map .str):=by rw[K5,Xy]
 have q2:Mr (O0 (.dk (eT W.ts)))=O0 ((W.ts.map (·.1)).map .str):=by rw[K5,Xz]
 have J:setW 2 (kF (.dk [])) [.fz (wd W),.fz (lN z),.un,.un,.un]=O0 (.nx [.fz (wd W),.fz (lN z),.ow (.dk (eM (([]:List (Str×List Nat)).map λp=>(p.1,p.2.map λt=>z.getD t 0)))),.un,.un]):=rfl;have S:setW 4 (kF (.dk [])) [.fz (wd W),.fz (lN z),.ow (.dk (eM (W.ms.map λp=>(p.1,p.2.map λt=>z.getD t 0)))),Z,.un]=O0 (.nx [.fz (wd W),.fz (lN z),.ow (.dk (eM (W.ms.map λp=>(p.1,p.2.map λt=>z.getD t 0)))),Z,.ow (.dk (eT (([]:List (Str×List (Nat×Nat))).map λp=>(p.1,p.2.map λq=>(z.getD q.1 0,z.getD q.2 0)))))]):=rfl;unfold Hm J6;rw[KQ (show [wd W,lN z].length=2 from rfl),Do];simp only[ck,nE,bb,gg,sv,sA,sB,sC,sD,jp];rw[Fv,J,OP,Fv,Ue];simp only[Cu,e_b,e_v,kN,kt,PZ,e_k,XT,T,q1,O4];rw[L,OP,Fv,S,OP,Fv,Ue];simp only[Cu,e_b,e_v,kN,kt,PZ,e_k,XT,O,q2,O4];rw[I,OP];simp only[dK,U];rfl
def Zp{α:Type}[DecidableEq α](t:α)(l:List α):List α:=if t∈l then l.filter (λx=>!decide (x=t)) else l++[t]
def qd{z:Type}[DecidableEq z]{t:z}{l:List z}(h:l.Nodup):(Zp t l).Nodup:=by
 unfold Zp;split
 .exact FL Mc h
 .rename_i c;rw[f6];exact⟨h,by simp,λa J b I e=>by simp at I;subst I;subst e;exact c J⟩
def fW{z:Type}[DecidableEq z]{t x:z}{l:List z}(h:x∈Zp t l):x∈l∨x=t:=by
 unfold Zp at h;split at h
 .exact .inl (dS.mp h).1
 .rcases eA.mp h with h | h
  .exact .inl h
  .exact .inr (by simpa using h)
def vH{z:Type}(l:List z)(e:z->D)(f:z->Bool)(hs:src ρ=O0 (l.map e))(O:l.length<=1000)(h1:∀x∈l,ga (ρ++[.fz (e x)])=O0 (f x))(L:∀x∈l,fe (ρ++[.fz (e x)])=O0 (e x)):Bc src ga fe ρ=O0 (.lst ((l.filter f).map e)):=by
 have c:∀m:List z,(∀x∈m,x∈l)->KD ρ ga fe (m.map e)=O0 ((m.filter f).map e):=by
  intro m
  induction m with
  |nil=>intro _;rfl
  |cons k r I=>
   intro Y;rw[bb,Kw,h1 k (Y k .(1)),L k (Y k .(1)),I λd J=>Y d (by simp[J]),Mb];cases f k<;>rfl
 exact S6 hs (by rw[aE];omega) (c l λ_ h=>h)
def fY{z:Type}[DecidableEq z](e:z->D)(t:z)(l:List z)(Y:l.length<=1000)(inE:Po O2 (e t) (.lst (l.map e))=O0 (.bl (decide (t∈l))))(I:∀x y,mf O1 (e x) (e y)=O0 (.bl (!decide (x=y)))):Dw [.lst (l.map e),e t]=O0 (.lst ((Zp t l).map e)):=by
 have J:Bc (mu (vF 0)) JS JT [.fz (.lst (l.map e)),.fz (e t)]=O0 (.lst ((l.filter λx=>!decide (x=t)).map e)):=
  vH l e _ (by simp only[cK,Cu,FN]) Y (λx _=>by
   have:=I x t;simp only[cK,JS,this]) λx _=>by simp only[cK,JT]
 simp only[cK,Dw,LC,inE];unfold Zp
 by_cases c:t∈l
 .rw[ZI c,VI c];simp only[cK,J]
 .rw[YI c,WI c];have Z:tx (.lst (l.map e)) (.lst [e t])=O0 (.lst ((l++[t]).map e)):=by rw[Wy (by simp;omega)];simp
  simp only[cK,Z]
def ABV(a b:Nat):mf O1 (.int (a:Int)) (.int (b:Int))=O0 (.bl (!decide (a=b))):=by rw[cP,Xw]
def ABW(x y:Pr):mf O1 (pN x) (pN y)=O0 (.bl (!decide (x=y))):=by
 have e:∀a b:Nat,Sk 180 (.int (a:Int)) (.int (b:Int))=O0 (decide (a=b)):=λa b=>by
  show O0 (TZ (.int (a:Int)) (.int (b:Int)))=_
  by_cases z:a=b
  .subst z;simp[TZ]
  .have:¬ ((a:Int)=(b:Int)):=by omega
   simp[TZ,z,this]
 have:TU (pN x) (pN y)=O0 (decide (x=y)):=by
  show (if 2=2 then OZ (Sk 180) [.int (x.1:Int),.int (x.2:Int)] [.int (y.1:Int),.int (y.2:Int)] else W1)=_;rw[VI rfl];simp only[OZ,e];obtain⟨a,b⟩:=x;obtain⟨c,d⟩:=y
  by_cases J:a=c<;>by_cases I:b=d<;>simp[J,I]
 unfold mf;rw[this];rfl
def vI(t:Nat)(l:List Nat)(Y:l.length<=1000):Dw [lM l,.int (t:Int)]=O0 (lM (Zp t l)):=fY iN t l Y (in_i t l) ABV
def vJ(t:Pr)(l:List Pr)(Y:l.length<=1000):Dw [lT l,pN t]=O0 (lT (Zp t l)):=fY pN t l Y (by rw[in_p t l];congr 2;rw[decide_eq_decide]) ABW
def chg{z:Type}(w:Str)(l:z)(J:List (Str×z)):List (Str×z):=J.map λp=>(p.1,if p.1=w then l else p.2)
def X_{z:Type}(w:Str)(l:z)(J:List (Str×z)):(chg w l J).map (·.1)=J.map (·.1):=by simp[chg,eW]
def fZ{I:Type}(f:I->D)(w:Str)(l:I)(J:List (Str×I))(h:w∈J.map (·.1))(Y:J.length<=100):Dt (.dk (J.map λp=>((.inr p.1:Key),f p.2))) (.str w) (f l)=O0 (.dk ((chg w l J).map λp=>((.inr p.1:Key),f p.2))):=by
 rw[O6 _ _ _ (by simp;omega)];have g:∀J:List (Str×I),w∈J.map (·.1)->(MM (.inr w:Key) (J.map λp=>((.inr p.1:Key),f p.2))).isSome=O1:=λJ=>by
  induction J with
  |nil=>intro h;simp at h
  |cons p r L=>
   intro h;rw[bb];show (if (.inr p.1:Key)=.inr w then O0 (f p.2) else MM (.inr w:Key) (r.map λp=>((.inr p.1:Key),f p.2))).isSome=O1;split
   .rfl
   .rename_i c;refine L ?_
    rcases bp.mp h with h | h
    .exact XI (by rw[h]) c
    .exact h
 have r:∀J:List (Str×I),VQ (.inr w:Key) (f l) (J.map λp=>((.inr p.1:Key),f p.2))=(chg w l J).map λp=>((.inr p.1:Key),f p.2):=λJ=>by
  induction J with
  |nil=>rfl
  |cons p r L=>
   rw[bb];show ((.inr p.1:Key),if (.inr p.1:Key)=.inr w then f l else f p.2)::VQ (.inr w:Key) (f l) (r.map λp=>((.inr p.1:Key),f p.2))=_;rw[L];show _=((.inr p.1:Key),f (if p.1=w then l else p.2))::(chg w l r).map λp=>((.inr p.1:Key),f p.2);congr 2
   by_cases c:p.1=w
   .rw[VI c,VI (by rw[c])]
   .rw[WI c,WI (λz=>c (by simpa using z))]
 unfold QU;rw[g J h,VI rfl,r]
def fj{z:Type}{w:Str}{l:z}{J:List (Str×z)}{p:Str×z}(h:p∈chg w l J):p∈J∨p.2=l:=by
 unfold chg at h;obtain⟨q,U,rfl⟩:=bn.mp h
 by_cases c:q.1=w
 .exact .inr (by show (if q.1=w then l else q.2)=l;rw[VI c])
 .exact .inl (by rw[WI c];exact U)
structure Lk (W V:Wl):Prop where
 ok:la V
 n:V.n=W.n
 mm:mw V=mw W
 tt:tw V=tw W
def qg(k:List (Key×D)):wh (.dk k)=O0 (.int (k.length:Int)):=dJ k
theorem bN(W:Wl)(h:la W)(c:Int):∃V,Lk W V/\Cv [wd W,.int c]=O0 (wd V):=by
 have n5:=h.n5;have m3:=h.m3;have t3:=h.t3;have mx:=qM W.n 1;have mx:ZN (.int (W.n:Int)) (.int 1)=O0 (.int ((max W.n 1:Nat):Int)):=mx;have O:=GX c ((max W.n 1:Nat):Int) .(0);have T:=Ek c 5 .(2) .(2);have L:=GX (c/5) ((max W.n 1:Nat):Int) .(0);have Z:=Ek c 25 .(2) .(2);have en:mf O2 (.int (W.n:Int)) (.int 0)=O0 (.bl (decide (W.n=0))):=IV W.n 0;have lm:wh (.dk (eM W.ms))=O0 (.int (W.ms.length:Int)):=by rw[qg];simp[eM]
 have lt:wh (.dk (eT W.ts))=O0 (.int (W.ts.length:Int)):=by rw[qg];simp[eT]
 have ad:=Ia (W.ms.length:Int) (W.ts.length:Int);have U:∀Y:Rho,MV 3 (Aw 2 (Aw 3 (Aw 4 MY))) (wd W) Y=O0 (((Y.set 2 (.fz (.int (W.n:Int)))).set 3 (.fz (.dk (eM W.ms)))).set 4 (.fz (.dk (eT W.ts)))):=λY=>rfl;have I:∀(f:FE) (g:FG) (Y:Rho) (d:D),f Y=O0 d->UN f g Y=(g d Y).map .nx:=λf g Y d e=>by unfold UN;rw[e];rfl
 obtain⟨a,ea⟩:∃a:Nat,(a:Int)=c%((max W.n 1:Nat):Int):=⟨(c%((max W.n 1:Nat):Int)).toNat,by have:=zh c (show ((max W.n 1:Nat):Int)≠0 by omega);omega⟩;obtain⟨b,eb⟩:∃b:Nat,(b:Int)=c/5%((max W.n 1:Nat):Int):=⟨(c/5%((max W.n 1:Nat):Int)).toNat,by have:=zh (c/5) (show ((max W.n 1:Nat):Int)≠0 by omega);omega⟩;have ha:W.n≠0->a<W.n:=λz=>by have:=zi c (show 0<((max W.n 1:Nat):Int) by omega);omega
 have hb:W.n≠0->b<W.n:=λz=>by have:=zi (c/5) (show 0<((max W.n 1:Nat):Int) by omega);omega
 rw[<-ea] at O;rw[<-eb] at L
 by_cases c0:W.n=0
 .refine⟨W,⟨h,rfl,rfl,rfl⟩,?_⟩;rw[ZI c0] at en;unfold Cv Dp;rw[KQ (show [wd W,.int c].length=2 from rfl),Do,Fv,I _ _ _ (wd W) rfl,U];simp only[cK,mx,O,T,L,en]
 .rw[YI c0] at en
  by_cases cz:W.ms.length+W.ts.length=0
  .refine⟨W,⟨h,rfl,rfl,rfl⟩,?_⟩;have ez:mf O2 (.int ((W.ms.length:Int)+(W.ts.length:Int))) (.int 0)=O0 (.bl O1):=by rw[QB,ZI .(0)]
   unfold Cv Dp;rw[KQ (show [wd W,.int c].length=2 from rfl),Do,Fv,I _ _ _ (wd W) rfl,U];simp only[cK,mx,O,T,L,en,lm,lt,ad,ez]
  .have ez:mf O2 (.int ((W.ms.length:Int)+(W.ts.length:Int))) (.int 0)=O0 (.bl O2):=by rw[QB,YI .(0)]
   have N0:=GX (c/25) ((W.ms.length:Int)+(W.ts.length:Int)) .(0);obtain⟨j,ej⟩:∃j:Nat,(j:Int)=c/25%((W.ms.length:Int)+(W.ts.length:Int)):=⟨(c/25%((W.ms.length:Int)+(W.ts.length:Int))).toNat,by have:=zh (c/25) (show (W.ms.length:Int)+(W.ts.length:Int)≠0 by omega);omega⟩;have hj:j<W.ms.length+W.ts.length:=by have:=zi (c/25) (show 0<(W.ms.length:Int)+(W.ts.length:Int) by omega);omega
   rw[<-ej] at N0;have dm:Vx (.dk (eM W.ms))=O0 (.dk (eM W.ms)):=rfl;have dt:Vx (.dk (eT W.ts))=O0 (.dk (eT W.ts)):=rfl;have S:ltD (.int (j:Int)) (.int (W.ms.length:Int))=O0 (.bl (decide (j<W.ms.length))):=qQ j W.ms.length
   by_cases cj:j<W.ms.length
   .rw[ZI cj] at S;have hk:j<(W.ms.map (·.1)).length:=by rw[aE];exact cj
    have lf:QY (.dk (eM W.ms))=O0 (.lst ((W.ms.map (·.1)).map .str)):=by rw[eX,Xy]
    have ix:=Qx hk;have J:W.ms[j]∈W.ms:=gi cj;have ew:(W.ms.map (·.1))[j]=(W.ms[j]).1:=by rw[ME]
    rw[ew] at ix;have S0:=at_M W h J;have ml:=h.ml _ J;have ot:=vI a (W.ms[j]).2 .(0);have pc:Dt (.dk (eM W.ms)) (.str (W.ms[j]).1) (lM (Zp a (W.ms[j]).2))=O0 (.dk (eM (chg (W.ms[j]).1 (Zp a (W.ms[j]).2) W.ms))):=fZ lM _ _ W.ms (bn.mpr ⟨_,J,rfl⟩) .(0);refine⟨⟨W.n,chg (W.ms[j]).1 (Zp a (W.ms[j]).2) W.ms,W.ts⟩,⟨Rn W h _ _ (by rw[X_]) (.refl _) (λp J=>?_) (λp J=>⟨(h.tl p J).1,(h.tl p J).2.2⟩),rfl,X_ _ _ _,rfl⟩,?_⟩
    .rcases fj J with z | z
     .exact⟨(h.ml p z).1,(h.ml p z).2.2⟩
     .rw[z];refine⟨qd ml.1,λt ht=>?_⟩
      rcases fW ht with y | y
      .exact ml.2.2 t y
      .rw[y];exact ha c0
    .unfold Cv Dp;rw[KQ (show [wd W,.int c].length=2 from rfl),Do,Fv,I _ _ _ (wd W) rfl,U];simp only[cK,mx,O,T,L,en,lm,lt,ad,ez,Z,N0,dm,dt,S,lf,ix,S0,ot,Um,O5,pc];rfl
   .rw[YI cj] at S;have sj:j-W.ms.length<W.ts.length:=by omega
    have sb:SU (.int (j:Int)) (.int (W.ms.length:Int))=O0 (.int ((j-W.ms.length:Nat):Int)):=by rw[Q_];congr 2;omega
    have hk:j-W.ms.length<(W.ts.map (·.1)).length:=by rw[aE];exact sj
    have lf:QY (.dk (eT W.ts))=O0 (.lst ((W.ts.map (·.1)).map .str)):=by rw[eX,Xz]
    have ix:=Qx hk;have J:W.ts[j-W.ms.length]∈W.ts:=gi sj;have ew:(W.ts.map (·.1))[j-W.ms.length]=(W.ts[j-W.ms.length]).1:=by rw[ME]
    rw[ew] at ix;have S0:=at_T W h J;have ml:=h.tl _ J;have ot:=vJ (a,b) (W.ts[j-W.ms.length]).2 .(0);have pc:Dt (.dk (eT W.ts)) (.str (W.ts[j-W.ms.length]).1) (lT (Zp (a,b) (W.ts[j-W.ms.length]).2))=O0 (.dk (eT (chg (W.ts[j-W.ms.length]).1 (Zp (a,b) (W.ts[j-W.ms.length]).2) W.ts))):=fZ lT _ _ W.ts (bn.mpr ⟨_,J,rfl⟩) .(0);refine⟨⟨W.n,W.ms,chg (W.ts[j-W.ms.length]).1 (Zp (a,b) (W.ts[j-W.ms.length]).2) W.ts⟩,⟨Rn W h _ _ (.refl _) (by rw[X_]) (λp J=>⟨(h.ml p J).1,(h.ml p J).2.2⟩) (λp J=>?_),rfl,rfl,X_ _ _ _⟩,?_⟩
    .rcases fj J with z | z
     .exact⟨(h.tl p z).1,(h.tl p z).2.2⟩
     .rw[z];refine⟨qd ml.1,λt ht=>?_⟩
      rcases fW ht with y | y
      .exact ml.2.2 t y
      .rw[y];exact⟨ha c0,hb c0⟩
    .unfold Cv Dp;rw[KQ (show [wd W,.int c].length=2 from rfl),Do,Fv,I _ _ _ (wd W) rfl,U];simp only[cK,mx,O,T,L,en,lm,lt,ad,ez,Z,N0,dm,dt,S,sb,lf,ix,S0,ot,Um,O5,pc];rfl
def ABX:shlD (.int 1) (.int 90)=O0 (.int 1237940039285380274899124224):=by
 show (if CShl 1 90 then O0 (D.int (1*2^(90:Int).toNat)) else W1)=_;rw[VI (by unfold CShl;decide +kernel)];rfl
def vK(i:Int)(h:i7 i<=1048576):Si (.int i) (.int 27182818284590452353602874713526624977572470936999595749669)=O0 (.int (i*27182818284590452353602874713526624977572470936999595749669)):=by
 show (if Oa i _ then O0 (D.int (i*_)) else W1)=_;rw[VI (.inr ⟨by omega,by decide +kernel⟩)]
def SZ:List Nat:=[2,3,1,3,4,2,3,0,4,2,3,4]
def MW:List Str:=["red","o","redo"]
def TW:List Str:=["near","n","under"]
def qi:∀x∈MW++TW,Wd x:=by
 have h:∀x∈MW++TW,(1<=x.length/\x.length<=8)/\(∀c∈cs x,c∈cs LET)/\x∉KEPT:=by decide +kernel
 exact λx z=>⟨(h x z).1.1,(h x z).1.2,(h x z).2.1,(h x z).2.2⟩
def zq:(MW++TW).Nodup:=by decide +kernel
def zr(j k:Nat):Wds (MW.take j) (TW.take k):=by
 refine⟨?_,?_,?_,λx z=>qi x (by simp[Fc z]),λx z=>qi x (by simp[Fc z])⟩
 .rw[ij];show min j 3<=3;omega
 .rw[ij];show min k 3<=3;omega
 .exact FL (List.Sublist.append (D7 _ _) (D7 _ _)) zq
def J4(c:Int)(m:Nat)(h:0<m):∃j:Nat,j<m/\MR (.int c) (.int (m:Int))=O0 (.int (j:Int))/\c%(m:Int)=(j:Int):=by
 have J:=zh c (show (m:Int)≠0 by omega);have z:=zi c (show 0<(m:Int) by omega);refine⟨(c%(m:Int)).toNat,by omega,?_,by omega⟩;rw[GX c m .(0)];congr 2;omega
def ABY(j:Nat)(h:j<12):∃n:Nat,n<=5/\im (.lst [.int 2,.int 3,.int 1,.int 3,.int 4,.int 2,.int 3,.int 0,.int 4,.int 2,.int 3,.int 4]) (.int (j:Int))=O0 (.int (n:Int)):=by
 have e:=Xq SZ j (by show j<12;exact h);refine⟨SZ.getD j 0,?_,e⟩;have:∀x∈SZ,x<=5:=by decide
 rw[qq,dc (by show j<12;exact h)];exact this _ (gi _)
def WR(l:List Str)(k:Nat):slD (.lst (l.map .str)) W1 (O0 (k:Int))=O0 (.lst ((l.take k).map .str)):=by rw[sl_l,vj]
def YB(a b c d e f g h i j k l:D):lstO (O0 [a,b,c,d,e,f,g,h,i,j,k,l])=O0 (.lst [a,b,c,d,e,f,g,h,i,j,k,l]):=fy _
theorem ql(z I S J:Int)(hb:i7 I<=1048576):∃W V,la W/\la V/\mw V=mw W/\tw V=tw W/\Dc [.lst [.int z,.int I,.int S,.int J]]=O0 (.lst [wd W,wd V]):=by
 have T0:∀ρ:Rho,MV 4 (Aw 1 (Aw 2 (Aw 3 (Aw 4 MY)))) (.lst [.int z,.int I,.int S,.int J]) ρ=O0 ((((ρ.set 1 (.fz (.int z))).set 2 (.fz (.int I))).set 3 (.fz (.int S))).set 4 (.fz (.int J))):=λρ=>rfl;have L:∀(f:FE) (g:FG) (ρ:Rho) (d:D),f ρ=O0 d->UN f g ρ=(g d ρ).map .nx:=λf g ρ d e=>by unfold UN;rw[e];rfl
 have big:=vK I hb;have sh:=ABX;have mb:=GX (I*27182818284590452353602874713526624977572470936999595749669) 1237940039285380274899124224 .(2);have U2:=GX I 1237940039285380274899124224 .(2);have T2:=GX J 1237940039285380274899124224 .(2);have m3:=GX z 3 .(2);have e3:=QB (z%3) 2;have d3:=Ek z 3 .(2) .(2);have ml:=cJ (z/3) 1000000007 .(2);have mn:=GX (z/3*1000000007) 2147483647 .(2);generalize (z/3*1000000007)%2147483647=YO at mn;obtain⟨j0,X2,q0,_⟩:=J4 YO 12 .(2);obtain⟨n,hn,Y⟩:=ABY j0 X2;have S0:=Ek YO 12 .(2) .(2);have N0:=Ek YO 36 .(2) .(2);obtain⟨j1,P4,q1,_⟩:=J4 (YO/12) 3 .(2);obtain⟨j2,N4,q2,_⟩:=J4 (YO/36) 3 .(2);have t1:=WR MW j1;have t2:=WR TW j2;have N3:((12:Nat):Int)=12:=rfl;have c3:((3:Nat):Int)=3:=rfl;rw[N3] at q0;rw[c3] at q1 q2;change slD (.lst [.str "red",.str "o",.str "redo"]) W1 (O0 (j1:Int))=_ at t1;change slD (.lst [.str "near",.str "n",.str "under"]) W1 (O0 (j2:Int))=_ at t2;have hW:=zr j1 j2;obtain⟨O,eb⟩:∃O:Int,O=if z%3=2 then I%1237940039285380274899124224 else (I*27182818284590452353602874713526624977572470936999595749669)%1237940039285380274899124224:=⟨_,rfl⟩
 obtain⟨W,wn,wm,wt,wo,we⟩:=Vd n hn _ _ hW O;obtain⟨k,hk,qk,ek⟩:=J4 S 5 .(2);have d5:=Ek S 5 .(2) .(2);obtain⟨n2,Y3,q5,_⟩:=J4 (S/5) 5 .(2);have c5:((5:Nat):Int)=5:=rfl;rw[c5] at qk q5;have T:mf O2 (.int (k:Int)) (.int 0)=O0 (.bl (decide (k=0))):=IV k 0;have U:mf O2 (.int (k:Int)) (.int 1)=O0 (.bl (decide (k=1))):=IV k 1;have Z:mf O2 (.int (k:Int)) (.int 2)=O0 (.bl (decide (k=2))):=IV k 2;obtain⟨V0,S3,Q2,X1,Y1,S2⟩:=Vd n2 .(0) _ _ hW (J%1237940039285380274899124224);obtain⟨V1,P3,S1,N1,P1,U1⟩:=Vd (min (n+1) 4) .(0) _ _ hW O;have an:tx (.int (n:Int)) (.int 1)=O0 (.int ((n+1:Nat):Int)):=by rw[Ia];congr 2
 have mi:WV (.int ((n+1:Nat):Int)) (.int 4)=O0 (.int ((min (n+1) 4:Nat):Int)):=X6 (n+1) 4;obtain⟨os,po,oe⟩:=Uh (S/5) n hn;rw[<-wn] at po;have te:=jC W wo os po;have Y2:=Ek J 3 .(2) .(2);obtain⟨V3,v3,X0⟩:=bN (trn os W) (qY W wo os po) (J/3);have st:∀R,cx (ll 5 (bF MR (bF Si (vF 2) (kF (.int 27182818284590452353602874713526624977572470936999595749669))) (bF shlD (kF (.int 1)) (kF (.int 90))))) (cx (Pe (ui (bF (mf O2) (bF MR (vF 1) (kF (.int 3))) (kF (.int 2)))) (ll 5 (bF MR (vF 2) (bF shlD (kF (.int 1)) (kF (.int 90))))) (PR)) R) [.fz (.lst [.int z,.int I,.int S,.int J]),.fz (.int z),.fz (.int I),.fz (.int S),.fz (.int J),.un,.un,.un,.un,.un,.un,.un,.un]=R [.fz (.lst [.int z,.int I,.int S,.int J]),.fz (.int z),.fz (.int I),.fz (.int S),.fz (.int J),.fz (.int O),.un,.un,.un,.un,.un,.un,.un]:=λR=>by
  by_cases c:z%3=2
  .rw[VI c] at eb;rw[ZI c] at e3;simp only[cK,big,sh,mb,m3,e3,U2];rw[eb]
  .rw[WI c] at eb;rw[YI c] at e3;simp only[cK,big,sh,mb,m3,e3];rw[eb]
 by_cases k0:k=0
 .refine⟨W,V0,wo,Y1,by rw[Q2,wm],by rw[X1,wt],?_⟩;rw[ZI k0] at T;unfold Dc Fe;rw[KQ (show [D.lst [.int z,.int I,.int S,.int J]].length=1 from rfl),Do,Fv,L _ _ _ (.lst [.int z,.int I,.int S,.int J]) rfl,T0,Mh,OP];simp only[ck,nE,bb,gg,sv,sA,sB,sC,sD,jp,gu,gv];rw[st];simp only[cK,YB,d3,ml,mn,q0,Y,S0,q1,t1,N0,q2,t2,we,qk,T,d5,q5,sh,T2,S2]
 .rw[YI k0] at T
  by_cases k1:k=1
  .refine⟨W,V1,wo,P1,by rw[S1,wm],by rw[N1,wt],?_⟩;rw[ZI k1] at U;unfold Dc Fe;rw[KQ (show [D.lst [.int z,.int I,.int S,.int J]].length=1 from rfl),Do,Fv,L _ _ _ (.lst [.int z,.int I,.int S,.int J]) rfl,T0,Mh,OP];simp only[ck,nE,bb,gg,sv,sA,sB,sC,sD,jp,gu,gv];rw[st];simp only[cK,YB,d3,ml,mn,q0,Y,S0,q1,t1,N0,q2,t2,we,qk,T,U,an,mi,U1]
  .rw[YI k1] at U
   by_cases k2:k=2
   .refine⟨W,trn os W,wo,qY W wo os po,bL os W,bM os W,?_⟩;rw[ZI k2] at Z;unfold Dc Fe;rw[KQ (show [D.lst [.int z,.int I,.int S,.int J]].length=1 from rfl),Do,Fv,L _ _ _ (.lst [.int z,.int I,.int S,.int J]) rfl,T0,Mh,OP];simp only[ck,nE,bb,gg,sv,sA,sB,sC,sD,jp,gu,gv];rw[st];simp only[cK,YB,d3,ml,mn,q0,Y,S0,q1,t1,N0,q2,t2,we,qk,T,U,Z,d5,oe,te]
   .rw[YI k2] at Z;refine⟨W,V3,wo,v3.ok,by rw[v3.mm,bL],by rw[v3.tt,bM],?_⟩;unfold Dc Fe;rw[KQ (show [D.lst [.int z,.int I,.int S,.int J]].length=1 from rfl),Do,Fv,L _ _ _ (.lst [.int z,.int I,.int S,.int J]) rfl,T0,Mh,OP];simp only[ck,nE,bb,gg,sv,sA,sB,sC,sD,jp,gu,gv];rw[st];simp only[cK,YB,d3,ml,mn,q0,Y,S0,q1,t1,N0,q2,t2,we,qk,T,U,Z,d5,oe,te,Y2,X0]
theorem YC{J:Type}{b:D->FS}(S:Rho->Prop)(e:J->D)(P:J->Bool)(r:D):∀(l:List J) (ρ:Rho),S ρ->(∀x∈l,∀ρ,S ρ->∃z,S z/\b (e x) ρ=O0 (if P x=O1 then .nx z else .rt r z)) ->
  ∃z,S z/\vb b (l.map e) ρ=O0 (if l.all P=O1 then .nx z else .rt r z)
 |[],ρ,s,_=>⟨ρ,s,rfl⟩
 |x::l,ρ,s,h=>by
  obtain⟨I,L,W⟩:=h x .(1) ρ s;rw[bb,Ed,W,tq];cases Y:P x with
  |false=>exact⟨I,L,rfl⟩
  |true=>
   obtain⟨z,O,T⟩:=YC S e P r l I L λy U=>h y (by simp[U]);exact⟨z,O,by rw[VI rfl,El,T,sq]⟩
def e_ws(W:Wl):Mr (O0 (D.dk (eM W.ms)))=O0 ((mw W).map .str):=by rw[K5,Xy]
def e_wt(W:Wl):Mr (O0 (D.dk (eT W.ts)))=O0 ((tw W).map .str):=by rw[K5,Xz]
def qp(a b:Nat):mf O2 (.int (a:Int)) (.int (b:Int))=O0 (.bl (decide (a=b))):=IV a b
theorem fit2{W V:Wl}(h:Sp W V)(p q:Pr)(I O:PV.Slot):∃J,vb (PM (Be 5) Iz) ((tw W).map .str) [.fz (wd W),.fz (wd V),I,.fz (.int (p.1:Int)),.fz (.int (p.2:Int)),O,.fz (.int (q.1:Int)),.fz (.int (q.2:Int))] =
  O0 (if KY W V p q=O1 then .nx [.fz (wd W),.fz (wd V),I,.fz (.int (p.1:Int)),.fz (.int (p.2:Int)),J,.fz (.int (q.1:Int)),.fz (.int (q.2:Int))] else .rt (.bl O2) [.fz (wd W),.fz (wd V),I,.fz (.int (p.1:Int)),.fz (.int (p.2:Int)),J,.fz (.int (q.1:Int)),.fz (.int (q.2:Int))]):=by
 have T:=ixw2 W;have S:=ixw2 V;exact Ni (tg:=Be 5) (b:=Iz) (λz=>[.fz (wd W),.fz (wd V),I,.fz (.int (p.1:Int)),.fz (.int (p.2:Int)),z,.fz (.int (q.1:Int)),.fz (.int (q.2:Int))]) D.str (λw=>tk W w p.1 q.1==tk V w p.2 q.2) (.bl O2) (λd z=>rfl) (tw W) O λw L=>by
  obtain⟨d1,Y,U,_⟩:=wz W L p.1 q.1;obtain⟨Z,b1,b2,_⟩:=wz V (h.tt w L) p.2 q.2;simp only[cK,Iz,T,S,Y,U,b1,b2,WM];cases (tk W w p.1 q.1==tk V w p.2 q.2)<;>rfl
theorem fit1{W V:Wl}(h:Sp W V)(p:Pr)(J L I O:PV.Slot):∃S,vb (PM (Be 5) Iw) ((mw W).map .str) [.fz (wd W),.fz (wd V),J,.fz (.int (p.1:Int)),.fz (.int (p.2:Int)),L,I,O] =
  O0 (if QZ W V p=O1 then .nx [.fz (wd W),.fz (wd V),J,.fz (.int (p.1:Int)),.fz (.int (p.2:Int)),S,I,O] else .rt (.bl O2) [.fz (wd W),.fz (wd V),J,.fz (.int (p.1:Int)),.fz (.int (p.2:Int)),S,I,O]):=by
 have Y:=ixw1 W;have U:=ixw1 V;exact Ni (tg:=Be 5) (b:=Iw) (λz=>[.fz (wd W),.fz (wd V),J,.fz (.int (p.1:Int)),.fz (.int (p.2:Int)),z,I,O]) D.str (λw=>mk W w p.1==mk V w p.2) (.bl O2) (λd z=>rfl) (mw W) L λw T=>by
  obtain⟨d1,a1,Z⟩:=wy W T p.1;obtain⟨d2,b1,b2⟩:=wy V (h.mm w T) p.2;simp only[cK,Iw,Y,U,a1,Z,b1,b2,WM];cases (mk W w p.1==mk V w p.2)<;>rfl
def fq(W V:Wl)(p q:Pr):Bool:=(decide (p.1=q.1)==decide (p.2=q.2))&&KY W V p q
def fp(W V:Wl)(rows:List Pr)(p:Pr):Bool:=QZ W V p&&rows.all (fq W V p)
def vL(W V:Wl)(rows:List Pr):rows.all (fp W V rows)=Pw W V rows:=by
 rw[ke];simp only[fp,fq,Pw,ZY,eS,eI];constructor
 .intro h p z;exact⟨⟨(h p z).1,((h p z).2 p z).2⟩,λq U=>⟨((h p z).2 q U).1,((h p z).2 q U).2,((h q U).2 p z).2⟩⟩
 .intro h p z;exact⟨(h p z).1.1,λq U=>⟨((h p z).2 q U).1,((h p z).2 q U).2.1⟩⟩
def fit3{W V:Wl}(h:Sp W V)(p q:Pr)(z O T S:PV.Slot):∃J,PM (MV 2 (Aw 6 (Aw 7 MY))) G7 (pN q) [.fz (wd W),.fz (wd V),z,.fz (.int (p.1:Int)),.fz (.int (p.2:Int)),O,T,S] =
  O0 (if fq W V p q=O1 then .nx [.fz (wd W),.fz (wd V),z,.fz (.int (p.1:Int)),.fz (.int (p.2:Int)),J,.fz (.int (q.1:Int)),.fz (.int (q.2:Int))] else .rt (.bl O2) [.fz (wd W),.fz (wd V),z,.fz (.int (p.1:Int)),.fz (.int (p.2:Int)),J,.fz (.int (q.1:Int)),.fz (.int (q.2:Int))]):=by
 have U:=ixw2 W;have Y:=e_wt W;have L:=qp p.1 q.1;have I:=qp p.2 q.2;have ne:=WM (decide (p.1=q.1)) (decide (p.2=q.2));rw[RO,K6,Jr];unfold fq;cases c:(decide (p.1=q.1)==decide (p.2=q.2)) with
 |false=>
  rw[c] at ne;refine⟨O,?_⟩;simp only[cK,G7,L,I,ne];rfl
 |true=>
  rw[c] at ne;obtain⟨J,e⟩:=fit2 h p q z O;refine⟨J,?_⟩;simp only[cK,G7,L,I,ne,U,Cu,Y,e,sq]
theorem fit4{W V:Wl}(h:Sp W V)(rows:List Pr)(p:Pr)(z3 z4 L z O:PV.Slot):∃J I Y,PM (MV 2 (Aw 3 (Aw 4 MY))) G8 (pN p) [.fz (wd W),.fz (wd V),.fz (.lst (rows.map pN)),z3,z4,L,z,O] =
  O0 (if fp W V rows p=O1 then .nx [.fz (wd W),.fz (wd V),.fz (.lst (rows.map pN)),.fz (.int (p.1:Int)),.fz (.int (p.2:Int)),J,I,Y] else .rt (.bl O2) [.fz (wd W),.fz (wd V),.fz (.lst (rows.map pN)),.fz (.int (p.1:Int)),.fz (.int (p.2:Int)),J,I,Y]):=by
 have S:=ixw1 W;have T:=e_ws W;rw[RO,K6,Jr];unfold fp;obtain⟨J,e⟩:=fit1 h p (.fz (.lst (rows.map pN))) L z O;cases c:QZ W V p with
 |false=>
  rw[c] at e;refine⟨J,z,O,?_⟩;simp only[cK,G8,S,Cu,T,e];rfl
 |true=>
  rw[c] at e;obtain⟨U,⟨u5,u6,u7,rfl⟩,e'⟩:=YC (b:=PM (MV 2 (Aw 6 (Aw 7 MY))) G7) (λZ=>∃J I Y,Z=[.fz (wd W),.fz (wd V),.fz (.lst (rows.map pN)),.fz (.int (p.1:Int)),.fz (.int (p.2:Int)),J,I,Y]) pN (fq W V p) (.bl O2) rows [.fz (wd W),.fz (wd V),.fz (.lst (rows.map pN)),.fz (.int (p.1:Int)),.fz (.int (p.2:Int)),J,z,O] ⟨J,z,O,rfl⟩ (by
   rintro q _ _ ⟨v5,v6,v7,rfl⟩;obtain⟨w5,e⟩:=fit3 h p q (.fz (.lst (rows.map pN))) v5 v6 v7;exact⟨_,⟨w5,_,_,rfl⟩,e⟩)
  refine⟨u5,u6,u7,?_⟩;simp only[cK,G8,S,Cu,T,e,TK,FN,e',sq]
theorem WT{W V:Wl}(h:Sp W V)(rows:List Pr):Dj [wd W,wd V,.lst (rows.map pN)]=O0 (.bl (Pw W V rows)):=by
 obtain⟨z,_,e⟩:=YC (b:=PM (MV 2 (Aw 3 (Aw 4 MY))) G8) (λI=>∃S O L J Y,I=[.fz (wd W),.fz (wd V),.fz (.lst (rows.map pN)),S,O,L,J,Y]) pN (fp W V rows) (.bl O2) rows [.fz (wd W),.fz (wd V),.fz (.lst (rows.map pN)),.un,.un,.un,.un,.un] ⟨_,_,_,_,_,rfl⟩ (by
  rintro q _ _ ⟨v3,v4,v5,v6,v7,rfl⟩;obtain⟨Z,U,T,e⟩:=fit4 h rows q v3 v4 v5 v6 v7;exact⟨_,⟨_,_,Z,U,T,rfl⟩,e⟩)
 rw[vL] at e;cases c:Pw W V rows with
 |false=>
  rw[c] at e;simp only[cK,Dj,La,Cu,FN,e];rfl
 |true=>
  rw[c] at e;simp only[cK,Dj,La,Cu,FN,e,TK]
def QO(W V:Wl)(b:Addr):D:=.ob "Play" [("ranks",mr W V),("put",.adr b)]
def SO(W V:Wl)(rows:List Pr):D:=.ob "Play" [("ranks",mr W V),("put",.lst (rows.map pN))]
def OS(b:Addr)(rows:List Pr):Mu:=[(b,.lst (rows.map pN))]
def fu(b:Addr)(rows:List Pr):(OS b rows).lookup b=O0 (.lst (rows.map pN)):=by
 unfold OS;rw[bX,NL]
def zu(b:Addr)(rows rows':List Pr):putA b (.lst (rows'.map pN)) (OS b rows)=OS b rows':=by
 show [if b=b then (b,_) else _]=_;rw[VI rfl];rfl
def ABZ(W V:Wl)(b:Addr)(rows:List Pr):seeO (OS b rows) (QO W V b)=SO W V rows:=by
 have e:seeM (OS b rows) (.adr b)=.lst (rows.map pN):=by
  show (match (OS b rows).lookup b with | some (.lst z)=>D.lst z | _=>.adr b)=_;rw[fu]
 show D.ob "Play" [("ranks",mr W V),("put",seeM (OS b rows) (.adr b))]=_;rw[e];rfl
def u7:(("put":Str)=="ranks")=O2:=by decide +kernel
def YD(W V:Wl)(d:D):fk "ranks" (.ob "Play" [("ranks",mr W V),("put",d)])=O0 (mr W V):=by
 show bP ("ranks":Str) _=_;rw[bX,NL]
def Zk(W V:Wl)(d:D):fk "put" (.ob "Play" [("ranks",mr W V),("put",d)])=O0 d:=by
 show bP ("put":Str) _=_;rw[bX,u7];show bP ("put":Str) [("put",d)]=_;rw[bX,NL]
def gA{W V:Wl}{rows:List Pr}(h:Ck "Play" m (SO W V rows)=O1):mzO "Play" m g (O0 (SO W V rows)) (O0 ds)=g (SO W V rows::ds):=by
 show (if Ck "Play" m (SO W V rows)=O1 then _ else _)=_;rw[VI h];rfl
theorem qt{W V:Wl}(z:la W)(I:la V)(h:Sp W V)(rows:List Pr)(J:NV W V rows)(Y:rows.length<=5):Du [SO W V rows]=O0 (QP W V (MQ W V (Ah rows))):=by
 have t:=fK z I h rows J Y;have m:=Nm (g:=Bs) (ds:=[.lst (rows.map pN)]) (ob6 W V);have S:fk "ranks" (SO W V rows)=O0 (mr W V):=YD W V _;have L:fk "put" (SO W V rows)=O0 (.lst (rows.map pN)):=Zk W V _;simp only[cK,Du,M4,Dl,S,L,m,t]
def vM{W V:Wl}(rows:List Pr)(Y:rows.length<=4):Bk [SO W V rows]=O0 .non:=by
 have L:fk "put" (SO W V rows)=O0 (.lst (rows.map pN)):=Zk W V _;have z:=pR rows;have Z:=Ia (rows.length:Int) 1;have I:=Qn ((rows.length:Int)+1) 5 .(0);simp only[cK,Bk,Di,L,z,Z,I]
theorem vN{W V:Wl}(rows:List Pr)(Y:rows.length<=4){d:D}(e:Bv [mr W V,.lst (rows.map pN)]=O0 d):Ex [SO W V rows]=O0 d:=by
 have S:fk "ranks" (SO W V rows)=O0 (mr W V):=YD W V _;have L:fk "put" (SO W V rows)=O0 (.lst (rows.map pN)):=Zk W V _;have x:=vM (W:=W) (V:=V) rows Y;have m:=gA (g:=Bk) (ds:=[]) (show Ck "Play" "refuse_sixth_pair" (SO W V rows)=O1 from rfl);simp only[cK,Ex,PJ,Dl,S,L,m,x,e]
def jD{W V:Wl}(rows:List Pr):Cj [SO W V rows]=O0 (.lst (rows.map pN)):=by
 have z:fk "put" (SO W V rows)=O0 (.lst (rows.map pN)):=Zk W V _;have L:QY (.lst (rows.map pN))=O0 (.lst (rows.map pN)):=fy _;simp only[cK,Cj,Lb,z,L]
def Zm{W V:Wl}(I:la W)(J:la V)(hs:Spk W V)(x:Addr):Ec x [bm W,bm V]=O0 (plE [(("ranks":Str),mr W V)]++[(("put":Str),O1,D.lst [])]):=by
 have u:=WQ W V I J hs;have mk:=qP W V (Aa (vF 1) (Aa (vF 2) ab)) [.fz (.adr x),.fz (bm W),.fz (bm V)] (by simp only[cK]);have U:Mq 3 x [bm W,bm V]=[.fz (.adr x),.fz (bm W),.fz (bm V)]:=rfl;have z:OM (Fo (Aj (DP) (Aa (vF 1) (Aa (vF 2) (ab))))) [.fz (.adr x),.fz (bm W),.fz (bm V)] []=O0 ([.fz (.adr x),.fz (bm W),.fz (bm V)],[]):=by
  exact S9 (by simp only[cK,u]) rfl
 have T:HN "ranks" (mkI "Ranks" (CJ) (Aa (vF 1) (Aa (vF 2) (ab)))) [.fz (.adr x),.fz (bm W),.fz (bm V)] []=O0 ([.fz (.adr x),.fz (bm W),.fz (bm V)],plE [(("ranks":Str),mr W V)]):=by
  unfold HN;rw[mk];rfl
 have S:Mp "put" (rz ab) [.fz (.adr x),.fz (bm W),.fz (bm V)] (plE [(("ranks":Str),mr W V)])=O0 ([.fz (.adr x),.fz (bm W),.fz (bm V)],plE [(("ranks":Str),mr W V)]++[(("put":Str),O1,D.lst [])]):=by
  have l:bP ("put":Str) (plE [(("ranks":Str),mr W V)])=W1:=by
   show bP ("put":Str) [("ranks",O2,mr W V)]=W1;rw[bX,u7];rfl
  unfold Mp;show (if (bP ("put":Str) (plE [(("ranks":Str),mr W V)])).isNone=O1/\1<1000 then O0 (_,plE [(("ranks":Str),mr W V)]++[(("put":Str),O1,D.lst [])]) else W1)=_;rw[l,VI ⟨rfl,by decide⟩]
 unfold Ec SV;rw[VI (show [bm W,bm V].length+1=3 from rfl),U];unfold Ih;rw[Er,z,DX,Er,T,DX,Er,S,DX,aQ];rfl
def Ve(W V:Wl)(r:Nat):lewD (QP W V r)=O1:=by
 unfold QP;split<;>rfl
def Pg(W V:Wl)(b:Addr)(rows:List Pr):Hw (OS b rows) (.fz (QO W V b))=.fz (SO W V rows):=by
 show PV.Slot.fz (seeO (OS b rows) (QO W V b))=_;rw[ABZ]
def sub1(side:Nat)(h:side<=1):SU (.int 1) (.int (side:Int))=O0 (.int ((1-side:Nat):Int)):=by
 rw[Q_];congr 2;omega
structure Pt (W V:Wl) (rows:List Pr) (side t:Nat):Prop where
 s1:side<=1
 ht:t<NX W V side
 lo:∀r,r<NX W V (1-side)->MQ W V (Ah (rows++[Pd side t r]))<MQ W V (Ah rows)
 ask:Ex [SO W V rows]=O0 (.tup [.int (side:Int),.int (t:Int)])
def xN{W V:Wl}(z:la W)(I:la V)(h:Spk W V)(rows:List Pr)(J:NV W V rows)(Y:rows.length<=4)(O:MQ W V (Ah rows)≠0)(L:MQ W V (Ah rows)≠MO W V):∃side t,Pt W V rows side t:=by
 obtain⟨side,t,a,b,c,d⟩:=qR z I h rows J Y O L;exact⟨side,t,a,b,c,vN rows Y d⟩
theorem qu{W V:Wl}{rows:List Pr}{side t:Nat}(p:Pt W V rows side t){ρ:Rho}{i:Nat}(z:vF i ρ=O0 (SO W V rows)):CW "Play" "ask" Ex (vF i) ab ρ=O0 (.tup [.int (side:Int),.int (t:Int)]):=by
 have m:=gA (g:=Ex) (ds:=[]) (show Ck "Play" "ask" (SO W V rows)=O1 from rfl);have a:=p.ask;simp only[Dl,z,R1,m,a]
theorem YF{W V:Wl}(I:la W)(J:la V)(h:Sp W V){rows:List Pr}(z:NV W V rows)(Y:rows.length<=5){ρ:Rho}{i:Nat}(L:vF i ρ=O0 (SO W V rows)):CW "Play" "rank" Du (vF i) ab ρ=O0 (QP W V (MQ W V (Ah rows))):=by
 have m:=gA (g:=Du) (ds:=[]) (show Ck "Play" "rank" (SO W V rows)=O1 from rfl);have a:=qt I J h rows z Y;simp only[Dl,L,R1,m,a]
theorem WW{W V:Wl}(I:la W)(O:la V)(h:Sp W V){rows:List Pr}(U:NV W V rows)(T:rows.length<=4){side t:Nat}(p:Pt W V rows side t)(b:Addr)(r:Nat)(J:r<NX W V (1-side))(K:D->Mu->Prop)(k:K (QP W V (MQ W V (Ah (rows++[Pd side t r])))) (OS b (rows++[Pd side t r]))):Ho [QO W V b,.int (r:Int)] (OS b rows) K:=by
 have Y:NV W V (rows++[Pd side t r]):=Fl U (X7 p.s1 p.ht J);have S:=sub1 side p.s1;have f1:fk "ranks" (SO W V rows)=O0 (mr W V):=YD W V _;have Z:fk "put" (QO W V b)=O0 (.adr b):=Zk W V _;have sz:=bJ W V (1-side);have z:=Kq (NX W V (1-side)) r J;have L:=fO side t r;refine⟨rfl,⟨.tup [.int (side:Int),.int (t:Int)],qu p (by show vF 0 [Hw (OS b rows) (.fz (QO W V b)),_,_]=_;rw[Pg];rfl),rfl,⟨.non,?_,rfl,⟨b,[pN (Pd side t r)],.lst (rows.map pN),.non,.lst ((rows++[Pd side t r]).map pN),?_,?_,fu b rows,?_,?_⟩⟩⟩⟩
 .show Aj _ _ [Hw (OS b rows) (.fz (QO W V b)),.fz (.int (r:Int)),.fz (.tup [.int (side:Int),.int (t:Int)])]=_;rw[Pg];simp only[dK,f1,S,sz,z]
 .show uF (fk "put") (vF 0) [.fz (QO W V b),_,_]=_;simp only[cK,Z]
 .show Aa _ ab [.fz (QO W V b),.fz (.int (r:Int)),.fz (.tup [.int (side:Int),.int (t:Int)])]=_;simp only[dK,L]
 .show (if (rows.map pN).length<sizeLine then O0 (D.non,D.lst (rows.map pN++[pN (Pd side t r)])) else W1)=_;rw[VI (by rw[aE];exact nI T .(2)),dP];rfl
 .rw[zu];refine⟨_,YF I O h Y (by simp;omega) (by show vF 0 [Hw (OS b (rows++[Pd side t r])) (.fz (QO W V b)),_,_]=_;rw[Pg];rfl),Ve _ _ _,k⟩
def Zn{W V:Wl}(z:la W)(I:la V){rows:List Pr}(J:NV W V rows)(h:MQ W V (Ah rows)=0):Pw W V rows=O2:=by
 cases c:Pw W V rows with
 |false=>rfl
 |true=>
  have a:Pw W V (Ah rows)=O1:=by rw[Nj z I J];exact c
  rw[Td z I (IW z I J) a] at h;unfold stp MO at h;simp only at h;omega
def ix_c{cs:List Int}{k:Nat}(h:k<cs.length):im (.lst (cs.map .int)) (.int (k:Int))=O0 (.int (cs.getD k 0)):=by
 show atI (cs.map D.int) (k:Int)=_;rw[RB,cb,qq,dc h];rfl
abbrev szD (W V:Wl):D:=.lst [.int (W.n:Int),.int (V.n:Int)]
abbrev St (cs:List Int) (W V:Wl) (b:Addr) (rows:List Pr) (h:D) (z9 z10 z11 z12:PV.Slot):Rho:=[.fz (.lst (cs.map .int)),.fz (bm W),.fz (bm V),.fz (wd W),.fz (wd V),.fz (QO W V b),.fz (szD W V),.fz h,.ow (.lst (rows.map pN)),z9,z10,z11,z12]
def xO(i:Int):Os O1 (.int i)=O0 (.bl O1):=rfl
theorem qw(W V:Wl)(side:Nat)(h:side<=1):im (szD W V) (.int (side:Int))=O0 (.int ((NX W V side:Nat):Int)):=(fQ (.int (W.n:Int)) (.int (V.n:Int)) side h).trans (NJ O0 (vD W V side))
theorem gB{W V:Wl}(Z:la W)(hv:la V)(h:Spk W V)(cs:List Int)(hc:cs.length=6)(b:Addr)(K:KM)(kn:∀rows S L J I,NV W V rows->MQ W V (Ah rows)=0->K (.nx (St cs W V b rows (.int ((0:Nat):Int)) S L J I)) (OS b rows))(kr:∀ρ μ,K (.rt (.bl O1) ρ) μ):
  ∀(n:Nat) (rows:List Pr) (R:Nat) (S L J I:PV.Slot),NV W V rows->MQ W V (Ah rows)=R->R<n->rows.length+R<=5->R≠MO W V->J5 Bw Im n (St cs W V b rows (.int (R:Int)) S L J I) (OS b rows) K
 |0,_,_,_,_,_,_,_,_,h,_,_=>XI h (Nat.not_lt_zero _)
 |n+1,rows,R,S,L,J,I,O,eR,hn,hl,he=>by
  have gt:=pW R;have tt:∀x0 x1 x2 x3 x4 x5 x6 x8 x9 Y U T:PV.Slot,Bw [x0,x1,x2,x3,x4,x5,x6,.fz (.int (R:Int)),x8,x9,Y,U,T]=O0 (decide (0<R)):=λx0 x1 x2 x3 x4 x5 x6 x8 x9 Y U T=>by
   have i:=xO (R:Int);simp only[cK,Bw,i,gt]
  show (match Bw [_,_,_,_,_,_,_,.fz (.int (R:Int)),_,_,_,_,_] with | some O2=>_ | some O1=>_ | none=>False);rw[tt]
  by_cases c:0<R
  .rw[ZI c];obtain⟨side,t,p⟩:=xN Z hv h rows O .(0) .(0) (by rw[eR];exact he);have lo:=p.lo;rw[eR] at lo;have S0:Po O1 (.int (side:Int)) (.lst [.int 0,.int 1])=O0 (.bl O2):=by
    have:=xJ side [0,1];rw[YI (by have:=p.s1;simp;omega)] at this;exact this
   have i1:=qw W V side p.s1;have t1:=Vc t (NX W V side);rw[ZI p.ht] at t1;have sb:=sub1 side p.s1;have i2:=qw W V (1-side) .(0);have ez:mf O2 (.int ((NX W V (1-side):Nat):Int)) (.int 0)=O0 (.bl (decide (NX W V (1-side)=0))):=IV _ 0;have ln:=pR rows;refine⟨.tup [.int (side:Int),.int (t:Int)],qu p (by show vF 5 [_,_,_,_,_,Hw (OS b rows) (.fz (QO W V b)),_,_,_,_,_,_,_]=_;rw[Pg];rfl),rfl,St cs W V b rows (.int (R:Int)) (.fz (.int (side:Int))) (.fz (.int (t:Int))) J I,rfl,?_⟩;refine⟨.nx (St cs W V b rows (.int (R:Int)) (.fz (.int (side:Int))) (.fz (.int (t:Int))) J I),by simp only[cK,S0,i1,t1],?_⟩
   by_cases c0:NX W V (1-side)=0
   .rw[ZI c0] at ez;have r0:rows=[]:=by
     cases rows with
     |nil=>rfl
     |cons q r=>
      have:=O q .(1);unfold NX at c0;split at c0<;>omega
    subst r0;have l0:wh (.lst [])=O0 (.int 0):=rfl;have e0:=IV 0 0;rw[ZI rfl] at e0;have e0:mf O2 (.int 0) (.int 0)=O0 (.bl O1):=e0;exact⟨.rt (.bl O1) (St cs W V b [] (.int (R:Int)) (.fz (.int (side:Int))) (.fz (.int (t:Int))) J I),by simp only[cK,sb,i2,ez,l0,e0],kr _ _⟩
   .rw[YI c0] at ez;obtain⟨r,hr,qr,_⟩:=J4 (cs.getD rows.length 0) (NX W V (1-side)) .(0);have ic:=ix_c (cs:=cs) (k:=rows.length) .(0);have ip:=(fQ (.tup [.int (t:Int),.int (r:Int)]) (.tup [.int (r:Int),.int (t:Int)]) side p.s1).trans (NJ O0 (vC side t r));have ap:=ABM rows (Pd side t r) .(0);have lr:=lo r hr;have T0:NV W V (rows++[Pd side t r]):=Fl O (X7 p.s1 p.ht hr);have le:=fC Z hv (IW Z hv O);rw[eR] at le;generalize N0:MQ W V (Ah (rows++[Pd side t r]))=R' at lr;have tl:QP W V R'=.int (R':Int):=fU .(0);have t2:=Vc R' R;rw[ZI lr] at t2;refine⟨.nx (St cs W V b rows (.int (R:Int)) (.fz (.int (side:Int))) (.fz (.int (t:Int))) J I),by simp only[cK,sb,i2,ez],?_⟩;refine⟨.nx (St cs W V b rows (.int (R:Int)) (.fz (.int (side:Int))) (.fz (.int (t:Int))) (.fz (.int (r:Int))) I),by simp only[cK,ln,ic,sb,i2,qr],?_⟩;refine⟨.nx (St cs W V b (rows++[Pd side t r]) (.int (R:Int)) (.fz (.int (side:Int))) (.fz (.int (t:Int))) (.fz (.int (r:Int))) I),by simp only[cK,ip,ap],?_⟩;refine⟨QO W V b,[.int (r:Int)],rfl,rfl,rfl,WW Z hv h.sp O .(0) p b r hr _ ?_⟩;rw[N0,tl];refine⟨.nx (St cs W V b (rows++[Pd side t r]) (.int (R:Int)) (.fz (.int (side:Int))) (.fz (.int (t:Int))) (.fz (.int (r:Int))) (.fz (.int (R':Int)))),by simp only[cK,t2],?_⟩;refine⟨.nx (St cs W V b (rows++[Pd side t r]) (.int (R':Int)) (.fz (.int (side:Int))) (.fz (.int (t:Int))) (.fz (.int (r:Int))) (.fz (.int (R':Int)))),by simp only[cK],?_⟩;exact gB Z hv h cs hc b K kn kr n _ R' _ _ _ _ T0 N0 .(0) (by simp;omega) .(0)
  .rw[YI c];have z:R=0:=by omega
   subst z;exact kn rows S L J I O eR
def bO{t:FT}{b:FM}{z:Mu}{K:KM}(e:t (ρ.map (Uu z))=O0 O2)(k:K (.nx ρ) z):J5 t b (n+1) ρ z K:=by
 show (match t (ρ.map (Uu z)) with | some O2=>K (.nx ρ) z | some O1=>b ρ z (bdM (J5 t b n) K) | none=>False);rw[e];exact k
def WX{W V:Wl}(z:la W)(I:la V):∃h:D,QP W V (MQ W V (Ah []))=h/\((h=.non)∨∃R:Nat,h=.int (R:Int)/\MQ W V (Ah [])=R/\R<=5/\R≠MO W V):=by
 have n1:=z.n5;have n2:=I.n5;have O:=fC z I (IW z I (show NV W V [] from λp J=>by cases J));refine⟨_,rfl,?_⟩;unfold QP;split
 .exact .inl rfl
 .rename_i c;refine .inr ⟨_,rfl,rfl,?_,c⟩;unfold MO at O c;omega
theorem WY{W V:Wl}(L:la W)(O:la V)(h:Spk W V)(cs:List Int)(hc:cs.length=6):Hr [.lst (cs.map .int),bm W,bm V,wd W,wd V]=O0 (.bl O1):=by
 have X0:VO 13 5 Hq [.lst (cs.map .int),bm W,bm V,wd W,wd V] [] λJ _=>J=.bl O1:=by
  have i0:=ixw0 W;have j0:=ixw0 V;have rk:=fL L O h [] (λp S=>by cases S) .(1);have ic:=ix_c (cs:=cs) (k:=0) .(0);have ic:im (.lst (cs.map .int)) (.int 0)=O0 (.int (cs.getD 0 0)):=ic;have m2:=GX (cs.getD 0 0) 2 .(2);have e2:=QB (cs.getD 0 0%2) 1;obtain⟨hh,eh,oh⟩:=WX L O;rw[eh] at rk;have rk:PB [bm W,bm V,.lst []]=O0 hh:=rk;refine⟨rfl,⟨[bm W,bm V],[("ranks",mr W V)],.lst [],rfl,λx=>Zm L O h x,λb _=>?_⟩⟩;refine⟨.nx [.fz (.lst (cs.map .int)),.fz (bm W),.fz (bm V),.fz (wd W),.fz (wd V),.fz (QO W V b),.fz (szD W V),.un,.un,.un,.un,.un,.un],by simp only[cK,i0,j0];rfl,?_⟩;refine⟨.nx [.fz (.lst (cs.map .int)),.fz (bm W),.fz (bm V),.fz (wd W),.fz (wd V),.fz (QO W V b),.fz (szD W V),.fz hh,.un,.un,.un,.un,.un],by simp only[cK,rk],?_⟩;have Z:∀(ρ:Rho) (μ:Mu),(WU (fzS [8] (fx (orF (OY (uF (Os O2) (vF 7)) (bF (mf O2) (vU 8) (rz (ab)))) (OY (bF (mf O2) (vF 7) (kF (.int 0))) (VS (Aj (Dj) (Aa (vF 3) (Aa (vF 4) (Aa (vF 8) (ab))))))))))) ρ μ (finM λJ _=>J=.bl O1)->(thM (WU (fzS [8] (fx (orF (OY (uF (Os O2) (vF 7)) (bF (mf O2) (vU 8) (rz (ab)))) (OY (bF (mf O2) (vF 7) (kF (.int 0))) (VS (Aj (Dj) (Aa (vF 3) (Aa (vF 4) (Aa (vF 8) (ab))))))))))) (finM λJ _=>J=.bl O1)) (.nx ρ) μ:=λ_ _ k=>k;have wl:J5 Bw Im 60 (St cs W V b [] hh .un .un .un .un) (OS b []) (thM (WU (fzS [8] (fx (orF (OY (uF (Os O2) (vF 7)) (bF (mf O2) (vU 8) (rz (ab)))) (OY (bF (mf O2) (vF 7) (kF (.int 0))) (VS (Aj (Dj) (Aa (vF 3) (Aa (vF 4) (Aa (vF 8) (ab))))))))))) (finM λJ _=>J=.bl O1)):=by
   rcases oh with rfl | ⟨R,rfl,eR,r5,rn⟩
   .have tt:∀x0 x1 x2 x3 x4 x5 x6 x8 x9 Y U T:PV.Slot,Bw [x0,x1,x2,x3,x4,x5,x6,.fz .non,x8,x9,Y,U,T]=O0 O2:=λx0 x1 x2 x3 x4 x5 x6 x8 x9 Y U T=>by
     have i:Os O1 .non=O0 (.bl O2):=rfl;simp only[cK,Bw,i]
    refine bO (n:=59) (tt _ _ _ _ _ _ _ _ _ _ _ _) (Z _ _ ⟨.rt (.bl O1) [.fz (.lst (cs.map .int)),.fz (bm W),.fz (bm V),.fz (wd W),.fz (wd V),.fz (QO W V b),.fz (szD W V),.fz .non,.fz (.lst []),.un,.un,.un,.un],?_,rfl⟩);have i:Os O2 .non=O0 (.bl O1):=rfl;have e0:mf O2 (.lst []) (.lst [])=O0 (.bl O1):=rfl;simp only[dK,i,e0]
   .refine gB L O h cs hc b _ (λI z9 T0 S0 N0 hi er=>?_) (λ_ _=>rfl) 60 [] R .un .un .un .un (λp S=>by cases S) eR .(0) (by simp;omega) rn;have z:=Zn L O hi er;have lf:=WT h.sp I;rw[z] at lf;have i:Os O2 (.int ((0:Nat):Int))=O0 (.bl O2):=rfl;have e0:mf O2 (.int ((0:Nat):Int)) (.int 0)=O0 (.bl O1):=IV 0 0;refine Z _ _ ⟨.rt (.bl O1) [.fz (.lst (cs.map .int)),.fz (bm W),.fz (bm V),.fz (wd W),.fz (wd V),.fz (QO W V b),.fz (szD W V),.fz (.int ((0:Nat):Int)),.fz (.lst (I.map pN)),z9,T0,S0,N0],?_,rfl⟩;simp only[dK,i,e0,lf]
  have t7:ui (bF (mf O2) (bF MR (bF im (vF 0) (kF (.int 0))) (kF (.int 2))) (kF (.int 1))) [.fz (.lst (cs.map .int)),.fz (bm W),.fz (bm V),.fz (wd W),.fz (wd V),.fz (QO W V b),.fz (szD W V),.fz hh,.un,.un,.un,.un,.un]=O0 (decide (cs.getD 0 0%2=1)):=by simp only[cK,ic,m2,e2]
  show (match ui (bF (mf O2) (bF MR (bF im (vF 0) (kF (.int 0))) (kF (.int 2))) (kF (.int 1))) [.fz (.lst (cs.map .int)),.fz (bm W),.fz (bm V),.fz (wd W),.fz (wd V),.fz (QO W V b),.fz (szD W V),.fz hh,.un,.un,.un,.un,.un] with | some O1=>_ | some O2=>_ | none=>False);rw[t7];cases decide (cs.getD 0 0%2=1) with
  |true=>
   have ra:=YF L O h.sp (rows:=[]) (λp S=>by cases S) .(1) (ρ:=[.fz (.lst (cs.map .int)),.fz (bm W),.fz (bm V),.fz (wd W),.fz (wd V),.fz (QO W V b),.fz (szD W V),.fz hh,.un,.un,.un,.un,.un].map (Hw (OS b []))) (i:=5) (by show vF 5 [_,_,_,_,_,Hw (OS b []) (.fz (QO W V b)),_,_,_,_,_,_,_]=_;rw[Pg];rfl);rw[eh] at ra;exact⟨hh,ra,by rw[<-eh];exact Ve _ _ _,⟨.nx (St cs W V b [] hh .un .un .un .un),rfl,wl⟩⟩
  |false=>exact⟨.nx (St cs W V b [] hh .un .un .un .un),rfl,wl⟩
 obtain⟨e,h1,h2⟩:=dW (P:=V_) X0 rfl;show YV (VO 13 5 Hq) V_ _=_;rw[h1,show e=.bl O1 from h2]
abbrev Su (cs:List Int) (W V:Wl) (b:Addr) (h:D) (L:Nat) (z8 z9:PV.Slot):Rho:=[.fz (.lst (cs.map .int)),.fz (bm W),.fz (bm V),.fz (wd W),.fz (wd V),.fz (QO W V b),.fz h,.fz (.int (L:Int)),z8,z9]
def tU:FT:=andT (ui (uF (Os O1) (vF 6))) (andT (ui (bF gtD (vF 6) (kF (.int 0)))) (ui (bF gtD (vF 7) (kF (.int 0)))))
def tU_n(cs:List Int)(W V:Wl)(b:Addr)(L:Nat)(z S:PV.Slot):tU (Su cs W V b .non L z S)=O0 O2:=by
 have i:Os O1 .non=O0 (.bl O2):=rfl;simp only[cK,tU,i]
def tU_i(cs:List Int)(W V:Wl)(b:Addr)(R L:Nat)(z S:PV.Slot):tU (Su cs W V b (.int (R:Int)) L z S)=O0 (decide (0<R)&&decide (0<L)):=by
 have i:=xO (R:Int);have U:=pW R;have I:=pW L;cases J:decide (0<R) with
 |false=>
  rw[J] at U;simp only[cK,tU,i,U];rfl
 |true=>
  rw[J] at U;simp only[cK,tU,i,U,I];rfl
theorem idle{W V:Wl}{b:Addr}{rows:List Pr}(cs:List Int)(h:D)(L:Nat)(O:∀z S,tU (Su cs W V b h L z S)=O0 O2)(K:KM)(k:∀z S,K (.nx (Su cs W V b h L z S)) (OS b rows)):∀(r:List Int) (z S:PV.Slot),Us (Be 8) Dq (r.map .int) (Su cs W V b h L z S) (OS b rows) K
 |[],z,S=>k z S
 |c::r,z,S=>by
  refine⟨Su cs W V b h L (.fz (.int c)) S,rfl,?_⟩;show (match tU (Su cs W V b h L (.fz (.int c)) S) with | some O1=>_ | some O2=>_ | none=>False);rw[O];exact idle cs h L O K k r _ S
theorem qx{W V:Wl}(O:la W)(T:la V)(h:Spk W V)(cs:List Int)(b:Addr)(L:Nat)(hL:L=min W.n V.n)(Z:0<L)(K:KM)(k:∀rows J S,NV W V rows->MQ W V (Ah rows)=0->K (.nx (Su cs W V b (.int ((0:Nat):Int)) L J S)) (OS b rows)):
  ∀(r:List Int) (rows:List Pr) (R:Nat) (J S:PV.Slot),NV W V rows->MQ W V (Ah rows)=R->R<=r.length->rows.length+R<=5->R≠MO W V->Us (Be 8) Dq (r.map .int) (Su cs W V b (.int (R:Int)) L J S) (OS b rows) K
 |[],rows,R,J,S,I,U,hn,hl,he=>by
  have z:R=0:=by simpa using hn
  subst z;exact k rows J S I U
 |c::r,rows,R,J,S,I,U,hn,hl,he=>by
  refine⟨Su cs W V b (.int (R:Int)) L (.fz (.int c)) S,rfl,?_⟩;show (match tU (Su cs W V b (.int (R:Int)) L (.fz (.int c)) S) with | some O1=>_ | some O2=>_ | none=>False);rw[tU_i,ZI Z,AK];rw[ck] at hn
  by_cases cR:0<R
  .rw[ZI cR];obtain⟨side,t,p⟩:=xN O T h rows I .(0) .(0) (by rw[U];exact he);obtain⟨j,hj,qj,_⟩:=J4 c L Z;have hs:j<NX W V (1-side):=by
    unfold NX;split<;>omega
   have lr:=p.lo j hs;rw[U] at lr;have N0:NV W V (rows++[Pd side t j]):=Fl I (X7 p.s1 p.ht hs);have le:=fC O T (IW O T I);rw[U] at le;generalize Y:MQ W V (Ah (rows++[Pd side t j]))=R' at lr;have tl:QP W V R'=.int (R':Int):=fU .(0);have t2:=Vc R' R;rw[ZI lr] at t2;refine⟨QO W V b,[.int (j:Int)],rfl,rfl,by simp only[cK,qj],WW O T h.sp I .(0) p b j hs _ ?_⟩;rw[Y,tl];refine⟨.nx (Su cs W V b (.int (R:Int)) L (.fz (.int c)) (.fz (.int (R':Int)))),by simp only[cK,t2],?_⟩;refine⟨.nx (Su cs W V b (.int (R':Int)) L (.fz (.int c)) (.fz (.int (R':Int)))),by simp only[cK],?_⟩;exact qx O T h cs b L hL Z K k r _ R' _ _ N0 Y .(0) (by simp;omega) .(0)
  .rw[YI cR];exact qx O T h cs b L hL Z K k r rows R _ S I U .(0) hl he
theorem NY{W V:Wl}{rows:List Pr}(z:vF i ρ=O0 (SO W V rows)):CW "Play" "pairs" Cj (vF i) ab ρ=O0 (.lst (rows.map pN)):=by
 have m:=gA (g:=Cj) (ds:=[]) (show Ck "Play" "pairs" (SO W V rows)=O1 from rfl);have a:=jD (W:=W) (V:=V) rows;simp only[Dl,z,R1,m,a]
def see5{W V:Wl}{rows:List Pr}(cs:List Int)(h:D)(L:Nat)(z S:PV.Slot):vF 5 ((Su cs W V b h L z S).map (Hw (OS b rows)))=O0 (SO W V rows):=by
 show vF 5 [_,_,_,_,_,Hw (OS b rows) (.fz (QO W V b)),_,_,_,_]=_;rw[Pg];rfl
def tE:FT:=orT (ui (bF (mf O2) (vF 7) (kF (.int 0)))) (ui (uF (Os O2) (vF 6)))
def uE:FM:=ifM [] tE (V2 (lnX (bF (mf O2) (CW "Play" "pairs" (Cj) (vF 5) ab) (rz (ab))))) nxM
def uR:FM:=V2 (lnX (OY (bF (mf O2) (vF 6) (kF (.int 0))) (VS (Aj (Dj) (Aa (vF 3) (Aa (vF 4) (Aa (CW "Play" "pairs" (Cj) (vF 5) ab) (ab))))))))
def end_none{W V:Wl}(cs:List Int)(h:D)(L:Nat)(z S:PV.Slot)(O:tE (Su cs W V b h L z S)=O0 O1):Cs uE uR (Su cs W V b h L z S) (OS b []) (finM λd' _=>d'=.bl O1):=by
 show (match tE (Su cs W V b h L z S) with | some O1=>_ | some O2=>_ | none=>False);rw[O];have I:=NY (see5 (rows:=[]) (W:=W) (V:=V) (b:=b) cs h L z S);have J:mf O2 (.lst (([]:List Pr).map pN)) (.lst [])=O0 (.bl O1):=rfl;exact⟨.bl O1,by simp only[e_b,I,cU,W3,R1,XT,J],rfl,rfl⟩
def qy{W V:Wl}(Z:la W)(hv:la V)(h:Sp W V){b:Addr}(cs:List Int)(L:Nat)(z S:PV.Slot)(l0:0<L){rows:List Pr}(hi:NV W V rows)(er:MQ W V (Ah rows)=0):Cs uE uR (Su cs W V b (.int ((0:Nat):Int)) L z S) (OS b rows) (finM λd' _=>d'=.bl O1):=by
 have J:mf O2 (.int (L:Int)) (.int 0)=O0 (.bl (decide (L=0))):=IV L 0;rw[YI .(0)] at J;have i:Os O2 (.int ((0:Nat):Int))=O0 (.bl O2):=rfl;have ht:tE (Su cs W V b (.int ((0:Nat):Int)) L z S)=O0 O2:=by simp only[cK,tE,J,i]
 show (match tE (Su cs W V b (.int ((0:Nat):Int)) L z S) with | some O1=>_ | some O2=>_ | none=>False);rw[ht];have Y:=NY (see5 (rows:=rows) (W:=W) (V:=V) (b:=b) cs (.int ((0:Nat):Int)) L z S);have U:vF 3 ((Su cs W V b (.int ((0:Nat):Int)) L z S).map (Hw (OS b rows)))=O0 (wd W):=rfl;have T:vF 4 ((Su cs W V b (.int ((0:Nat):Int)) L z S).map (Hw (OS b rows)))=O0 (wd V):=rfl;have O:vF 6 ((Su cs W V b (.int ((0:Nat):Int)) L z S).map (Hw (OS b rows)))=O0 (.int ((0:Nat):Int)):=rfl;have e0:mf O2 (.int ((0:Nat):Int)) (.int 0)=O0 (.bl O1):=IV 0 0;have I:=WT h rows;rw[Zn Z hv hi er] at I;exact⟨.bl O1,by simp only[e_b,Y,U,T,O,R1,XT,e0,aF,W2,aD,W0,aG,W4,W5,aH,W6,e_k,I,truB,BO],rfl,rfl⟩
theorem bQ{W V:Wl}(I:la W)(J:la V)(h:Spk W V)(cs:List Int)(hc:cs.length=5):Ja [.lst (cs.map .int),bm W,bm V,wd W,wd V]=O0 (.bl O1):=by
 have Z:VO 10 5 G9 [.lst (cs.map .int),bm W,bm V,wd W,wd V] [] λU _=>U=.bl O1:=by
  have i0:=ixw0 W;have j0:=ixw0 V;have mn:=X6 W.n V.n;have Y:=fL I J h [] (λp T=>by cases T) .(1);have ic:=ix_c (cs:=cs) (k:=0) .(0);have ic:im (.lst (cs.map .int)) (.int 0)=O0 (.int (cs.getD 0 0)):=ic;have d5:=Ek (cs.getD 0 0) 5 .(2) .(2);have m2:=GX (cs.getD 0 0/5) 2 .(2);have e2:=QB (cs.getD 0 0/5%2) 1;obtain⟨hh,eh,oh⟩:=WX I J;rw[eh] at Y;have Y:PB [bm W,bm V,.lst []]=O0 hh:=Y;refine⟨rfl,⟨[bm W,bm V],[("ranks",mr W V)],.lst [],rfl,λx=>Zm I J h x,λb _=>?_⟩⟩;refine⟨.nx [.fz (.lst (cs.map .int)),.fz (bm W),.fz (bm V),.fz (wd W),.fz (wd V),.fz (QO W V b),.fz hh,.un,.un,.un],by simp only[cK,Y];rfl,?_⟩;have wl:Cs (WU (ll 7 (bF WV (bF im (vF 3) (kF (.int 0))) (bF im (vF 4) (kF (.int 0)))))) (Cs (forM (mu (vF 0)) (Be 8) Dq) (Cs uE uR)) [.fz (.lst (cs.map .int)),.fz (bm W),.fz (bm V),.fz (wd W),.fz (wd V),.fz (QO W V b),.fz hh,.un,.un,.un] (OS b []) (finM λU _=>U=.bl O1):=by
   refine⟨.nx (Su cs W V b hh (min W.n V.n) .un .un),by simp only[cK,i0,j0,mn],?_⟩;refine⟨cs.map .int,rfl,?_⟩;have non:tE=tE->hh=.non∨min W.n V.n=0->(∀L S,tU (Su cs W V b hh (min W.n V.n) L S)=O0 O2)->(∀L S,tE (Su cs W V b hh (min W.n V.n) L S)=O0 O1)->Us (Be 8) Dq (cs.map .int) (Su cs W V b hh (min W.n V.n) .un .un) (OS b []) (thM (Cs uE uR) (finM λU _=>U=.bl O1)):=λ_ _ a c=>idle cs hh _ a _ (λL S=>end_none cs hh _ L S (c L S)) cs .un .un
   rcases oh with rfl | ⟨R,rfl,eR,r5,rn⟩
   .refine non rfl (.inl rfl) (λL S=>tU_n cs W V b _ L S) λL S=>?_;have z:mf O2 (.int ((min W.n V.n:Nat):Int)) (.int 0)=O0 (.bl (decide (min W.n V.n=0))):=IV _ 0;have i:Os O2 .non=O0 (.bl O1):=rfl;cases c:decide (min W.n V.n=0) with
    |true=>rw[c] at z;simp only[cK,tE,z]
    |false=>rw[c] at z;simp only[cK,tE,z,i]
   .by_cases l0:0<min W.n V.n
    .exact qx I J h cs b _ rfl l0 _ (λO L S hi er=>qy I J h.sp cs _ L S l0 hi er) cs [] R .un .un (λp T=>by cases T) eR .(0) (by simp;omega) rn
    .refine non rfl (.inr .(0)) (λL S=>by rw[tU_i,YI l0,Bool.and_false]) λL S=>?_;have z:mf O2 (.int ((min W.n V.n:Nat):Int)) (.int 0)=O0 (.bl (decide (min W.n V.n=0))):=IV _ 0;rw[ZI .(0)] at z;simp only[cK,tE,z]
  have t7:ui (bF (mf O2) (bF MR (bF Hu (bF im (vF 0) (kF (.int 0))) (kF (.int 5))) (kF (.int 2))) (kF (.int 1))) [.fz (.lst (cs.map .int)),.fz (bm W),.fz (bm V),.fz (wd W),.fz (wd V),.fz (QO W V b),.fz hh,.un,.un,.un]=O0 (decide (cs.getD 0 0/5%2=1)):=by simp only[cK,ic,d5,m2,e2]
  show (match ui (bF (mf O2) (bF MR (bF Hu (bF im (vF 0) (kF (.int 0))) (kF (.int 5))) (kF (.int 2))) (kF (.int 1))) [.fz (.lst (cs.map .int)),.fz (bm W),.fz (bm V),.fz (wd W),.fz (wd V),.fz (QO W V b),.fz hh,.un,.un,.un] with | some O1=>_ | some O2=>_ | none=>False);rw[t7];cases decide (cs.getD 0 0/5%2=1) with
  |true=>
   have ra:=YF I J h.sp (rows:=[]) (λp T=>by cases T) .(1) (ρ:=[.fz (.lst (cs.map .int)),.fz (bm W),.fz (bm V),.fz (wd W),.fz (wd V),.fz (QO W V b),.fz hh,.un,.un,.un].map (Hw (OS b []))) (i:=5) (by show vF 5 [_,_,_,_,_,Hw (OS b []) (.fz (QO W V b)),_,_,_,_]=_;rw[Pg];rfl);rw[eh] at ra;exact⟨hh,ra,by rw[<-eh];exact Ve _ _ _,wl⟩
  |false=>exact wl
 obtain⟨e,h1,h2⟩:=dW (P:=V_) Z rfl;show YV (VO 10 5 G9) V_ _=_;rw[h1,show e=.bl O1 from h2]
def pck(J:List Int)(k j:Nat):Int:=J.getD (((k:Int)+4*(j:Int)*(j:Int)+(j:Int))%(J.length:Int)).toNat 0/7
def pcu(O:List Int)(j:Nat):Int:=O.getD (4+j) 0/7
theorem qz:∀O:List Int,O.length<=63->(∀i∈O,i7 i<=1048576)->ZX [.lst (O.map .int)]=O0 (.bl O1):=by
 intro O hl S0;have cm:Bc (Nc (kF (.int 4))) pp TX [.fz (.lst (O.map .int)),.un,.un,.un,.un,.un,.un,.un]=O0 (.lst [.int (O.getD 0 0),.int (O.getD 1 0),.int (O.getD 2 0),.int (O.getD 3 0)]):=
  Qq (n:=4) (λk=>.int (O.getD k 0)) _ rfl .(2) λk _=>by
   have:=eF O k;simp only[cK,TX,this]
 have hb:i7 (O.getD 1 0)<=1048576:=by
  rw[qq];cases e:O[1]? with
  |none=>decide
  |some i=>exact S0 i (oS e)
 obtain⟨W,V,Z,hv,mm,tt,te⟩:=ql (O.getD 0 0) (O.getD 1 0) (O.getD 2 0) (O.getD 3 0) hb;have h:Spk W V:=⟨by rw[mm],by rw[tt]⟩;have T0:∀z:Rho,MV 2 (Aw 1 (Aw 2 MY)) (.lst [wd W,wd V]) z=O0 ((z.set 1 (.fz (wd W))).set 2 (.fz (wd V))):=λz=>rfl;have I:∀(f:FE) (g:FG) (z:Rho) (d:D),f z=O0 d->UN f g z=(g d z).map .nx:=λf g z d e=>by unfold UN;rw[e];rfl
 have t1:Aj (Dc) (Aa (Bc (Nc (kF (.int 4))) (pp) (TX)) (ab)) [.fz (.lst (O.map .int)),.un,.un,.un,.un,.un,.un,.un]=O0 (.lst [wd W,wd V]):=by simp only[cK,cm,te]
 have i0:=ixw0 W;have i1:=ixw1 W;have i2:=ixw2 W;have j0:=ixw0 V;have j1:=ixw1 V;have j2:=ixw2 V;have k1:=wk W Z (Aa (bF im (vF 1) (kF (.int 0))) (Aa (bF im (vF 1) (kF (.int 1))) (Aa (bF im (vF 1) (kF (.int 2))) (ab)))) [.fz (.lst (O.map .int)),.fz (wd W),.fz (wd V),.un,.un,.un,.un,.un] (by simp only[cK,i0,i1,i2]);have k2:=wk V hv (Aa (bF im (vF 2) (kF (.int 0))) (Aa (bF im (vF 2) (kF (.int 1))) (Aa (bF im (vF 2) (kF (.int 2))) (ab)))) [.fz (.lst (O.map .int)),.fz (wd W),.fz (wd V),.fz (bm W),.un,.un,.un,.un] (by simp only[cK,j0,j1,j2]);have sc:slD (.lst (O.map .int)) (O0 4) (O0 64)=O0 (.lst ((Oy O (O0 4) (O0 64)).map .int)):=by
  show O0 (D.lst (Oy (O.map D.int) (O0 4) (O0 64)))=_;rw[ur]
 generalize Oy O (O0 4) (O0 64)=ms at sc;have ln:wh (.lst (ms.map .int))=O0 (.int (ms.length:Int)):=by
  show SW (.lst (ms.map .int))=_;rw[mR,aE]
 have mn:WV (.int (ms.length:Int)) (.int 4)=O0 (.int ((min ms.length 4:Nat):Int)):=X6 ms.length 4;obtain⟨T,N0,N1⟩:∃n,n=min ms.length 4/\True:=⟨_,rfl,trivial⟩;rw[<-N0] at mn;have lp:∀(l:List Nat) (U J:PV.Slot),(∀k∈l,k<T)->∃L Y,vb (PM (Be 6) Qa) (l.map λ(k:Nat)=>.int (k:Int)) [.fz (.lst (O.map .int)),.fz (wd W),.fz (wd V),.fz (bm W),.fz (bm V),.fz (.lst (ms.map .int)),U,J]=O0 (.nx [.fz (.lst (O.map .int)),.fz (wd W),.fz (wd V),.fz (bm W),.fz (bm V),.fz (.lst (ms.map .int)),L,Y]):=by
  intro l
  induction l with
  |nil=>exact λU J _=>⟨U,J,rfl⟩
  |cons k l ih=>
   intro U J hk;have X0:=hk k .(1);have l0:0<ms.length:=by omega
   have cp:Bc (Nc (kF (.int 6))) pp Xi [.fz (.lst (O.map .int)),.fz (wd W),.fz (wd V),.fz (bm W),.fz (bm V),.fz (.lst (ms.map .int)),.fz (.int (k:Int)),J]=O0 (.lst (((bg 6).map (pck ms k)).map .int)):=by
    rw[ca];exact Qq (n:=6) (λj=>.int (pck ms k j)) _ rfl .(2) λj hj=>by
     obtain⟨q,hq,qe,qm⟩:=J4 ((k:Int)+4*(j:Int)*(j:Int)+(j:Int)) ms.length l0;have ix:=ix_c (cs:=ms) (k:=q) hq;have a1:=S5 4 (j:Int) .(2);have a2:=cJ (4*(j:Int)) (j:Int) .(0);have a3:=Ia (k:Int) (4*(j:Int)*(j:Int));have a4:=Ia ((k:Int)+4*(j:Int)*(j:Int)) (j:Int);have d7:=Ek (ms.getD q 0) 7 .(2) .(2);have pk:pck ms k j=ms.getD q 0/7:=by unfold pck;rw[qm,g9]
     rw[pk];simp only[cK,Xi,a1,a2,a3,a4,ln,qe,ix,d7]
   have S:=WY Z hv h ((bg 6).map (pck ms k)) (by rw[aE,lP]);generalize D.lst (((bg 6).map (pck ms k)).map .int)=X at cp S;obtain⟨L,Y,e⟩:=ih (.fz (.int (k:Int))) (.fz X) λx hx=>hk x (by simp[hx]);refine⟨L,Y,?_⟩
   w_up
   have bd:Qa [.fz (.lst (O.map .int)),.fz (wd W),.fz (wd V),.fz (bm W),.fz (bm V),.fz (.lst (ms.map .int)),.fz (.int (k:Int)),J]=O0 (.nx [.fz (.lst (O.map .int)),.fz (wd W),.fz (wd V),.fz (bm W),.fz (bm V),.fz (.lst (ms.map .int)),.fz (.int (k:Int)),.fz X]):=by simp only[cK,Qa,cp,S]
   rw[bd,El,e]
 obtain⟨L,Y,fe⟩:=lp (bg T) .un .un λk hk=>cf.mp hk;have fe:vb (PM (Be 6) Qa) (MX T) [.fz (.lst (O.map .int)),.fz (wd W),.fz (wd V),.fz (bm W),.fz (bm V),.fz (.lst (ms.map .int)),.un,.un]=_:=fe;have cq:Bc (Nc (kF (.int 5))) pp Xj [.fz (.lst (O.map .int)),.fz (wd W),.fz (wd V),.fz (bm W),.fz (bm V),.fz (.lst (ms.map .int)),L,Y]=O0 (.lst (((bg 5).map (pcu O)).map .int)):=by
  rw[ca];exact Qq (n:=5) (λj=>.int (pcu O j)) _ rfl .(2) λj _=>by
   have c:=eF O (4+j);have a:=Ia 4 (j:Int);have a:tx (.int 4) (.int (j:Int))=O0 (.int ((4+j:Nat):Int)):=a;have d7:=Ek (O.getD (4+j) 0) 7 .(2) .(2);simp only[cK,Xj,a,c,d7];rfl
 have un:=bQ Z hv h ((bg 5).map (pcu O)) (by rw[aE,lP]);generalize D.lst (((bg 5).map (pcu O)).map .int)=X at cq un;have S:=WY Z hv h [0,1,2,3,4,5] rfl;simp only[bb,gg] at S;have rg:rngO (O0 (.int (T:Int)))=O0 (MX T):=(Ud _ .(0)).trans (by rw[g9]);unfold ZX pF;rw[KQ (show [D.lst (O.map .int)].length=1 from rfl),Do];simp only[ck,nE,bb,gg,sv,sA,sB,sC,sD,jp];rw[Fv,I _ _ _ _ t1,T0,Mh,OP];simp only[cK,k1,k2,sc,ln,mn,rg,fe,cq,un,S]
end K66
end
open PySem PySem.W PyProof.Rows
def L2.head_at{r:OpenRow}{q:cy}{d:DefRec}{z:List (Str×Expr)}{N:Nat}(H:Hook)(L:LeftO r.prog q loose (λs=>xlAt q [] s&&recOk r.records s) H.obs H.val N)(Z:defOf q r.name=O0 (d,z))(Y:r.prog.theDef r.name=O0 (d.params,d.body,d.scope))(W:kwWritten? d.params.kwonlyargs d.params.kw_defaults=O0 z)(U:(!r.writes||r.records.isEmpty)=O1)(T:r.wellSaid=O1)(S:(chainsOk q&&opensWell r.prog&&(frees r.toRowW&&r.within.isEmpty))=O1)(O:r.prog.bare)(J:r.toRowW.promised)(I:WalkO q loose (XL q []) H.says r.toRowW d z λf vs=>EM f vs):r.Holds:=
 holds_open (XP:=XL q []) L H.of H.keeps (λs e=>xl_of s (MG.mp e).1) XL.keeps Z Y W (λ_ e=>recFacts_of (MG.mp e).2) U T S O J I
set_option maxHeartbeats 0 in
theorem PySem.Challenge.cw_twinrounds_k66_whole_first_hand_holds : PySem.Challenge.rw_twinrounds_k66_whole_first_hand.Holds := by
 w_on;o_law;refine L2.head_at (q:=K66.vw) (loose:=[]) (N:=6000) K66.hook K66.look (by rfl) (by rfl) (by rfl) (by rfl) (by assumption) (by decide +kernel) ⟨rfl,rfl,rfl,rfl,rfl,by decide +kernel⟩ ?_ ?_
 .w_witness2
 unfold K66.hook
 k_fill
 refine PV.nF (l:=MI) (n:=63) (k:=42) (x:="_law_script") (CX:=λ_=>L2.CX0) (sp:=λw=>K66.wj _) rfl .(2) rfl ⟨rfl,by decide,by decide⟩ (λw h Y=>PySem.W.kIn_of Y) ?F (λ_ _ a ns hl hbt _ hS=>⟨a,ns,rfl,hS,hl,hbt,λ_=>rfl⟩) λ_ _ _ _ _ z=>z
 case F=>
  intro w mg fa h KX G hmg;have TT:∃c_:Addr,∃w_:Addr,∃y1:Addr,∃T:K66.Tx (K66.gx (L2.KOf KX) c_ w_ y1) mg,∀(s:ai) (u:ac),wf s T.WE.fd ⟨[u],[]⟩ [("_law_script",u)]:=by
   dsimp only [L2.KOf];refine' ⟨_,_,_,{ c_:=_,f_:=PV.ao,r_:=(PV.cls KX ?pg_World ?hd_World ?po_World ?sa_World :),s_:=si KX G ?aC_World,w_:=_,d0:=(PV.aq .(2) PV.ao),p0:=(PV.cls KX ?pg_Ranks ?hd_Ranks ?po_Ranks ?sa_Ranks :),z0:=si KX G ?aC_Ranks,y1:=_,y2:=(PV.aq .(2) (PV.aq .(2) PV.ao)),E2:=(PV.cls KX ?pg_Play ?hd_Play ?po_Play ?sa_Play :),y3:=si KX G ?aC_Play,E3:=(PV.dx KX G ?a0 ?l0 ?c0 ?k0 ?b0 :),y4:=(PV.dx KX G ?a1 ?l1 ?c1 ?k1 ?b1 :),w6:=(PV.dx KX G ?a2 ?l2 ?c2 ?k2 ?b2 :),y6:=(PV.dx KX G ?a3 ?l3 ?c3 ?k3 ?b3 :),h7:=(PV.dx KX G ?a4 ?l4 ?c4 ?k4 ?b4 :),e8:=(PV.dx KX G ?a5 ?l5 ?c5 ?k5 ?b5 :),h8:=(PV.dx KX G ?a6 ?l6 ?c6 ?k6 ?b6 :),h9:=(PV.dx KX G ?a7 ?l7 ?c7 ?k7 ?b7 :),NA:=(PV.dx KX G ?a8 ?l8 ?c8 ?k8 ?b8 :),OA:=(PV.dx KX G ?a9 ?l9 ?c9 ?k9 ?b9 :),QA:=(PV.dx KX G ?a10 ?l10 ?c10 ?k10 ?b10 :),RA:=(PV.ix KX ?mk_World ?kc_World ?a11 ?i11 ?l11 ?c11 ?k11 ?b11 :),SA:=(PV.mx KX ?a12 ?i12 ?l12 ?c12 ?k12 ?b12 :),UA:=(PV.mx KX ?a13 ?i13 ?l13 ?c13 ?k13 ?b13 :),VA:=(PV.dx KX G ?a14 ?l14 ?c14 ?k14 ?b14 :),WA:=(PV.ix KX ?mk_Ranks ?kc_Ranks ?a15 ?i15 ?l15 ?c15 ?k15 ?b15 :),XA:=(PV.ix KX ?mk_Play ?kc_Play ?a16 ?i16 ?l16 ?c16 ?k16 ?b16 :),YA:=(PV.dx KX G ?a17 ?l17 ?c17 ?k17 ?b17 :),ZA:=(PV.dx KX G ?a18 ?l18 ?c18 ?k18 ?b18 :),lB:=(PV.dx KX G ?a19 ?l19 ?c19 ?k19 ?b19 :),OB:=(PV.dx KX G ?a20 ?l20 ?c20 ?k20 ?b20 :),SB:=(PV.dx KX G ?a21 ?l21 ?c21 ?k21 ?b21 :),TB:=(PV.dx KX G ?a22 ?l22 ?c22 ?k22 ?b22 :),UB:=(PV.mx KX ?a23 ?i23 ?l23 ?c23 ?k23 ?b23 :),WB:=(PV.mx KX ?a24 ?i24 ?l24 ?c24 ?k24 ?b24 :),XB:=(PV.mx KX ?a25 ?i25 ?l25 ?c25 ?k25 ?b25 :),ZB:=(PV.mx KX ?a26 ?i26 ?l26 ?c26 ?k26 ?b26 :),NC:=(PV.dx KX G ?a27 ?l27 ?c27 ?k27 ?b27 :),OC:=(PV.mx KX ?a28 ?i28 ?l28 ?c28 ?k28 ?b28 :),SC:=(PV.mx KX ?a29 ?i29 ?l29 ?c29 ?k29 ?b29 :),TC:=(PV.dx KX G ?a30 ?l30 ?c30 ?k30 ?b30 :),UC:=(PV.mx KX ?a31 ?i31 ?l31 ?c31 ?k31 ?b31 :),VC:=(PV.mx KX ?a32 ?i32 ?l32 ?c32 ?k32 ?b32 :),WC:=(PV.dx KX G ?a33 ?l33 ?c33 ?k33 ?b33 :),ND:=(PV.dx KX G ?a34 ?l34 ?c34 ?k34 ?b34 :),PD:=(PV.dx KX G ?a35 ?l35 ?c35 ?k35 ?b35 :),SD:=(PV.dx KX G ?a36 ?l36 ?c36 ?k36 ?b36 :),TD:=(PV.dx KX G ?a37 ?l37 ?c37 ?k37 ?b37 :),UD:=(PV.mx KX ?a38 ?i38 ?l38 ?c38 ?k38 ?b38 :),NE:=(PV.mx KX ?a39 ?i39 ?l39 ?c39 ?k39 ?b39 :),OE:=(PV.dx KX G ?a40 ?l40 ?c40 ?k40 ?b40 :),QE:=(PV.dx KX G ?a41 ?l41 ?c41 ?k41 ?b41 :),RE:=(PV.dx KX G ?a42 ?l42 ?c42 ?k42 ?b42 :),SE:=(PV.mx KX ?a43 ?i43 ?l43 ?c43 ?k43 ?b43 :),UE:=(PV.dx KX G ?a44 ?l44 ?c44 ?k44 ?b44 :),VE:=(PV.dx KX G ?a45 ?l45 ?c45 ?k45 ?b45 :),WE:=(PV.dx KX G ?a46 ?l46 ?c46 ?k46 ?b46 :),TH:=(PV.K8 KX (PV.fl_c (PV.cls KX ?pg_World ?hd_World ?po_World ?sa_World) ?n_World_size (PV.fl_c (PV.cls KX ?pg_Ranks ?hd_Ranks ?po_Ranks ?sa_Ranks) ?n_Ranks_size (PV.fl_c (PV.cls KX ?pg_Play ?hd_Play ?po_Play ?sa_Play) ?n_Play_size (PV.fl_n)))) :),UH:=(PV.K8 KX (PV.fl_c (PV.cls KX ?pg_World ?hd_World ?po_World ?sa_World) ?n_World_marked (PV.fl_c (PV.cls KX ?pg_Ranks ?hd_Ranks ?po_Ranks ?sa_Ranks) ?n_Ranks_marked (PV.fl_c (PV.cls KX ?pg_Play ?hd_Play ?po_Play ?sa_Play) ?n_Play_marked (PV.fl_n)))) :),WH:=(PV.K8 KX (PV.fl_c (PV.cls KX ?pg_World ?hd_World ?po_World ?sa_World) ?n_World_tied (PV.fl_c (PV.cls KX ?pg_Ranks ?hd_Ranks ?po_Ranks ?sa_Ranks) ?n_Ranks_tied (PV.fl_c (PV.cls KX ?pg_Play ?hd_Play ?po_Play ?sa_Play) ?n_Play_tied (PV.fl_n)))) :),ZH:=(PV.K8 KX (PV.fl_c (PV.cls KX ?pg_World ?hd_World ?po_World ?sa_World) ?n_World_one (PV.fl_c (PV.cls KX ?pg_Ranks ?hd_Ranks ?po_Ranks ?sa_Ranks) ?n_Ranks_one (PV.fl_c (PV.cls KX ?pg_Play ?hd_Play ?po_Play ?sa_Play) ?n_Play_one (PV.fl_n)))) :),NI:=(PV.K8 KX (PV.fl_c (PV.cls KX ?pg_World ?hd_World ?po_World ?sa_World) ?n_World_other (PV.fl_c (PV.cls KX ?pg_Ranks ?hd_Ranks ?po_Ranks ?sa_Ranks) ?n_Ranks_other (PV.fl_c (PV.cls KX ?pg_Play ?hd_Play ?po_Play ?sa_Play) ?n_Play_other (PV.fl_n)))) :),OI:=(PV.K8 KX (PV.fl_c (PV.cls KX ?pg_World ?hd_World ?po_World ?sa_World) ?n_World_reckoned (PV.fl_c (PV.cls KX ?pg_Ranks ?hd_Ranks ?po_Ranks ?sa_Ranks) ?n_Ranks_reckoned (PV.fl_c (PV.cls KX ?pg_Play ?hd_Play ?po_Play ?sa_Play) ?n_Play_reckoned (PV.fl_n)))) :),QI:=(PV.K8 KX (PV.fl_c (PV.cls KX ?pg_World ?hd_World ?po_World ?sa_World) ?n_World_endless (PV.fl_c (PV.cls KX ?pg_Ranks ?hd_Ranks ?po_Ranks ?sa_Ranks) ?n_Ranks_endless (PV.fl_c (PV.cls KX ?pg_Play ?hd_Play ?po_Play ?sa_Play) ?n_Play_endless (PV.fl_n)))) :),RI:=(PV.K8 KX (PV.fl_c (PV.cls KX ?pg_World ?hd_World ?po_World ?sa_World) ?n_World_ranks (PV.fl_c (PV.cls KX ?pg_Ranks ?hd_Ranks ?po_Ranks ?sa_Ranks) ?n_Ranks_ranks (PV.fl_c (PV.cls KX ?pg_Play ?hd_Play ?po_Play ?sa_Play) ?n_Play_ranks (PV.fl_n)))) :),SI:=(PV.K8 KX (PV.fl_c (PV.cls KX ?pg_World ?hd_World ?po_World ?sa_World) ?n_World_put (PV.fl_c (PV.cls KX ?pg_Ranks ?hd_Ranks ?po_Ranks ?sa_Ranks) ?n_Ranks_put (PV.fl_c (PV.cls KX ?pg_Play ?hd_Play ?po_Play ?sa_Play) ?n_Play_put (PV.fl_n)))) :),XE:=jv KX G ?XE,YE:=jv KX G ?YE,ZE:=jv KX G ?ZE,NF:=jv KX G ?NF,OF:=jv KX G ?OF,RF:=jv KX G ?RF,SF:=jv KX G ?SF,UF:=jv KX G ?UF,NG:=jv KX G ?NG,OG:=jv KX G ?OG,SG:=jv KX G ?SG,WG:=jv KX G ?WG,XG:=jv KX G ?XG,hH:=jv KX G ?hH,NH:=(PV.sx (f:=(.int 8)) KX G ?a_MOST_LETTERS :),OH:=(PV.sx (f:=(.str "abcdefghijklmnopqrstuvwxyz")) KX G ?a_LETTERS :),PH:=(PV.sx (f:=(.int 5)) KX G ?a_MOST_THINGS :),RH:=(PV.sx (f:=(.int 3)) KX G ?a_MOST_WORDS :),SH:=(PV.sx (f:=(.int 5)) KX G ?a_MOST_PAIRS :),UI:=(PV.kxL (xs:=["not","and","or","some","all"]) KX G ?a_KEPT_TEXTS ?l_KEPT_TEXTS ?h_KEPT_TEXTS ?v_KEPT_TEXTS :) },?bt⟩
   case aC_World | pg_World | hd_World | po_World | sa_World | mk_World | kc_World | n_World_size | n_World_marked | n_World_tied | n_World_one | n_World_other | n_World_reckoned | n_World_endless | n_World_ranks | n_World_put | aC_Ranks | pg_Ranks | hd_Ranks | po_Ranks | sa_Ranks | mk_Ranks | kc_Ranks | n_Ranks_size | n_Ranks_marked | n_Ranks_tied | n_Ranks_one | n_Ranks_other | n_Ranks_reckoned | n_Ranks_endless | n_Ranks_ranks | n_Ranks_put | aC_Play | pg_Play | hd_Play | po_Play | sa_Play | mk_Play | kc_Play | n_Play_size | n_Play_marked | n_Play_tied | n_Play_one | n_Play_other | n_Play_reckoned | n_Play_endless | n_Play_ranks | n_Play_put | a0 | l0 | c0 | k0 | a1 | l1 | c1 | k1 | a2 | l2 | c2 | k2 | a3 | l3 | c3 | k3 | a4 | l4 | c4 | k4 | a5 | l5 | c5 | k5 | a6 | l6 | c6 | k6 | a7 | l7 | c7 | k7 | a8 | l8 | c8 | k8 | a9 | l9 | c9 | k9 | a10 | l10 | c10 | k10 | a11 | i11 | l11 | c11 | k11 | a12 | i12 | l12 | c12 | k12 | a13 | i13 | l13 | c13 | k13 | a14 | l14 | c14 | k14 | a15 | i15 | l15 | c15 | k15 | a16 | i16 | l16 | c16 | k16 | a17 | l17 | c17 | k17 | a18 | l18 | c18 | k18 | a19 | l19 | c19 | k19 | a20 | l20 | c20 | k20 | a21 | l21 | c21 | k21 | a22 | l22 | c22 | k22 | a23 | i23 | l23 | c23 | k23 | a24 | i24 | l24 | c24 | k24 | a25 | i25 | l25 | c25 | k25 | a26 | i26 | l26 | c26 | k26 | a27 | l27 | c27 | k27 | a28 | i28 | l28 | c28 | k28 | a29 | i29 | l29 | c29 | k29 | a30 | l30 | c30 | k30 | a31 | i31 | l31 | c31 | k31 | a32 | i32 | l32 | c32 | k32 | a33 | l33 | c33 | k33 | a34 | l34 | c34 | k34 | a35 | l35 | c35 | k35 | a36 | l36 | c36 | k36 | a37 | l37 | c37 | k37 | a38 | i38 | l38 | c38 | k38 | a39 | i39 | l39 | c39 | k39 | a40 | l40 | c40 | k40 | a41 | l41 | c41 | k41 | a42 | l42 | c42 | k42 | a43 | i43 | l43 | c43 | k43 | a44 | l44 | c44 | k44 | a45 | l45 | c45 | k45 | a46 | l46 | c46 | k46 | XE | YE | ZE | NF | OF | RF | SF | UF | NG | OG | SG | WG | XG | hH | a_MOST_LETTERS | a_LETTERS | a_MOST_THINGS | a_MOST_WORDS | a_MOST_PAIRS | a_KEPT_TEXTS | l_KEPT_TEXTS=>k_is
   case b5 | b10 | b12 | b13 | b31 | b32 | b38 | b43 | b46=>exact λ_ _ _ _ _ _ us hl=>by (obtain⟨_,rfl⟩:=PV.wR hl;rfl)
   case b1 | b2 | b3 | b4 | b6 | b7 | b8 | b9 | b14 | b18 | b25 | b26 | b28 | b29 | b33 | b37 | b39 | b40 | b45=>exact λ_ _ _ _ _ _ us hl=>by (obtain⟨_,_,rfl⟩:=PV.wU hl;rfl)
   case b15 | b16 | b17 | b19 | b23 | b24 | b27 | b30 | b34 | b35 | b41=>exact λ_ _ _ _ _ _ us hl=>by (obtain⟨_,_,_,rfl⟩:=PV.wV hl;rfl)
   case b0 | b11 | b20 | b21 | b22 | b36=>exact λ_ _ _ _ _ _ us hl=>by (obtain⟨_,_,_,_,rfl⟩:=PV.wW hl;rfl)
   case b42 | b44=>exact λ_ _ _ _ _ _ us hl=>by (obtain⟨_,_,_,_,_,rfl⟩:=PV.AAv hl;rfl)
   case h_KEPT_TEXTS=>decide
   case v_KEPT_TEXTS=>exact .cons ⟨_,rfl⟩ (.cons ⟨_,rfl⟩ (.cons ⟨_,rfl⟩ (.cons ⟨_,rfl⟩ (.cons ⟨_,rfl⟩ (.nil)))))
   case bt=>exact λs u=>.of_eq rfl
  obtain⟨c_,w_,y1,T,e1⟩:=TT;have e0:fa=T.WE.f:=by
   have q:=hmg.symm.trans T.WE.m;cases q;rfl
  subst e0;exact⟨T.WE.fd,e1,λbase kb nb=>(K66.zO (w:=w) (base:=base) T).imp (K66.zP K66.qz)⟩
