import PyProof.Rows.All
import Wide.All
import OpenK.AllK
import Wide.FinOn
import Lean
import PyProof.EqAt
import PyProof.EqKinds
import PyProof.TupleCall
import PyProof.TupleKey
import PyProof.DictRoadsH
import PyProof.StationsW
import PyProof.DictWalks
import PyProof.DictItemsLoops
import KE.KPairComp
import KE.KDictList
import PyProof.StrWalks
import PyProof.ConsumeWalk
import PyProof.DictUpdate
import PyProof.ExcClass2
import PyProof.ExcClass3
import PyProof.ExcArgsOwn
import PyProof.ExcAttrAll.ValueError
import PyProof.InstStoreFacts
import PyProof.StrLawsRepr
import PyProof.ReprStr
import PyProof.NsDelKeeps
import PyProof.RulesAs
import KE.KIsAll
import KE.KRevIter
import PyProof.EnumMake
import PyProof.MeetsSeq
import Wide.Txt2
import PyProof.ZipIter
import PyProof.Draws
import PyProof.AttrMissHeap
import KE.KDictOf
import PySem.Challenge.RW_twinrounds_k52_portraits
set_option compiler.extract_closed false
set_option genSizeOf false
set_option Elab.async false
set_option linter.all false
set_option maxRecDepth 100000
set_option maxHeartbeats 4000000
open Array renaming length_toList->lh,forIn_toList->t4,mk->xp,getElem?_eq_none->zp,getElem?_toList->AN,getElem?_eq_getElem->BU,getD_eq_getD_getElem?->C7,toList->D2,toList_push->EE,toArray_toList->Fn
open Bool renaming false_ne_true->cy,false_eq_true->dv,and_eq_true->gd,eq_iff_iff->iA,not_true->kG,and_true->rL,false_or->v0,true_and->wf,true_or->yY,not_false->zU,false_and->A8,and_eq_true_iff->ID
open Classical renaming choose_spec->GL
open False renaming elim->gI
open ForInStep renaming yield->ri
open Function renaming comp_def->w9,comp->CA
open Int renaming toNat_natCast->df,emod_nonneg->gX,emod_lt_of_pos->ja,reduceLT->sL,reduceSub->sT,reduceAdd->zM,ediv_one->DF,toNat_of_nonneg->GA
open List renaming range->av,length_map->aw,mem_map->aI,map_cons->ba,mem_cons->bb,getElem?_map->be,mem_range->bv,mem_cons_of_mem->bE,size_toArray->bS,map_map->bX,lookup_cons->ca,length_append->cb,getElem?_eq_getElem->cf,mem_cons_self->cS,getElem?_eq_some_iff->d6,lookup->dA,length->dE,nodup_append->dL,map_append->dP,mem_filter->eC,mem_append->eD,append_nil->eL,mem_append_right->eP,length_cons->eR,length_range->eW,mem_of_getElem?->fN,all_eq_true->gg,mem_append_left->gy,getElem?_set_ne->gE,mem_singleton->gL,getD_eq_getElem?_getD->gT,nodup_cons->i6,nil_append->ic,getElem?_append_right->jv,getElem?_append_left->jI,map_nil->ke,map_reverse->kf,length_singleton->ky,pairwise_map->kD,getElem?_set_self->kN,length_take->kU,Nodup->lf,not_mem_nil->mB,append_assoc->mE,all_cons->nB,getElem?_eq_none->nK,length_drop->oQ,any_cons->p4,find?_cons->p5,map_congr_left->pd,length_set->pr,getElem_mem->pS,any_map->qa,pairwise_cons->qc,any_eq_true->qh,take_take->qk,mem_flatMap->qo,range_succ->ro,drop_eq_getElem_cons->rS,set_cons_zero->sM,set_cons_succ->sN,reverse_perm->sQ,mem_reverse->sR,replicate->u7,length_replicate->uk,eq_nil_of_length_eq_zero->wb,getElem_of_mem->wc,eraseIdx_eq_take_drop_succ->wm,pairwise_iff_getElem->wq,length_filter_le->wt,getElem?_cons_zero->wv,getElem?_replicate->yb,getElem?_take_of_lt->yi,nodup_nil->zb,forIn_cons->zc,length_eq_zero_iff->zf,drop_length->zi,ext_getElem->zq,nodup_range->zx,take_append_drop->zI,cons_append->zO,filterMap_cons->A3,getElem_inj->A4,any_eq_false->A9,of_mem_zip->AF,take_of_length_le->AV,ext_getElem?->AW,getElem_range->AZ,set_append_right->B0,mem_erase_of_ne->BA,length_erase_of_mem->BB,length_pos_of_mem->BC,getD->BO,getElem?_range->C1,length_reverse->C2,forIn_nil->C5,map_take->C8,take_succ->Cc,getElem?_cons_succ->Cf,getElem?_modify->Co,flatMap_cons->Ct,mem_filterMap->D9,filterMap_map->DI,eraseIdxIfInBounds_toArray->DU,length_nil->DV,getElem?_drop->E8,drop_zero->E9,all_map->Ee,length_eq_one_iff->ED,drop_of_length_le->EK,not_lt->EL,length_eraseIdx->EM,map_drop->GY,filter_cons->H0,getElem_take->HE,getElem_map->HP,find?_eq_none->HU,mem_of_find?_eq_some->HV,filter_eq_self->HZ,sum_append->Ic,sum_cons->Iq,all_append->Iy,all_nil->IA,mem_iff_getElem->IB,eq_nil_iff_forall_not_mem->IC
open List.Pairwise renaming imp_of_mem->zw,nil->AR,imp->Cb
open List.Perm renaming refl->zm,cons->BE
open List.cons renaming injEq->xi
open Nat renaming le_refl->aE,ne_of_lt->bg,le_trans->ck,zero_le->dQ,lt_of_lt_of_le->f6,le_succ->iL,not_lt->kA,zero_add->kB,lt_succ_of_lt->mv,ne_of_gt->nc,lt_irrefl->oB,le_of_lt->oC,lt_succ_self->qE,lt_of_le_of_lt->rf,le_of_eq->tP,sub_self->vi,le_succ_of_le->vj,min_eq_left->vT,mod_lt->zn,eq_zero_or_pos->zy,div_add_mod->zz,mul_comm->zN,add_assoc->zS,min_self->AY,mul_le_mul->C9,succ_le_succ->DT,lt_trichotomy->HA,div_lt_of_lt_mul->HC,mul_add_div->HG,div_eq_of_lt->HI,mul_add_mod->HK,mod_eq_of_lt->HL,mul_le_mul_right->HM
open Nat.succ renaming inj->zt
open Ne renaming symm->cp
open Option renaming bind_some->dS,map_some->eK,isSome_some->p9,getD_some->rj,isNone_iff_eq_none->sB,isSome_iff_exists->ua,map_eq_some_iff->xw,isSome_map->AO,getD_none->DM,none->E6,isSome_none->FC
open Option.some renaming inj->cq,injEq->BN
open Or renaming inr->eB,inl->fm
open Prod renaming ext->AH
open Prod.mk renaming injEq->xk,inj->CI
open PyProof.Rows renaming envOfC->fI,AllBare->kL,StrsAre->qf,seqObj->sj,arrOf->sA,callWith_type1->tm,IntsAre->ve,slot_tuple_getitem->AI,subscriptTail->AJ,subscriptTail_builtinR->DJ,entry_proto_collect'->ES,entry_list_iadd'->ET,risingS->EV,kind_sorted->EZ,plain_sorted->F0,entry_sorted->F3,args_sorted1->F4,slot_list_sort->F5,entry_list_sort->F6,list_sort_treeK->F7,strKind_oneLt->F8,keyKind_strs->F9,args_list_sort->Fc,sorted_out_str->Fh,sortedHeap_at->Fk,sortedHeap->Fm,sortedHeap_old->Fs
open PyProof.Rows.F renaming plain_set_update_loop->EG
open PySem renaming Value->ac,wpAny_bind->ae,Shared->af,wpAny->ag,model->ah,wpAny_pure->ai,starEach->ar,Around->ax,cLine->bi,World->br,backTo->bP,bootBuiltins->cr,Program->cE,compareOp->d3,Builtin->d4,rawInt->de,swapsWith->eI,pyNext->eJ,mainGlobals->eS,codeAny->fh,sysModules->fq,attributeBase->fw,backToKw->fA,keywordEach->fE,Keyword->fF,wpAny_call_entry->hJ,wpAny_mono->i8,assignEach->i9,SetTable->ib,behindInMarks->io,foldedSetIterable->ip,binaryOp->iq,wpAny_field->iO,wpAny_seqItems->kg,Scope->ki,holding->ko,callWith->kq,NameKind->kt,standAt->kP,getMethod->kQ,FuncData->kR,wpAny_newObj_type->kX,codeAny_builtin->lc,assign->ly,pyIter->lI,wpAny_callSpecial?_slot->ma,atKey->mh,DictEntry->mi,relabel->mn,relayAll->mI,IsPair->mN,wpAny_truthy_bool->mP,Paired->mS,CmpOp->n9,sizeLine_eq->nh,Result->nl,codeAny_mono->nn,bindL->nv,bindC->nw,IsPart->ny,valueAt->nI,plainId_quiet->nL,isSubtype_type->nN,setNext->nV,wpAny_attempt->nX,pickOrder->o0,Value->oa,wpAny_specialOf->oe,wpAny_rule->og,wpAny_isInstance->oi,tupleKind->oy,wpAny_passesOwn->oP,sliceBounds->oS,callerA->pc,isTrue->qv,PassesOwn->qA,wpAny_Call_Name_kw->qV,getItem->rd,call_meets->re,scanBound->sd,wpAny_setState_of->se,wpAny_askSetting->sg,wpAny_fieldsOf->sh,treeTable->t5,wpAny_pyIter_list->tj,BindsTo->u3,bindArgs->u4,mem_of_lookup->ub,wpAny_typeOf->uS,entryFor->vt,wpAny_setField->vE,wpAny_setEntries_of->vS,collect->wa,Addr->wx,Str->x6,wpAny_forIn_list->xb,isInstance->xh,eqIsQuiet->xo,entryOfKey->xD,wpAny_execs_nil->xE,letOwnedTupleGo->xI,wpAny_load->xL,wpAny_call->y7,typeLookup->yA,seqIndex?->yB,tupleKind_room_in1->za,lookup_relabel_local->zd,wpAny_getItem_str_slice->zg,post_val_or_str->zh,wpAny_updateSeq->zj,typeLookup_type->zk,builtinLookup_eq_fast->zl,setsByText->zo,wpAny_setField_rec->zu,tupleKeyHash->zQ,wpAny_tupleItemsOf->zR,isSubtype_tuple_tuple->zT,Within->zX,builtinsNs->zZ,wpAny_Name->A6,wpAny_assign_Name->A7,subscripted->AK,typeIs_str->AL,call->AQ,wpAny_standAt->AS,sliceRange->AU,setAddHashed->B5,wpAny_runValue->B7,Slot->B8,isSubtype_stop->Bz,entryFor_alias->BD,wpAny_pyIter_slot->BG,wpAny_newList->BH,wpAny_dictEntries->BQ,wpAny_dictEpoch->BS,loadIfAlive->C4,wpAny_nextOf_ascii_item->C6,Shared->CB,Expr->CC,Stmt->CD,wpAny_isTrue_Compare1->D1,wpAny_execs_cons->D3,wpAny_pyNext_list_item->D4,wpAny_pyNext_list_end->D5,wpAny_pyIter_tuple->D7,slot_list_getitem->DL,wpAny_Dict_empty->E4,wpAny_comprehension_free->E7,entryFor_of_tree->EJ,wpAny_pyIter_keyiter->FB,wpAny_Call_method->FD,evalArgs_none->FK,wpAny_pyIter_ascii->FR,wpAny_notOrdered_dict->G0,wpAny_pyIter_revIter->GH,getattributeRaised->GN,wpAny_updateSeq_pair->GO,wpAny_nextOf_list_item->GS
open PySem.Around renaming under_plainId->pT,under->AD
open PySem.AutoSeq1 renaming wpAny_loadPart'->rV
open PySem.Builtin renaming bitAnd->tq,bitOr->tz
open PySem.Builtin.Dict renaming updateFrom->GW
open PySem.Builtin.Dict_items renaming ownsTuple->BY
open PySem.Builtin.Int renaming intBits->AT
open PySem.Builtin.List renaming listTooLong->yT,listExtendWith->BI,listLengthHint->ER,listSameRef->EU
open PySem.Builtin.Range renaming rangeSize->D8
open PySem.Builtin.Slice renaming slicePlaces->yk,sliceAdjust->AG,sliceApplied->DH
open PySem.Builtin.SmallTypes renaming ownedTupleIsFree->sD,nextOf->sK,ownedTupleHandOut->GT
open PySem.Builtin.Str renaming occurrences->ng
open PySem.Builtin.Tuple renaming tupleExact->yn,tupleHashOf->zP,tupleItemsOf->CH
open PySem.Calls renaming Name_function_global->CY,spliced_cons->DD,call_function_entry->EW
open PySem.Challenge renaming pw_twinrounds_k52_portraits->IE,rw_twinrounds_k52_portraits->IF
open PySem.CmpOp renaming NotIn->D0
open PySem.Code renaming isFrame->AE,frames->DC,quiet_builtin->EH
open PySem.Data renaming fields->D6
open PySem.F renaming plainAttrs_list->rX,slot_dict_keyiterator_next->we,slot_tuple_hash->xa,slot_tuple_eq->xl,slot_zip_next->zv,slot_list_append->B3,type_list_append->B4,slot_zip_getattribute->C3,plain_set_new->EI,slot_set_iter->EN,plainAttrs_dict->FF,slot_dict_items->FH,entry_dict_keyiterator_next->FU,args_dict_keyiterator_next_1->FV,slot_dict_iter->FY,plain_list_iadd->GB,slot_dict_values->GI,entry_zip_next->GU,args_zip_next_1->GV
open PySem.Heap renaming get?_push_of_some->aS,lt_size->aT,get?_push_size->bn,size_push->hZ,SameBut->i7,get?_update_other->nE,get?_update_self->pE,ExtBut->zr
open PySem.Heap.DictOf renaming new->E1
open PySem.Heap.SameBut renaming update->vk,refl->EF
open PySem.Manifest renaming find?->C0
open PySem.NameKind renaming free->rh
open PySem.Obj renaming mapSeq->ku,mapFields->pV,data_mapFields->vx,isFreed_of_fields->B9,cls_mapFields->Bi
open PySem.Paired renaming length->xC,snoc->DZ
open PySem.PassesOwn renaming never->dn
open PySem.SeqAt renaming EqAt->jS,in_listAt->DO,notIn_listAt->DS
open PySem.SeqAt.EqAt renaming same->AM,of_refs->AX,int_str->CO,str_int->CS
open PySem.SeqAt.RcAt renaming lists->EA,lists_lengths->EB,tuples->EC
open PySem.SetTable renaming below->si,grown->B6
open PySem.SetTable.below renaming go->EQ
open PySem.Shared renaming TypeIs->Bn
open PySem.Str renaming empty->eA,ofString->gi,length->mf
open PySem.Txt renaming slice->ze
open PySem.Value renaming ref->cw,none->jp,str->kK,bool->om,int->tf,isStrOf->xy,type->xB,float->zW,builtin->CF,isInt->CL,isStrOf_shape->CM,bytes->CU
open PySem.W renaming Frag->ay,findIn->ff,fnOf->fR,keepIn->hU,mg_none_of->ii,kia_one->iF,boot_heap->kH,emptyDict->lP,codeIn->lS,instObj->mT,SharedT->qr,isFn->qB,kitOne->qS,mg_of->sC,plainGet->tJ,nsIn->wl,boot_drawn->xt,boot_toks->xv,lookIn->xS,hasDictIn->y0,methodCall_KW->y6,callWith_K->ya,methodObj->zY,plainGet_of->Ap,plainOver->As,takerIn->Au,makesIn->AA,specialIn->AB,kitx_list->AC,kdl_call->BM,handedIn->Da,kitx_tuple->DA,kitx_dict->DB,cellsFrom_some->DE,kdl_dict->FL,KdlSrc->G1,KeqHits->Gc,readsIn->GE,findCls->GG
open PySem.W.WShape renaming has->E5
open PySem.Walks renaming list->Fu
open PySem.pickOrder renaming go->BF
open Sum renaming inl->oj,inr->ol
open Sum.inr renaming inj->zV
open True renaming intro->iE
set_option hygiene false in
local macro_rules
|`(.(0))=>`(((bP pos (ar [a] X.env)).all (λx=>!x.1)&&(fA pos (fE [] X.env)).all (λx=>x.1.isSome)&&decide ([a].length+([]:List fF).length+(if ([]:List fF).isEmpty then 0 else 1)<30)))
|`(.(1))=>`((.lst .(9)))
|`(.(2))=>`((ah X.prog X.w))
|`(.(3))=>`((pU .(7)))
|`(.(4))=>`((.int (n:Int)))
|`(.(5))=>`((kF (.int 1)))
|`(.(6))=>`((.str "abcdefghijklmnopqrstuvwxyz"))
|`(.(7))=>`((iX hr (vp 0) (iP)))
|`(.(8))=>`((.bl false))
|`(.(9))=>`((ns.map .int))
|`(.(10))=>`((kF (.int 0)))
|`(.(11))=>`((iX hr (vp 1) (iP)))
|`(.(12))=>`((x==("__debug__":Str)))
|`(.(13))=>`((∀b o,s.heap.get? b=some o->h'.get? b=some o))
|`(.(14))=>`((.ListComp elt [⟨tg,iter,ifs,0⟩] scope pos))
|`(.(15))=>`((.Name x xpos))
|`(.(16))=>`((false,eval a X.env))
|`(.(17))=>`((by simp;omega))
|`(.(18))=>`((kF (.int 2)))
|`(.(19))=>`((.lst [.str "mark",.str "tie",.str "same"]))
abbrev zFr:=PySem.W.Frag
abbrev zQ:=PySem.Value->PySem.Shared->Prop
abbrev zP:=List (PySem.Addr×PySem.Obj)
variable {h h':PySem.Heap}{o:PySem.Obj}{s:CB}{a b it p C f q:wx}{us its:List oa}{x y m qual cn:x6}{u doc pm cdv ct oc:oa}{P prog:PySem.Program}{w:PySem.World}{t' i c n j ep x1 k':Nat}{ch A fp B A0:List wx}{N l ps loose ks zs:List x6}{M:PySem.Model}{E:oa->CB->Prop}{e tg:CC}{pos pos' apos py spos tp xpos pos2 cpos:PySem.Pos}{π:List (wx×PySem.Obj)}{es:Array (Int×oa)}{body s1:List CD}{kw:List (x6×oa)}{env:PySem.Env}{mg:x6->Option oa}{fd:PySem.FuncData}{sc scope:PySem.Scope}{an od:Option wx}{osl:Array (Option oa)}{st:CD}{elts:List CC}
theorem zE_{α:Sort _}(a:α):a=a:=of_eq_true (eq_self a)
namespace PV
open PySem
section
variable {K:Type} [DecidableEq K] (kd:KeyKind prog w K)
inductive NkI (h:Heap):List (List K)->List ac->Prop
 |nil:NkI h [] []
 |cons {k:List K}{b:Addr}{ks:List (List K)}{vs:List ac}:IsTupleKey kd h k b->NkI h ks vs->NkI h (k::ks) (.ref b::vs)
def Nest(h:Heap)(ks:List (List K))(a:Addr):Prop:=∃o xs n,h.get? a=some o/\o.cls=.type "tuple"/\o.data=.seq xs n/\NkI kd h ks xs.toList
variable {kd}
theorem NkI.inj{h:Heap}{x y:List (List K)}{vs:List ac}(p:NkI kd h x vs):NkI kd h y vs->x=y:=by
 induction p generalizing y with
 |nil=>intro q;cases q;rfl
 |cons a _ ih=>intro q;cases q with | cons b t=>rw[a.inj b,ih t]
theorem NkI.kept{g:Heap}{d:Addr}{es ep}(ho:h.get? d=some o)(hd:o.data=.dict es ep)(hs:i7 d h g){x:List (List K)}{vs:List ac}(p:NkI kd h x vs):NkI kd g x vs:=by
 induction p with
 |nil=>exact .nil
 |cons a _ ih=>exact .cons (a.keeps ho hd hs) ih
theorem Nest.ty{ks:List (List K)}(x:Nest kd s.heap ks a):s.TypeIs (.ref a) "tuple":=let ⟨o,_,_,g,c,_⟩:=x;⟨o,g,c⟩
theorem Nest.inj{h:Heap}{a:Addr}{x y:List (List K)}(p:Nest kd h x a)(q:Nest kd h y a):x=y:=by
 obtain⟨o,us,n,g,_,d,i⟩:=p;obtain⟨o2,vs,m,g2,_,d2,i2⟩:=q;cases g.symm.trans g2;cases d.symm.trans d2;exact i.inj i2
theorem Nest.kept{h g:Heap}{ks:List (List K)}{a d:Addr}{o:Obj}{es ep}(x:Nest kd h ks a)(ho:h.get? d=some o)(hd:o.data=.dict es ep)(hs:i7 d h g):Nest kd g ks a:=by
 obtain⟨o2,us,n,g2,c,d2,i⟩:=x;refine⟨o2,us,n,(hs.2 a λz=>?_).trans g2,c,d2,i.kept ho hd hs⟩;subst z;cases ho.symm.trans g2;cases hd.symm.trans d2
def dW(kd:KeyKind prog w K)(ks:List (List K)):Int:=reduceHash (zP (ks.map (zQ kd)))
def YS(ks:List (List K)):Nat:=(ks.map λk=>k.length+1).sum+1
variable {A:ax}
theorem bU{ks:List (List K)}{Q:Int->af->Prop}(hu:A.units+1<bi)(hk:Nest kd s.heap ks a)(k:Q (dW kd ks) { s with toks:=s.toks+YS ks }):ag (ah prog w) A (pyHash (.ref a)) Q E s:=by
 have ty:=hk.ty;obtain⟨o,us,n,g,_,d,i⟩:=hk;unfold pyHash pyHashByItsType;refine ae (wpAny_cRoomFor_or (.inr (by omega)) ?_);refine ae (oe ty xa.lookup ?_);show ag _ _ (if (some (CF "tuple.__hash__")==some jp)=true then _ else _) Q E s;rw[if_neg (by rw[beq_builtin_none];exact cy)];refine ae (oe ty xa.lookup ?_);show ag _ _ (callSpecialIfBoundUnlessNone? (.ref a) "__hash__" _ >>= _) Q E s;refine ae (wpAny_callSpecialIfBoundUnlessNone?_slot ty xa (hJ xa ty F.entry_tuple_hash ?_ (F.args_tuple_hash_1 _)));show ag _ _ (CH (.ref a) >>= _) _ _ s;refine ae (zR g d ?_);refine ae ?_;rw[<-t4];refine xb _ (λr (b:Array Int) z=>∃p q,ks=p++q/\NkI kd s.heap q r/\b.toList=p.map (zQ kd)/\z={ s with toks:=s.toks+(p.map λk=>k.length+1).sum }) _ ?_ ?_ _ _ ⟨[],ks,rfl,i,rfl,rfl⟩
 .rintro x r b z ⟨p,q,rfl,il,hb,rfl⟩;cases il with
  | @cons m c q' _ im il'=>
   refine ae (wpAny_pyHash_tuple (s:={ s with toks:=s.toks+(p.map λk=>k.length+1).sum }) (show A.in1.units<bi from hu) im ?_);exact ai ⟨p++[m],q',by simp,il',by simp[hb],by simp[zS]⟩
 .rintro b z ⟨p,q,rfl,il,hb,rfl⟩;cases il;rw[eL] at k;show ag _ _ (retInt (zP b.toList)) _ _ _;rw[hb];refine wpAny_ret_mkInt ?_;generalize hz:zP (p.map (zQ kd))=y;unfold dW reduceHash YS at k;rw[hz] at k;show ag _ _ (if (decide (-(2:Int)^63<=y)&&decide (y<2^63))=true then _ else _) Q E _
  by_cases c:(decide (-(2:Int)^63<=y)&&decide (y<2^63))=true
  .rw[if_pos c] at k ⊢;exact ai (by simpa [zS] using k)
  .rw[if_neg c] at k ⊢;exact ae (og (ai (by simpa [zS] using k)))
theorem nQ{x y:List (List K)}{P:Fin->af->Prop}(hu:A.units<bi)(hx:Nest kd s.heap x a)(hy:Nest kd s.heap y b)(k:P (.done (.ret (.bool (decide (x=y))))) s):ag (ah prog w) A (d4.«tuple.__eq__» ⟨[.ref a,.ref b],[]⟩) P E s:=by
 have ty:=hy.ty;obtain⟨o,us,n,g,_,d,i⟩:=hx;obtain⟨o2,vs,m,g2,_,d2,i2⟩:=hy;show ag _ _ (xh (.ref b) (.type "tuple") >>= _) _ _ s;refine ae (oi ty zT ?_);simp only[kG,dv,if_false];refine ae (zR g d (ae (zR g2 d2 (ae ?_))));refine xb _ (λr q z=>q.1=none/\z=s/\∃x' y' us' vs',r=List.zip us' vs'/\NkI kd s.heap x' us'/\NkI kd s.heap y' vs'/\decide (x'=y')=decide (x=y)/\(us'.length==vs'.length)=(us.size==vs.size)) _ ?_ ?_ _ _ ⟨rfl,rfl,x,y,us.toList,vs.toList,rfl,i,i2,rfl,by simp⟩
 .rintro⟨u,v⟩ r q z ⟨e,rfl,x',y',us',vs',hz,hx',hy',hd,hl⟩;cases hx' with
  |nil=>simp at hz
  | @cons k1 b1 x2 us2 h1 t1=>
   cases hy' with
   |nil=>simp at hz
   | @cons k2 b2 y2 vs2 h2 t2=>
    simp only[List.zip_cons_cons,xi,xk] at hz;obtain⟨⟨rfl,rfl⟩,rfl⟩:=hz;refine ae (wpAny_eqBool_tuple hu h1 h2 ?_)
    by_cases c:k1=k2
    .subst c;rw[decide_eq_true rfl];simp only[kG,dv,if_false];refine ai ⟨rfl,rfl,x2,y2,us2,vs2,rfl,t1,t2,?_,by simpa using hl⟩;rw[<-hd]
     by_cases c2:x2=y2<;>simp[c2]
    .rw[decide_eq_false c];simp only[zU,if_true];have f:decide (x=y)=false:=by rw[<-hd];simp[c]
     rw[f] at k;exact ae (ai (ai (ai k)))
 .rintro⟨q1,q2⟩ z ⟨e,rfl,x',y',us',vs',hz,hx',hy',hd,hl⟩;simp only at e;subst e;refine ai ?_;have f:(us.size==vs.size)=decide (x=y):=by
   rw[<-hd,<-hl];cases hx' with
   |nil=>cases hy'<;>simp
   |cons _ _=>
    cases hy' with
    |nil=>simp
    |cons _ _=>simp at hz
  show P (.done (.ret (.bool (us.size==vs.size)))) z;rw[f];exact k
theorem nR{x y:List (List K)}{Q:Bool->af->Prop}(hu:A.units+1<bi)(hx:Nest kd s.heap x a)(hy:Nest kd s.heap y b)(k:Q (decide (x=y)) s):ag (ah prog w) A (eqBool (.ref a) (.ref b)) Q E s:=by
 unfold eqBool;refine wpAny_holding ?_;show ag _ _ (if (cw a==cw b)=true then _ else _) Q E s
 by_cases c:(cw a==cw b)=true
 .rw[if_pos c];have e:a=b:=by have:=eq_of_beq c;injection this
  subst e;cases hx.inj hy;exact ae (og (ai (by simpa using k)))
 .rw[if_neg c];exact ae (wpAny_richCompare_same_room (op:=.Eq) hx.ty hy.ty xl (hJ xl hx.ty F.entry_tuple_eq (nQ (show A.in1.units<bi from hu) hx hy ⟨_,rfl,(λe=>nomatch e),mP k⟩) (F.args_tuple_eq_2 _ _)) (by omega))
theorem dX(n:Nat){ks:List K}{a:Addr}{Q:Bool->af->Prop}(hk:IsTupleKey kd s.heap ks a)(k:Q true s):ag (ah prog w) A (xo (n+1) (.ref a)) Q E s:=by
 have ty:=hk.typeIs;obtain⟨o,us,m,g,_,d,i⟩:=hk;unfold xo;refine ae (oe ty xl.lookup ?_);show ag _ _ (xh (.ref a) (.type "tuple") >>= _) _ _ s;refine ae (oi ty zT ?_);simp only[kG,dv,if_false];refine ae (kg g d (ae ?_));show ag _ _ (forIn us _ _) _ _ s;rw[<-t4];refine xb _ (λr q z=>q.1=none/\z=s/\∀v∈r,carriedByValue v=true) _ ?_ ?_ _ _ ⟨rfl,rfl,i.byValue⟩
 .rintro v r q z ⟨e,rfl,al⟩;rw[eqIsQuiet_byValue _ (al v (by simp))];refine ae (ai ?_);simp only[kG,dv,if_false];exact ai ⟨rfl,rfl,λu hu=>al u (by simp[hu])⟩
 .rintro⟨q1,q2⟩ z ⟨e,rfl,_⟩;simp only at e;subst e;exact ai k
theorem YT(n:Nat){ks:List (List K)}{a:Addr}{Q:Bool->af->Prop}(hk:Nest kd s.heap ks a)(k:Q true s):ag (ah prog w) A (xo (n+2) (.ref a)) Q E s:=by
 have ty:=hk.ty;obtain⟨o,us,m,g,_,d,i⟩:=hk;unfold xo;refine ae (oe ty xl.lookup ?_);show ag _ _ (xh (.ref a) (.type "tuple") >>= _) _ _ s;refine ae (oi ty zT ?_);simp only[kG,dv,if_false];refine ae (kg g d (ae ?_));show ag _ _ (forIn us _ _) _ _ s;rw[<-t4];refine xb _ (λr q z=>q.1=none/\z=s/\∃ls,NkI kd s.heap ls r) _ ?_ ?_ _ _ ⟨rfl,rfl,_,i⟩
 .rintro v r q z ⟨e,rfl,ls,il⟩;cases il with
  |cons im il=>
   refine ae (dX n im ?_);simp only[kG,dv,if_false];exact ai ⟨rfl,rfl,_,il⟩
 .rintro⟨q1,q2⟩ z ⟨e,rfl,_⟩;simp only at e;subst e;exact ai k
end
def dY{prog:cE}{w:br}{K:Type}[DecidableEq K](kd:KeyKind prog w K):HeapKind prog w (List (List K)) where
 is:=Nest kd
 hash:=dW kd
 draws:=YS
 room:=λA=>A.units+1<bi
 inj:=λp q=>p.inj q
 keeps:=λx ho hd hs=>x.kept ho hd hs
 pyHash:=λhu hk k=>bU hu hk k
 eqBool:=λhu hx hy k=>nR hu hx hy k
 quiet:=λhk k=>YT 6 hk k
end PV
section
open PySem PySem.W PyProof.Rows
def L2.viewAt(p:cE)(ks:List Nat):cE:={ p with main:={ p.main with body:=ks.filterMap λi=>p.main.body[i]? } }
abbrev K52.R:=PySem.Challenge.rw_twinrounds_k52_portraits.row
def K52.vw:cE:=L2.viewAt IE [0,2,3,4,5,6,8,9,10,11,12,13,14,15,16,17,18,20,21,22,23,24,25,26,27,28,29,30,31,32,33,36,37,38,39,40,41,42,44,45,46,47,48,49,50,51,52,53,54,55,56,57,58,59,60,61,62]
namespace L2T
def runG(st:qr->Thread->Option (qr×Thread))(ok:Thread->Bool):Nat->qr->Thread->Option qr
 |0,_,_=>none
 |n+1,s,t=>match through t with
  |true=>some s
  |false=>match ok t with
   |false=>none
   |true=>match st s t with
    |some (s',t')=>runG st ok n s' t'
    |none=>none
theorem ZV{tb:String->Option d4}{p:cE}{w:br}{n₀:Nat}{ann:Option ac}:∀{n:Nat}{s s':qr}{t:Thread},runG (stepT (denote tb) p w) (stepOk n₀ ann) n s t=some s'->topRun tb p w n₀ ann n s.abs t=some s'.abs
 |0,_,_,_,h=>by cases h
 |n+1,s,s',t,h=>by
  unfold runG at h;unfold topRun;cases he:through t with
  |true=>rw[he] at h;cases h;rfl
  |false=>
   rw[he] at h;cases hk:stepOk n₀ ann t with
   |false=>rw[hk] at h;cases h
   |true=>
    rw[hk] at h;cases hs:stepT (denote tb) p w s t with
    |none=>rw[hs] at h;cases h
    |some r=>obtain⟨s₂,t₂⟩:=r;rw[hs] at h;rw[stepT_spec hs];exact ZV h
def treeOf(l:List Obj):BT:=(l.foldl (λ(a:BT×Nat) o=>(a.1.ins a.2 o,a.2+1)) (BT.nil,0)).1
noncomputable abbrev boot (w:br) (os:OsState):qr:=⟨treeOf (kH w.params).objs.toList,11,(kH w.params).life,xp [],xt,xv,os⟩
set_option maxHeartbeats 0 in
theorem boot_abs(w:br)(os:OsState):(boot w os).abs=⟨kH w.params,xp [],xt,xv,os⟩:=by kernel_rfl
set_option maxHeartbeats 0 in
theorem bV(w:br):((kH w.params).isNs eS,(kH w.params).objs.size)=(true,11):=by kernel_rfl
noncomputable abbrev ann (w:br):Option ac:=(kH w.params).nsMap eS "__annotations__"
noncomputable def fits(p:cE)(w:br)(s:af):Bool:=staticsOk (importedModules p.main.body) (kH w.params) s.heap&&namesBound p s.heap&&gensDone s&&laidKept (kH w.params) s.heap
theorem left{p:cE}{N:Nat}{α:Type}{f:af->α}{good:br->α}(hb:opening p=plainProg p.main.scope.names)(hf:∀s,fenceModules? p s=some s)(hN:Nat.ble 600 N=true)(h:∀(w:br) (os:OsState),(runG (Fast.tw10156331382660048174 (Fast.tw11892475500146522536 Fast.tw14364793385576792824) p w) (Fast.tw6613529449190102663 11 (ann w)) N (boot w os) (topStub p)).map (λs=>(fits p w s.abs,f s.abs))=some (true,good w))(w:br):(openEnds t5 p w N).map f=some (good w):=by
 obtain⟨⟨h0,gs,d,k,os⟩,e,e'⟩:=xw.mp (boot_open hb hN hf w);obtain⟨rfl,rfl,rfl,rfl⟩:h0=kH w.params/\gs=xp []/\d=xt/\k=xv:=by simpa using e'
 have h:=h w os;rw[<-Fast.te10156331382660048174,<-Fast.te11892475500146522536,<-Fast.te14364793385576792824,<-Fast.te6613529449190102663] at h;obtain⟨s1,r,q⟩:=xw.mp h;obtain⟨q1,q2⟩:=CI q;have t:=ZV r;rw[boot_abs] at t;obtain⟨b1,b2⟩:=CI (bV w);have g:topFrom t5 p w N ⟨kH w.params,xp [],xt,xv,os⟩=some s1.abs:=by
  unfold topFrom;dsimp only;rw[b1,b2];show (topRun t5 p w 11 (ann w) N _ (topStub p)).bind _=_;rw[t];show (match fits p w s1.abs with | true=>some s1.abs | false=>none)=_;rw[q1]
 unfold openEnds;rw[e];show (topFrom t5 p w N _).map f=_;rw[g];exact congrArg some q2
end L2T
section
local macro_rules | `(tactic| o_head $H) => `(tactic| exact ‹∀P : Prop, P› _)
set_option maxHeartbeats 0 in
theorem K52.side(hole:∀P:Prop,P):K52.R.Holds:=by
 k_head
end
def K52.as:List Addr:=[2,3,15,17,18,20,21,22,29,30,31,32,35,42,44,45,47,48,49,50,51,54,61,63,64,66,67,68,69,70,73,80,82,83,85,86,87,88,89,92,99,101,102,104,105,106,107,108,111,112,115,116,117,119,120,122,123,124,126,127,129,130,131,133,134,136,137,138,140,141,143,144,152,154,155,157,158,159,161,162,164,165,166,168,169,171,172,173,175,176,178,179,180,182,183,185,186,187,188,189,190,191,194,195,196,198,199,201,202,203,205,206,208,209,210,213,214,215,217,218,220,221,222,224,225,227,228,229,231,232,234,235,236,238,239,241,242,243,246,247,248,250,251,253,254,255,258,259,260,263,264,265,267,268,270,271,272,273,276,277,278,280,281,283,284,285,287,288,290,291,292,295,296,297,299,300,302,303,304,306,307,309,310,311,314,315,316,318,319,321,322,323,325,326,328,329,330,332,333,335,336,337,339,340,342,343,344,347,348,349,351,352,354,355,356,359,360,361,364,365,366,369,370,371,373,374,376,377,378,380,381,383,384,385,387,388,390,391,399,401,402,404,405,406,409,410,411,413,414,416,417,418,421,422,423,425,426,428,429,430,433,434,435,437,438,440,441]
set_option maxHeartbeats 0 in
theorem K52.as_ok:∀P,K52.as=(K52.side.heap_1 P).map (·.1):=λ_=>by kernel_rfl
noncomputable def K52.hook:Hook:=kHook K52.side.heap_1 K52.as K52.as_ok
set_option maxHeartbeats 0 in
theorem K52.look:LeftO K52.R.prog K52.vw [gi "is_so"] (λs=>xlAt K52.vw [] s&&recOk K52.R.records s) K52.hook.obs K52.hook.val 6000:=by
 rw[show LeftO K52.R.prog K52.vw [gi "is_so"] (λs=>xlAt K52.vw [] s&&recOk K52.R.records s) K52.hook.obs K52.hook.val 6000=∀w,(openEnds t5 K52.R.prog w 6000).map (λs=>(openSeen K52.vw [gi "is_so"] (importedModules K52.R.prog.main.body) (λs=>xlAt K52.vw [] s&&recOk K52.R.records s) true s,K52.hook.obs s))=some (openGood K52.vw [gi "is_so"],K52.hook.val w) from rfl,Fast.te4187177175401517315];exact L2T.left (by kernel_rfl) (λ_=>by kernel_rfl) rfl (λw os=>by kernel_rfl)
end
open Lean.Parser.Command in
local macro_rules | `(def $i:declId $s:optDeclSig $v:declVal)=>`(noncomputable def $i:declId $s:optDeclSig $v:declVal) | `(abbrev $i:declId $s:optDeclSig $v:declVal)=>`(noncomputable abbrev $i:declId $s:optDeclSig $v:declVal)
namespace L2
open PySem PySem.Spec PyProof.Rows
abbrev Key:=Sum Int Str
def Ud:Key->ac->Bool
 |.inl k,v=>CL k v
 |.inr x,v=>xy x v
def keyH(w:br):Key->Int
 |.inl k=>hashInt k
 |.inr x=>hashStr w x
theorem CW:∀{k:Key}{v:ac},Ud k v=true->(∃i t,k=oj i/\v=tf i t)∨(∃x t,k=ol x/\v=kK x t)
 |.inl i,v,h=>by
  obtain⟨t,e⟩:=Value.isInt_shape (k:=i) (v:=v) h;exact .inl ⟨i,t,rfl,e⟩
 |.inr x,v,h=>by
  obtain⟨t,e⟩:=CM (x:=x) (v:=v) h;exact .inr ⟨x,t,rfl,e⟩
theorem bW(i:Int)(t:Tok):Ud (.inl i) (.int i t)=true:=by simp[Ud,CL]
theorem bY(x:Str)(t:Tok):Ud (.inr x) (.str x t)=true:=by simp[Ud,xy]
theorem uM(a b:Int):decide ((oj a:Key)=oj b)=(a==b):=by
 by_cases e:a=b
 .subst e;simp
 .have h:¬ (oj a:Key)=oj b:=λq=>e (Sum.inl.inj q);rw[decide_eq_false h];exact (beq_eq_false_iff_ne.mpr e).symm
theorem uN(a b:Str):decide ((ol a:Key)=ol b)=decide (a=b):=by
 by_cases e:a=b
 .subst e;simp
 .have h:¬ (ol a:Key)=ol b:=λq=>e (zV q);rw[decide_eq_false h,decide_eq_false e]
theorem uO(a:Int)(b:Str):decide ((oj a:Key)=ol b)=false:=decide_eq_false (λq=>nomatch q)
theorem uP(a:Str)(b:Int):decide ((ol a:Key)=oj b)=false:=decide_eq_false (λq=>nomatch q)
def Av(prog:cE)(w:br):PySem.KeyKind prog w Key where
 is:=Ud
 hash:=keyH w
 inj:=λv a b ha hb=>by
  rcases CW ha with ⟨i,t,rfl,rfl⟩ | ⟨x,t,rfl,rfl⟩
  .rcases CW hb with ⟨j,u,rfl,e⟩ | ⟨y,u,rfl,e⟩
   .injection e with e1 _;rw[e1]
   .exact nomatch e
  .rcases CW hb with ⟨j,u,rfl,e⟩ | ⟨y,u,rfl,e⟩
   .exact nomatch e
   .injection e with e1 _;rw[e1]
 byValue:=λk v h=>by
  rcases CW h with ⟨i,t,rfl,rfl⟩ | ⟨x,t,rfl,rfl⟩<;>rfl
 pyHash:=λhv h=>by
  rcases CW hv with ⟨i,t,rfl,rfl⟩ | ⟨x,t,rfl,rfl⟩
  .exact wpAny_pyHash_int h
  .exact wpAny_pyHash_str h
 eqBool:=λhu hv h=>by
  rcases CW hu with ⟨i,t,rfl,rfl⟩ | ⟨x,t,rfl,rfl⟩
  .rcases CW hv with ⟨j,u,rfl,rfl⟩ | ⟨y,u,rfl,rfl⟩
   .rw[uM] at h;exact wpAny_eqBool_int h
   .rw[uO] at h;exact CO i t y u _ _ _ _ h
  .rcases CW hv with ⟨j,u,rfl,rfl⟩ | ⟨y,u,rfl,rfl⟩
   .rw[uP] at h;exact CS x t j u _ _ _ _ h
   .rw[uN] at h;exact wpAny_eqBool_str h
 «strs»:=λk x t v h=>by
  rcases CW h with ⟨i,u,rfl,e⟩ | ⟨y,u,rfl,e⟩
  .exact nomatch e
  .injection e with e1 _
   subst e1;cases v<;>rfl
theorem Wh(prog:cE)(w:br)(i:Int)(t:Tok):(Av prog w).is (.inl i) (.int i t)=true:=bW i t
theorem Wi(prog:cE)(w:br)(x:Str)(t:Tok):(Av prog w).is (.inr x) (.str x t)=true:=bY x t
inductive V where
 |non | bl (b:Bool) | int (i:Int) | str (x:Str) | byt (b:Array UInt8) | flt (b:UInt64) | ref (a:Addr) | ty (n:String)
 deriving DecidableEq
def RelV:V->ac->Prop
 |.non,u=>u=jp
 |.bl b,u=>u=om b
 |.int i,u=>∃t,u=tf i t
 |.str x,u=>∃t,u=kK x t
 |.byt b,u=>∃t,u=CU b t
 |.flt b,u=>∃t,u=zW b t
 |.ref a,u=>u=cw a
 |.ty n,u=>u=xB n
abbrev Vals:List V->List ac->Prop:=mS RelV
theorem Vals.length{xs:List V}{us:List ac}(r:Vals xs us):xs.length=us.length:=xC r
theorem Vals.get:∀{xs:List V}{us:List ac}{i:Nat}{x:V},Vals xs us->xs[i]?=some x->∃u,us[i]?=some u/\RelV x u
 |_,_,_,_,.nil,e=>by simp at e
 |_,_,0,_,.cons r _,e=>by simp at e;subst e;exact⟨_,rfl,r⟩
 |_,_,i+1,x,.cons _ t,e=>by
  obtain⟨u,h1,h2⟩:=Vals.get (i:=i) (x:=x) t (by simpa using e);exact⟨u,by simpa using h1,h2⟩
theorem Vals.set{x:V}{u:ac}(r:RelV x u):∀{xs:List V}{us:List ac}(i:Nat),Vals xs us->Vals (xs.set i x) (us.set i u)
 |_,_,_,.nil=>.nil
 |_,_,0,.cons _ t=>.cons r t
 |_,_,i+1,.cons q t=>.cons q (Vals.set r i t)
theorem Vals.append:∀{xs ys:List V}{us ws:List ac},Vals xs us->Vals ys ws->Vals (xs++ys) (us++ws)
 |_,_,_,_,.nil,s=>s
 |_,_,_,_,.cons r t,s=>.cons r (Vals.append t s)
theorem Vals.take:∀{xs:List V}{us:List ac}(n:Nat),Vals xs us->Vals (xs.take n) (us.take n)
 |_,_,0,_=>.nil
 |_,_,_+1,.nil=>.nil
 |_,_,n+1,.cons r t=>.cons r (Vals.take n t)
theorem Vals.drop:∀{xs:List V}{us:List ac}(n:Nat),Vals xs us->Vals (xs.drop n) (us.drop n)
 |_,_,0,r=>r
 |_,_,_+1,.nil=>.nil
 |_,_,n+1,.cons _ t=>Vals.drop n t
def RelO:Option V->Option ac->Prop
 |some v,some u=>RelV v u
 |none,none=>True
 |_,_=>False
def KV{κ:Type}:List (κ×V)->List (κ×ac)->Prop:=mS λ(p:κ×V) (q:κ×ac)=>p.1=q.1/\RelV p.2 q.2
def kV:Key->V
 |.inl i=>.int i
 |.inr x=>.str x
inductive HO where
 |lst (xs:List V)
 |tup (xs:List V)
 |dK (kvs:List (Key×V)) | dT (kvs:List (List Key×V))
 |set (S:Int->Bool) (n:Nat)
 |ins (C dx:Addr) (fs:List (Str×V))
 |own (x:Addr)
 |xd (fs:List (Str×V))
 |met (f x:Addr)
 |rng (lo hi:Int)
 |frz (o:Obj) (u:HO)
 |tbl (ps:Array ac)
 |ext (φ:Heap->Prop)
 |mem (F:List (List Key)->Int) (K:ay)
abbrev Hp:=Addr->Option HO
def upd(H:Hp)(a:Addr)(o:HO):Hp:=λb=>if b=a then some o else H b
theorem Ak{H:Hp}{o:HO}:upd H a o a=some o:=by unfold upd;rw[if_pos rfl]
theorem Aq{H:Hp}{o:HO}(h:b≠a):upd H a o b=H b:=by unfold upd;rw[if_neg h]
theorem rO{H:Hp}{o u:HO}(h:H a=some o)(h':H b=some u)(d:o≠u):a≠b:=by
 intro e;subst e;rw[h] at h';exact d (cq h')
theorem DG{H:Hp}{o:HO}(h:H a=some o)(h':H b=none):a≠b:=by
 intro e;subst e;rw[h] at h';cases h'
def TupAt(K:ay)(H:Hp)(a:Addr)(xs:List V):Prop:=(H a=some (.tup xs)∨∃o,H a=some (.frz o (.tup xs))) ∨
 ∃(o:Obj) (its:Array ac) (n:Nat),K.lookup a=some o/\o.cls=.type "tuple"/\o.data=.seq its n/\its.size<=sizeLine/\Vals xs its.toList
def MemK(K:ay)(H:Hp)(ks:List (List Key))(b:Addr):Prop:=∃bs:List Addr,TupAt K H b (bs.map V.ref)/\mS (λk c=>TupAt K H c (k.map kV)) ks bs
def Kin(ks:List (List Key)):Prop:=∃ps:List (Nat×Nat),ks=ps.map (λp=>[.inl (p.1:Int),.inl (p.2:Int)])/\ps.length<=5/\∀p∈ps,p.1<5/\p.2<5
def Tu:HO->Prop
 |.tup _=>True
 |.frz _ (.tup _)=>True
 |_=>False
section
variable (P:cE) (w:br)
def Bc(H:Hp)(h:Heap)(a:Addr):HO->Prop
  |.mem F K=>(a==fq)=false/\∃xs:List (List (List Key)×Addr×ac),(∀q∈xs,MemK K H q.1 q.2.1/\Kin q.1/\RelV (.int (F q.1)) q.2.2) ∧
      ∃o es ep,h.get? a=some o/\o.ExactDict/\o.data=.dict es ep/\es.toList=xs.map (xD (PV.dY (Av P w)))/\(xs.map (·.1)).Nodup
  |.lst xs=>xs.length<=sizeLine/\∃(its:List ac) (n:Nat),Vals xs its/\h.get? a=some { cls:=.type "list",data:=.seq its.toArray n }
  |.tup xs=>xs.length<=sizeLine/\∃its:List ac,Vals xs its/\IsTup h a its.toArray
  |.dK kvs=>kvs.length<=sizeLine/\(a==fq)=false/\∃vs,KV kvs vs/\h.DictOf (Av P w) a vs
  |.dT kvs=>kvs.length<=sizeLine/\(a==fq)=false/\∃xs:List (List Key×Addr×ac),
      mS (λ(p:List Key×V) (q:List Key×Addr×ac)=>p.1=q.1/\H q.2.1=some (.tup (p.1.map kV))/\RelV p.2 q.2.2) kvs xs ∧
      ∃o es ep,h.get? a=some o/\o.ExactDict/\o.data=.dict es ep/\es.toList=xs.map (xD (oy (Av P w)))/\(xs.map (·.1)).Nodup
  |.set S n=>h.SetOf (intKind P w) a S n
  |.ins C dx fs=>H dx=some (.own a)/\fs.length<=1000/\dx≠a/\h.get? a=some (mT C dx) ∧
      ∃mA,h.Ns1 dx mA/\(∀f,RelO (fs.lookup f) (mA f))/\zX mA (fs.map (·.1))
  |.own _=>∃o,h.get? a=some o
  |.xd fs=>∃mA,h.Ns1 a mA/\∀f,RelO (fs.lookup f) (mA f)
  |.rng lo hi=>∃t u v,h.get? a=some { cls:=.type "range",data:=.fields #[.int lo t,.int hi u,.int 1 v] }
  |.frz o u=>h.get? a=some o/\Bc H h a u
  |.tbl ps=>h.get? a=some { cls:=.none,data:=.fields ps }
  |.met f x=>h.get? a=some (zY (.ref f) (.ref x))
  |.ext φ=>φ h/\(∃o,h.get? a=some o)/\∀h1 h2:Heap,φ h1->(∀o,h1.get? a=some o->h2.get? a=some o)->φ h2
def HOk(H:Hp)(h:Heap):Prop:=∀a o,H a=some o->Bc P w H h a o
end
section
variable {H H':Hp}{o:HO}
theorem Bc.lt(x:Bc P w H h a o):a<h.objs.size:=by
 cases o with
 |mem F K=>obtain⟨_,_,_,o,_,_,e,_⟩:=x;exact aT e
 |lst xs=>obtain⟨_,_,_,_,e⟩:=x;exact aT e
 |tup xs=>obtain⟨_,_,_,p⟩:=x;exact p.lt
 |dK kvs=>obtain⟨_,_,_,_,o,_,_,e,_⟩:=x;exact aT e
 |dT kvs=>obtain⟨_,_,_,_,o,_,_,e,_⟩:=x;exact aT e
 |set S n=>obtain⟨o,_,_,_,e,_⟩:=x;exact aT e
 |ins C dx fs=>obtain⟨_,_,_,e,_⟩:=x;exact aT e
 |own y=>obtain⟨_,e⟩:=x;exact aT e
 |xd fs=>obtain⟨_,⟨_,_,_,e,_⟩,_⟩:=x;exact aT e
 |rng lo hi=>obtain⟨_,_,_,e⟩:=x;exact aT e
 |frz ob u=>obtain⟨e,_⟩:=x;exact aT e
 |tbl ps=>exact aT (show h.get? a=some _ from x)
 |met f y=>exact aT (show h.get? a=some _ from x)
 |ext φ=>obtain⟨_,⟨_,e⟩,_⟩:=x;exact aT e
theorem Paired.mapP{α β:Type}{F G:α->β->Prop}:∀{l₁:List α}{l₂:List β},mS F l₁ l₂->(∀a b,F a b->G a b)->mS G l₁ l₂
 |_,_,.nil,_=>.nil
 |_,_,.cons r t,f=>.cons (f _ _ r) (Paired.mapP t f)
theorem Bc.stay(x:Bc P w H h a o)(k:∀b u,(b=a∨H b=some (.own a))->h.get? b=some u->h'.get? b=some u)(ho:∀b,H b=some (.own a)->H' b=some (.own a))(ht:∀b o,Tu o->H b=some o->H' b=some o):Bc P w H' h' a o:=by
 have tp:∀{K:ay}{b:Addr}{xs:List V},TupAt K H b xs->TupAt K H' b xs:=λ{K b xs} z=>by
  rcases z with (z | ⟨o,z⟩) | z
  .exact .inl (.inl (ht b _ trivial z))
  .exact .inl (.inr ⟨o,ht b _ trivial z⟩)
  .exact .inr z
 induction o with
 |mem F K=>
  obtain⟨y,xs,al,ob,es,ep,e,c⟩:=x;exact⟨y,xs,λq hq=>by
   obtain⟨⟨bs,z1,z2⟩,z3⟩:=al q hq;exact⟨⟨bs,tp z1,Paired.mapP z2 λ_ _ z=>tp z⟩,z3⟩,ob,es,ep,k _ _ (.inl rfl) e,c⟩
 |lst xs=>obtain⟨z,its,n,r,e⟩:=x;exact⟨z,its,n,r,k _ _ (.inl rfl) e⟩
 |tup xs=>obtain⟨z,its,r,ob,e,c⟩:=x;exact⟨z,its,r,ob,k _ _ (.inl rfl) e,c⟩
 |dK kvs=>obtain⟨z,y,vs,r,ob,es,ep,e,c⟩:=x;exact⟨z,y,vs,r,ob,es,ep,k _ _ (.inl rfl) e,c⟩
 |dT kvs=>
  obtain⟨z,y,xs,r,ob,es,ep,e,c⟩:=x;exact⟨z,y,xs,Paired.mapP r λp q z=>⟨z.1,ht _ _ trivial z.2.1,z.2.2⟩,ob,es,ep,k _ _ (.inl rfl) e,c⟩
 |set S n=>obtain⟨ob,es,ep,t,e,c⟩:=x;exact⟨ob,es,ep,t,k _ _ (.inl rfl) e,c⟩
 |ins C dx fs=>
  obtain⟨d,z,ne,e,mA,⟨od,es,ep,e2,c⟩,r⟩:=x;exact⟨ho _ d,z,ne,k _ _ (.inl rfl) e,mA,⟨od,es,ep,k _ _ (.inr d) e2,c⟩,r⟩
 |own y=>obtain⟨ob,e⟩:=x;exact⟨ob,k _ _ (.inl rfl) e⟩
 |xd fs=>obtain⟨mA,⟨od,es,ep,e,c⟩,r⟩:=x;exact⟨mA,⟨od,es,ep,k _ _ (.inl rfl) e,c⟩,r⟩
 |rng lo hi=>obtain⟨t,u,v,e⟩:=x;exact⟨t,u,v,k _ _ (.inl rfl) e⟩
 |frz ob u ih=>obtain⟨e,q⟩:=x;exact⟨k _ _ (.inl rfl) e,ih q⟩
 |tbl ps=>
  have e:h.get? a=some { cls:=.none,data:=.fields ps }:=x;show h'.get? a=some { cls:=.none,data:=.fields ps };exact k a _ (.inl rfl) e
 |met f y=>
  have e:h.get? a=some (zY (.ref f) (.ref y)):=x;show h'.get? a=some (zY (.ref f) (.ref y));exact k a _ (.inl rfl) e
 |ext φ=>obtain⟨p,⟨o,e⟩,st⟩:=x;exact⟨st _ _ p λo q=>k _ _ (.inl rfl) q,⟨o,k _ _ (.inl rfl) e⟩,st⟩
theorem HOk.lt(x:HOk P w H h)(e:H a=some o):a<h.objs.size:=(x a o e).lt
theorem HOk.fresh(x:HOk P w H h)(e:h.objs.size<=a):H a=none:=by
 cases q:H a with
 |none=>rfl
 |some u=>exact absurd (f6 (x.lt q) e) (oB _)
theorem HOk.kept(x:HOk P w H h)(k:∀b u,h.get? b=some u->h'.get? b=some u):HOk P w H h':=λa o e=>
 (x a o e).stay (λb u _ q=>k b u q) (λ_ q=>q) λ_ _ _ q=>q
theorem HOk.laid(x:HOk P w H h)(k:∀b u,h.get? b=some u->h'.get? b=some u)(hp:h.objs.size<=a)(new:Bc P w (upd H a o) h' a o):HOk P w (upd H a o) h':=λb u e=>by
 have hn:=x.fresh hp
 by_cases hb:b=a
 .subst hb;rw[Ak] at e;cases e;exact new
 .rw[Aq hb] at e;exact (x b u e).stay (λc v _ q=>k c v q) (λc q=>by rw[Aq (DG q hn)];exact q) λc xs _ q=>by rw[Aq (DG q hn)];exact q
end
def Rd(H:Hp)(a:Addr)(u:HO):Prop:=H a=some u∨∃o,H a=some (.frz o u)
theorem Rd.of{H:Hp}{u:HO}(h:H a=some u):Rd H a u:=.inl h
theorem Rd.ok{H:Hp}{u:HO}(r:Rd H a u)(x:HOk P w H h):Bc P w H h a u:=by
 rcases r with r | ⟨o,r⟩
 .exact x a u r
 .obtain⟨_,q⟩:=x a _ r;exact q
def Mut:Option HO->Prop
 |some (.lst _)=>True
 |some (.dK _)=>True
 |some (.dT _)=>True
 |some (.set _ _)=>True
 |some (.ins _ _ _)=>True
 |some (.ext _)=>True
 |some (.mem _ _)=>True
 |_=>False
section
variable {H:Hp}{x e:Addr}{o':HO}
theorem HOk.write(ok:HOk P w H h)(mu:Mut (H x))(he:e=x∨H e=some (.own x))(k:∀b u,b≠e->h.get? b=some u->h'.get? b=some u)(heo:∃u,h'.get? e=some u)(new:Bc P w (upd H x o') h' x o'):HOk P w (upd H x o') h':=λb u q=>by
 have nown:∀c y,H c=some (.own y)->c≠x:=λc y r z=>by subst z;rw[r] at mu;exact mu
 have ntup:∀c o,Tu o->H c=some o->c≠x:=λc o tu r z=>by
  subst z;rw[r] at mu;cases o with
  |tup xs=>exact mu
  |frz p u=>exact mu
  |_=>exact tu
 by_cases hb:b=x
 .subst hb;rw[Ak] at q;cases q;exact new
 .rw[Aq hb] at q
  by_cases hbe:b=e
  .have q':H b=some (.own x):=by
    rcases he with z | z
    .exact absurd (hbe.trans z) hb
    .rw[hbe];exact z
   rw[q] at q';cases q';obtain⟨v,hv⟩:=heo;exact⟨v,by rw[hbe];exact hv⟩
  .refine (ok b u q).stay (λc v hc r=>k c v ?_ r) (λc r=>by rw[Aq (nown c b r)];exact r) λc xs tu r=>by rw[Aq (ntup c xs tu r)];exact r
   rcases hc with rfl | hc
   .exact hbe
   .rintro rfl
    rcases he with z | z
    .exact nown c b hc z
    .rw[hc] at z;cases z;exact hb rfl
end
structure Un (fs ex:List Addr) (H H':Hp) (h h':Heap):Prop where
 keep:∀b o,h.get? b=some o->H b=none->b∉fs->b∉ex->h'.get? b=some o
 slot:∀b o,h.get? b=some o->H b=none->b∈fs->b∉ex->∃sl,h'.get? b=some { o with slots:=sl }
 free:∀b o,h.get? b=some o->H b=none->b∉ex->H' b=none
 there:∀b o,h.get? b=some o->b∉ex->∃o',h'.get? b=some o'
 tups:∀b xs,H b=some (.tup xs)->H' b=some (.tup xs)
 frzs:∀b o u,H b=some (.frz o u)->H' b=some (.frz o u)
 tbls:∀b ps,H b=some (.tbl ps)->∃more,H' b=some (.tbl (ps++more))
section
variable {fs fs' ex ex':List Addr}{H H1 H2:Hp}{h1 h2:Heap}{x e:Addr}{o:HO}
theorem Un.any(u:Un fs ex H H1 h h1){b:Addr}{ob:Obj}(q:h.get? b=some ob)(n:H b=none)(hx:b∉ex):∃sl,h1.get? b=some { ob with slots:=sl }:=by
 by_cases hb:b∈fs
 .exact u.slot b ob q n hb hx
 .exact⟨ob.slots,u.keep b ob q n hb hx⟩
theorem Un.kept(k:∀b u,h.get? b=some u->h'.get? b=some u):Un fs ex H H h h':=
 ⟨λb ob q _ _ _=>k b ob q,λb ob q _ _ _=>⟨ob.slots,k b ob q⟩,λ_ _ _ n _=>n,λb ob q _=>⟨ob,k b ob q⟩,λ_ _ q=>q,λ_ _ _ q=>q,λ_ ps q=>⟨#[],by rw[q];simp⟩⟩
theorem Un.refl:Un fs ex H H h h:=Un.kept λ_ _ q=>q
theorem Un.laid(k:∀b u,h.get? b=some u->h'.get? b=some u)(hp:h.objs.size<=a)(hn:H a=none):Un fs ex H (upd H a o) h h' where
 keep:=λb u q _ _ _=>k b u q
 slot:=λb u q _ _ _=>⟨u.slots,k b u q⟩
 free:=λb u q n _=>by rw[Aq (bg (f6 (aT q) hp))];exact n
 there:=λb u q _=>⟨u,k b u q⟩
 tups:=λb xs q=>by rw[Aq (DG q hn)];exact q
 frzs:=λb u xs q=>by rw[Aq (DG q hn)];exact q
 tbls:=λb ps q=>⟨#[],by rw[Aq (DG q hn),q];simp⟩
theorem Un.write(mu:Mut (H x))(he:e=x∨H e=some (.own x))(k:∀b u,b≠e->h.get? b=some u->h'.get? b=some u)(heo:∃u,h'.get? e=some u):Un fs ex H (upd H x o) h h':=by
 have hx:∀b,H b=none->b≠x:=λb n z=>by subst z;rw[n] at mu;exact mu
 have hb:∀b,H b=none->b≠e:=λb n z=>by
  subst z
  rcases he with r | r
  .exact hx b n r
  .rw[n] at r;cases r
 have hm:∀b u,H b=some u->¬ Mut (some u)->b≠x:=λb u q nm z=>by subst z;rw[q] at mu;exact nm mu
 refine⟨λb u q n _ _=>k b u (hb b n) q,λb u q n _ _=>⟨u.slots,k b u (hb b n) q⟩,λb u q n _=>by rw[Aq (hx b n)];exact n,λb u q _=>?_,
  λb xs q=>by rw[Aq (hm b _ q λz=>z)];exact q,λb u xs q=>by rw[Aq (hm b _ q λz=>z)];exact q,λb ps q=>⟨#[],by rw[Aq (hm b _ q λz=>z),q];simp⟩⟩
 by_cases hbe:b=e
 .subst hbe;exact heo
 .exact⟨u,k b u hbe q⟩
end
def trk(h:Heap)(H:Hp):List Addr:=(av h.objs.size).filter λa=>(H a).isSome
def hidT(h:Heap)(H:Hp):Heap:=PySem.W.hideAll h (trk h H)
theorem bZ(h:Heap)(H:Hp):(hidT h H).objs.size=h.objs.size:=PySem.W.hideAll_size _ _
theorem dZ{H:Hp}(e:h.get? b=some o)(n:H b=none):(hidT h H).get? b=some o:=
 PySem.W.hideAll_get _ e λhm=>by
  have q:(H b).isSome=true:=(eC.mp hm).2;rw[n] at q;simp at q
theorem nU{H:Hp}(e:(hidT h H).get? b=some o):h.get? b=some o/\H b=none:=by
 have e':h.get? b=some o:=PySem.W.of_hideAll (trk h H) e;refine⟨e',?_⟩;cases q:H b with
 |none=>rfl
 |some x=>
  have hm:b∈trk h H:=eC.mpr ⟨bv.mpr (aT e'),by simp[q]⟩;have z:(hidT h H).get? b=none:=PySem.W.hideAll_none (trk h H) hm;rw[z] at e;cases e
def nY(g h:Heap)(L:Addr):List (Addr×Obj):=(av h.objs.size).filterMap λa=>if a=L∨(g.get? a).isSome=true then none else (h.get? a).map λo=>(a,o)
def rest(g h:Heap)(L d:Addr):List (Addr×Obj):=(nY g h L).filter λp=>decide (p.1≠d)
structure Mod (K:ay) (mg:Str->Option ac) (base:Heap):Prop where
 kin:K.In base
 glob:base.Ns eS mg
 blt:∃mb,base.Ns zZ mb/\∀x:Str,x≠"__name__"->mb x=cr x
 nolimit:base.NoLimit
structure Cx where
 prog:cE
 w:br
 K:ay
 mg:Str->Option ac
 base:Heap
 A:ax
 N:List Str
 s₀:af
 H₀:Hp
 env:Env
 outer:List Env
 stack:List Env
 ex:List Addr
 fn:Str->Bool
 calm:Bool
 pn:List (Addr×Obj)
 xe:ac->af->Prop
def frs(l:List Env):List Addr:=l.filterMap (·.frame)
abbrev Cx.fs (X:Cx):List Addr:=frs X.outer
def Vis(sc:ki)(x:Str):Prop:=sc.names.lookup x=some .local ∨sc.names.lookup x=some .cell ∨sc.names.lookup x=some .free
def Loc(sc:ki)(x:Str):Prop:=sc.names.lookup x=some .local ∨sc.names.lookup x=some .cell
def Look(env:Env)(h:Heap)(m:Str->Option ac)(x:Str)(u:ac):Prop:=
 (env.kindOf x=some .local /\m x=some u)∨((env.kindOf x=some .cell ∨env.kindOf x=some .free)/\∃c,env.cells.lookup x=some c/\h.IsCell c (some u))
structure Cx.Ok (X:Cx):Prop where
 mod:Mod X.K X.mg X.base
 kind:X.env.scope.kind=.function
 glob:X.env.globals=eS
 blt:X.env.builtins=zZ
 above:X.s₀.heap.objs.size<=X.env.locals
 inj:∀x y c,X.env.cells.lookup x=some c->X.env.cells.lookup y=some c->x=y
 has:∀x,(X.env.kindOf x=some .cell ∨X.env.kindOf x=some .free)->∃c,X.env.cells.lookup x=some c
 cab:∀x c,X.fn x=true->X.env.cells.lookup x=some c->X.s₀.heap.objs.size<=c
 hd:X.calm=true->X.A.handled=none
 frames:X.A.frames=some X.stack
 stk:X.stack=X.outer∨(X.stack=X.env::X.outer/\X.env.frame=some X.env.locals)
 exf:∀b∈X.ex,b≠X.env.locals/\∀x c,X.env.cells.lookup x=some c->c≠b
 bs:∀b o,X.base.get? b=some o->X.s₀.heap.get? b=some o/\X.H₀ b=none
 bsz:X.base.objs.size<=X.s₀.heap.objs.size
 noex:∀b o,X.base.get? b=some o->b∉X.ex
 exfs:∀b∈X.ex,b∉X.fs
 funs:X.s₀.heap.FunFrames X.base X.outer
 frf:∀b∈X.fs,X.H₀ b=none
structure Inv (X:Cx) (π:zP) (σ:List (Option V)) (H:Hp) (s:af):Prop where
 ok:X.Ok
 os:s.os=X.s₀.os
 bare:kL s.gens
 base:Un X.fs X.ex X.H₀ H X.s₀.heap s.heap
 loc:∃m,s.heap.Ns X.env.locals m/\∀(i:Nat) (x:Str) (v:V),X.N[i]?=some x->σ[i]?=some (some v)->Vis X.env.scope x->∃u,RelV v u/\Look X.env s.heap m x u
 cell:∀x c,X.env.cells.lookup x=some c->∃v,s.heap.IsCell c v
 free:H X.env.locals=none
 freeC:∀x c,X.env.cells.lookup x=some c->H c=none
 pin:∀p∈X.pn++π,s.heap.get? p.1=some p.2/\H p.1=none/\p.1≠X.env.locals/\p.1∉X.fs/\∀v,p.2.data≠.cell v
 hok:HOk X.prog X.w H s.heap
 len:σ.length=X.N.length
section
variable {X:Cx}{σ:List (Option V)}{H H':Hp}
theorem Cx.Ok.nofr(ok:X.Ok){b:Addr}{o:Obj}(e:X.base.get? b=some o):b∉X.fs:=λhb=>by
 have:=(ok.funs.mem hb).1;rw[e] at this;cases this
theorem Inv.bs(I:Inv X π σ H s):∀b o,X.base.get? b=some o->s.heap.get? b=some o/\H b=none:=λb o e=>
 ⟨I.base.keep b o (I.ok.bs b o e).1 (I.ok.bs b o e).2 (I.ok.nofr e) (I.ok.noex b o e),I.base.free b o (I.ok.bs b o e).1 (I.ok.bs b o e).2 (I.ok.noex b o e)⟩
theorem Inv.bk(I:Inv X π σ H s):∀b o,X.base.get? b=some o->s.heap.get? b=some o:=λb o e=>(I.bs b o e).1
theorem Inv.mod(I:Inv X π σ H s):Mod X.K X.mg X.base:=I.ok.mod
theorem Inv.kIn(I:Inv X π σ H s):X.K.In s.heap:=I.ok.mod.kin.keeps I.bk
theorem Inv.lt(I:Inv X π σ H s):X.env.locals<s.heap.objs.size:=let ⟨_,hn,_⟩:=I.loc;hn.lt
theorem Inv.sz(I:Inv X π σ H s):X.s₀.heap.objs.size<=s.heap.objs.size:=ck I.ok.above (oC I.lt)
theorem Inv.nofs(I:Inv X π σ H s){a:Addr}(h:s.heap.objs.size<=a):a∉X.fs:=λhb=>by
 obtain⟨_,o,ho,_⟩:=I.ok.funs.mem hb;exact absurd (f6 (aT ho) (ck I.sz h)) (oB _)
theorem Inv.cne(I:Inv X π σ H s):∀x c,X.env.cells.lookup x=some c->c≠X.env.locals:=λx c e z=>by
 obtain⟨v,o,ho,hd⟩:=I.cell x c e;obtain⟨m,⟨o',es,ep,ho',hd',_⟩,_⟩:=I.loc;rw[z,ho'] at ho;cases ho;rw[hd'] at hd;cases hd
theorem Inv.funs(I:Inv X π σ H s):s.heap.FunFrames X.base X.outer:=by
 have all:∀(l:List Env),(∀b∈frs l,b∈X.fs)->X.s₀.heap.FunFrames X.base l->s.heap.FunFrames X.base l:=by
  intro l
  induction l with
  |nil=>intro _ _;trivial
  |cons env r ih=>
   intro hs hl;obtain⟨hk,⟨L,o,hf,hn,ho,hd⟩,hr⟩:=hl;have hL:L∈X.fs:=hs L (by unfold frs;rw[A3,hf];exact cS);obtain⟨sl,e⟩:=I.base.slot L o ho (I.ok.frf L hL) hL λz=>I.ok.exfs L z hL;exact⟨hk,⟨L,_,hf,hn,e,hd⟩,ih (λb hb=>hs b (by unfold frs;rw[A3,hf];exact bE _ hb)) hr⟩
 exact all X.outer (λ_ hb=>hb) I.ok.funs
theorem Inv.stack(I:Inv X π σ H s):s.heap.FunFrames X.base X.stack:=by
 rcases I.ok.stk with e | ⟨e,hf⟩
 .rw[e];exact I.funs
 .rw[e];obtain⟨m,hn,_⟩:=I.loc;refine .cons (by rw[I.ok.kind];decide) hf hn ?_ I.funs;exact Heap.get?_none_of_le (ck I.ok.bsz I.ok.above)
theorem Inv.stkSub(I:Inv X π σ H s):∀b∈frs X.stack,b∈X.env.locals::X.fs:=λb hb=>by
 rcases I.ok.stk with e | ⟨e,hf⟩
 .rw[e] at hb;exact bE _ hb
 .rw[e] at hb;unfold frs at hb;rw[A3,hf] at hb;exact hb
theorem Inv.stkFree(I:Inv X π σ H s):∀b∈frs X.stack,H b=none:=λb hb=>by
 rcases bb.mp (I.stkSub b hb) with e | hb
 .rw[e];exact I.free
 .obtain⟨_,o,ho,_⟩:=I.ok.funs.mem hb;exact I.base.free b o ho (I.ok.frf b hb) λz=>I.ok.exfs b z hb
theorem Inv.step{g':Array GenState}{d':Drawn}(I:Inv X π σ H s)(hch:∀b∈ch,(b∈X.ex∨X.s₀.heap.objs.size<=b)/\b≠X.env.locals/\(∀x c,X.env.cells.lookup x=some c->c≠b)/\∀p∈X.pn++π,p.1≠b)(keep:∀b o,b≠X.env.locals->b∉X.fs->b∉ch->s.heap.get? b=some o->H b=none->h'.get? b=some o)(slot:∀b o,b≠X.env.locals->b∈X.fs->b∉ch->s.heap.get? b=some o->H b=none->∃sl,h'.get? b=some { o with slots:=sl })(free:∀b o,b∉ch->s.heap.get? b=some o->H b=none->H' b=none)(there:∀b o,b∉ch->s.heap.get? b=some o->∃o',h'.get? b=some o')(tups:∀b xs,H b=some (.tup xs)->H' b=some (.tup xs))(frzs:∀b o u,H b=some (.frz o u)->H' b=some (.frz o u))(tbls:∀b ps,H b=some (.tbl ps)->∃more,H' b=some (.tbl (ps++more)))(ns:∀m,s.heap.Ns X.env.locals m->h'.Ns X.env.locals m)(hok:HOk X.prog X.w H' h')(hg:kL g'):
  Inv X π σ H' { s with heap:=h',gens:=g',drawn:=d',toks:=t' }:=by
 have neL:∀b o,X.s₀.heap.get? b=some o->b≠X.env.locals:=λb o e=>bg (f6 (aT e) I.ok.above);have neC:∀b o,X.s₀.heap.get? b=some o->b∉X.ex->b∉ch:=λb o e hx hb=>by
  rcases (hch b hb).1 with z | z
  .exact hx z
  .exact absurd (f6 (aT e) z) (oB _)
 have cellK:∀x c,X.env.cells.lookup x=some c->∀v,s.heap.IsCell c v->h'.IsCell c v:=λx c e v ⟨o,ho,hd⟩=>by
  have nch:c∉ch:=λz=>(hch c z).2.2.1 x c e rfl
  by_cases hc:c∈X.fs
  .obtain⟨sl,q⟩:=slot c o (I.cne x c e) hc nch ho (I.freeC x c e);exact⟨_,q,hd⟩
  .exact⟨o,keep c o (I.cne x c e) hc nch ho (I.freeC x c e),hd⟩
 refine⟨I.ok,I.os,hg,⟨λb o e n hb hx=>?_,λb o e n hb hx=>?_,λb o e n hx=>?_,λb o e hx=>?_,λb xs e=>tups b xs (I.base.tups b xs e),λb o xs e=>frzs b o xs (I.base.frzs b o xs e),λb ps e=>?_⟩,?_,λx c e=>?_,?_,λx c e=>?_,λp hp=>?_,hok,I.len⟩
 .exact keep b o (neL b o e) hb (neC b o e hx) (I.base.keep b o e n hb hx) (I.base.free b o e n hx)
 .obtain⟨sl,e1⟩:=I.base.slot b o e n hb hx;obtain⟨sl',e2⟩:=slot b _ (neL b o e) hb (neC b o e hx) e1 (I.base.free b o e n hx);exact⟨sl',e2⟩
 .obtain⟨o',e1⟩:=I.base.there b o e hx;exact free b o' (neC b o e hx) e1 (I.base.free b o e n hx)
 .obtain⟨o',e1⟩:=I.base.there b o e hx;exact there b o' (neC b o e hx) e1
 .obtain⟨m1,e1⟩:=I.base.tbls b ps e;obtain⟨m2,e2⟩:=tbls b _ e1;exact⟨m1++m2,by rw[e2,Array.append_assoc]⟩
 .obtain⟨m,hn,hl⟩:=I.loc;refine⟨m,ns m hn,λi x v e1 e2 e3=>?_⟩;obtain⟨u,r,l⟩:=hl i x v e1 e2 e3;refine⟨u,r,?_⟩
  rcases l with l | ⟨k,c,e,z⟩
  .exact .inl l
  .exact .inr ⟨k,c,e,cellK x c e _ z⟩
 .obtain⟨v,z⟩:=I.cell x c e;exact⟨v,cellK x c e v z⟩
 .obtain⟨m,⟨o,_,_,ho,_⟩,_⟩:=I.loc;exact free _ o (λz=>(hch _ z).2.1 rfl) ho I.free
 .obtain⟨v,o,ho,hd⟩:=I.cell x c e;exact free c o (λz=>(hch c z).2.2.1 x c e rfl) ho (I.freeC x c e)
 .obtain⟨e,n,ne,nf,d⟩:=I.pin p hp;have nch:p.1∉ch:=λz=>(hch p.1 z).2.2.2 p hp rfl;exact⟨keep p.1 p.2 ne nf nch e n,free p.1 p.2 nch e n,ne,nf,d⟩
theorem Inv.un(I:Inv X π σ H s)(u:Un X.fs [] H H' s.heap h')(hok:HOk X.prog X.w H' h'):Inv X π σ H' { s with heap:=h',toks:=t' }:=by
 obtain⟨m,⟨o,es,ep,ho,r⟩,_⟩:=id I.loc;obtain⟨sl,hL⟩:=u.any ho I.free (by simp);exact I.step (g':=s.gens) (d':=s.drawn) (ch:=[]) (λ_ z=>nomatch z) (λb o _ hb _ e n=>u.keep b o e n hb (by simp)) (λb o _ hb _ e n=>u.slot b o e n hb (by simp)) (λb o _ e n=>u.free b o e n (by simp)) (λb o _ e=>u.there b o e (by simp)) u.tups u.frzs u.tbls (λm' hm=>by
  obtain⟨o',es',ep',ho',r'⟩:=hm;rw[ho] at ho';cases ho';exact⟨_,es',ep',hL,r'⟩) hok I.bare
theorem Inv.call{g':Array GenState}{d':Drawn}(I:Inv X π σ H s)(u:Un (frs X.stack) ch H H' s.heap h')(hok:HOk X.prog X.w H' h')(hg:kL g')(hch:∀b∈ch,(b∈X.ex∨X.s₀.heap.objs.size<=b)/\b≠X.env.locals/\(∀x c,X.env.cells.lookup x=some c->c≠b)/\∀p∈X.pn++π,p.1≠b):
  Inv X π σ H' { s with heap:=h',gens:=g',drawn:=d',toks:=t' }:=by
 obtain⟨m,⟨o,es,ep,ho,r⟩,_⟩:=id I.loc;obtain⟨sl,hL⟩:=u.any ho I.free λz=>(hch _ z).2.1 rfl;exact I.step (ch:=ch) hch (λb o hL hb hc e n=>u.keep b o e n (λz=>(bb.mp (I.stkSub b z)).elim hL hb) hc) (λb o _ _ hc e n=>u.any e n hc) (λb o hc e n=>u.free b o e n hc) (λb o hc e=>u.there b o e hc) u.tups u.frzs u.tbls (λm' hm=>by
  obtain⟨o',es',ep',ho',r'⟩:=hm;rw[ho] at ho';cases ho';exact⟨_,es',ep',hL,r'⟩) hok hg
theorem Inv.turned(I:Inv X π σ H s)(k:∀b o,b≠it->s.heap.get? b=some o->h'.get? b=some o)(hn:H it=none)(hL:it≠X.env.locals)(h1:it∈X.ex∨X.s₀.heap.objs.size<=it)(h2:∀x c,X.env.cells.lookup x=some c->c≠it)(h3:∀p∈X.pn++π,p.1≠it):Inv X π σ H { s with heap:=h',toks:=t' }:=by
 have nit:∀b u,H b=some u->b≠it:=λb u e z=>by rw[z,hn] at e;cases e
 refine I.step (g':=s.gens) (d':=s.drawn) (ch:=[it]) (λb hb=>?_) (λb o _ _ hc e _=>k b o (λz=>hc (by simp[z])) e) (λb o _ _ hc e _=>⟨o.slots,k b o (λz=>hc (by simp[z])) e⟩) (λ_ _ _ _ n=>n)
  (λb o hc e=>⟨o,k b o (λz=>hc (by simp[z])) e⟩) (λ_ _ e=>e) (λ_ _ _ e=>e) (λb ps e=>⟨#[],by rw[e];simp⟩) (λm hm=>?_) (λb u e=>?_) I.bare
 .have e:b=it:=by simpa using hb
  subst e;exact⟨h1,hL,h2,h3⟩
 .obtain⟨o,es,ep,ho,r⟩:=hm;exact⟨o,es,ep,k _ o (cp hL) ho,r⟩
 .refine (I.hok b u e).stay (λc v hc q=>k c v ?_ q) (λ_ q=>q) λ_ _ _ q=>q
  rcases hc with z | z
  .rw[z];exact nit b u e
  .exact nit c _ z
theorem Inv.tok(I:Inv X π σ H s)(t:Nat):Inv X π σ H { s with toks:=t }:=I.un (h':=s.heap) (t':=t) Un.refl I.hok
theorem Inv.kept{t':Nat}(I:Inv X π σ H s)(k:∀b u,s.heap.get? b=some u->h'.get? b=some u):Inv X π σ H { s with heap:=h',toks:=t' }:=I.un (Un.kept k) (I.hok.kept k)
theorem Inv.laid{a:Addr}{o:HO}{t':Nat}(I:Inv X π σ H s)(k:∀b u,s.heap.get? b=some u->h'.get? b=some u)(hp:s.heap.objs.size<=a)(new:Bc X.prog X.w (upd H a o) h' a o):
  Inv X π σ (upd H a o) { s with heap:=h',toks:=t' }:=I.un (Un.laid k hp (I.hok.fresh hp)) (I.hok.laid k hp new)
theorem Inv.write{x e:Addr}{o:HO}{t':Nat}(I:Inv X π σ H s)(mu:Mut (H x))(he:e=x∨H e=some (.own x))(k:∀b u,b≠e->s.heap.get? b=some u->h'.get? b=some u)(heo:∃u,h'.get? e=some u)(new:Bc X.prog X.w (upd H x o) h' x o):Inv X π σ (upd H x o) { s with heap:=h',toks:=t' }:=I.un (Un.write mu he k heo) (I.hok.write mu he k heo new)
theorem Inv.pins_of{pins':zP}(I:Inv X π σ H s)(h:∀p∈pins',s.heap.get? p.1=some p.2/\H p.1=none/\p.1≠X.env.locals/\p.1∉X.fs/\∀v,p.2.data≠.cell v):Inv X pins' σ H s:=
 ⟨I.ok,I.os,I.bare,I.base,I.loc,I.cell,I.free,I.freeC,λp hp=>(eD.mp hp).elim (λz=>I.pin p (gy _ z)) (h p),I.hok,I.len⟩
theorem K3(hN:N.Nodup){i j:Nat}{x:Str}(a:N[i]?=some x)(b:N[j]?=some x):i=j:=by
 obtain⟨h1,e1⟩:=d6.mp a;obtain⟨h2,e2⟩:=d6.mp b;exact (A4 hN).mp (e1.trans e2.symm)
def Uq(N:List Str)(x:Str):Prop:=∀i j:Nat,N[i]?=some x->N[j]?=some x->i=j
theorem xU(hN:N.Nodup):Uq N x:=λ_ _ a b=>K3 hN a b
theorem Ra{A:ax}{v:V}{Q:Unit->af->Prop}(I:Inv X π σ H s)(hN:Uq X.N x)(hi:X.N[i]?=some x)(hx:Loc X.env.scope x)(r:RelV v u)(h:∀s',Inv X π (σ.set i (some v)) H s'->(∃a,i7 a s.heap s'.heap/\(a=X.env.locals∨X.env.cells.lookup x=some a))->Q () s')(hf:X.fn x=true∨X.env.scope.names.lookup x=some .local :=by first | exact .inl rfl | exact .inr rfl | assumption):ag M A (storeName X.env x u) Q E s:=by
 obtain⟨m,hn,hl⟩:=id I.loc;have hcls:(X.env.scope.kind==.class||(X.env.scope.kind==.module&&X.env.locals != X.env.globals))=false:=by rw[I.ok.kind];rfl
 have hiσ:i<σ.length:=by rw[I.len];exact (d6.mp hi).1
 have cne:=I.cne;have tracked:∀{a:Addr}{h':Heap},(∃o,s.heap.get? a=some o/\H a=none)->i7 a s.heap h'->HOk X.prog X.w H h':=λ{a h'} ha hs b ob e=>by
  obtain⟨_,_,hfree⟩:=ha;refine (I.hok b ob e).stay (λc w' hc q=>(hs.2 c ?_).trans q) (λ_ q=>q) λ_ _ _ q=>q;rintro rfl
  rcases hc with rfl | hc
  .rw[hfree] at e;cases e
  .rw[hfree] at hc;cases hc
 rcases hx with hk | hk
 .refine wpAny_storeName_local hk hn (λh' hn' hs=>?_) hcls;obtain⟨oL,_,_,hoL,_⟩:=id hn;refine h _ ⟨I.ok,I.os,I.bare,⟨λb o e n hb hx=>?_,λb o e n hb hx=>?_,I.base.free,λb o e hx=>?_,I.base.tups,I.base.frzs,I.base.tbls⟩,⟨_,hn',λj y v' e1 e2 e3=>?_⟩,λy c e=>?_,I.free,I.freeC,λp hp=>?_,tracked ⟨oL,hoL,I.free⟩ hs,by simpa using I.len⟩ ⟨_,hs,.inl rfl⟩
  .exact (hs.2 b (bg (f6 (aT e) I.ok.above))).trans (I.base.keep b o e n hb hx)
  .obtain⟨sl,e1⟩:=I.base.slot b o e n hb hx;exact⟨sl,(hs.2 b (bg (f6 (aT e) I.ok.above))).trans e1⟩
  .obtain⟨o',e1⟩:=I.base.there b o e hx;exact⟨o',(hs.2 b (bg (f6 (aT e) I.ok.above))).trans e1⟩
  .by_cases hj:j=i
   .subst hj;rw[hi] at e1;cases e1;rw[kN hiσ] at e2;cases e2;exact⟨u,r,.inl ⟨hk,by simp⟩⟩
   .rw[gE (cp hj)] at e2;obtain⟨u',r',q⟩:=hl j y v' e1 e2 e3;refine⟨u',r',?_⟩
    rcases q with ⟨k,e⟩ | ⟨k,c,e,z⟩
    .refine .inl ⟨k,?_⟩;have:y≠x:=λe=>hj (hN _ _ (e▸e1) hi);simp[this,e]
    .exact .inr ⟨k,c,e,z.sameBut hs (cne y c e)⟩
  .obtain⟨w',z⟩:=I.cell y c e;exact⟨w',z.sameBut hs (cne y c e)⟩
  .obtain⟨e,n,ne,nf,d⟩:=I.pin p hp;exact⟨(hs.2 p.1 ne).trans e,n,ne,nf,d⟩
 .have hfn:X.fn x=true:=by
   rcases hf with z | z
   .exact z
   .rw[z] at hk;cases hk
  obtain⟨c,hc⟩:=I.ok.has x (.inl hk);obtain⟨w',z⟩:=I.cell x c hc;refine wpAny_storeName_cell I.ok.kind hk hc z (λh' hc' hs=>?_);obtain⟨oc,hoc,hocd⟩:=id z;refine h { s with heap:=h' } ⟨I.ok,I.os,I.bare,⟨λb o e n hb hx=>?_,λb o e n hb hx=>?_,I.base.free,λb o e hx=>?_,I.base.tups,I.base.frzs,I.base.tbls⟩,⟨m,hn.sameBut hs (cp (cne x c hc)),λj y v' e1 e2 e3=>?_⟩,λy c' e=>?_,I.free,I.freeC,λp hp=>?_,tracked ⟨oc,hoc,I.freeC x c hc⟩ hs,by simpa using I.len⟩ ⟨c,hs,.inr hc⟩
  .exact (hs.2 b (bg (f6 (aT e) (I.ok.cab x c hfn hc)))).trans (I.base.keep b o e n hb hx)
  .obtain⟨sl,e1⟩:=I.base.slot b o e n hb hx;exact⟨sl,(hs.2 b (bg (f6 (aT e) (I.ok.cab x c hfn hc)))).trans e1⟩
  .obtain⟨o',e1⟩:=I.base.there b o e hx;exact⟨o',(hs.2 b (bg (f6 (aT e) (I.ok.cab x c hfn hc)))).trans e1⟩
  .by_cases hj:j=i
   .subst hj;rw[hi] at e1;cases e1;rw[kN hiσ] at e2;cases e2;exact⟨u,r,.inr ⟨.inl hk,c,hc,hc'⟩⟩
   .rw[gE (cp hj)] at e2;obtain⟨u',r',q⟩:=hl j y v' e1 e2 e3;refine⟨u',r',?_⟩
    rcases q with q | ⟨k,c',e,z'⟩
    .exact .inl q
    .refine .inr ⟨k,c',e,z'.sameBut hs ?_⟩;rintro rfl;exact hj (hN _ _ (I.ok.inj _ _ _ e hc▸e1) hi)
  .by_cases hcc:c'=c
   .subst hcc;exact⟨_,hc'⟩
   .obtain⟨w2,z2⟩:=I.cell y c' e;exact⟨w2,z2.sameBut hs hcc⟩
  .obtain⟨e,n,ne,nf,d⟩:=I.pin p hp;refine⟨(hs.2 p.1 ?_).trans e,n,ne,nf,d⟩;intro q;rw[q,hoc] at e;have q':oc=p.2:=cq e;exact d w' (by rw[<-q'];exact hocd)
theorem Ue{A:ax}{v:V}{Q:Unit->af->Prop}(I:Inv X π σ H s)(hN:X.N.Nodup)(hi:X.N[i]?=some x)(hx:Loc X.env.scope x)(r:RelV v u)(h:∀s',Inv X π (σ.set i (some v)) H s'->(∃a,i7 a s.heap s'.heap/\(a=X.env.locals∨X.env.cells.lookup x=some a))->Q () s')(hf:X.fn x=true∨X.env.scope.names.lookup x=some .local :=by first | exact .inl rfl | exact .inr rfl | assumption):ag M A (storeName X.env x u) Q E s:=Ra I (xU hN) hi hx r h hf
theorem Wj{A:ax}{v:V}{Q:Unit->af->Prop}(I:Inv X π σ H s)(hN:X.N.Nodup)(hi:X.N[i]?=some x)(hx:Loc X.env.scope x)(r:RelV v u)(h:∀s',Inv X π (σ.set i (some v)) H s'->Q () s')(hf:X.fn x=true∨X.env.scope.names.lookup x=some .local :=by first | exact .inl rfl | exact .inr rfl | assumption):ag M A (storeName X.env x u) Q E s:=
 Ue I hN hi hx r (λs' I' _=>h s' I') hf
theorem Inv.call'{s':af}(I:Inv X π σ H s)(ho:s'.os=s.os)(u:Un (frs X.stack) ch H H' s.heap s'.heap)(hok:HOk X.prog X.w H' s'.heap)(hg:kL s'.gens)(hch:∀b∈ch,(b∈X.ex∨X.s₀.heap.objs.size<=b)/\b≠X.env.locals/\(∀x c,X.env.cells.lookup x=some c->c≠b)/\∀p∈X.pn++π,p.1≠b):Inv X π σ H' s':=by
 obtain⟨h',g',d',t',o'⟩:=s';have e:o'=s.os:=ho;subst e;exact I.call (g':=g') (t':=t') (d':=d') u hok hg hch
end
abbrev XK:=ac->Option Addr->Hp->Prop
abbrev St:=List (Option V)
abbrev VK:=V->Hp->Prop
abbrev TE:=St->Hp->VK->Prop
abbrev TT:=St->Hp->(Bool->Hp->Prop)->Prop
abbrev TA:=St->Hp->(List V->Hp->Prop)->Prop
structure Ends where
 nx:St->Hp->Prop
 rt:VK
 bk:St->Hp->Prop:=λ_ _=>False
 ct:St->Hp->Prop:=λ_ _=>False
abbrev TS:=Ends->St->Hp->Prop
def EP(X:Cx)(π:zP)(σ:St)(Q:VK)(u:ac)(s':af):Prop:=∃v H',Inv X π σ H' s'/\RelV v u/\Q v H'
def TP(X:Cx)(π:zP)(σ:St)(Q:Bool->Hp->Prop)(b:Bool)(s':af):Prop:=∃H',Inv X π σ H' s'/\Q b H'
def AP(X:Cx)(π:zP)(σ:St)(Q:List V->Hp->Prop)(us:List ac)(s':af):Prop:=∃vs H',Inv X π σ H' s'/\Vals vs us/\Q vs H'
def SP(X:Cx)(π:zP)(D:Ends)(f:Flow)(s':af):Prop:=
 match f with
 |.next=>∃σ' H',Inv X π σ' H' s'/\D.nx σ' H'
 |.brk=>∃σ' H',Inv X π σ' H' s'/\D.bk σ' H'
 |.cont=>∃σ' H',Inv X π σ' H' s'/\D.ct σ' H'
 |.ret u=>∃v σ' H',Inv X π σ' H' s'/\RelV v u/\D.rt v H'
def PE(X:Cx)(e:Expr)(t:TE):Prop:=
 ∀(π:zP) (s:af) (σ:St) (H:Hp) (Q:VK),Inv X π σ H s->t σ H Q->ag .(2) X.A (eval e X.env) (EP X π σ Q) X.xe s
def PT(X:Cx)(e:Expr)(t:TT):Prop:=
 ∀(π:zP) (s:af) (σ:St) (H:Hp) (Q:Bool->Hp->Prop),Inv X π σ H s->t σ H Q->ag .(2) X.A (qv e X.env (eval e X.env)) (TP X π σ Q) X.xe s
def PW(X:Cx)(e:Expr)(t:TT):Prop:=
 ∀(whole:Sem ac) (π:zP) (s:af) (σ:St) (H:Hp) (Q:Bool->Hp->Prop),Inv X π σ H s->t σ H Q->ag .(2) X.A (qv e X.env whole) (TP X π σ Q) X.xe s
theorem PW.pt{X:Cx}{t:TT}(h:PW X e t):PT X e t:=h _
def PA(X:Cx)(es:List Expr)(t:TA):Prop:=
 ∀(pos:Pos) (π:zP) (s:af) (σ:St) (H:Hp) (Q:List V->Hp->Prop),Inv X π σ H s->t σ H Q->ag .(2) X.A (spliced (bP pos (ar es X.env))) (AP X π σ Q) X.xe s
def PS(X:Cx)(st:Stmt)(t:TS):Prop:=
 ∀(π:zP) (s:af) (σ:St) (H:Hp) (D:Ends),Inv X π σ H s->t D σ H->ag .(2) X.A (exec st X.env) (SP X π D) X.xe s
def PSs(X:Cx)(st:List Stmt)(t:TS):Prop:=
 ∀(π:zP) (s:af) (σ:St) (H:Hp) (D:Ends),Inv X π σ H s->t D σ H->ag .(2) X.A (execs st X.env) (SP X π D) X.xe s
theorem thn{α:Type}{t:Sem α}{Q Q':α->af->Prop}{A:ax}(h:ag M A t Q E s)(hQ:∀a s,Q a s->Q' a s):ag M A t Q' E s:=i8 h hQ λ_ _ x=>x
section
variable {X:Cx}
theorem bin{a b:Expr}{ta tb:TE}(ha:PE X a ta)(hb:PE X b tb){π:zP}{s:af}{σ:St}{H:Hp}{R:V->V->Hp->Prop}(I:Inv X π σ H s)(h:ta σ H λx H1=>tb σ H1 λy H2=>R x y H2){α:Type}{Q:α->af->Prop}{f:ac->ac->Sem α}(hf:∀v u s2 x y H2,Inv X π σ H2 s2->RelV x v->RelV y u->R x y H2->ag .(2) X.A (f v u) Q X.xe s2):
  ag .(2) X.A (eval a X.env) (λv s₁=>ag .(2) X.A (eval b X.env) (λu s₂=>ag .(2) X.A (f v u) Q X.xe s₂) X.xe s₁) X.xe s:=by
 refine thn (ha π s σ H _ I h) λv s1 ⟨x,H1,I1,r1,q1⟩=>?_;refine thn (hb π s1 σ H1 _ I1 q1) λu s2 ⟨y,H2,I2,r2,q2⟩=>?_;exact hf v u s2 x y H2 I2 r1 r2 q2
def tVar(i:Nat):TE:=λσ H Q=>∃v,σ[i]?=some (some v)/\Q v H
def tC(v:V):TE:=λ_ H Q=>Q v H
theorem uQ(hN:X.N[i]?=some x)(hv:Vis X.env.scope x)(hd:.(12)=false:=by decide)(hcd:(x==("__classdict__":Str))=false:=by decide):PE X (.Name x pos) (tVar i):=by
 intro π s σ H Q I h;obtain⟨v,e,h⟩:=h;obtain⟨m,hn,hl⟩:=I.loc;obtain⟨u,r,l⟩:=hl i x v hN e hv;have fin:EP X π σ Q u s:=⟨v,H,I,r,h⟩
 rcases l with ⟨hk,hm⟩ | ⟨hk,c,hc,hcell⟩
 .exact A6 (wpAny_loadName_local I.ok.kind hk hn hm fin) hd
 .rcases hk with hk | hk
  .exact A6 (wpAny_loadName_cell I.ok.kind hk hc hcell fin) hd
  .exact A6 (wpAny_loadName_free I.ok.kind hk hc hcell fin hcd) hd
theorem uR{i j pos}:PE X (.Constant (.int i) j pos) (tC (.int i)):=λ_ _ _ H _ I h=>wpAny_Constant_int ⟨.int i,H,I.tok _,⟨_,rfl⟩,h⟩
theorem xV{b j pos}:PE X (.Constant (.bool b) j pos) (tC (.bl b)):=λ_ _ _ H _ I h=>Constant_bool ⟨.bl b,H,I,rfl,h⟩
theorem uT{j pos}:PE X (.Constant .none j pos) (tC .non):=λ_ _ _ H _ I h=>Constant_none ⟨.non,H,I,rfl,h⟩
theorem uU{x j pos}:PE X (.Constant (.str x) j pos) (tC (.str x)):=λ_ _ _ H _ I h=>Calls.Constant_str ⟨.str x,H,I.tok _,⟨_,rfl⟩,h⟩
def Gl(X:Cx)(x:Str):Prop:=X.env.kindOf x=some .globalImplicit
theorem Ve{σ:St}{H:Hp}{Q:ac->af->Prop}(I:Inv X π σ H s)(hg:Gl X x)(hm:X.mg x=some u)(h:Q u s)(hd:.(12)=false:=by decide):ag .(2) X.A (eval (.Name x pos) X.env) Q E s:=
 CY I.ok.kind hg (Calls.loadGlobal_global (by rw[I.ok.glob];exact I.mod.glob.keeps I.bk) hm h) hd
theorem M3{σ:St}{H:Hp}{Q:ac->af->Prop}(I:Inv X π σ H s)(hg:Gl X x)(hm:X.mg x=none)(hv:cr x=some u)(h:Q u s)(hn:x≠"__name__":=by decide)(hd:.(12)=false:=by decide):ag .(2) X.A (eval (.Name x pos) X.env) Q E s:=by
 obtain⟨mb,h1,h2⟩:=I.mod.blt;exact CY I.ok.kind hg (Calls.loadGlobal_builtin (by rw[I.ok.glob];exact I.mod.glob.keeps I.bk) hm (by rw[I.ok.blt];exact h1.keeps I.bk) ((h2 x hn).trans hv) h) hd
theorem Es{v:V}(hg:Gl X x)(hm:X.mg x=some u)(r:RelV v u)(hd:.(12)=false:=by decide):PE X (.Name x pos) (tC v):=
 λ_ _ _ H _ I h=>Ve I hg hm ⟨v,H,I,r,h⟩ hd
theorem nZ{v:V}(hg:Gl X x)(hm:X.mg x=none)(hv:cr x=some u)(r:RelV v u)(hn:x≠"__name__":=by decide)(hd:.(12)=false:=by decide):PE X (.Name x pos) (tC v):=
 λ_ _ _ H _ I h=>M3 I hg hm hv ⟨v,H,I,r,h⟩ hn hd
def t2I(ta tb:TE)(k:Int->Int->Hp->Prop):St->Hp->Prop:=λσ H=>ta σ H λx H1=>tb σ H1 λy H2=>∃i j,x=.int i/\y=.int j/\k i j H2
variable {a b:Expr}{ta tb:TE}
def PC(X:Cx)(op:n9)(a b:Expr)(t:TE):Prop:=
 ∀(π:zP) (s:af) (σ:St) (H:Hp) (Q:VK),Inv X π σ H s->t σ H Q ->
  ag .(2) X.A (eval a X.env) (λv s₁=>ag .(2) X.A (eval b X.env) (λu s₂=>ag .(2) X.A (d3 op v u) (EP X π σ Q) X.xe s₂) X.xe s₁) X.xe s
theorem dg(b:Expr){op:n9}(h:op≠.In)(h2:op≠.NotIn):io op b=false:=by
 have e1:(op==CmpOp.In)=false:=by cases op<;>first | rfl | exact absurd rfl h
 have e2:(op==D0)=false:=by cases op<;>first | rfl | exact absurd rfl h2
 cases b<;>simp[io,e1,e2]
def tCmp(p:Int->Int->Bool)(ta tb:TE):TE:=λσ H Q=>t2I ta tb (λi j H2=>Q (.bl (p i j)) H2) σ H
abbrev tLt:TE->TE->TE:=tCmp λi j=>decide (i<j)
abbrev tLe:TE->TE->TE:=tCmp λi j=>decide (i<=j)
abbrev tGt:TE->TE->TE:=tCmp λi j=>decide (j<i)
abbrev tGe:TE->TE->TE:=tCmp λi j=>decide (j<=i)
def tIsN(ta:TE):TE:=λσ H Q=>ta σ H λx H1=>Q (.bl (decide (x=.non))) H1
theorem RelV.none_iff{x:V}{v:ac}(r:RelV x v):(v==jp)=decide (x=.non):=by
 cases x with
 |non=>cases r;rfl
 |bl _=>cases r;rfl
 |int _=>obtain⟨t,rfl⟩:=r;rfl
 |str _=>obtain⟨t,rfl⟩:=r;rfl
 |byt _=>obtain⟨t,rfl⟩:=r;rfl
 |flt _=>obtain⟨t,rfl⟩:=r;rfl
 |ref _=>cases r;rfl
 |ty _=>cases r;rfl
theorem uV{j pos'}(ha:PE X a ta):PC X .Is a (.Constant .none j pos') (tIsN ta):=by
 intro π s σ H Q I h;refine thn (ha π s σ H _ I h) λv s1 ⟨x,H1,I1,r1,q1⟩=>?_;exact Constant_none (is_none_gen ⟨.bl _,H1,I1,by rw[r1.none_iff];rfl,q1⟩)
def tB(t:TE):TT:=λσ H Q=>t σ H λx H1=>∃c,x=.bl c/\Q c H1
theorem uW{op:n9}{t:TE}(h:PC X op a b t)(h1:io op b=false:=by first | exact dg _ (by decide) (by decide) | rfl):PT X (.Compare a [op] [b] pos) (tB t):=by
 intro π s σ H Q I hw;refine D1 (thn (h π s σ H _ I hw) λv s1 h1=>thn h1 λu s2 h2=>thn h2 λc s3 ⟨x,H1,I1,r1,q1⟩=>?_) h1;obtain⟨d,rfl,q⟩:=q1;cases r1;exact mP ⟨H1,I1,q⟩
variable {tA tB':TT}{rest:List Expr}
def tAnd(t u:TT):TT:=λσ H Q=>t σ H λc H1=>if c=true then u σ H1 Q else Q false H1
def tOr(t u:TT):TT:=λσ H Q=>t σ H λc H1=>if c=true then Q true H1 else u σ H1 Q
def tNot(t:TT):TT:=λσ H Q=>t σ H λc H1=>Q (!c) H1
theorem nj(ha:PT X a tA):PW X (.BoolOp .And [a] pos) tA:=by
 intro wh π s σ H Q I h;refine isTrue_and (thn (ha π s σ H Q I h) λc s1 e=>?_);cases c with
 |true=>exact isTrue_and_nil e
 |false=>exact e
theorem dh(ha:PT X a tA):PW X (.BoolOp .Or [a] pos) tA:=by
 intro wh π s σ H Q I h;refine isTrue_or (thn (ha π s σ H Q I h) λc s1 e=>?_);cases c with
 |false=>exact isTrue_or_nil e
 |true=>exact e
theorem uX(ha:PT X a tA)(hb:PW X (.BoolOp .And (b::rest) pos) tB'):PW X (.BoolOp .And (a::b::rest) pos) (tAnd tA tB'):=by
 intro wh π s σ H Q I h;refine isTrue_and (thn (ha π s σ H _ I h) λc s1 ⟨H1,I1,q1⟩=>?_);cases c with
 |true=>exact hb wh π s1 σ H1 Q I1 q1
 |false=>exact⟨H1,I1,q1⟩
theorem rP(ha:PT X a tA)(hb:PW X (.BoolOp .Or (b::rest) pos) tB'):PW X (.BoolOp .Or (a::b::rest) pos) (tOr tA tB'):=by
 intro wh π s σ H Q I h;refine isTrue_or (thn (ha π s σ H _ I h) λc s1 ⟨H1,I1,q1⟩=>?_);cases c with
 |true=>exact⟨H1,I1,q1⟩
 |false=>exact hb wh π s1 σ H1 Q I1 q1
theorem uY(ha:PT X a tA):PT X (.UnaryOp .Not a pos) (tNot tA):=by
 intro π s σ H Q I h;exact isTrue_not (ha π s σ H (λc H1=>Q (!c) H1) I h)
def xW(ta tb:TE):TE:=λσ H Q=>ta σ H λx H1=>∃c,x=.bl c/\if c=true then tb σ H1 Q else Q .(8) H1
def tOrV(ta tb:TE):TE:=λσ H Q=>ta σ H λx H1=>∃c,x=.bl c/\if c=true then Q (.bl true) H1 else tb σ H1 Q
def xX(ta:TE):TE:=λσ H Q=>ta σ H λx H1=>∃c,x=.bl c/\Q (.bl (!c)) H1
theorem uZ{op}{t:TE}(h:PE X a t):PE X (.BoolOp op [a] pos) t:=λπ s σ H Q I hw=>BoolOp_one (h π s σ H Q I hw)
theorem uc(ha:PE X a ta)(hb:PE X (.BoolOp .And (b::rest) pos) tb):PE X (.BoolOp .And (a::b::rest) pos) (xW ta tb):=by
 intro π s σ H Q I h;refine BoolOp_and (thn (ha π s σ H _ I h) λv s1 ⟨x,H1,I1,r1,q1⟩=>?_);obtain⟨c,rfl,q1⟩:=q1;cases r1;refine mP ?_;cases c with
 |true=>exact hb π s1 σ H1 Q I1 q1
 |false=>exact⟨.bl false,H1,I1,rfl,q1⟩
theorem xZ(ha:PE X a ta)(hb:PE X (.BoolOp .Or (b::rest) pos) tb):PE X (.BoolOp .Or (a::b::rest) pos) (tOrV ta tb):=by
 intro π s σ H Q I h;refine BoolOp_or (thn (ha π s σ H _ I h) λv s1 ⟨x,H1,I1,r1,q1⟩=>?_);obtain⟨c,rfl,q1⟩:=q1;cases r1;refine mP ?_;cases c with
 |false=>exact hb π s1 σ H1 Q I1 q1
 |true=>exact⟨.bl true,H1,I1,rfl,q1⟩
theorem ud(ha:PE X a ta):PE X (.UnaryOp .Not a pos) (xX ta):=by
 intro π s σ H Q I h;refine UnaryOp_ (thn (ha π s σ H _ I h) λv s1 ⟨x,H1,I1,r1,q1⟩=>?_);obtain⟨c,rfl,q1⟩:=q1;cases r1;exact not_of (mP ⟨.bl (!c),H1,I1,rfl,q1⟩)
def tIf(t:TT)(ta tb:TE):TE:=λσ H Q=>t σ H λc H1=>if c=true then ta σ H1 Q else tb σ H1 Q
theorem di{c:Expr}(hc:PT X c tA)(ha:PE X a ta)(hb:PE X b tb):PE X (.IfExp c a b pos) (tIf tA ta tb):=by
 intro π s σ H Q I h;refine wpAny_IfExp (thn (hc π s σ H _ I h) λd s1 ⟨H1,I1,q1⟩=>?_);cases d with
 |true=>exact ha π s1 σ H1 Q I1 q1
 |false=>exact hb π s1 σ H1 Q I1 q1
end
def SqL(K:ay)(H:Hp)(a:Addr)(xs:List V):Prop:=
 Rd H a (.lst xs) ∨
  ∃(o:Obj) (its:Array ac) (n:Nat),K.lookup a=some o/\o.cls=.type "list"/\o.dict=none/\o.data=.seq its n/\its.size<=sizeLine/\Vals xs its.toList
def SqT(K:ay)(H:Hp)(a:Addr)(xs:List V):Prop:=
 Rd H a (.tup xs) ∨
  ∃(o:Obj) (its:Array ac) (n:Nat),K.lookup a=some o/\o.cls=.type "tuple"/\o.data=.seq its n/\its.size<=sizeLine/\Vals xs its.toList
def absV:ac->Option V
 |.none=>some .non
 |.bool b=>some (.bl b)
 |.int i _=>some (.int i)
 |.str x _=>some (.str x)
 |.bytes b _=>some (.byt b)
 |.float b _=>some (.flt b)
 |.ref a=>some (.ref a)
 |.type n=>some (.ty n)
 |_=>none
theorem RelV.abs{x:V}(r:RelV x u):absV u=some x:=by
 cases x with
 |non=>cases r;rfl
 |bl _=>cases r;rfl
 |int _=>obtain⟨t,rfl⟩:=r;rfl
 |str _=>obtain⟨t,rfl⟩:=r;rfl
 |byt _=>obtain⟨t,rfl⟩:=r;rfl
 |flt _=>obtain⟨t,rfl⟩:=r;rfl
 |ref _=>cases r;rfl
 |ty _=>cases r;rfl
theorem RelV.inj{x y:V}{u:ac}(r:RelV x u)(q:RelV y u):x=y:=cq (r.abs.symm.trans q.abs)
theorem Vals.inj:∀{xs ys:List V}{us:List ac},Vals xs us->Vals ys us->xs=ys
 |_,_,_,.nil,.nil=>rfl
 |_,_,_,.cons r t,.cons r' t'=>by rw[r.inj r',Vals.inj t t']
section
variable {X:Cx}{σ:St}{H:Hp}{xs ys:List V}
theorem SqL.of{K:ay}(h:H a=some (.lst xs)):SqL K H a xs:=.inl (.inl h)
theorem SqT.of{K:ay}(h:H a=some (.tup xs)):SqT K H a xs:=.inl (.inl h)
theorem Inv.list(I:Inv X π σ H s)(h:SqL X.K H a xs):∃its:List ac,Vals xs its/\PlainL s.heap a its.toArray/\xs.length<=sizeLine:=by
 rcases h with h | ⟨o,its,n,hk,hc,hd,hs,hz,r⟩
 .obtain⟨z,its,n,r,e⟩:=h.ok I.hok;exact⟨its,r,⟨_,n,e,rfl,rfl,rfl⟩,z⟩
 .refine⟨its.toList,r,⟨o,n,I.kIn a o hk,hc,hd,by simpa using hs⟩,?_⟩;have e:=r.length;simp only[lh] at e;omega
theorem Inv.tuple(I:Inv X π σ H s)(h:SqT X.K H a xs):∃its:List ac,Vals xs its/\IsTup s.heap a its.toArray/\xs.length<=sizeLine:=by
 rcases h with h | ⟨o,its,n,hk,hc,hs,hz,r⟩
 .obtain⟨z,its,r,p⟩:=h.ok I.hok;exact⟨its,r,p,z⟩
 .refine⟨its.toList,r,⟨o,I.kIn a o hk,hc,n,by simpa using hs⟩,?_⟩;have e:=r.length;simp only[lh] at e;omega
theorem Inv.list_inj(I:Inv X π σ H s)(h:SqL X.K H a xs)(h':SqL X.K H a ys):xs=ys:=by
 obtain⟨its,r,⟨o,n,e,_,_,d⟩,_⟩:=I.list h;obtain⟨its',r',⟨o',n',e',_,_,d'⟩,_⟩:=I.list h';rw[e] at e';cases e';rw[d] at d';injection d' with d1 _
 have:its=its':=by simpa using congrArg D2 d1
 subst this;exact r.inj r'
theorem Inv.tuple_inj(I:Inv X π σ H s)(h:SqT X.K H a xs)(h':SqT X.K H a ys):xs=ys:=by
 obtain⟨its,r,⟨o,e,_,n,d⟩,_⟩:=I.tuple h;obtain⟨its',r',⟨o',e',_,n',d'⟩,_⟩:=I.tuple h';rw[e] at e';cases e';rw[d] at d';injection d' with d1 _
 have:its=its':=by simpa using congrArg D2 d1
 subst this;exact r.inj r'
end
abbrev Cx.wish (X:Cx) (E:ac->af->Prop):Cx:={ X with xe:=E }
abbrev Cx.nox (X:Cx):Cx:=X.wish λ_ _=>False
theorem Cx.Ok.wish{X:Cx}(ok:X.Ok)(E:ac->af->Prop):(X.wish E).Ok:=
 ⟨ok.mod,ok.kind,ok.glob,ok.blt,ok.above,ok.inj,ok.has,ok.cab,ok.hd,ok.frames,ok.stk,ok.exf,ok.bs,ok.bsz,ok.noex,ok.exfs,ok.funs,ok.frf⟩
theorem Cx.Ok.unwish{X:Cx}(ok:(X.wish E).Ok):X.Ok:=
 ⟨ok.mod,ok.kind,ok.glob,ok.blt,ok.above,ok.inj,ok.has,ok.cab,ok.hd,ok.frames,ok.stk,ok.exf,ok.bs,ok.bsz,ok.noex,ok.exfs,ok.funs,ok.frf⟩
section
variable {X:Cx}{σ:St}{H:Hp}
theorem Inv.wish(I:Inv X π σ H s)(E:ac->af->Prop):Inv (X.wish E) π σ H s:=⟨I.ok.wish E,I.os,I.bare,I.base,I.loc,I.cell,I.free,I.freeC,I.pin,I.hok,I.len⟩
theorem Inv.unwish(I:Inv (X.wish E) π σ H s):Inv X π σ H s:=⟨I.ok.unwish,I.os,I.bare,I.base,I.loc,I.cell,I.free,I.freeC,I.pin,I.hok,I.len⟩
theorem SP.unwish{D:Ends}{f:Flow}{s':af}(h:SP (X.wish E) π D f s'):SP X π D f s':=by
 cases f with
 |next=>obtain⟨σ',H',I,q⟩:=h;exact⟨σ',H',I.unwish,q⟩
 |brk=>obtain⟨σ',H',I,q⟩:=h;exact⟨σ',H',I.unwish,q⟩
 |cont=>obtain⟨σ',H',I,q⟩:=h;exact⟨σ',H',I.unwish,q⟩
 |ret u=>obtain⟨v,σ',H',I,r,q⟩:=h;exact⟨v,σ',H',I.unwish,r,q⟩
theorem PSs.nox{st:List Stmt}{t:TS}(h:PSs X.nox st t):PSs X st t:=λπ s σ H D I hw=>
 i8 (h π s σ H D (I.wish _) hw) (λ_ _ q=>q.unwish) λ_ _ z=>gI z
end
section
variable {X:Cx}{rest:List Stmt}{t u:TS}{te:TE}
def xf:TS:=λD σ H=>D.nx σ H
def tSeq(t u:TS):TS:=λD σ H=>t { D with nx:=u D } σ H
theorem Q6:PSs X [] xf:=λ_ _ σ H _ I h=>xE ⟨σ,H,I,h⟩
theorem Nk(h1:PS X st t)(h2:PSs X rest u):PSs X (st::rest) (tSeq t u):=by
 intro π s σ H D I h;refine D3 (thn (h1 π s σ H { D with nx:=u D } I h) λf s1 q=>?_);cases f with
 |next=>
  obtain⟨σ',H',I',q⟩:=q;exact h2 π s1 σ' H' D I' q
 |ret v=>exact q
 |brk=>exact q
 |cont=>exact q
theorem Vf(h1:PS X st t):PSs X [st] t:=by
 intro π s σ H D I h;refine D3 (thn (h1 π s σ H D I h) λf s1 q=>?_);cases f with
 |next=>exact xE q
 |ret v=>exact q
 |brk=>exact q
 |cont=>exact q
theorem Inv.quiet{σ:St}{H:Hp}(I:Inv X π σ H s):interactive X.env=false:=by simp[interactive,I.ok.kind]
def xg(te:TE):TS:=λD σ H=>te σ H λ_ H1=>D.nx σ H1
theorem Np(he:PE X e te)(hs:eI e none pos.line X.env=pure false:=by rfl):PS X (.Expr e pos) (xg te):=by
 intro π s σ H D I h;exact wpAny_Expr_any (thn (he π s σ H _ I h) λv s1 ⟨x,H1,I1,r1,q1⟩=>⟨σ,H1,I1,q1⟩) I.quiet hs
def tRet(te:TE):TS:=λD σ H=>te σ H D.rt
theorem ue(he:PE X e te):PS X (.Return (some e) pos) (tRet te):=by
 intro π s σ H D I h;exact wpAny_Return_some (thn (he π s σ H _ I h) λv s1 ⟨x,H1,I1,r1,q1⟩=>⟨x,σ,H1,I1,r1,q1⟩)
def xj:TS:=λD _ H=>D.rt .non H
theorem nu:PS X (.Return none pos) xj:=λ_ _ σ H _ I h=>wpAny_Return_none ⟨.non,σ,H,I,rfl,h⟩
def tIfS(c:TT)(t u:TS):TS:=λD σ H=>c σ H λb H1=>if b=true then t D σ H1 else u D σ H1
theorem dw{c:Expr}{a b:List Stmt}{tc:TT}(hc:PT X c tc)(ha:PSs X a t)(hb:PSs X b u):PS X (.If c a b pos) (tIfS tc t u):=by
 intro π s σ H D I h;refine wpAny_If (thn (hc π s σ H _ I h) λd s1 ⟨H1,I1,q1⟩=>?_);cases d with
 |true=>exact ha π s1 σ H1 D I1 q1
 |false=>exact hb π s1 σ H1 D I1 q1
end
abbrev TG:=V->St->Hp->(St->Hp->Prop)->Prop
abbrev TGs:=List V->St->Hp->(St->Hp->Prop)->Prop
def PG(X:Cx)(target:Expr)(t:TG):Prop:=
 ∀(π:zP) (s:af) (σ:St) (H:Hp) (v:V) (u:ac) (Q:St->Hp->Prop),Inv X π σ H s->RelV v u->t v σ H Q ->
  ag .(2) X.A (ly target X.env u) (λ_ s'=>∃σ' H',Inv X π σ' H' s'/\Q σ' H') X.xe s
def PGs(X:Cx)(ts:List Expr)(t:TGs):Prop:=
 ∀(π:zP) (s:af) (σ:St) (H:Hp) (vs:List V) (us:List ac) (Q:St->Hp->Prop),Inv X π σ H s->Vals vs us->t vs σ H Q ->
  ag .(2) X.A (assignInOrder ((i9 ts X.env).map (·.2)) us) (λ_ s'=>∃σ' H',Inv X π σ' H' s'/\Q σ' H') X.xe s
section
variable {X:Cx}
def FN(i:Nat):TG:=λv σ H Q=>Q (σ.set i (some v)) H
theorem n6(hN:X.N.Nodup)(hi:X.N[i]?=some x)(hx:Loc X.env.scope x)(hf:X.fn x=true∨X.env.scope.names.lookup x=some .local :=by first | exact .inl rfl | exact .inr rfl | assumption):PG X (.Name x pos) (FN i):=by
 intro π s σ H v u Q I r h;exact A7 (Wj I hN hi hx r (λs' I'=>⟨_,H,I',h⟩) hf)
def gNil:TGs:=λvs σ H Q=>vs=[]/\Q σ H
def Wk(t:TG)(u:TGs):TGs:=λvs σ H Q=>∃v r,vs=v::r/\t v σ H λσ' H'=>u r σ' H' Q
theorem ZW:PGs X [] gNil:=by
 intro π s σ H vs us Q I r h;obtain⟨e,h⟩:=h;subst e;cases r;exact assignInOrder_nil ⟨σ,H,I,h⟩
theorem Rb{es:List Expr}{t:TG}{u:TGs}(h1:PG X e t)(h2:PGs X es u)(hs:(i9 (e::es) X.env).map (·.2)=ly e X.env::(i9 es X.env).map (·.2):=by rfl):PGs X (e::es) (Wk t u):=by
 intro π s σ H vs us Q I r h;obtain⟨v,vr,e1,h⟩:=h;subst e1;cases r with
 |cons r rr=>
  rw[hs];refine assignInOrder_cons (thn (h1 π s σ H _ _ _ I r h) λ_ s1 ⟨σ1,H1,I1,q1⟩=>?_);exact h2 π s1 σ1 H1 _ _ Q I1 rr q1
def gTup(K:ay)(n:Nat)(t:TGs):TG:=λv σ H Q=>∃a xs,v=.ref a/\SqT K H a xs/\xs.length=n/\t xs σ H Q
theorem d7{es:List Expr}{k:Nat}{t:TGs}(hc:X.calm=true)(h:PGs X es t)(hn:(i9 es X.env).length=n:=by rfl)(hst:(i9 es X.env).findIdx? (·.1)=none:=by rfl):PG X (.Tuple es k pos) (gTup X.K n t):=by
 intro π s σ H v u Q I r hw;obtain⟨a,xs,e1,hq,hl,hw⟩:=hw;subst e1;cases r;obtain⟨its,rv,ht,hz⟩:=I.tuple hq;refine assign_Tuple_tuple (I.ok.hd hc) ht (by simp[hn,<-hl,rv.length]) hst λh' hx=>?_;have I1:Inv X π σ H { s with heap:=h' }:=I.kept (t':=s.toks) λb o e=>hx b o (bg (aT e)) e;exact h π _ σ H xs _ Q I1 (by simpa using rv) hw
def tAsg(te:TE)(g:TG):TS:=λD σ H=>te σ H λx H1=>g x σ H1 D.nx
theorem uf{te:TE}{g:TG}(he:PE X e te)(hg:PG X tg g)(hs:swapsWithSole [tg] e pos.line X.env=pure false:=by rfl)(hw:swappedStores [tg] e X.env=pure none:=by rfl)(h1:(i9 [tg] X.env).map (·.2)=[ly tg X.env]:=by rfl):PS X (.Assign [tg] e pos) (tAsg te g):=by
 intro π s σ H D I h;refine wpAny_Assign_stores (thn (he π s σ H _ I h) λv s1 ⟨x,H1,I1,r1,q1⟩=>?_) hs hw;rw[h1];exact thn (hg π s1 σ H1 x v _ I1 r1 q1) λ_ s2 q=>q
theorem YW{te:TE}(hN:X.N.Nodup)(hi:X.N[i]?=some x)(hx:Loc X.env.scope x)(he:PE X e te)(hs:eI e (some (.Name x pos')) pos.line X.env=pure false:=by rfl)(hf:X.fn x=true∨X.env.scope.names.lookup x=some .local :=by first | exact .inl rfl | exact .inr rfl | assumption):
  PS X (.Assign [.Name x pos'] e pos) (tAsg te (FN i)):=by
 intro π s σ H D I h;refine wpAny_Assign_Name (thn (he π s σ H _ I h) λv s1 ⟨y,H1,I1,r1,q1⟩=>?_) hs;exact Wj I1 hN hi hx r1 (λs2 I2=>⟨_,H1,I2,q1⟩) hf
end
section
variable {X:Cx}
def ug(c:TT)(tb:TS):TS:=λD σ H=>∃W:Nat->St->Hp->Prop,(∃m,W m σ H)/\∀m σ H,W m σ H ->
 c σ H λb H1=>if b=true then ∃N:St->Hp->Prop,(∀σ' H',N σ' H'->∃m',m'<m/\W m' σ' H')/\tb { D with nx:=N,ct:=N,bk:=D.nx } σ H1 else D.nx σ H1
theorem d8{c:Expr}{tc:TT}{tb:TS}(hp:qA .(2) X.A X.env X.xe)(hc:PT X c tc)(hb:PSs X body tb):PS X (.While c body [] pos) (ug tc tb):=by
 intro π s σ H D I h;obtain⟨W,⟨m0,w0⟩,turn⟩:=h;refine wpAny_While (codeAny_whileLoop (λn s'=>∃σ' H',Inv X π σ' H' s'/\W n σ' H') ?_ m0 ⟨σ,H,I,w0⟩);rintro n s1 ⟨σ1,H1,I1,w1⟩;refine oP hp (thn (hc π s1 σ1 H1 _ I1 (turn n σ1 H1 w1)) λb s2 ⟨H2,I2,q2⟩=>?_);cases b with
 |true=>
  obtain⟨N,hN,q2⟩:=q2;rw[if_pos rfl];refine oP hp (thn (hb π s2 σ1 H2 _ I2 q2) λf s3 q3=>?_);cases f with
  |next=>
   obtain⟨σ3,H3,I3,n3⟩:=q3;obtain⟨m',hm,w3⟩:=hN σ3 H3 n3;exact⟨m',hm,σ3,H3,I3,w3⟩
  |cont=>
   obtain⟨σ3,H3,I3,n3⟩:=q3;obtain⟨m',hm,w3⟩:=hN σ3 H3 n3;exact⟨m',hm,σ3,H3,I3,w3⟩
  |brk=>exact q3
  |ret v=>exact q3
 |false=>
  rw[if_neg cy];exact xE ⟨σ1,H2,I2,q2⟩
end
structure It where
 go:Nat->Hp->Prop
 yld:Nat->Hp->V->Hp->Prop
 stop:Nat->Hp->Prop
def FpOk(X:Cx)(π:zP)(H:Hp)(b:Addr):Prop:=
 H b=none/\b≠X.env.locals/\b∉X.fs/\(b∈X.ex∨X.s₀.heap.objs.size<=b)/\(∀x c,X.env.cells.lookup x=some c->c≠b)/\∀p∈X.pn++π,p.1≠b
theorem Inv.fpOk{X:Cx}{σ:St}{H H':Hp}(I:Inv X π σ H s)(hb:s.heap.objs.size<=b)(hn:H' b=none):FpOk X π H' b:=by
 refine⟨hn,nc (f6 I.lt hb),I.nofs hb,.inr (ck I.sz hb),λx c e z=>?_,λp hp z=>?_⟩
 .obtain⟨v,q⟩:=I.cell x c e;exact absurd (f6 q.lt (by rw[z];exact hb)) (oB _)
 .exact absurd (f6 (aT (I.pin p hp).1) (by rw[z];exact hb)) (oB _)
structure Turn (P:cE) (w:br) (K:ay) (tg:Expr) (J:It) (fp:List Addr) (it:Addr) (tn:Nat->Heap->Prop):Prop where
 mem:it∈fp
 obj:∀i h,tn i h->∀b∈fp,∃o,h.get? b=some o/\∀v,o.data≠.cell v
 keep:∀i h h',tn i h->(∀b∈fp,∀o,h.get? b=some o->h'.get? b=some o)->tn i h'
 item:∀(X:Cx),X.prog=P->X.w=w->X.K=K->X.calm=true->∀(i:Nat) (π:zP) (s:af) (σ:St) (H:Hp) (E:ac->af->Prop),Inv X π σ H s->(∀b∈fp,FpOk X π H b)->tn i s.heap->J.go i H ->
  ag (ah P w) X.A (eJ (.ref it)) (λr s1=>∃u,r=some u ∧
   ag (ah P w) X.A (xI tg (.ref it) u) (λ_ s2=>∃x H',Inv X π σ H' s2/\RelV x u/\J.yld i H x H'/\tn (i+1) s2.heap/\∀b∈fp,H' b=none) E s1) E s
 done:∀(X:Cx),X.prog=P->X.w=w->X.K=K->X.calm=true->∀(i:Nat) (π:zP) (s:af) (σ:St) (H:Hp) (E:ac->af->Prop),Inv X π σ H s->(∀b∈fp,FpOk X π H b)->tn i s.heap->J.stop i H ->
  ag (ah P w) X.A (eJ (.ref it)) (λr s1=>r=none/\Inv X π σ H s1) E s
 self:∀(A:ax) (i:Nat) (s:af) (Q:ac->af->Prop) (E:ac->af->Prop),tn i s.heap->Q (.ref it) s->ag (ah P w) A (lI (.ref it)) Q E s
abbrev TI:=St->Hp->(It->Hp->Prop)->Prop
def PIE(X:Cx)(π:zP)(σ:St)(tg:Expr)(R:It->Hp->Prop)(itv:ac)(s2:af):Prop:=
 ∃(it:Addr) (fp:List Addr) (tn:Nat->Heap->Prop) (J:It) (H':Hp),itv=.ref it/\Inv X π σ H' s2/\Turn X.prog X.w X.K tg J fp it tn/\tn 0 s2.heap/\(∀b∈fp,FpOk X π H' b)/\R J H'
def PI(X:Cx)(tg iter:Expr)(wi:TI):Prop:=
 ∀(π:zP) (s:af) (σ:St) (H:Hp) (R:It->Hp->Prop),Inv X π σ H s->wi σ H R ->
  ag .(2) X.A (eval iter X.env) (λv s1=>ag .(2) X.A (lI v) (PIE X π σ tg R) X.xe s1) X.xe s
theorem Ug{A:ax}{n:String}{vs:Array ac}{Q:Unit->af->Prop}(ho:s.heap.get? it=some o)(hc:o.cls=.type n)(hd:o.data=.fields vs)(hn:["enumerate","zip","dict_itemiterator","dict_reverseitemiterator","odict_iterator","itertools.zip_longest","itertools.pairwise"].contains n=false)(hQ:Q () s):ag M A (xI tg (.ref it) u) Q E s:=by
  unfold xI;cases tg<;>first
    |exact ai hQ
    | (cases u<;>first
        |exact ai hQ
        | (refine ae (xL ho ?_)
           rw[hc,hd];show ag M A (if (["enumerate","zip","dict_itemiterator","dict_reverseitemiterator","odict_iterator","itertools.zip_longest","itertools.pairwise"].contains n&&vs[0]?==some (de _))=true then _ else _) Q E s;rw[if_neg (by intro h;rw[hn,A8] at h;cases h)];exact ai hQ))
def Itl(K:ay)(a:Addr):It:=
 ⟨λi H=>∃xs x,SqL K H a xs/\xs[i]?=some x,λi H x H'=>H'=H/\∀xs,SqL K H a xs->xs[i]?=some x,λi H=>∃xs,SqL K H a xs/\xs.length<=i⟩
def Itt(K:ay)(a:Addr):It:=
 ⟨λi H=>∃xs x,SqT K H a xs/\xs[i]?=some x,λi H x H'=>H'=H/\∀xs,SqT K H a xs->xs[i]?=some x,λi H=>∃xs,SqT K H a xs/\xs.length<=i⟩
def Itr(lo:Int)(n:Nat):It:=⟨λi _=>i<n,λi H x H'=>H'=H/\x=.int (lo+i),λi _=>n<=i⟩
theorem bc{K:ay}(a it:Addr):Turn P w K tg (Itl K a) [it] it (λi h=>h.IsListIter it a i) where
 mem:=by simp
 obj:=λi h st b hb=>by
  have e:b=it:=by simpa using hb
  subst e;obtain⟨o,e,c,d⟩:=st;exact⟨o,e,λv z=>by rw[d] at z;cases z⟩
 keep:=λi h h' st k=>st.at λo e=>k it (by simp) o e
 item:=by
  intro X hP hw hK hc i π s σ H E I hf st hg;subst hP hw hK;obtain⟨xs,x,hq,hx⟩:=hg;obtain⟨its,rv,p,hz⟩:=I.list hq;obtain⟨u,hu,ru⟩:=rv.get hx;obtain⟨f0,f1,f2,f3,f4,f5⟩:=hf it (by simp);refine D4 st p.isList (x:=u) (by simpa using hu) λh' st' sb=>?_;have I1:Inv X π σ H { s with heap:=h' }:=I.turned (t':=s.toks) (λb o hb e=>(sb.2 b hb).trans e) f0 f1 f3 f4 f5;obtain⟨o,e,c,d⟩:=id st';exact⟨u,rfl,Ug (s:={ s with heap:=h' }) e c d (by decide) ⟨x,H,I1,ru,⟨rfl,λys hy=>by rw[I.list_inj hy hq];exact hx⟩,st',λb hb=>(hf b hb).1⟩⟩
 done:=by
  intro X hP hw hK hc i π s σ H E I hf st hg;subst hP hw hK;obtain⟨xs,hq,hx⟩:=hg;obtain⟨its,rv,p,hz⟩:=I.list hq;obtain⟨f0,f1,f2,f3,f4,f5⟩:=hf it (by simp);have hl:=rv.length;exact D5 (I.ok.hd hc) st p.isList .(17) λh' eb=>⟨rfl,I.turned (t':=s.toks) (λb o hb e=>eb b o hb e) f0 f1 f3 f4 f5⟩
 self:=λ_ _ _ _ _ st h=>wpAny_pyIter_listiter st h
theorem YX{K:ay}(a it:Addr):Turn P w K tg (Itt K a) [it] it (λi h=>h.IsTupleIter it a i) where
 mem:=by simp
 obj:=λi h st b hb=>by
  have e:b=it:=by simpa using hb
  subst e;obtain⟨o,e,c,d⟩:=st;exact⟨o,e,λv z=>by rw[d] at z;cases z⟩
 keep:=λi h h' st k=>st.at λo e=>k it (by simp) o e
 item:=by
  intro X hP hw hK hc i π s σ H E I hf st hg;subst hP hw hK;obtain⟨xs,x,hq,hx⟩:=hg;obtain⟨its,rv,p,hz⟩:=I.tuple hq;obtain⟨u,hu,ru⟩:=rv.get hx;obtain⟨f0,f1,f2,f3,f4,f5⟩:=hf it (by simp);refine wpAny_pyNext_tuple_item st (show s.heap.IsTuple a its.toArray from p) (x:=u) (by simpa using hu) λh' st' sb=>?_;have I1:Inv X π σ H { s with heap:=h' }:=I.turned (t':=s.toks) (λb o hb e=>(sb.2 b hb).trans e) f0 f1 f3 f4 f5;obtain⟨o,e,c,d⟩:=id st';exact⟨u,rfl,Ug (s:={ s with heap:=h' }) e c d (by decide) ⟨x,H,I1,ru,⟨rfl,λys hy=>by rw[I.tuple_inj hy hq];exact hx⟩,st',λb hb=>(hf b hb).1⟩⟩
 done:=by
  intro X hP hw hK hc i π s σ H E I hf st hg;subst hP hw hK;obtain⟨xs,hq,hx⟩:=hg;obtain⟨its,rv,p,hz⟩:=I.tuple hq;obtain⟨f0,f1,f2,f3,f4,f5⟩:=hf it (by simp);have hl:=rv.length;exact wpAny_pyNext_tuple_end (I.ok.hd hc) st (show s.heap.IsTuple a its.toArray from p) .(17) λh' eb=>⟨rfl,I.turned (t':=s.toks) (λb o hb e=>eb b o hb e) f0 f1 f3 f4 f5⟩
 self:=λ_ _ _ _ _ st h=>wpAny_pyIter_tupleiter st h
theorem YZ{K:ay}(it:Addr)(lo:Int)(n:Nat):Turn P w K tg (Itr lo n) [it] it (λi h=>IsRangeIter h it (lo+(i:Nat)*1) ((n:Int)-(i:Nat)) 1) where
 mem:=by simp
 obj:=λi h st b hb=>by
  have e:b=it:=by simpa using hb
  subst e;exact⟨_,st,λv z=>by
   have z':D6 _=Data.cell v:=z;cases z'⟩
 keep:=λi h h' st k=>k it (by simp) _ st
 item:=by
  intro X hP hw hK hc i π s σ H E I hf st hg;subst hP hw hK;obtain⟨f0,f1,f2,f3,f4,f5⟩:=hf it (by simp);have W:=Walks.range (prog:=X.prog) (w:=X.w) (I.ok.hd hc) it lo 1 n;refine W.item i s _ _ hg st λv h' tk hv st' kk=>?_;obtain⟨t,rfl⟩:=hv;have I1:Inv X π σ H { s with heap:=h',toks:=tk }:=I.turned (λb o hb e=>kk b o (by simpa using hb) e) f0 f1 f3 f4 f5;refine⟨_,rfl,Ug (s:={ s with heap:=h',toks:=tk }) (n:="range_iterator") st' rfl rfl (by decide) ⟨.int (lo+i),H,I1,⟨t,?_⟩,⟨rfl,rfl⟩,st',λb hb=>(hf b hb).1⟩⟩;rw[Int.mul_one]
 done:=by
  intro X hP hw hK hc i π s σ H E I hf st hg;subst hP hw hK;obtain⟨f0,f1,f2,f3,f4,f5⟩:=hf it (by simp);exact wpAny_pyNext_range_end (I.ok.hd hc) st (by have:n<=i:=hg;omega) λh' eb=>⟨rfl,I.turned (t':=s.toks) (λb o hb e=>eb b o hb e) f0 f1 f3 f4 f5⟩
 self:=λ_ _ _ _ _ st h=>wpAny_pyIter_rangeiter st h
section
variable {X:Cx}
def xm(K:ay)(tl:TE):TI:=λσ H R=>tl σ H λx H1=>∃a,x=.ref a/\(∃xs,SqL K H1 a xs)/\R (Itl K a) H1
def iTup(K:ay)(tl:TE):TI:=λσ H R=>tl σ H λx H1=>∃a,x=.ref a/\(∃xs,SqT K H1 a xs)/\R (Itt K a) H1
theorem n8{l:Expr}{tl:TE}(hl:PE X l tl):PI X tg l (xm X.K tl):=by
 intro π s σ H R I h;refine thn (hl π s σ H _ I h) λv s1 ⟨x,H1,I1,r1,q1⟩=>?_;obtain⟨a,e,⟨xs,hq⟩,q⟩:=q1;subst e;cases r1;obtain⟨its,rv,p,hz⟩:=I1.list hq;refine tj p.isList ?_;refine⟨s1.heap.objs.size,[s1.heap.objs.size],_,_,H1,rfl,I1.kept (t':=s1.toks) λb o e=>aS _ e,bc a _,⟨_,bn _ rfl,rfl,rfl⟩,λb hb=>?_,q⟩;have e:b=s1.heap.objs.size:=by simpa using hb
 subst e;exact I1.fpOk (aE _) (I1.hok.fresh (aE _))
theorem uh{l:Expr}{tl:TE}(hl:PE X l tl):PI X tg l (iTup X.K tl):=by
 intro π s σ H R I h;refine thn (hl π s σ H _ I h) λv s1 ⟨x,H1,I1,r1,q1⟩=>?_;obtain⟨a,e,⟨xs,hq⟩,q⟩:=q1;subst e;cases r1;obtain⟨its,rv,p,hz⟩:=I1.tuple hq;refine D7 (show s1.heap.IsTuple a its.toArray from p) ?_;refine⟨s1.heap.objs.size,[s1.heap.objs.size],_,_,H1,rfl,I1.kept (t':=s1.toks) λb o e=>aS _ e,YX a _,⟨_,bn _ rfl,rfl,rfl⟩,λb hb=>?_,q⟩;have e:b=s1.heap.objs.size:=by simpa using hb
 subst e;exact I1.fpOk (aE _) (I1.hok.fresh (aE _))
theorem d9{σ:St}{H:Hp}{R:It->Hp->Prop}{lo hi:Int}{t u v:Tok}{tk:Nat}(I:Inv X π σ H s)(h1 : -(2^62)<=lo)(h2:lo<2^62)(h3 : -(2^62)<=hi)(h4:hi<2^62)(q:R (Itr lo (hi-lo).toNat) H):ag .(2) X.A (lI (.ref s.heap.objs.size)) (PIE X π σ tg R) E { s with heap:=s.heap.push { cls:=.type "range",data:=.fields #[.int lo t,.int hi u,.int 1 v] },toks:=tk }:=by
 refine wpAny_pyIter_range (IsRange.new ..) (small_one h1 h2 h3 h4) ?_;have I1:Inv X π σ H { s with heap:=s.heap.push { cls:=.type "range",data:=.fields #[.int lo t,.int hi u,.int 1 v] },toks:=tk }:=I.kept λb o e=>aS _ e;refine⟨(s.heap.push { cls:=.type "range",data:=.fields #[.int lo t,.int hi u,.int 1 v] }).objs.size,[(s.heap.push { cls:=.type "range",data:=.fields #[.int lo t,.int hi u,.int 1 v] }).objs.size],_,_,H,rfl,
  I1.kept (t':=tk) λb o e=>aS _ e,YZ _ lo (hi-lo).toNat,?_,λb hb=>?_,q⟩
 .have e1:lo+((0:Nat):Int)*1=lo:=by simp
  have e2:(((hi-lo).toNat:Nat):Int)-((0:Nat):Int)=D8 lo hi 1:=by rw[rangeSize_one];split<;>omega
  show IsRangeIter _ _ (lo+((0:Nat):Int)*1) ((((hi-lo).toNat:Nat):Int)-((0:Nat):Int)) 1;rw[e1,e2];exact bn _ rfl
 .have e:b=(s.heap.push { cls:=.type "range",data:=.fields #[.int lo t,.int hi u,.int 1 v] }).objs.size:=by simpa using hb
  subst e;exact I1.fpOk (aE _) (I1.hok.fresh (aE _))
def xn(ta:TA):TI:=λσ H R=>ta σ H λvs H1=>∃j:Int,vs=[.int j]/\-(2^62)<=j/\j<2^62/\R (Itr 0 j.toNat) H1
theorem bf{a:Expr}{ta:TA}{p:Pos}(hg:Gl X "range")(hm:X.mg "range"=none)(ha:PA X [a] ta)(hs:ar [a] X.env=[.(16)]:=by rfl):PI X tg (.Call (.Name "range" p) [a] [] pos) (xn ta):=by
 intro π s σ H R I h;refine Call_ (M3 I hg hm boot_range (tm (thn (ha pos π s σ H _ I h) λus s1 ⟨vs,H1,I1,r1,q1⟩=>?_) hs rfl));obtain⟨j,e,q1,q2,q⟩:=q1;subst e;cases r1 with
 |cons r rr=>
  cases rr;obtain⟨t,rfl⟩:=r;exact call_range_1 (d9 I1 (by omega) (by omega) q1 q2 (by simpa using q))
def tFor(wi:TI)(g:TG)(tb:TS):TS:=λD σ H=>wi σ H λJ H1=>∃W:Nat->Nat->St->Hp->Prop,(∃m,W 0 m σ H1)/\∀i m σ H,W i m σ H ->
 (J.stop i H/\D.nx σ H)∨(J.go i H/\∃N:St->Hp->Prop,(∀σ' H',N σ' H'->∃m',m'<m/\W (i+1) m' σ' H')/\∀x H',J.yld i H x H'->g x σ H' λσ2 H2=>tb { D with nx:=N,ct:=N,bk:=D.nx } σ2 H2)
def Rc(fp:List Addr)(h:Heap):List (Addr×Obj):=fp.filterMap λb=>(h.get? b).map λo=>(b,o)
theorem J8(hb:b∈fp)(e:h.get? b=some o):(b,o)∈Rc fp h:=D9.mpr ⟨b,hb,by rw[e];rfl⟩
theorem bh{p:Addr×Obj}(hp:p∈Rc fp h):p.1∈fp/\h.get? p.1=some p.2:=by
 obtain⟨b,hb,e⟩:=D9.mp hp;cases q:h.get? b with
 |none=>rw[q] at e;cases e
 |some o=>
  rw[q] at e;have e':(b,o)=p:=cq e;subst e';exact⟨hb,q⟩
theorem Inv.pinned{σ:St}{H:Hp}(I:Inv X π σ H s)(hf:∀b∈fp,FpOk X π H b)(ho:∀b∈fp,∃o,s.heap.get? b=some o/\∀v,o.data≠.cell v):Inv X (π++Rc fp s.heap) σ H s:=
 I.pins_of λp hp=>(eD.mp hp).elim (λz=>I.pin p (eP _ z)) λz=>by
  obtain⟨hb,e⟩:=bh z;obtain⟨f0,f1,f2,_⟩:=hf p.1 hb;obtain⟨o,e',d⟩:=ho p.1 hb;rw[e] at e';cases e';exact⟨e,f0,f1,f2,d⟩
theorem Inv.unpinned{pl:zP}{σ:St}{H:Hp}(I:Inv X (π++pl) σ H s):Inv X π σ H s:=I.pins_of λp hp=>I.pin p (eP _ (gy _ hp))
theorem Yb{iter:Expr}{wi:TI}{g:TG}{tb:TS}(hp:qA .(2) X.A X.env X.xe)(hc:X.calm=true)(hi:PI X tg iter wi)(hg:PG X tg g)(hb:PSs X body tb)(hs:∀x,ip iter X.env x=pure x:=by intro _;rfl):PS X (.For tg iter body [] pos) (tFor wi g tb):=by
 intro π s σ H D I h;refine wpAny_For (thn (hi π s σ H _ I h) λv s1 h1=>thn h1 λitv s2 h2=>?_) hs;obtain⟨it,fp,tn,J,H2,e,I2,T,st2,f2,W,⟨m0,w0⟩,turn⟩:=h2;subst e;have stat:∀{H':Hp},(∀b∈fp,H' b=none)->∀b∈fp,FpOk X π H' b:=λhn b hb=>⟨hn b hb,(f2 b hb).2⟩;refine codeAny_forLoop_any (λn s'=>∃i σ' H',Inv X π σ' H' s'/\tn i s'.heap/\(∀b∈fp,H' b=none)/\W i n σ' H') ?_ m0 ⟨0,σ,H2,I2,st2,λb hb=>(f2 b hb).1,w0⟩;rintro n s3 ⟨i,σ3,H3,I3,st3,fr3,w3⟩
 rcases turn i n σ3 H3 w3 with ⟨stop,qn⟩ | ⟨go,N,hN,step⟩
 .refine oP hp (thn (T.done X rfl rfl rfl hc i π s3 σ3 H3 X.xe I3 (stat fr3) st3 stop) λr s4 ⟨hr,I4⟩=>?_);subst hr;exact xE ⟨σ3,H3,I4,qn⟩
 .refine oP hp (thn (T.item X rfl rfl rfl hc i π s3 σ3 H3 X.xe I3 (stat fr3) st3 go) λr s4 ⟨u,hr,h4⟩=>?_);subst hr;refine oP hp (thn h4 λ_ s5 ⟨x,H5,I5,r5,y5,st5,fr5⟩=>?_);have I5':=I5.pinned (stat fr5) (T.obj _ _ st5);refine oP hp (thn (hg _ s5 σ3 H5 x u _ I5' r5 (step x H5 y5)) λ_ s6 ⟨σ6,H6,I6,q6⟩=>?_);refine oP hp (thn (hb _ s6 σ6 H6 _ I6 q6) λf s7 q7=>?_);have again:∀{σ7:St}{H7:Hp},Inv X (π++Rc fp s5.heap) σ7 H7 s7->N σ7 H7->∃m,m<n/\∃i σ' H',Inv X π σ' H' s7/\tn i s7.heap/\(∀b∈fp,H' b=none)/\W i m σ' H':=λ{σ7 H7} I7 n7=>by
   obtain⟨m',hm,w7⟩:=hN σ7 H7 n7;refine⟨m',hm,i+1,σ7,H7,I7.unpinned,T.keep _ _ _ st5 λb hb o e=>(I7.pin (b,o) (eP _ (eP _ (J8 hb e)))).1,λb hb=>?_,w7⟩;obtain⟨o,e,d⟩:=T.obj _ _ st5 b hb;exact (I7.pin (b,o) (eP _ (eP _ (J8 hb e)))).2.1
  cases f with
  |next=>obtain⟨σ7,H7,I7,n7⟩:=q7;exact again I7 n7
  |cont=>obtain⟨σ7,H7,I7,n7⟩:=q7;exact again I7 n7
  |brk=>obtain⟨σ7,H7,I7,q7⟩:=q7;exact⟨σ7,H7,I7.unpinned,q7⟩
  |ret v=>obtain⟨x7,σ7,H7,I7,r7,q7⟩:=q7;exact⟨x7,σ7,H7,I7.unpinned,r7,q7⟩
end
abbrev R2:=V->V->Hp->VK->Prop
def OpR(X:Cx)(f:ac->ac->Sem ac)(r:R2):Prop:=
 ∀(π:zP) (s:af) (σ:St) (H:Hp) (x y:V) (v u:ac) (Q:VK),Inv X π σ H s->RelV x v->RelV y u->r x y H Q ->
  ag .(2) X.A (f v u) (EP X π σ Q) X.xe s
def UnR(X:Cx)(f:ac->Sem ac)(r:V->Hp->VK->Prop):Prop:=
 ∀(π:zP) (s:af) (σ:St) (H:Hp) (x:V) (v:ac) (Q:VK),Inv X π σ H s->RelV x v->r x H Q ->
  ag .(2) X.A (f v) (EP X π σ Q) X.xe s
def Dd(X:Cx)(f:ac)(r:List V->Hp->VK->Prop):Prop:=
 ∀(π:zP) (s:af) (σ:St) (H:Hp) (xs:List V) (us:List ac) (Q:VK),Inv X π σ H s->Vals xs us->r xs H Q ->
  ag .(2) X.A (call f us) (EP X π σ Q) X.xe s
def TruR(X:Cx)(r:V->Hp->(Bool->Hp->Prop)->Prop):Prop:=
 ∀(π:zP) (s:af) (σ:St) (H:Hp) (x:V) (v:ac) (Q:Bool->Hp->Prop),Inv X π σ H s->RelV x v->r x H Q ->
  ag .(2) X.A (truthy v) (TP X π σ Q) X.xe s
def tOp(r:R2)(ta tb:TE):TE:=λσ H Q=>ta σ H λx H1=>tb σ H1 λy H2=>r x y H2 Q
def tUn(r:V->Hp->VK->Prop)(ta:TE):TE:=λσ H Q=>ta σ H λx H1=>r x H1 Q
def rI(C:Int->Int->Prop)(g:Int->Int->V):R2:=λx y H Q=>∃i j,x=.int i/\y=.int j/\C i j/\Q (g i j) H
def rI0(g:Int->Int->V):R2:=λx y H Q=>∃i j,x=.int i/\y=.int j/\Q (g i j) H
def rU(g:Int->V):V->Hp->VK->Prop:=λx H Q=>∃i,x=.int i/\Q (g i) H
section
variable {X:Cx}{a b c:Expr}{ta tb tc:TE}
theorem binT(ha:PE X a ta)(hb:PE X b tb){π:zP}{s:af}{σ:St}{H:Hp}{R:V->V->Hp->Prop}(I:Inv X π σ H s)(h:ta σ H λx H1=>tb σ H1 λy H2=>R x y H2){Q:ac->af->Prop}{f:ac->ac->Sem ac}(hf:∀v u s2 x y H2,Inv X π σ H2 s2->RelV x v->RelV y u->R x y H2->ag .(2) X.A (f v u) Q X.xe s2):
  ag .(2) X.A (eval a X.env) (λv s₁=>ag .(2) X.A (eval b X.env) (λu s₂=>ag .(2) X.A (f v u) Q X.xe s₂) X.xe s₁) X.xe s:=by
 refine thn (ha π s σ H _ I h) λv s1 ⟨x,H1,I1,r1,q1⟩=>?_;refine thn (hb π s1 σ H1 _ I1 q1) λu s2 ⟨y,H2,I2,r2,q2⟩=>?_;exact hf v u s2 x y H2 I2 r1 r2 q2
theorem rQ{op:Operator}{r:R2}(ho:OpR X (iq op) r)(ha:PE X a ta)(hb:PE X b tb):PE X (.BinOp a op b pos) (tOp r ta tb):=by
 intro π s σ H Q I h;exact wpAny_BinOp (binT ha hb I h λv u s2 x y H2 I2 rx ry q=>ho π s2 σ H2 x y v u Q I2 rx ry q)
theorem xq{op:UnaryOp}{r:V->Hp->VK->Prop}(ho:UnR X (unaryOp op) r)(ha:PE X a ta):PE X (.UnaryOp op a pos) (tUn r ta):=by
 intro π s σ H Q I h;exact UnaryOp_ (thn (ha π s σ H _ I h) λv s1 ⟨x,H1,I1,r1,q1⟩=>ho π s1 σ H1 x v Q I1 r1 q1)
theorem opI{f:ac->ac->Sem ac}{C:Int->Int->Prop}{g:Int->Int->Int}(rule:∀(i j:Int) (t u:Tok) (s:af) (Q:ac->af->Prop) (E:ac->af->Prop),C i j->Q (.int (g i j) s.toks) { s with toks:=s.toks+1 }->ag .(2) X.A (f (.int i t) (.int j u)) Q E s):
  OpR X f (rI C λi j=>.int (g i j)):=by
 intro π s σ H x y v u Q I rx ry h;obtain⟨i,j,rfl,rfl,hc,q⟩:=h;obtain⟨t,rfl⟩:=rx;obtain⟨t',rfl⟩:=ry;exact rule i j t t' s _ _ hc ⟨.int (g i j),H,I.tok _,⟨_,rfl⟩,q⟩
theorem opI0{f:ac->ac->Sem ac}{g:Int->Int->Int}(rule:∀(i j:Int) (t u:Tok) (s:af) (Q:ac->af->Prop) (E:ac->af->Prop),Q (.int (g i j) s.toks) { s with toks:=s.toks+1 }->ag .(2) X.A (f (.int i t) (.int j u)) Q E s):
  OpR X f (rI0 λi j=>.int (g i j)):=by
 intro π s σ H x y v u Q I rx ry h;obtain⟨i,j,rfl,rfl,q⟩:=h;obtain⟨t,rfl⟩:=rx;obtain⟨t',rfl⟩:=ry;exact rule i j t t' s _ _ ⟨.int (g i j),H,I.tok _,⟨_,rfl⟩,q⟩
theorem opB0{f:ac->ac->Sem ac}{g:Int->Int->Bool}(rule:∀(i j:Int) (t u:Tok) (s:af) (Q:ac->af->Prop) (E:ac->af->Prop),Q (.bool (g i j)) s->ag .(2) X.A (f (.int i t) (.int j u)) Q E s):
  OpR X f (rI0 λi j=>.bl (g i j)):=by
 intro π s σ H x y v u Q I rx ry h;obtain⟨i,j,rfl,rfl,q⟩:=h;obtain⟨t,rfl⟩:=rx;obtain⟨t',rfl⟩:=ry;exact rule i j t t' s _ _ ⟨.bl (g i j),H,I,rfl,q⟩
def CDiv(i j:Int):Prop:=0<j/\j<1073741824
def CPow(i j:Int):Prop:=0<=j/\j<=1000000/\i.natAbs<2^64
def CMul(i j:Int):Prop:=(-(2^64)<i/\i<2^64)∨(-(2^64)<j/\j<2^64)
theorem CMul.ok{i j:Int}(h:CMul i j):IntMulOk i j:=by
 rcases h with ⟨h1,h2⟩ | ⟨h1,h2⟩
 .exact .of_left (intBits_le_64 h1 h2)
 .exact .of_right (intBits_le_64 h1 h2)
theorem ul:OpR X (iq .Add) (rI0 λi j=>.int (i+j)):=opI0 λ_ _ _ _ _ _ _ q=>add_int q
theorem um:OpR X (iq .Sub) (rI0 λi j=>.int (i-j)):=opI0 λ_ _ _ _ _ _ _ q=>sub_int q
theorem n_:OpR X (iq .FloorDiv) (rI CDiv λi j=>.int (i/j)):=opI λi j _ _ _ _ _ hc q=>by
 have h1:(0:Int)<j:=hc.1;have h2:j<1073741824:=hc.2;exact floordiv_int (by omega) (by rw[Int.fdiv_eq_ediv_of_nonneg i (by omega)];exact q) (.inl (PyProof.noPylong_small (by omega)))
theorem uo:OpR X (iq .Mod) (rI (λ_ j=>0<j) λi j=>.int (i%j)):=opI λi j _ _ _ _ _ hc q=>by
 have h1:(0:Int)<j:=hc;exact mod_int' (by omega) (by rw[Int.fmod_eq_emod_of_nonneg i (by omega)];exact q)
theorem uq:OpR X (iq .BitAnd) (rI0 λi j=>.int (tq i j)):=opI0 λ_ _ _ _ _ _ _ q=>and_int q
theorem xr:OpR X (iq .BitOr) (rI0 λi j=>.int (tz i j)):=opI0 λ_ _ _ _ _ _ _ q=>or_int q
theorem unI{f:ac->Sem ac}{g:Int->Int}(rule:∀(i:Int) (t:Tok) (s:af) (Q:ac->af->Prop) (E:ac->af->Prop),Q (.int (g i) s.toks) { s with toks:=s.toks+1 }->ag .(2) X.A (f (.int i t)) Q E s):
  UnR X f (rU λi=>.int (g i)):=by
 intro π s σ H x v Q I rx h;obtain⟨i,rfl,q⟩:=h;obtain⟨t,rfl⟩:=rx;exact rule i t s _ _ ⟨.int (g i),H,I.tok _,⟨_,rfl⟩,q⟩
theorem ur:UnR X (unaryOp .USub) (rU λi=>.int (-i)):=unI λ_ _ _ _ _ q=>neg_int q
end
def scal:V->V->Bool
 |.non,.non=>true | .non,.int _=>true | .int _,.non=>true | .non,.bl _=>true | .bl _,.non=>true | .non,.str _=>true | .str _,.non=>true
 |.int _,.int _=>true | .bl _,.bl _=>true | .str _,.str _=>true | .byt _,.byt _=>true
 |.int _,.str _=>true | .str _,.int _=>true | .bl _,.str _=>true | .str _,.bl _=>true
 |_,_=>false
def rEq:R2:=λx y H Q=>scal x y=true/\Q (.bl (decide (x=y))) H
def rNe:R2:=λx y H Q=>scal x y=true/\Q (.bl (!decide (x=y))) H
theorem ZX{i j:Int}:decide (V.int i=V.int j)=(i==j):=by
 rw[iA];simp
theorem d_{i j:Bool}:decide (V.bl i=V.bl j)=(i==j):=by
 rw[iA];simp
theorem ZZ{i j:Str}:decide (V.str i=V.str j)=(i==j):=by
 rw[iA];simp
theorem Za{i j:Array UInt8}:decide (V.byt i=V.byt j)=(i.toList==j.toList):=by
 rw[iA];cases i;cases j;simp
section
variable {X:Cx}{a b c:Expr}{ta tb tc:TE}
theorem Bd{σ:St}{H:Hp}{Q:VK}{k k':Bool}(I:Inv X π σ H s)(q:Q (.bl k) H)(e:k=k'):EP X π σ Q (.bool k') s:=by
 subst e;exact⟨.bl k,H,I,rfl,q⟩
theorem xu:OpR X (d3 .Eq) rEq:=by
 intro π s σ H x y v u Q I rx ry h;obtain⟨hs,q⟩:=h;cases x with
 |non=>
  cases rx;cases y with
  |non=>cases ry;exact PySem.EqNone.eq_none_none (Bd I q (by simp))
  |bl j=>cases ry;exact PySem.EqNone.eq_none_bool (Bd I q (by simp))
  |int j=>obtain⟨t',rfl⟩:=ry;exact PySem.EqNone.eq_none_int (Bd I q (by simp))
  |str j=>obtain⟨t',rfl⟩:=ry;exact PySem.EqNone.eq_none_str (Bd I q (by simp))
  |_=>exact absurd (show false=true from hs) cy
 |bl i=>
  cases rx;cases y with
  |non=>cases ry;exact PySem.EqNone.eq_bool_none (Bd I q (by simp))
  |bl j=>cases ry;exact eq_bool (Bd I q d_)
  |str j=>obtain⟨t',rfl⟩:=ry;exact PySem.EqMixed.eq_bool_str (Bd I q (by simp))
  |_=>exact absurd (show false=true from hs) cy
 |int i=>
  obtain⟨t,rfl⟩:=rx;cases y with
  |non=>cases ry;exact PySem.EqNone.eq_int_none (Bd I q (by simp))
  |int j=>obtain⟨t',rfl⟩:=ry;exact eq_int (Bd I q ZX)
  |str j=>obtain⟨t',rfl⟩:=ry;exact PySem.EqMixed.eq_int_str (Bd I q (by simp))
  |_=>exact absurd (show false=true from hs) cy
 |str i=>
  obtain⟨t,rfl⟩:=rx;cases y with
  |non=>cases ry;exact PySem.EqNone.eq_str_none (Bd I q (by simp))
  |bl j=>cases ry;exact PySem.EqMixed.eq_str_bool (Bd I q (by simp))
  |int j=>obtain⟨t',rfl⟩:=ry;exact PySem.EqMixed.eq_str_int (Bd I q (by simp))
  |str j=>obtain⟨t',rfl⟩:=ry;exact eq_str (Bd I q ZZ)
  |_=>exact absurd (show false=true from hs) cy
 |byt i=>
  obtain⟨t,rfl⟩:=rx;cases y with
  |byt j=>obtain⟨t',rfl⟩:=ry;exact PySem.W.eq_bytes (Bd I q Za)
  |_=>exact absurd (show false=true from hs) cy
 |_=>cases y<;>exact absurd (show false=true from hs) cy
theorem xx:OpR X (d3 .NotEq) rNe:=by
 intro π s σ H x y v u Q I rx ry h;obtain⟨hs,q⟩:=h;cases x with
 |non=>
  cases rx;cases y with
  |non=>cases ry;exact PySem.EqNone.ne_none_none (Bd I q (by simp))
  |bl j=>cases ry;exact PySem.EqNone.ne_none_bool (Bd I q (by simp))
  |int j=>obtain⟨t',rfl⟩:=ry;exact PySem.EqNone.ne_none_int (Bd I q (by simp))
  |str j=>obtain⟨t',rfl⟩:=ry;exact PySem.EqNone.ne_none_str (Bd I q (by simp))
  |_=>exact absurd (show false=true from hs) cy
 |bl i=>
  cases rx;cases y with
  |non=>cases ry;exact PySem.EqNone.ne_bool_none (Bd I q (by simp))
  |bl j=>cases ry;exact ne_bool (Bd I q (congrArg not d_))
  |str j=>obtain⟨t',rfl⟩:=ry;exact PySem.EqMixed.ne_bool_str (Bd I q (by simp))
  |_=>exact absurd (show false=true from hs) cy
 |int i=>
  obtain⟨t,rfl⟩:=rx;cases y with
  |non=>cases ry;exact PySem.EqNone.ne_int_none (Bd I q (by simp))
  |int j=>obtain⟨t',rfl⟩:=ry;exact ne_int (Bd I q (congrArg not ZX))
  |str j=>obtain⟨t',rfl⟩:=ry;exact PySem.EqMixed.ne_int_str (Bd I q (by simp))
  |_=>exact absurd (show false=true from hs) cy
 |str i=>
  obtain⟨t,rfl⟩:=rx;cases y with
  |non=>cases ry;exact PySem.EqNone.ne_str_none (Bd I q (by simp))
  |bl j=>cases ry;exact PySem.EqMixed.ne_str_bool (Bd I q (by simp))
  |int j=>obtain⟨t',rfl⟩:=ry;exact PySem.EqMixed.ne_str_int (Bd I q (by simp))
  |str j=>obtain⟨t',rfl⟩:=ry;exact ne_str (Bd I q (congrArg not ZZ))
  |_=>exact absurd (show false=true from hs) cy
 |byt i=>
  obtain⟨t,rfl⟩:=rx;cases y with
  |byt j=>obtain⟨t',rfl⟩:=ry;exact PySem.W.ne_bytes (Bd I q (congrArg not Za))
  |_=>exact absurd (show false=true from hs) cy
 |_=>cases y<;>exact absurd (show false=true from hs) cy
theorem x_:OpR X (d3 .Lt) (rI0 λi j=>.bl (decide (i<j))):=opB0 λ_ _ _ _ _ _ _ q=>lt_int q
theorem yC:OpR X (d3 .LtE) (rI0 λi j=>.bl (decide (i<=j))):=opB0 λ_ _ _ _ _ _ _ q=>le_int q
theorem yD:OpR X (d3 .Gt) (rI0 λi j=>.bl (decide (j<i))):=opB0 λ_ _ _ _ _ _ _ q=>gt_int q
theorem yE:OpR X (d3 .GtE) (rI0 λi j=>.bl (decide (j<=i))):=opB0 λ_ _ _ _ _ _ _ q=>ge_int q
theorem bu:OpR X (d3 .In) (λx y H Q=>∃i j,x=.str i/\y=.str j/\Q (.bl (!(ng j i 0 j.length 1).isEmpty)) H):=by
 intro π s σ H x y v u Q I rx ry h;obtain⟨i,j,rfl,rfl,q⟩:=h;obtain⟨t,rfl⟩:=rx;obtain⟨t',rfl⟩:=ry;exact in_str (Bd I q rfl)
theorem Vg:OpR X (d3 .NotIn) (λx y H Q=>∃i j,x=.str i/\y=.str j/\Q (.bl (!(!(ng j i 0 j.length 1).isEmpty))) H):=by
 intro π s σ H x y v u Q I rx ry h;obtain⟨i,j,rfl,rfl,q⟩:=h;obtain⟨t,rfl⟩:=rx;obtain⟨t',rfl⟩:=ry;exact notIn_str (Bd I q rfl)
theorem OpR.or{f:ac->ac->Sem ac}{r r':R2}(h:OpR X f r)(h':OpR X f r'):OpR X f (λx y H Q=>r x y H Q∨r' x y H Q):=by
 intro π s σ H x y v u Q I rx ry q
 rcases q with q | q
 .exact h π s σ H x y v u Q I rx ry q
 .exact h' π s σ H x y v u Q I rx ry q
theorem J9(b:Expr){op:n9}(h:op≠.In:=by decide)(h2:op≠.NotIn:=by decide):io op b=false:=by
 have e1:(op==CmpOp.In)=false:=by cases op<;>first | rfl | exact absurd rfl h
 have e2:(op==D0)=false:=by cases op<;>first | rfl | exact absurd rfl h2
 cases b<;>simp[io,e1,e2]
theorem oA{op:n9}{r:R2}(ho:OpR X (d3 op) r)(ha:PE X a ta)(hb:PE X b tb)(hm:io op b=false):PE X (.Compare a [op] [b] pos) (tOp r ta tb):=by
 intro π s σ H Q I h;exact wpAny_Compare1 (binT ha hb I h λv u s2 x y H2 I2 rx ry q=>ho π s2 σ H2 x y v u Q I2 rx ry q) hm
def yF(t:TE):TT:=λσ H Q=>t σ H λx H'=>∃k,x=.bl k/\Q k H'
theorem Zb{op:n9}{r:R2}(ho:OpR X (d3 op) r)(ha:PE X a ta)(hb:PE X b tb)(hm:io op b=false):PT X (.Compare a [op] [b] pos) (yF (tOp r ta tb)):=by
 intro π s σ H Q I h;refine D1 (thn (ha π s σ H _ I h) λv s1 ⟨x,H1,I1,r1,q1⟩=>thn (hb π s1 σ H1 _ I1 q1) λu s2 ⟨y,H2,I2,r2,q2⟩=>
  thn (ho π s2 σ H2 x y v u _ I2 r1 r2 q2) λc s3 ⟨z,H3,I3,r3,k,e,q3⟩=>?_) hm
 subst e;cases r3;exact mP ⟨H3,I3,q3⟩
def TruV(K:ay)(x:V)(H:Hp)(k:Bool):Prop:=
 match x with
 |.non=>k=false
 |.bl b=>k=b
 |.int i=>k=(i != 0)
 |.str y=>y.length<=sizeLine/\k=((y.length:Int) != 0)
 |.byt y=>y.size<=sizeLine/\k=((y.size:Int) != 0)
 |.ref p=>(∃xs,SqL K H p xs/\k=!xs.isEmpty)∨(∃xs,SqT K H p xs/\k=!xs.isEmpty)∨∃kvs,H p=some (.dK kvs)/\k=!kvs.isEmpty
 |_=>False
theorem Yc{κ:Type}{kvs:List (κ×V)}{vs:List (κ×ac)}(r:KV kvs vs):(!vs.isEmpty)=!kvs.isEmpty:=by
 cases r<;>rfl
theorem Rf{xs:List V}(r:Vals xs its):(!its.toArray.isEmpty)=!xs.isEmpty:=by
 cases r<;>simp
theorem Rg:(sizeLine:Nat)<2^63:=by rw[nh];decide
theorem ut:TruR X (λx H Q=>∃k,TruV X.K x H k/\Q k H):=by
 intro π s σ H x v Q I rx h;obtain⟨k,e,q⟩:=h;have hl:=Rg;have hs:sizeLine=16777216:=nh;cases x with
 |non=>
  cases rx;have e':k=false:=e;subst e';exact truthy_none ⟨H,I,q⟩
 |bl b=>
  cases rx;have e':k=b:=e;subst e';exact mP ⟨H,I,q⟩
 |int i=>
  obtain⟨t,rfl⟩:=rx;have e':k=(i != 0):=e;subst e';exact PySem.P.truthy_int ⟨H,I,q⟩
 |str y=>
  obtain⟨t,rfl⟩:=rx;obtain⟨hy,e'⟩:y.length<=sizeLine/\k=((y.length:Int) != 0):=e;subst e';exact PySem.P.truthy_str (by omega) ⟨H,I.tok _,q⟩
 |byt y=>
  obtain⟨t,rfl⟩:=rx;obtain⟨hy,e'⟩:y.size<=sizeLine/\k=((y.size:Int) != 0):=e;subst e';exact PySem.W.truthy_bytes (by omega) ⟨H,I.tok _,q⟩
 |ref p=>
  cases rx;have e':(∃xs,SqL X.K H p xs/\k=!xs.isEmpty)∨(∃xs,SqT X.K H p xs/\k=!xs.isEmpty)∨∃kvs,H p=some (.dK kvs)/\k=!kvs.isEmpty:=e
  rcases e' with ⟨xs,hx,e'⟩ | ⟨xs,hx,e'⟩ | ⟨kvs,hx,e'⟩
  .subst e';obtain⟨its,r,pl,hz⟩:=I.list hx;have hlen:=r.length;exact wpAny_truthy_list pl.isList (by simp only[bS];omega) ⟨H,I.tok _,by rw[Rf r];exact q⟩
  .subst e';obtain⟨its,r,pl,hz⟩:=I.tuple hx;have hlen:=r.length;exact truthy_tuple pl (by simp only[bS];omega) ⟨H,I.tok _,by rw[Rf r];exact q⟩
  .subst e';obtain⟨hz,hS,vs,r,m⟩:kvs.length<=sizeLine/\(p==fq)=false/\∃vs,KV kvs vs/\s.heap.DictOf (Av X.prog X.w) p vs:=I.hok p _ hx;have hlen:kvs.length=vs.length:=xC r;exact wpAny_truthy_dict hS m (by omega) ⟨H,I.tok _,by rw[Yc r];exact q⟩
 |_=>exact (show False from e).elim
theorem eE(ha:PE X a ta)(he:∀whole,qv a X.env whole=(do let v <-whole;kP a.pos;ko [v] (truthy v))):
  PT X a (λσ H Q=>ta σ H λx H'=>∃k,TruV X.K x H' k/\Q k H'):=by
 intro π s σ H Q I h;exact isTrue_plain (thn (ha π s σ H _ I h) λv s1 ⟨x,H1,I1,r1,q1⟩=>ut π s1 σ H1 x v Q I1 r1 q1) (he _)
theorem Yd:OpR X (iq .Add) (λx y H Q=>∃i j,x=.str i/\y=.str j/\i.length+j.length<=sizeLine/\Q (.str (i++j)) H):=by
 intro π s σ H x y v u Q I rx ry h;obtain⟨i,j,rfl,rfl,hz,q⟩:=h;obtain⟨t,rfl⟩:=rx;obtain⟨t',rfl⟩:=ry;exact add_str (λt' tk=>⟨.str (i++j),H,I.tok _,⟨_,rfl⟩,q⟩) hz
theorem vals1{x:V}(r:Vals [x] us):∃u,us=[u]/\RelV x u:=by
 cases r with
 |cons r1 r2=>cases r2;exact⟨_,rfl,r1⟩
theorem vals2{x y:V}(r:Vals [x,y] us):∃u w',us=[u,w']/\RelV x u/\RelV y w':=by
 cases r with
 |cons r1 r2=>
  cases r2 with
  |cons r3 r4=>cases r4;exact⟨_,_,rfl,r1,r3⟩
theorem Uh(hc:X.calm=true):Dd X (.builtin "max") (λxs H Q=>∃i j,xs=[.int i,.int j]/\Q (.int (if j > i then j else i)) H):=by
 intro π s σ H xs us Q I r h;obtain⟨i,j,rfl,q⟩:=h;obtain⟨u,w',rfl,⟨t,rfl⟩,⟨t',rfl⟩⟩:=vals2 r;refine max_two_ints (I.ok.hd hc) λh' tk k=>⟨_,H,I.kept k,?_,q⟩
 by_cases hj:j > i
 .rw[if_pos hj,if_pos hj];exact⟨_,rfl⟩
 .rw[if_neg hj,if_neg hj];exact⟨_,rfl⟩
theorem Ih:Dd X (.type "int") (λxs H Q=>(∃i,xs=[.int i]/\Q (.int i) H)∨∃k,xs=[.bl k]/\Q (.int (if k then 1 else 0)) H):=by
 intro π s σ H xs us Q I r h
 rcases h with ⟨i,rfl,q⟩ | ⟨k,rfl,q⟩
 .obtain⟨u,rfl,t,rfl⟩:=vals1 r;exact call_int_int ⟨.int i,H,I,⟨_,rfl⟩,q⟩
 .obtain⟨u,rfl,r1⟩:=vals1 r;cases r1;exact call_int_bool ⟨.int (if k then 1 else 0),H,I.tok _,⟨_,rfl⟩,q⟩
def LenV(K:ay)(x:V)(H:Hp)(n:Nat):Prop:=
 match x with
 |.str y=>y.length<=sizeLine/\n=y.length
 |.byt y=>y.size<=sizeLine/\n=y.size
 |.ref p=>(∃xs,SqL K H p xs/\n=xs.length)∨∃xs,SqT K H p xs/\n=xs.length
 |_=>False
theorem eF:Dd X (.builtin "len") (λxs H Q=>∃x n,xs=[x]/\LenV X.K x H n/\Q (.int n) H):=by
 intro π s σ H xs us Q I r h;obtain⟨x,n,rfl,e,q⟩:=h;obtain⟨u,rfl,rx⟩:=vals1 r;have hl:=Rg;have hs:sizeLine=16777216:=nh;cases x with
 |str y=>
  obtain⟨t,rfl⟩:=rx;obtain⟨hy,e'⟩:y.length<=sizeLine/\n=y.length:=e;subst e';exact len_str (by omega) ⟨.int _,H,I.tok _,⟨_,rfl⟩,q⟩
 |byt y=>
  obtain⟨t,rfl⟩:=rx;obtain⟨hy,e'⟩:y.size<=sizeLine/\n=y.size:=e;subst e';exact PySem.W.len_bytes (by omega) ⟨.int _,H,I.tok _,⟨_,rfl⟩,q⟩
 |ref p=>
  cases rx;have e':(∃xs,SqL X.K H p xs/\n=xs.length)∨∃xs,SqT X.K H p xs/\n=xs.length:=e
  rcases e' with ⟨xs,hx,e'⟩ | ⟨xs,hx,e'⟩
  .subst e';obtain⟨its,r',pl,hz⟩:=I.list hx;have hlen:=r'.length;exact Calls.call_len_list pl.isList (by simp only[bS];omega) ⟨.int xs.length,H,I.tok _,⟨_,by simp only[bS];rw[hlen]⟩,q⟩
  .subst e';obtain⟨its,r',pl,hz⟩:=I.tuple hx;have hlen:=r'.length;exact len_tuple pl (by simp only[bS];omega) ⟨.int xs.length,H,I.tok _,⟨_,by simp only[bS];rw[hlen]⟩,q⟩
 |_=>exact (show False from e).elim
end
structure ObjM (h:Heap) (x dx C:Addr) (mA:Str->Option ac):Prop where
 obj:h.get? x=some (mT C dx)
 ns:h.Ns1 dx mA
 ne:dx≠x
theorem bw{dx:Addr}{mA:Str->Option ac}(n:h.Ns1 dx mA):∃od,h.get? dx=some od/\∀name,xS name od=some (mA name):=by
 obtain⟨o,es,ep,ho,hd,hk,_,hm⟩:=n;refine⟨o,ho,λname=>?_⟩;have e:=hm name;unfold nsFind findBy at e;rw[<-Array.find?_toList] at e;unfold xS;rw[hd];dsimp only;split
 .rename_i y q;rw[q] at e;exact congrArg some e
 .rename_i q;rw[q] at e;have a:es.toList.any (·.refKey)=false:=by
   rw[A9];intro y hy;obtain⟨z,t,hkey⟩:=hk y (Array.mem_toList_iff.mp hy);simp[DictEntry.refKey,hkey]
  have a':¬ es.toList.any (·.refKey)=true:=by rw[a];exact cy
  rw[if_neg a'];exact congrArg some e
theorem ObjM.look{x dx:Addr}{mA:Str->Option ac}(I:ObjM h x dx C mA):∃od,PySem.W.InstAt h x (mT C dx) C (some od)/\∀name,xS name od=some (mA name):=
 let ⟨od,ho,hl⟩:=bw I.ns
 ⟨od,⟨I.obj,rfl,rfl,ho⟩,hl⟩
section
variable {A:ax}{K:ay}{x dx:Addr}{mA:Str->Option ac}{name:Str}{v:ac}
theorem oE{expr:Bool}{Q:ac->af->Prop}(X:K.In s.heap)(I:ObjM s.heap x dx C mA)(hg:tJ K C name=true)(hh:y0 K C=true)(ha:ff K (.ref C) name=some none)(hv:mA name=some v)(hv':Da v=true)(h:Q v { s with toks:=s.toks+1 }):
  ag (ah prog w) A (getAttr (.ref x) name expr) Q E s:=by
 obtain⟨od,J,hl⟩:=I.look;exact PySem.W.get_value X J (Ap hg).1 (PySem.W.findObj_own hh ha rfl (by rw[hl,hv])) hv' h
theorem eG{pl:Sem Bool}{Q:ac×List ac->af->Prop}(X:K.In s.heap)(I:ObjM s.heap x dx C mA)(hg:tJ K C name=true)(hf:ff K (.ref C) name=some (some (.ref f)))(ht:qB K (.ref f)=true)(hv:mA name=none)(h:Q (.ref f,[.ref x]) s):
  ag (ah prog w) A (kQ (.ref x) name pl) Q E s:=by
 obtain⟨od,J,hl⟩:=I.look;exact PySem.W.method_fn X J (Ap hg).1 (Ap hg).2 hf (beq_iff_eq.mp ht) (by show (xS name od).map (·.isSome)=some false;rw[hl,hv];rfl) h
theorem oF{ns:List Str}{Q:Unit->af->Prop}(X:K.In s.heap)(I:ObjM s.heap x dx C mA)(hs:ff K (.ref C) "__setattr__"=some (some (.builtin "object.__setattr__")))(hp:As K C=true)(ht:Au K C name=some none)(hh:y0 K C=true)(hw:zX mA ns)(hsz:ns.length<=sizeLine)(h:∀h',ObjM h' x dx C (λy=>if y=name then some v else mA y)->i7 dx s.heap h'->Q () { s with heap:=h',toks:=s.toks+2 }):
  ag (ah prog w) A (setAttr (.ref x) name v) Q E s:=by
 obtain⟨od,J,hl⟩:=I.look;refine PySem.W.set_plain X J hs (PySem.W.osa_open (s:={ s with toks:=s.toks+1 }) (r:=none) X J hp ht λb=>?_);obtain⟨cd,hc,hd'⟩:=PySem.W.any_some hh;have hx:s.heap.get? x=some ⟨.ref C,some dx,.plain,#[]⟩:=I.obj;refine ae (ai (ae (ae (wpAny_loadPart hx (ae (PySem.W.Looks.here (s:={ s with toks:=s.toks+1 }) (PySem.W.looks_clsIn X hc) ?_))))));rw[hd'];refine ai (a:=some dx) (ae (ai (ae ?_)));refine wpAny_nsSet1 (s:={ s with toks:=s.toks+1 }) I.ns λh' hn2 hs2=>?_;obtain⟨oD,esD,epD,hoD,hdD,hcD⟩:=hn2.count (PySem.Within.cons name v hw);refine ae (wpAny_lookBehind hoD (by rw[hdD];exact pastItsLine_dict (ck hcD (by rw[eR];omega))) ?_);exact ai (h _ ⟨(hs2.2 _ (cp I.ne)).trans I.obj,hn2,I.ne⟩ hs2)
theorem eO{R:nl->af->Prop}{vs:List ac}(X:K.In s.heap)(hm:AA K C=true)(hi:ff K (.ref C) "__init__"=some (some (.ref f)))(hf:PySem.W.typeIn K (.ref f)=some (.type "function"))(h:fh (ah prog w) (A.under (.builtin "type.__call__" ⟨.ref C::vs,kw⟩)) (.call (.ref f) ⟨.ref (s.heap.objs.size+1)::vs,kw⟩) (PySem.W.InitBack (s.heap.objs.size+1) R)
   { s with heap:=(s.heap.push lP).push (mT C s.heap.objs.size) }):
  fh (ah prog w) A (.call (.ref C) ⟨vs,kw⟩) R s:=by
 obtain⟨hh,g,d,t,os⟩:=s;exact PySem.W.make_core (PySem.W.makes_of X hm) (PySem.W.looks_findIn X hi) (λself=>PySem.W.bind_fn X self hf) (.inl rfl) h
end
def putF(f:Str)(v:V):List (Str×V)->List (Str×V)
 |[]=>[(f,v)]
 | (g,x)::r=>if g=f then (g,v)::r else (g,x)::putF f v r
theorem Qc(f g:Str)(v:V):∀fs:List (Str×V),(putF f v fs).lookup g=if g=f then some v else fs.lookup g
 |[]=>by
  show dA g [(f,v)]=_
  by_cases h:g=f
  .have hb:(g==f)=true:=beq_iff_eq.mpr h;simp only[dA,hb,if_pos h]
  .have hb:(g==f)=false:=beq_eq_false_iff_ne.mpr h;simp only[dA,hb,if_neg h]
 | (k,x)::r=>by
  have ih:=Qc f g v r;rw[show putF f v ((k,x)::r)=(if k=f then (k,v)::r else (k,x)::putF f v r) from rfl]
  by_cases hk:k=f
  .rw[if_pos hk]
   by_cases h:g=k
   .have hb:(g==k)=true:=beq_iff_eq.mpr h;simp only[dA,hb,if_pos (h.trans hk)]
   .have hb:(g==k)=false:=beq_eq_false_iff_ne.mpr h;simp only[dA,hb,if_neg (λe:g=f=>h (e.trans hk.symm))]
  .rw[if_neg hk]
   by_cases h:g=k
   .have hb:(g==k)=true:=beq_iff_eq.mpr h;simp only[dA,hb,if_neg (λe:g=f=>hk (h.symm.trans e))]
   .have hb:(g==k)=false:=beq_eq_false_iff_ne.mpr h;simp only[dA,hb];exact ih
theorem Pg(f:Str)(v:V):∀fs:List (Str×V),f∈(putF f v fs).map (·.1)/\∀g,g∈fs.map (·.1)->g∈(putF f v fs).map (·.1)
 |[]=>⟨by simp[putF],λg h=>by simp at h⟩
 | (k,x)::r=>by
  obtain⟨i1,i2⟩:=Pg f v r;rw[show putF f v ((k,x)::r)=(if k=f then (k,v)::r else (k,x)::putF f v r) from rfl]
  by_cases hk:k=f
  .rw[if_pos hk];subst hk;exact⟨by simp,λg h=>by simpa using h⟩
  .rw[if_neg hk];refine⟨?_,λg h=>?_⟩
   .rw[ba];exact bE _ i1
   .rw[ba] at h ⊢
    rcases bb.mp h with e | e
    .exact bb.mpr (.inl e)
    .exact bE _ (i2 g e)
theorem Qd(f:Str)(v:V):∀fs:List (Str×V),(putF f v fs).length<=fs.length+1
 |[]=>by simp[putF]
 | (k,x)::r=>by
  have ih:=Qd f v r;rw[show putF f v ((k,x)::r)=(if k=f then (k,v)::r else (k,x)::putF f v r) from rfl]
  by_cases hk:k=f
  .rw[if_pos hk,eR,eR];omega
  .rw[if_neg hk,eR,eR];omega
theorem RelO.some_of{v:V}{o:Option ac}(r:RelO (some v) o):∃u,o=some u/\RelV v u:=by
 cases o with
 |none=>exact (show False from r).elim
 |some u=>exact⟨u,rfl,r⟩
theorem RelO.none_of{o:Option ac}(r:RelO none o):o=none:=by
 cases o with
 |none=>rfl
 |some u=>exact (show False from r).elim
theorem bx{v:V}(r:RelV v u):Da u=true:=by
 cases v with
 |non=>cases (show u=jp from r);rfl
 |bl b=>cases (show u=om b from r);rfl
 |int i=>obtain⟨t,e⟩:=(show ∃t,u=tf i t from r);cases e;rfl
 |str x=>obtain⟨t,e⟩:=(show ∃t,u=kK x t from r);cases e;rfl
 |byt b=>obtain⟨t,e⟩:=(show ∃t,u=CU b t from r);cases e;rfl
 |flt b=>obtain⟨t,e⟩:=(show ∃t,u=zW b t from r);cases e;rfl
 |ref a=>cases (show u=cw a from r);rfl
 |ty n=>cases (show u=xB n from r);rfl
section
variable {H H':Hp}{dx:Addr}{fs fs':List (Str×V)}
theorem Q7(hok:HOk P w H h)(e:H a=some (.ins C dx fs)):∃mA,ObjM h a dx C mA/\(∀f,RelO (fs.lookup f) (mA f))/\zX mA (fs.map (·.1))/\fs.length<=1000/\H dx=some (.own a):=by
 obtain⟨d,z,ne,ob,mA,n,r,q⟩:=(show Bc P w H h a (.ins C dx fs) from hok a _ e);exact⟨mA,⟨ob,n,ne⟩,r,q,z,d⟩
end
structure Cls (K:ay) (C:Addr):Prop where
 pg:tJ K C eA=true
 hd:y0 K C=true
 po:As K C=true
 sa:ff K (.ref C) "__setattr__"=some (some (.builtin "object.__setattr__"))
theorem Cls.get{K:ay}(c:Cls K C)(f:Str):tJ K C f=true:=c.pg
def Ed(K:ay)(C:Addr)(f:Str):Prop:=ff K (.ref C) f=some none
theorem Ed.taker{K:ay}{f:Str}(n:Ed K C f):Au K C f=some none:=by
 unfold Au;rw[show ff K (.ref C) f=some none from n];rfl
structure Meth (K:ay) (C:Addr) (m:Str) (f:Addr):Prop where
 at_:ff K (.ref C) m=some (some (.ref f))
 fn:qB K (.ref f)=true
 kp:hU K (.ref f)=true
section
variable {X:Cx}{σ:St}{H:Hp}{dx:Addr}{fs:List (Str×V)}{f:Str}{v:V}{A:ax}
theorem Ye{b:Bool}{Q:ac->af->Prop}(I:Inv X π σ H s)(e:H a=some (.ins C dx fs))(c:Cls X.K C)(n:Ed X.K C f)(l:fs.lookup f=some v)(h:∀u s',Inv X π σ H s'->RelV v u->Q u s'):ag .(2) A (getAttr (.ref a) f b) Q E s:=by
 obtain⟨mA,O,r,_,_,_⟩:=Q7 I.hok e;obtain⟨u,hu,ru⟩:=RelO.some_of (v:=v) (o:=mA f) (by rw[<-l];exact r f);exact oE I.kIn O (c.get f) c.hd n hu (bx ru) (h u _ (I.tok _) ru)
theorem J_{g:Addr}{pl:Sem Bool}{Q:ac×List ac->af->Prop}(I:Inv X π σ H s)(e:H a=some (.ins C dx fs))(c:Cls X.K C)(k:Meth X.K C m g)(l:fs.lookup m=none)(h:Q (.ref g,[.ref a]) s):ag .(2) A (kQ (.ref a) m pl) Q E s:=by
 obtain⟨mA,O,r,_,_,_⟩:=Q7 I.hok e;have hn:mA m=none:=RelO.none_of (by rw[<-l];exact r m);exact eG I.kIn O (c.get m) k.at_ k.fn hn h
theorem Yg{y:V}{Q:Unit->af->Prop}(I:Inv X π σ H s)(e:H a=some (.ins C dx fs))(c:Cls X.K C)(n:Ed X.K C f)(hl:fs.length<1000)(ry:RelV y u)(h:∀s',Inv X π σ (upd H a (.ins C dx (putF f y fs))) s'->Q () s'):ag .(2) A (setAttr (.ref a) f u) Q E s:=by
 obtain⟨mA,O,r,wi,_,ho⟩:=Q7 I.hok e;have hz:(fs.map (·.1)).length<=sizeLine:=by rw[aw,nh];omega
 refine oF I.kIn O c.sa c.po n.taker c.hd wi hz λh' O' sb=>h _ ?_;have hd:∃o,h'.get? dx=some o:=let ⟨o,_,_,e',_⟩:=O'.ns;⟨o,e'⟩;refine I.write (x:=a) (e:=dx) (by rw[e];exact iE) (.inr ho) (λb q hb z=>(sb.2 b hb).trans z) hd ?_;refine⟨by rw[Aq O.ne];exact ho,?_,O.ne,O'.obj,_,O'.ns,λg=>?_,λg hg=>?_⟩
 .have:=Qd f y fs;omega
 .show RelO ((putF f y fs).lookup g) (if g=f then some u else mA g);rw[Qc]
  by_cases q:g=f
  .rw[if_pos q,if_pos q];exact ry
  .rw[if_neg q,if_neg q];exact r g
 .by_cases q:g=f
  .rw[q];exact (Pg f y fs).1
  .refine (Pg f y fs).2 g (wi g λz=>hg ?_);show (if g=f then some u else mA g)=none;rw[if_neg q];exact z
theorem Inv.made(I:Inv X π σ H s):Inv X π σ (upd (upd H s.heap.objs.size (.own (s.heap.objs.size+1))) (s.heap.objs.size+1) (.ins C s.heap.objs.size []))
  { s with heap:=(s.heap.push lP).push (mT C s.heap.objs.size) }:=by
 have e1:(s.heap.push lP).get? s.heap.objs.size=some lP:=bn s.heap rfl;have e2:((s.heap.push lP).push (mT C s.heap.objs.size)).get? (s.heap.objs.size+1)=some (mT C s.heap.objs.size):=by
  have:=bn (s.heap.push lP) (o:=mT C s.heap.objs.size) rfl
  rwa [hZ] at this
 have e3:(s.heap.push lP).Ns s.heap.objs.size (λ_=>none):=⟨lP,#[],_,e1,rfl,(λe he=>absurd he (by simp)),λ_=>rfl⟩;have I1:=I.laid (a:=s.heap.objs.size) (o:=.own (s.heap.objs.size+1)) (h':=s.heap.push lP) (t':=s.toks) (λb u q=>aS _ q) (aE _) ⟨_,e1⟩;refine I1.laid (a:=s.heap.objs.size+1) (o:=.ins C s.heap.objs.size []) (t':=s.toks) (λb u q=>aS _ q) (tP (hZ _ _)) ?_;have ne:s.heap.objs.size≠s.heap.objs.size+1:=bg (qE _);refine⟨by rw[Aq ne,Ak],dQ _,ne,e2,λ_=>none,(Heap.Ns1.of_empty e3).at λo q=>aS _ q,λ_=>iE,λy hy=>absurd rfl hy⟩
theorem oG{f:Str}{Q:ac->af->Prop}(hb:fw e f env (eval e env)=eval e env)(h:ag (ah prog w) A (eval e env) (λo s₁=>ag (ah prog w) A (getAttr o f true) Q E s₁) E s):ag (ah prog w) A (eval (.Attribute e f pos) env) Q E s:=
 Attribute_any_ h (by rw[arm_eval_Attribute,hb])
end
def tFld(K:ay)(ta:TE)(f:Str):TE:=λσ H Q=>ta σ H λx H1=>∃a C dx fs v,x=.ref a/\H1 a=some (.ins C dx fs)/\Cls K C/\Ed K C f/\fs.lookup f=some v/\Q v H1
def sFld(K:ay)(ta tv:TE)(f:Str):TS:=λD σ H=>tv σ H λy H1=>ta σ H1 λx H2=>∃a C dx fs,x=.ref a/\H2 a=some (.ins C dx fs)/\Cls K C/\Ed K C f/\fs.length<1000 ∧
 D.nx σ (upd H2 a (.ins C dx (putF f y fs)))
section
variable {X:Cx}{o value:Expr}{f:Str}{tpos:Pos}{ta tv:TE}
theorem Yh(he:PE X e ta)(hb:fw e f X.env (eval e X.env)=eval e X.env):PE X (.Attribute e f pos) (tFld X.K ta f):=by
 intro π s σ H Q I h;refine oG hb (thn (he π s σ H _ I h) λu s1 ⟨x,H1,I1,rx,a,C,dx,fs,v,ex,ea,c,n,l,q⟩=>?_);subst ex;obtain rfl:u=cw a:=rx;exact Ye I1 ea c n l λu' s2 I2 ru=>⟨v,H1,I2,ru,q⟩
theorem eQ(ha:PE X o ta)(hv:PE X value tv)(hs:eI value (some (.Attribute o f pos')) pos.line X.env=pure false):PS X (.Assign [.Attribute o f pos'] value pos) (sFld X.K ta tv f):=by
 intro π s σ H D I h;refine plainObj_wpAny_Assign_Attribute (thn (hv π s σ H _ I h) λu s1 ⟨y,H1,I1,ry,q⟩=>thn (ha π s1 σ H1 _ I1 q) λov s2 ⟨x,H2,I2,rx,a,C,dx,fs,ex,ea,c,n,l,q2⟩=>?_) hs;subst ex;obtain rfl:ov=cw a:=rx;exact Yg I2 ea c n l ry λs3 I3=>⟨σ,_,I3,q2⟩
def rAdd:V->V->Hp->VK->Prop:=λx y H Q=>∃i j,x=.int i/\y=.int j/\Q (.int (i+j)) H
theorem rR{pl:Sem Bool}{args:List Expr}{σ:St}{H:Hp}{Q:ac->af->Prop}{te:TE}(he:PE X e te)(I:Inv X π σ H s)(h:te σ H λx H1=>∃a C dx fs g,x=.ref a/\H1 a=some (.ins C dx fs)/\Cls X.K C/\Meth X.K C m g/\fs.lookup m=none ∧
   ∀s1,Inv X π σ H1 s1->ag .(2) X.A (kq pos (.ref g) [.ref a] (bP pos (ar args X.env)) (fA pos (fE [] X.env))) Q X.xe s1)(ht:eval (.Call (.Attribute e m apos) args [] pos) X.env=(do
   let ov <-eval e X.env
   kP apos.atName
   let (f,first) <-ko [ov] (kQ ov m pl)
   kq pos f first (bP pos (ar args X.env)) (fA pos (fE [] X.env)))):
  ag .(2) X.A (eval (.Call (.Attribute e m apos) args [] pos) X.env) Q X.xe s:=by
 refine y6 (pl:=pl) (thn (he π s σ H _ I h) λu s1 ⟨x,H1,I1,rx,a,C,dx,fs,g,ex,ea,c,k,l,q⟩=>?_) ht;subst ex;obtain rfl:u=cw a:=rx;exact J_ I1 ea c k l (q s1 I1)
end
section
variable {X:Cx}{σ:St}{H:Hp}{A:ax}{Q:ac->af->Prop}{c:ac}{b:Bool}
inductive TyOf (K:ay) (H:Hp):V->ac->Prop where
  |non:TyOf K H .non (.type "NoneType")
  |bl (x:Bool):TyOf K H (.bl x) (.type "bool")
  |int (i:Int):TyOf K H (.int i) (.type "int")
  |str (x:Str):TyOf K H (.str x) (.type "str")
  |flt (x:UInt64):TyOf K H (.flt x) (.type "float")
  |lst {a:Addr}{xs:List V}(e:H a=some (.lst xs)):TyOf K H (.ref a) (.type "list")
  |frz {a:Addr}{o:Obj}{xs:List V}(e:H a=some (.frz o (.lst xs))):TyOf K H (.ref a) (.type "list")
  |tup {a:Addr}{xs:List V}(e:H a=some (.tup xs)):TyOf K H (.ref a) (.type "tuple")
  |dK {a:Addr}{kvs:List (Key×V)}(e:H a=some (.dK kvs)):TyOf K H (.ref a) (.type "dict")
  |dT {a:Addr}{kvs:List (List Key×V)}(e:H a=some (.dT kvs)):TyOf K H (.ref a) (.type "dict")
  |ins {a C dx:Addr}{fs:List (Str×V)}(e:H a=some (.ins C dx fs)) (cl:Cls K C) (ha:ff K (.ref C) "__class__"=some (some (.builtin "object.__class__")))
      (hn:AB K (.builtin "object.__class__") "__get__"=some (some (.builtin "getset_descriptor.__get__"))) (htk:PySem.W.takesIn K (.builtin "object.__class__")=some true)
      (hm:PySem.W.mroIn K C (.type "object")=some true):TyOf K H (.ref a) (.ref C)
theorem bz{x:V}{t:ac}(I:Inv X π σ H s)(rx:RelV x u)(ty:TyOf X.K H x t)(e:qS X.K t c=some b)(h:∀tk,Q (.bool b) { s with toks:=tk }):
  ag .(2) A (call (.builtin "isinstance") [u,c]) Q E s:=by
 cases ty with
 |non=>cases (show u=jp from rx);exact iF PySem.W.kitx_none I.kIn iE e (λz=>nomatch z) h
 |bl y=>cases (show u=om y from rx);exact iF PySem.W.kitx_bool I.kIn iE e (λz=>nomatch z) h
 |int i=>obtain⟨t,q⟩:=(show ∃t,u=tf i t from rx);cases q;exact iF PySem.W.kitx_int I.kIn iE e (λz=>nomatch z) h
 |str y=>obtain⟨t,q⟩:=(show ∃t,u=kK y t from rx);cases q;exact iF PySem.W.kitx_str I.kIn iE e (λz=>nomatch z) h
 |flt y=>obtain⟨t,q⟩:=(show ∃t,u=zW y t from rx);cases q;exact iF PySem.W.kitx_float I.kIn iE e (λz=>nomatch z) h
 | @lst a xs ea=>
  cases (show u=cw a from rx);obtain⟨_,_,n,_,h1⟩:=(show Bc X.prog X.w H s.heap a (.lst xs) from I.hok a _ ea);exact iF AC I.kIn ⟨_,h1,rfl⟩ e (λz=>nomatch z) h
 | @frz a ob xs ea=>
  cases (show u=cw a from rx);obtain⟨_,_,_,n,_,h1⟩:=(show Bc X.prog X.w H s.heap a (.frz ob (.lst xs)) from I.hok a _ ea);exact iF AC I.kIn ⟨_,h1,rfl⟩ e (λz=>nomatch z) h
 | @tup a xs ea=>
  cases (show u=cw a from rx);obtain⟨_,_,_,p⟩:=(show Bc X.prog X.w H s.heap a (.tup xs) from I.hok a _ ea);obtain⟨o,h1,h2,_⟩:=p;exact iF DA I.kIn ⟨o,h1,h2⟩ e (λz=>nomatch z) h
 | @dK a kvs ea=>
  cases (show u=cw a from rx);obtain⟨_,_,vs,_,p⟩:=(show Bc X.prog X.w H s.heap a (.dK kvs) from I.hok a _ ea);obtain⟨o,es,ep,h1,h2,_⟩:=p;exact iF DB I.kIn ⟨o,h1,h2.1⟩ e (λz=>nomatch z) h
 | @dT a kvs ea=>
  cases (show u=cw a from rx);obtain⟨_,_,xs,_,o,es,ep,h1,h2,_⟩:=(show Bc X.prog X.w H s.heap a (.dT kvs) from I.hok a _ ea);exact iF DB I.kIn ⟨o,h1,h2.1⟩ e (λz=>nomatch z) h
 | @ins a C dx fs ea cl ha hn htk hm=>
  cases (show u=cw a from rx);obtain⟨mA,O,_⟩:=Q7 I.hok ea;obtain⟨od,J,_⟩:=O.look;exact iF (PySem.W.kitx_own (cl.get _) cl.hd ha hn htk hm) I.kIn J e (λz=>nomatch z) h
end
structure Room (k:Nat) (A:ax):Prop where
 hd:A.handled=none
 dp:A.depth+3*k+5<recursionLimit
 un:A.units+16*k+200<bi
theorem Room.mono{k:Nat}{A:ax}(r:Room k A)(h:j<=k):Room j A:=⟨r.hd,by have:=r.dp;omega,by have:=r.un;omega⟩
theorem Room.deeper{k:Nat}{A:ax}(r:Room (k+1) A)(env:Env):Room k (A.deeper env):=
 ⟨r.hd,by have:=r.dp;show A.depth+1+3*k+5<_;omega,by have:=r.un;show A.units+3+16*k+200<_;omega⟩
theorem Yi{A:ax}:(A.under (.builtin "type.__call__" ⟨.ref C::us,kw⟩)).depth=A.depth+1:=by
 first | rfl | simp[AD,Code.weight,Code.isCreation,Code.isGuard,Code.isCaller,DC,AE,guardIds]
theorem Yj{A:ax}:(A.under (.builtin "type.__call__" ⟨.ref C::us,kw⟩)).units=A.units+1:=by
 first | rfl | simp[AD,Code.cUnits,DC,AE]
theorem Room.make{k:Nat}{A:ax}(r:Room (k+1) A)(C:Addr)(us:List ac)(kw:List (Str×ac)):Room k (A.under (.builtin "type.__call__" ⟨.ref C::us,kw⟩)):=
 ⟨r.hd,by have:=r.dp;rw[Yi];omega,by have:=r.un;rw[Yj];omega⟩
theorem Room.depth{k:Nat}{A:ax}(r:Room k A):A.depth<recursionLimit:=by have:=r.dp;omega
theorem Room.units{k:Nat}{A:ax}(r:Room k A):A.units+64<bi:=by have:=r.un;omega
def tNil:TA:=λ_ H Q=>Q [] H
def Zc(ta:TE)(tr:TA):TA:=λσ H Q=>ta σ H λx H1=>tr σ H1 λxs H2=>Q (x::xs) H2
section
variable {X:Cx}{es:List Expr}{te:TE}{t:TA}
theorem Dw:PA X [] tNil:=λ_ _ _ _ H Q I h=>Calls.spliced_nil ⟨[],H,I,.nil,h⟩
theorem B_(ha:PE X e te)(hr:PA X es t)(hs:ar (e::es) X.env=(false,eval e X.env)::ar es X.env:=by rfl):PA X (e::es) (Zc te t):=by
 intro pos π s σ H Q I h;rw[hs];show ag _ _ (spliced ((false,eval e X.env)::bP pos (ar es X.env))) _ _ s;refine DD (thn (ha π s σ H _ I h) λu s1 ⟨x,H1,I1,r1,q1⟩=>?_);exact thn (hr pos π s1 σ H1 _ I1 q1) λus s2 ⟨xs,H2,I2,r2,q2⟩=>⟨x::xs,H2,I2,.cons r1 r2,q2⟩
def tTup(t:TA):TE:=λσ H Q=>t σ H λxs H1=>xs.length<=sizeLine/\∀p,H1 p=none->Q (.ref p) (upd H1 p (.tup xs))
def tLst(t:TA):TE:=λσ H Q=>t σ H λxs H1=>xs.length<=sizeLine/\∀p,H1 p=none->Q (.ref p) (upd H1 p (.lst xs))
theorem eU{x1}(h:PA X es t):PE X (.Tuple es x1 pos) (tTup t):=by
 intro π s σ H Q I hq;refine wpAny_Tuple_spliced (thn (h pos π s σ H _ I hq) λus s1 ⟨xs,H1,I1,r,z,q⟩=>⟨by rw[<-r.length];exact z,?_⟩);have hf:H1 s1.heap.objs.size=none:=I1.hok.fresh (aE _);refine⟨.ref s1.heap.objs.size,upd H1 s1.heap.objs.size (.tup xs),I1.laid (t':=s1.toks) (λb u e=>aS _ e) (aE _) ?_,rfl,q _ hf⟩;exact⟨z,us,r,⟨_,bn _ rfl,rfl,_,rfl⟩⟩
theorem eX(h:PA X es t):PE X (.List es pos) (tLst t):=by
 intro π s σ H Q I hq;refine wpAny_List_spliced (thn (h pos π s σ H _ I hq) λus s1 ⟨xs,H1,I1,r,z,q⟩=>⟨by rw[<-r.length];exact z,?_⟩);have hf:H1 s1.heap.objs.size=none:=I1.hok.fresh (aE _);refine⟨.ref s1.heap.objs.size,upd H1 s1.heap.objs.size (.lst xs),I1.laid (t':=s1.toks) (λb u e=>aS _ e) (aE _) ?_,rfl,q _ hf⟩;exact⟨z,us,0,r,bn _ rfl⟩
end
abbrev Sp:=List V->Hp->VK->XK->Prop
abbrev CXT:=List Env->Hp->af->XK->ac->af->Prop
structure Env0 (P:cE) (w:br) (K:ay) (mg:Str->Option ac) (base:Heap) (A:ax) (outer:List Env) (s:af) (H:Hp):Prop where
 frames:A.frames=some outer
 mod:Mod K mg base
 bs:∀b o,base.get? b=some o->s.heap.get? b=some o/\H b=none
 bsz:base.objs.size<=s.heap.objs.size
 funs:s.heap.FunFrames base outer
 frf:∀b∈frs outer,H b=none
 hok:HOk P w H s.heap
 bare:kL s.gens
def CE(outer:List Env)(P:cE)(w:br)(H:Hp)(s:af)(Q:VK)(u:ac)(s':af):Prop:=
 ∃v H',s'.os=s.os/\kL s'.gens/\Un (frs outer) [] H H' s.heap s'.heap/\HOk P w H' s'.heap/\RelV v u/\Q v H'
def CR(CX:CXT)(outer:List Env)(P:cE)(w:br)(H:Hp)(s:af)(Q:VK)(E:XK)(r:nl)(s':af):Prop:=
 match r with
 |.ok (.ret u)=>CE outer P w H s Q u s'
 |.ok _=>False
 |.error e=>CX outer H s E e s'
structure FnOk (P:cE) (w:br) (K:ay) (mg:Str->Option ac) (base:Heap) (CX:CXT) (k:Nat) (f:Addr) (fd:kR) (ps:List Str) (sp:Sp):Prop where
 len:∀vs H Q E,sp vs H Q E->vs.length=ps.length
 run:∀(A:ax) (outer:List Env) (s:af) (H:Hp) (args:Args) (us:List ac) (vs:List V) (Q:VK) (E:XK),Room k A->Env0 P w K mg base A outer s H->u3 s fd args (ps.zip us)->Vals vs us->sp vs H Q E ->
  fh (ah P w) A (.call (.ref f) args) (CR CX outer P w H s Q E) s
theorem FnOk.mono{P:cE}{w:br}{K:ay}{mg:Str->Option ac}{base:Heap}{CX:CXT}{j k:Nat}{f:Addr}{fd:kR}{ps:List Str}{sp:Sp}(F:FnOk P w K mg base CX j f fd ps sp)(h:j<=k):
  FnOk P w K mg base CX k f fd ps sp:=⟨F.len,λA outer s H args us vs Q E hr=>F.run A outer s H args us vs Q E (hr.mono h)⟩
theorem FnOk.imp{K:ay}{base:Heap}{CX:CXT}{k:Nat}{sp sp':Sp}(F:FnOk P w K mg base CX k f fd ps sp)(h:∀vs H Q E,sp' vs H Q E->sp vs H Q E):FnOk P w K mg base CX k f fd ps sp':=
 ⟨λvs H Q E q=>F.len vs H Q E (h _ _ _ _ q),λA outer s H args us vs Q E hr he hb hv hs=>F.run A outer s H args us vs Q E hr he hb hv (h _ _ _ _ hs)⟩
theorem Env0.make{K:ay}{base:Heap}{A:ax}{outer:List Env}{H:Hp}(e:Env0 P w K mg base A outer s H)(C:Addr)(us:List ac)(kw:List (Str×ac)):
  Env0 P w K mg base (A.under (.builtin "type.__call__" ⟨.ref C::us,kw⟩)) outer s H:=⟨by first | exact e.frames | (simpa [AD,Code.envs,AE,pushEnvs] using e.frames),e.mod,e.bs,e.bsz,e.funs,e.frf,e.hok,e.bare⟩
section
variable {X:Cx}{σ:St}{H:Hp}{s':af}
theorem Inv.env0(I:Inv X π σ H s):Env0 X.prog X.w X.K X.mg X.base X.A X.stack s H:=
 ⟨I.ok.frames,I.ok.mod,I.bs,ck I.ok.bsz I.sz,I.stack,I.stkFree,I.hok,I.bare⟩
theorem Inv.after{Q:VK}(I:Inv X π σ H s)(h:CE X.stack X.prog X.w H s Q u s'):EP X π σ Q u s':=by
 obtain⟨v,H',os,bare,un,hok,r,q⟩:=h;obtain⟨hh,g,d,t,os'⟩:=s';obtain rfl:os'=s.os:=os;exact⟨v,H',I.call (h':=hh) (g':=g) (d':=d) (t':=t) (ch:=[]) un hok bare (λb z=>absurd z (by simp)),r,q⟩
end
def yG(sp:Sp)(dvs:List V)(E:XK)(t:TA):TE:=λσ H Q=>t σ H λvs H1=>sp (vs++dvs) H1 Q E
def rT(C:Addr)(m:Str)(sp:Sp)(dvs:List V)(E:XK)(ta:TE)(t:TA):TE:=λσ H Q=>ta σ H λx H1=>∃a dx fs,x=.ref a/\H1 a=some (.ins C dx fs)/\fs.lookup m=none ∧
 t σ H1 λvs H2=>sp (x::(vs++dvs)) H2 Q E
def yH(C:Addr)(sp:Sp)(dvs:List V)(E:XK)(t:TA):TE:=λσ H Q=>t σ H λvs H1=>∀x dx,H1 x=none->H1 dx=none->dx≠x ->
 sp (.ref x::(vs++dvs)) (upd (upd H1 dx (.own x)) x (.ins C dx [])) (λv H2=>v=.non/\Q (.ref x) H2) E
def Binds(K:ay)(fd:kR)(ps:List Str)(ds:List ac):Prop:=
 ∀(s:af) (us:List ac),K.In s.heap->(us++ds).length=ps.length->u3 s fd ⟨us,[]⟩ (ps.zip (us++ds))
theorem Binds.all{K:ay}(h:∀us:List ac,us.length=ps.length->u4 fd ⟨us,[]⟩=pure (ps.zip us)):Binds K fd ps []:=λs us _ hl=>by
 rw[eL] at hl ⊢;exact .of_eq (h us hl)
def M4(CX:CXT)(X:Cx)(E:XK):Prop:=∀(π:zP) (σ:St) (H:Hp) (s:af) (e:ac) (s':af),Inv X π σ H s->CX X.stack H s E e s'->X.xe e s'
section
variable {X:Cx}{CX:CXT}{k:Nat}{sp:Sp}{dvs:List V}{ds:List ac}{E:XK}{p:Pos}{o:Expr}{es:List Expr}{ta:TE}{t:TA}
theorem Yk{σ:St}{H:Hp}{Q:VK}{vs:List V}(F:FnOk X.prog X.w X.K X.mg X.base CX k f fd ps sp)(hr:Room k X.A)(hb:Binds X.K fd ps ds)(hd:Vals dvs ds)(hx:M4 CX X E)(I:Inv X π σ H s)(r:Vals vs us)(h:sp (vs++dvs) H Q E):ag .(2) X.A (call (.ref f) us) (EP X π σ Q) X.xe s:=by
 have r2:Vals (vs++dvs) (us++ds):=r.append hd;have hl:(us++ds).length=ps.length:=by rw[<-r2.length];exact F.len _ _ _ _ h
 refine y7 (nn (F.run X.A X.stack s H ⟨us,[]⟩ (us++ds) (vs++dvs) Q E hr I.env0 (hb s us I.kIn hl) r2 h) λr s' hq=>?_);cases r with
 |error e=>exact hx π σ H s e s' I hq
 |ok fl=>
  cases fl with
  |ret u=>exact I.after hq
  |next=>exact gI hq
  |brk=>exact gI hq
  |cont=>exact gI hq
theorem Zd(F:FnOk X.prog X.w X.K X.mg X.base CX k f fd ps sp)(hr:Room k X.A)(hg:Gl X x)(hm:X.mg x=some (.ref f))(hk:hU X.K (.ref f)=true)(hb:Binds X.K fd ps ds)(hd:Vals dvs ds)(hx:M4 CX X E)(ha:PA X (e::es) t)(hdb:.(12)=false:=by decide)(he:ar (e::es) X.env=(false,eval e X.env)::ar es X.env:=by rfl)(hpl:(bP pos (ar es X.env)).any (·.1)=false:=by rfl):
  PE X (.Call (.Name x p) (e::es) [] pos) (yG sp dvs E t):=by
 intro π s σ H Q I h;refine qV (Ve I hg hm ?_ hdb);refine ya (h₀:=X.base) I.ok.mod.kin hk (thn (ha pos π s σ H _ I h) λus s1 ⟨vs,H1,I1,r,q⟩=>⟨I1.kIn,?_⟩) he hpl;exact Yk F hr hb hd hx I1 r q
theorem oH{pl:Sem Bool}(he:PE X o ta)(c:Cls X.K C)(hm:Meth X.K C m f)(F:FnOk X.prog X.w X.K X.mg X.base CX k f fd ps sp)(hr:Room k X.A)(hb:Binds X.K fd ps ds)(hd:Vals dvs ds)(hx:M4 CX X E)(ha:PA X (e::es) t)(hst:ar (e::es) X.env=(false,eval e X.env)::ar es X.env:=by rfl)(hpl:(bP pos (ar es X.env)).any (·.1)=false:=by rfl)(ht:eval (.Call (.Attribute o m apos) (e::es) [] pos) X.env=(do
   let ov <-eval o X.env
   kP apos.atName
   let (f,first) <-ko [ov] (kQ ov m pl)
   kq pos f first (bP pos (ar (e::es) X.env)) (fA pos (fE [] X.env))):=by rfl):
  PE X (.Call (.Attribute o m apos) (e::es) [] pos) (rT C m sp dvs E ta t):=by
 intro π s σ H Q I h;refine y6 (pl:=pl) (thn (he π s σ H _ I h) λu s1 ⟨x,H1,I1,rx,a,dx,fs,ex,ea,l,q⟩=>?_) ht;subst ex;obtain rfl:u=cw a:=rx;refine J_ I1 ea c hm l ?_;refine ya (first:=[.ref a]) (h₀:=X.base) I.ok.mod.kin hm.kp (thn (ha pos π s1 σ H1 _ I1 q) λus s2 ⟨vs,H2,I2,r,q2⟩=>⟨I2.kIn,?_⟩) hst hpl;exact Yk (us:=.ref a::us) (vs:=.ref a::vs) F hr hb hd hx I2 (.cons rfl r) q2
theorem eY{pl:Sem Bool}(he:PE X o ta)(c:Cls X.K C)(hm:Meth X.K C m f)(F:FnOk X.prog X.w X.K X.mg X.base CX k f fd ps sp)(hr:Room k X.A)(hb:Binds X.K fd ps ds)(hd:Vals dvs ds)(hx:M4 CX X E)(ht:eval (.Call (.Attribute o m apos) [] [] pos) X.env=(do
   let ov <-eval o X.env
   kP apos.atName
   let (f,first) <-ko [ov] (kQ ov m pl)
   kq pos f first (bP pos (ar [] X.env)) (fA pos (fE [] X.env))):=by rfl):
  PE X (.Call (.Attribute o m apos) [] [] pos) (rT C m sp dvs E ta tNil):=by
 intro π s σ H Q I h;refine y6 (pl:=pl) (thn (he π s σ H _ I h) λu s1 ⟨x,H1,I1,rx,a,dx,fs,ex,ea,l,q⟩=>?_) ht;subst ex;obtain rfl:u=cw a:=rx;refine J_ I1 ea c hm l ?_;exact PySem.W.callWith_K0 (first:=[.ref a]) I1.kIn hm.kp (Yk (us:=[.ref a]) (vs:=[.ref a]) F hr hb hd hx I1 (.cons rfl .nil) q)
structure Mk (K:ay) (C f:Addr):Prop where
 makes:AA K C=true
 init:ff K (.ref C) "__init__"=some (some (.ref f))
 fn:qB K (.ref f)=true
 kp:hU K (.ref C)=true
theorem eZ{σ:St}{H:Hp}{Q:VK}{vs:List V}(M:Mk X.K C f)(F:FnOk X.prog X.w X.K X.mg X.base CX k f fd ps sp)(hr:Room (k+1) X.A)(hb:Binds X.K fd ps ds)(hd:Vals dvs ds)(hx:M4 CX X E)(I:Inv X π σ H s)(r:Vals vs us)(h:∀x dx,H x=none->H dx=none->dx≠x->sp (.ref x::(vs++dvs)) (upd (upd H dx (.own x)) x (.ins C dx [])) (λv H2=>v=.non/\Q (.ref x) H2) E):
  ag .(2) X.A (call (.ref C) us) (EP X π σ Q) X.xe s:=by
 have hq:=h (s.heap.objs.size+1) s.heap.objs.size (I.hok.fresh (iL _)) (I.hok.fresh (aE _)) (bg (qE _));have I2:=Inv.made (C:=C) I;have r2:Vals (V.ref (s.heap.objs.size+1)::(vs++dvs)) (cw (s.heap.objs.size+1)::(us++ds)):=.cons rfl (r.append hd);have hl:(cw (s.heap.objs.size+1)::us++ds).length=ps.length:=by
  have e:=r2.length;rw[F.len _ _ _ _ hq] at e;exact e.symm
 refine y7 (eO (f:=f) I.kIn M.makes M.init (beq_iff_eq.mp M.fn) (nn (F.run _ X.stack _ _ ⟨cw (s.heap.objs.size+1)::us,[]⟩ (cw (s.heap.objs.size+1)::(us++ds)) _ _ E (hr.make C us [])
  (I2.env0.make C us []) (hb _ (cw (s.heap.objs.size+1)::us) I2.kIn hl) r2 hq) λr s' hq'=>?_))
 cases r with
 |error e=>exact hx π σ _ _ e s' I2 hq'
 |ok fl=>
  cases fl with
  |ret u=>
   obtain⟨v,H',I3,rv,ev,q3⟩:=I2.after hq';subst ev;exact⟨rv,⟨V.ref (s.heap.objs.size+1),H',I3,rfl,q3⟩⟩
  |next=>exact gI hq'
  |brk=>exact gI hq'
  |cont=>exact gI hq'
theorem oJ(M:Mk X.K C f)(F:FnOk X.prog X.w X.K X.mg X.base CX k f fd ps sp)(hr:Room (k+1) X.A)(hg:Gl X x)(hm:X.mg x=some (.ref C))(hb:Binds X.K fd ps ds)(hd:Vals dvs ds)(hx:M4 CX X E)(ha:PA X (e::es) t)(hdb:.(12)=false:=by decide)(he:ar (e::es) X.env=(false,eval e X.env)::ar es X.env:=by rfl)(hpl:(bP pos (ar es X.env)).any (·.1)=false:=by rfl):
  PE X (.Call (.Name x p) (e::es) [] pos) (yH C sp dvs E t):=by
 intro π s σ H Q I h;refine qV (Ve I hg hm ?_ hdb);refine ya (h₀:=X.base) I.ok.mod.kin M.kp (thn (ha pos π s σ H _ I h) λus s1 ⟨vs,H1,I1,r,q⟩=>⟨I1.kIn,?_⟩) he hpl;exact eZ M F hr hb hd hx I1 r q
end
section
variable {X:Cx}{CX:CXT}{k:Nat}{sp:Sp}{E:XK}{p kpos:Pos}{o:Expr}{es:List Expr}{kws:List fF}{te ta:TE}{t tk:TA}{nm:Option Str}
variable {g:List ac->List ac->List ac}{gV:List V->List V->List V}
end
structure FnScope (N P:List Str) (sc:ki):Prop where
 kind:sc.kind=.function
 co:sc.isCoroutine=false
 gen:sc.isGenerator=false
 nd:N.Nodup
 pre:N.take P.length=P
 par:∀x∈P,sc.names.lookup x=some .local ∨sc.names.lookup x=some .cell
 nofree:∀y∈sc.names,y.2≠.free
theorem Ui{kindOf:Str->Option kt}{x:Str}:∀{binds:List (Str×ac)}{m:Str->Option ac},(∀v,(x,v)∉binds)->nv kindOf binds m x=m x
 |[],_,_=>rfl
 | (n,v)::r,m,h=>by
  unfold nv;rw[Ui λw hw=>h w (bE _ hw)];split
  .have:x≠n:=by rintro rfl;exact h v cS
   simp[this]
  .rfl
theorem Uj{kindOf:Str->Option kt}{x:Str}:∀{binds:List (Str×ac)}{m:Str->Option ac},(∀v,(x,v)∉binds)->nw kindOf binds m x=m x
 |[],_,_=>rfl
 | (n,v)::r,m,h=>by
  unfold nw;rw[Uj λw hw=>h w (bE _ hw)];split
  .rfl
  .have:x≠n:=by rintro rfl;exact h v cS
   simp[this]
theorem Uk{kindOf:Str->Option kt}{x:Str}{v:ac}:∀{P:List Str}{vs:List ac}{i:Nat}{m:Str->Option ac},P.Nodup->P[i]?=some x->vs[i]?=some v->kindOf x=some .local ->
  nv kindOf (P.zip vs) m x=some v
 |[],_,_,_,_,h,_,_=>by simp at h
 |_::_,[],_,_,_,_,h,_=>by simp at h
 |p::P,w::vs,0,m,nd,h1,h2,hk=>by
  simp at h1 h2;subst h1;subst h2;show nv kindOf ((p,w)::P.zip vs) m p=_;unfold nv;rw[Ui λv hv=>(i6.mp nd).1 (AF hv).1,if_pos hk];simp
 |p::P,w::vs,i+1,m,nd,h1,h2,hk=>by
  show nv kindOf ((p,w)::P.zip vs) m x=_;unfold nv;exact Uk (i:=i) (i6.mp nd).2 (by simpa using h1) (by simpa using h2) hk
theorem Ul{kindOf:Str->Option kt}{x:Str}{v:ac}:∀{P:List Str}{vs:List ac}{i:Nat}{m:Str->Option ac},P.Nodup->P[i]?=some x->vs[i]?=some v->kindOf x≠some .local ->
  nw kindOf (P.zip vs) m x=some v
 |[],_,_,_,_,h,_,_=>by simp at h
 |_::_,[],_,_,_,_,h,_=>by simp at h
 |p::P,w::vs,0,m,nd,h1,h2,hk=>by
  simp at h1 h2;subst h1;subst h2;show nw kindOf ((p,w)::P.zip vs) m p=_;unfold nw;rw[Uj λv hv=>(i6.mp nd).1 (AF hv).1,if_neg hk];simp
 |p::P,w::vs,i+1,m,nd,h1,h2,hk=>by
  show nw kindOf ((p,w)::P.zip vs) m x=_;unfold nw;exact Ul (i:=i) (i6.mp nd).2 (by simpa using h1) (by simpa using h2) hk
def start(N:List Str)(vs:List V):St:=vs.map some++u7 (N.length-vs.length) none
def cxOf(CX:CXT)(P:cE)(w:br)(K:ay)(mg:Str->Option ac)(base:Heap)(N:List Str)(qual:Str)(scope:ki)(f:Addr)(cd:ac)(A:ax)(outer:List Env)(s:af)(H:Hp)(E:XK):Cx where
 prog:=P
 w:=w
 K:=K
 mg:=mg
 base:=base
 A:=A.deeper (fI qual scope s.heap.objs.size f cd)
 N:=N
 s₀:=s
 H₀:=H
 env:=fI qual scope s.heap.objs.size f cd
 outer:=outer
 stack:=fI qual scope s.heap.objs.size f cd::outer
 ex:=[]
 calm:=true
 fn:=λ_=>true
 pn:=[]
 xe:=λe s'=>ag (ah P w) (A.deeper (fI qual scope s.heap.objs.size f cd)) (leaving (fI qual scope s.heap.objs.size f cd) e) (λ_ s''=>CX outer H s E e s'') (λe' s''=>CX outer H s E e' s'') s'
theorem Wm(h:sc.names.lookup x=some .cell):∃c,(cellsFrom n sc.names []).lookup x=some c:=by
 have q:=DE sc.names n [] (.inl h);exact ua.mp q
theorem b_{CX:CXT}{K:ay}{base:Heap}{cd:ac}{A:ax}{outer:List Env}{s1:af}{H:Hp}{E:XK}{vs:List V}(S:FnScope N ps scope)(hd:A.handled=none)(e0:Env0 P w K mg base A outer s H)(hl:vs.length=ps.length)(r:Vals vs us)(x:InCallC s s.heap.objs.size (nv (fI qual scope s.heap.objs.size f cd).kindOf (ps.zip us) λ_=>none) (cellsFrom (s.heap.objs.size+1) scope.names []) (nw (fI qual scope s.heap.objs.size f cd).kindOf (ps.zip us) λ_=>none) s1):
  Inv (cxOf CX P w K mg base N qual scope f cd A outer s H E) [] (start N vs) H s1:=by
 have hpl:ps.length<=N.length:=by have:=congrArg dE S.pre;rw[kU] at this;omega
 obtain⟨h1,tk,rfl,hk⟩:=x.done;have noA:∀b:Addr,b∉(cxOf CX P w K mg base N qual scope f cd A outer s H E).ex:=λb z=>absurd (show b∈([]:List Addr) from z) (by simp);refine⟨⟨e0.mod,S.kind,rfl,rfl,aE _,λy z c h1 h2=>?_,λy hy=>?_,λy c _ h=>?_,λ_=>hd,Around.frames_deeper e0.frames,.inr ⟨rfl,rfl⟩,λb z=>absurd z (noA b),e0.bs,e0.bsz,λb _ _=>noA b,λb z=>absurd z (noA b),e0.funs,e0.frf⟩,
  rfl,e0.bare,Un.kept hk,⟨_,x.toInCall.ns,λi y v h1 h2 h3=>?_⟩,λy c h=>⟨_,x.cell y c h⟩,e0.hok.fresh (aE _),λy c h=>?_,λp hp=>absurd (show p∈([]:zP) from hp) (by simp),e0.hok.kept hk,?_⟩
 .exact name_of_addr x.apart (ub h1) (ub h2)
 .have hy:scope.names.lookup y=some .cell ∨scope.names.lookup y=some .free :=hy
  rcases hy with hy | hy
  .exact Wm hy
  .exact absurd rfl (S.nofree _ (ub hy))
 .exact oC (x.above y c (ub h))
 .have hi:i<vs.length:=by
   unfold start at h2
   by_cases hi:i<vs.length
   .exact hi
   .rw[jv (by simpa using hi)] at h2;rw[yb] at h2;split at h2<;>cases h2
  have ha:vs[i]?=some v:=by
   unfold start at h2;rw[jI (by simpa using hi),be] at h2;cases e:vs[i]? with
   |none=>rw[e] at h2;cases h2
   |some a=>rw[e] at h2;cases h2;rfl
  obtain⟨u,hu,rv⟩:=r.get ha;have hp:ps[i]?=some y:=by
   rw[<-S.pre,yi (by omega)];exact h1
  have ndP:ps.Nodup:=by rw[<-S.pre];exact S.nd.sublist (List.take_sublist _ _)
  refine⟨u,rv,?_⟩
  rcases S.par y (fN hp) with k | k
  .exact .inl ⟨k,Uk ndP hp hu k⟩
  .obtain⟨c,e⟩:=Wm (n:=s.heap.objs.size+1) k;refine .inr ⟨.inl k,c,e,?_⟩;have q:=x.cell y c e;rw[Ul ndP hp hu (by show scope.names.lookup y≠_;rw[k];decide)] at q;exact q
 .exact e0.hok.fresh (oC (x.above y c (ub h)))
 .unfold start;show _=N.length;rw[cb,aw,uk];omega
theorem e_{CX:CXT}{K:ay}{base:Heap}{k:Nat}{name:Str}{params:Arguments}{dV kV:ac}{sp:Sp}(lk:K.lookup f=some ⟨oc,od,.func (fR name qual params body scope dV kV doc pm an cdv ct),osl⟩)(hcd:lS K cdv qual=true)(S:FnScope N ps scope)(len:∀vs H Q E,sp vs H Q E->vs.length=ps.length)(hbody:∀(A:ax) (outer:List Env) (s:af) (H:Hp) (vs:List V) (Q:VK) (E:XK),Room k (A.deeper (fI qual scope s.heap.objs.size f cdv))->sp vs H Q E ->
   ∃t,PSs (cxOf CX P w K mg base N qual scope f cdv A outer s H E) body t/\t { nx:=λ_ H'=>Q .non H',rt:=Q } (start N vs) H):
  FnOk P w K mg base CX (k+1) f (fR name qual params body scope dV kV doc pm an cdv ct) ps sp:=by
 refine⟨len,λA outer s H args us vs Q E hr e0 hb r hsp=>?_⟩;have hl:=len _ _ _ _ hsp;have KX:K.In s.heap:=e0.mod.kin.keeps λb o e=>(e0.bs b o e).1;have lim:s.heap.NoLimit:=e0.mod.nolimit.keeps λb o e=>(e0.bs b o e).1;have hkind:∀y∈ps.zip us,scope.names.lookup y.1=some .local ∨(scope.names.lookup y.1=some .cell /\((cellsFrom (s.heap.objs.size+1) scope.names []).lookup y.1).isSome=true):=λ⟨n,v⟩ hy=>by
  rcases S.par n (AF hy).1 with q | q
  .exact .inl q
  .exact .inr ⟨q,DE _ _ _ (.inl q)⟩
 refine codeAny_call_function hr.depth (KX _ _ lk) rfl S.co S.gen rfl (PySem.W.codeRec_of KX hcd) (hb _ _ _ _ ?_);refine wpAny_newFunctionEnv_cells S.kind hkind λenv he s1 x=>?_;subst he;refine⟨lim.keeps x.toInCall.keep,codeAny_func ?_⟩;obtain⟨t,ht,hq⟩:=hbody A outer s H vs Q E (hr.deeper _) hsp;have I:Inv (cxOf CX P w K mg base N qual scope f cdv A outer s H E) [] (start N vs) H s1:=b_ S hr.hd e0 hl r x;refine i8 (ht [] s1 (start N vs) H _ I hq) (λfl s' hs=>?_) λe s' hs=>hs;have fin:∀{σ':St}{H':Hp}{v:V}{u:ac},Inv (cxOf CX P w K mg base N qual scope f cdv A outer s H E) [] σ' H' s'->RelV v u->Q v H'->CE outer P w H s Q u s':=
  λ{σ' H' v u} J rv q=>⟨v,H',J.os,J.bare,J.base,J.hok,rv,q⟩
 cases fl with
 |ret u=>
  obtain⟨v,σ',H',J,rv,q⟩:=hs;exact fin J rv q
 |next=>
  obtain⟨σ',H',J,q⟩:=hs;exact fin (v:=V.non) (u:=jp) J rfl q
 |brk=>
  obtain⟨_,_,_,q⟩:=hs;exact gI q
 |cont=>
  obtain⟨_,_,_,q⟩:=hs;exact gI q
end L2
variable {vs xs ys:List L2.V}{H H' H1 F2 F1 He Hf:L2.Hp}{v:L2.V}{X:L2.Cx}{σ:L2.St}{tc:L2.TT}{te:L2.TE}{CX:L2.CXT}{r:List L2.V->L2.Hp->L2.VK->Prop}{kvs:List (List L2.Key×L2.V)}
namespace L2
open PySem PySem.Spec PyProof.Rows
section
variable {p:Pos}{es:List Expr}{t:TA}{id T:String}
def tCB(r:List V->Hp->VK->Prop)(t:TA):TE:=λσ H Q=>t σ H λvs H1=>r vs H1 Q
theorem Nq(hc:Dd X (.builtin id) r)(hg:Gl X x)(hm:X.mg x=none)(hv:cr x=some (.builtin id))(ha:PA X (e::es) t)(hn:x≠"__name__":=by decide)(hdb:.(12)=false:=by decide)(he:ar (e::es) X.env=(false,eval e X.env)::ar es X.env:=by rfl)(hpl:(bP pos (ar es X.env)).any (·.1)=false:=by rfl):PE X (.Call (.Name x p) (e::es) [] pos) (tCB r t):=by
 intro π s σ H Q I h;refine qV (M3 I hg hm hv ?_ hn hdb);exact PyProof.Rows.callWith_builtin1 (thn (ha pos π s σ H _ I h) λus s1 ⟨vs,H1,I1,r1,q1⟩=>hc π s1 σ H1 vs us Q I1 r1 q1) he hpl
theorem Ii(hc:Dd X (.type T) r)(hg:Gl X x)(hm:X.mg x=none)(hv:cr x=some (.type T))(ha:PA X (e::es) t)(hn:x≠"__name__":=by decide)(hdb:.(12)=false:=by decide)(he:ar (e::es) X.env=(false,eval e X.env)::ar es X.env:=by rfl)(hpl:(bP pos (ar es X.env)).any (·.1)=false:=by rfl):PE X (.Call (.Name x p) (e::es) [] pos) (tCB r t):=by
 intro π s σ H Q I h;refine qV (M3 I hg hm hv ?_ hn hdb);exact tm (thn (ha pos π s σ H _ I h) λus s1 ⟨vs,H1,I1,r1,q1⟩=>hc π s1 σ H1 vs us Q I1 r1 q1) he hpl
end
end L2
namespace HT
open PySem PyProof.Rows
section
open PySem.SeqAt
open PySem.AutoSeq1 (wpAny_loadPart')
open PySem.MeetsSeq PySem.MeetsSeq2 PySem.MeetsSeq3
end
section
variable {A:ax}
def sIx(n d:Nat):Option Int->Nat
 |none=>d
 |some v=>if v<0 then (v+(n:Int)).toNat else min v.toNat n
theorem uv(n d:Nat)(hd:d<=n)(o:Option Int):sIx n d o<=n:=by
 cases o with
 |none=>exact hd
 |some v=>
  show (if v<0 then (v+(n:Int)).toNat else min v.toNat n)<=n
  by_cases hv:v<0
  .rw[if_pos hv];omega
  .rw[if_neg hv];exact Nat.min_le_right _ _
theorem Ze(v:Int)(n d:Nat):(if v<0 then max (v+(n:Int)) 0 else min v (n:Int))=((sIx n d (some v):Nat):Int):=by
 show (if v<0 then max (v+(n:Int)) 0 else min v (n:Int))=(((if v<0 then (v+(n:Int)).toNat else min v.toNat n):Nat):Int)
 by_cases hv:v<0
 .simp only[if_pos hv];omega
 .simp only[if_neg hv];omega
theorem Yl(lo hi:Option Int)(n:Nat):AG lo hi 1 (n:Int)=(((sIx n 0 lo:Nat):Int),((sIx n n hi:Nat):Int)):=by
 have h1:¬ ((1:Int)<0):=by omega
 unfold AG;simp only[h1,if_false];refine AH ?_ ?_
 .cases lo with
  |none=>rfl
  |some v=>exact Ze v n 0
 .cases hi with
  |none=>rfl
  |some v=>exact Ze v n n
theorem Ym(i j:Nat):yk (i:Int) (j:Int) 1=j-i:=by
 unfold yk;have h1:(1:Int) > 0:=by omega
 simp only[h1,if_true,DF];split<;>omega
theorem Rh{v:ac}{o:Option Int}{Q:Option Int->af->Prop}(p:ny v o)(h:Q o s):ag (ah prog w) A (Builtin.Slice.slicePartIndex v) Q E s:=by
 cases p with
 |none=>exact slicePart_none h
 |int i t=>exact slicePart_int h
theorem Ph{sl:Addr}{vl vu:ac}{lo hi:Option Int}{Q:Int×Int×Nat->af->Prop}(hs:s.heap.IsSliceOf sl vl vu .none)(pl:ny vl lo)(pu:ny vu hi)(h:Q (((sIx n 0 lo:Nat):Int),1,sIx n n hi-sIx n 0 lo) s):ag (ah prog w) A (DH (.ref sl) (pure (n:Int))) Q E s:=by
 obtain⟨os,hos,hcs,hds⟩:=id hs;unfold DH Builtin.Slice.sliceFields;refine ae (ae (iO hos hds (x:=vl) rfl (ae (iO hos hds (x:=vu) rfl (ae (iO hos hds (x:=.none) rfl (ai ?_)))))));refine ae (slicePart_none ?_);show ag _ _ (if ((1:Int)==0)=true then _ else _) _ _ s;rw[if_neg (by decide)];refine ae (Rh pl (ae (Rh pu (ae (ai ?_)))));show ag _ _ (match AG lo hi 1 (n:Int) with | (lo,hi)=>pure (lo,(1:Int),yk lo hi 1)) _ _ s;rw[Yl lo hi n];show ag _ _ (pure (((sIx n 0 lo:Nat):Int),(1:Int),yk ((sIx n 0 lo:Nat):Int) ((sIx n n hi:Nat):Int) 1)) _ _ s;rw[Ym];exact ai h
theorem fB(xs:Array ac)(i k:Nat):((av k).filterMap λ(m:Nat)=>xs[((i:Int)+(m:Int)*1).toNat]?).toArray=((xs.toList.drop i).take k).toArray:=by
 have e:(λ(m:Nat)=>xs[((i:Int)+(m:Int)*1).toNat]?)=λm=>xs[i+m]?:=by
  funext m;have:((i:Int)+(m:Int)*1).toNat=i+m:=by omega
  rw[this]
 rw[e];have:=pick_run xs i k;rw[DI] at this;have e2:((λx=>xs[x]?) ∘ λx=>i+x)=λm=>xs[i+m]?:=rfl;rw[e2] at this;rw[this]
theorem Nr{t sl:Addr}{items:Array ac}{vl vu:ac}{lo hi:Option Int}{Q:ac->af->Prop}(ht:IsTup s.heap t items)(hs:s.heap.IsSliceOf sl vl vu .none)(pl:ny vl lo)(pu:ny vu hi)(hw:¬ (sIx items.size 0 lo=0/\sIx items.size items.size hi=items.size))(h:Q (.ref s.heap.objs.size) { s with heap:=s.heap.push { cls:=.type "tuple",data:=.seq ((items.toList.drop (sIx items.size 0 lo)).take (sIx items.size items.size hi-sIx items.size 0 lo)).toArray } })(hsz:items.size<=sizeLine):ag (ah prog w) A (rd (.ref t) (.ref sl)) Q E s:=by
 have htake:sizeOk (.seq ((items.toList.drop (sIx items.size 0 lo)).take (sIx items.size items.size hi-sIx items.size 0 lo)).toArray):=by
  show ((items.toList.drop (sIx items.size 0 lo)).take (sIx items.size items.size hi-sIx items.size 0 lo)).toArray.size<=sizeLine;rw[bS,kU,oQ,lh];omega
 have hj:sIx items.size items.size hi<=items.size:=uv _ _ (aE _) hi;obtain⟨os,hos,hcs,hds⟩:=id hs;have hTs:s.TypeIs (.ref sl) "slice":=⟨os,hos,hcs⟩;unfold rd
 try with_reducible refine wpAny_holding ?_
 first | refine ae (ai ?_) | skip
 refine ae (wpAny_sequenceKey ht.typeIs (by decide) ?_);refine ae (ma (name:=gi "__getitem__") ht.typeIs AI
  (hJ AI ht.typeIs entry_tuple_getitem ?_ (args_tuple_getitem _ _)))
 show ag _ _ (CH (.ref t) >>= _) _ _ s;refine ae (tupleItemsOf_ ht ?_);refine ae (uS hTs ?_);rw[if_pos (by decide)];refine ae (Ph hs pl pu ?_);have hno:¬ ((((sIx items.size 0 lo:Nat):Int)==0&&(1:Int)==1&&(sIx items.size items.size hi-sIx items.size 0 lo)==items.size)=true):=by
  intro q;rw[gd,gd] at q;have q1:((sIx items.size 0 lo:Nat):Int)=0:=eq_of_beq q.1.1;have q2:sIx items.size items.size hi-sIx items.size 0 lo=items.size:=eq_of_beq q.2;exact hw ⟨by omega,by omega⟩
 show ag _ _ (if (((sIx items.size 0 lo:Nat):Int)==0&&(1:Int)==1&&(sIx items.size items.size hi-sIx items.size 0 lo)==items.size)=true then _ else _) _ _ s;rw[if_neg hno,fB]
 first
  |exact ae (m:=yn _) (kX (ai ⟨_,rfl,ai h⟩) htake)
  |exact ae (m:=yn _) (kX (ae (ai (ai ⟨_,rfl,ai h⟩))) htake)
  |exact ae (ae (m:=yn _) (kX (ai (ai ⟨_,rfl,ai h⟩)) htake))
  |exact ae (ae (m:=yn _) (kX (ai ⟨_,rfl,ai h⟩) htake))
end
end HT
namespace L2
open PySem PySem.Spec PyProof.Rows
abbrev TO:=St->Hp->(Option Int->Hp->Prop)->Prop
def PO(X:Cx)(e:Option Expr)(t:TO):Prop:=
 ∀(π:zP) (s:af) (σ:St) (H:Hp) (Q:Option Int->Hp->Prop),Inv X π σ H s->t σ H Q ->
  ag .(2) X.A (evalPart e X.env) (λu s'=>∃o H',Inv X π σ H' s'/\ny u o/\Q o H') X.xe s
def oK:TO:=λ_ H Q=>Q none H
def yI(t:TE):TO:=λσ H Q=>t σ H λx H1=>∃i,x=.int i/\Q (some i) H1
section
variable {lo hi:Option Expr}{tl th:TO}{p2:Pos}
theorem oN:PO X none oK:=by
 intro π s σ H Q I h;rw[evalPart_none];exact ai ⟨none,H,I,.none,h⟩
theorem oO(h:PE X e te):PO X (some e) (yI te):=by
 intro π s σ H Q I hw;rw[evalPart_some];refine thn (h π s σ H _ I hw) λu s1 ⟨x,H1,I1,r1,q1⟩=>?_;obtain⟨i,rfl,q⟩:=q1;obtain⟨t,rfl⟩:=r1;exact⟨some i,H1,I1,.int i t,q⟩
def SlR(X:Cx)(r:V->Option Int->Option Int->Hp->VK->Prop):Prop:=
 ∀(π:zP) (s:af) (σ:St) (H:Hp) (x:V) (v vl vu:ac) (lo hi:Option Int) (sl:Addr) (Q:VK),Inv X π σ H s->RelV x v->s.heap.IsSliceOf sl vl vu .none->ny vl lo->ny vu hi->r x lo hi H Q ->
  ∃T id,yA (.type T) "__getitem__"=pure (some (.builtin id))/\s.TypeIs v T/\ag .(2) X.A (rd v (.ref sl)) (EP X π σ Q) X.xe s
theorem SlR.or{r r':V->Option Int->Option Int->Hp->VK->Prop}(h:SlR X r)(h':SlR X r'):SlR X (λx lo hi H Q=>r x lo hi H Q∨r' x lo hi H Q):=by
 intro π s σ H x v vl vu lo hi sl Q I rx hs pl pu q
 rcases q with q | q
 .exact h π s σ H x v vl vu lo hi sl Q I rx hs pl pu q
 .exact h' π s σ H x v vl vu lo hi sl Q I rx hs pl pu q
def tSl(r:V->Option Int->Option Int->Hp->VK->Prop)(te:TE)(tl th:TO):TE:=λσ H Q=>te σ H λx H1=>tl σ H1 λl H2=>th σ H2 λu H3=>r x l u H3 Q
theorem fC{r:V->Option Int->Option Int->Hp->VK->Prop}(hr:SlR X r)(he:PE X e te)(hl:PO X lo tl)(hu:PO X hi th):PE X (.Subscript e (.Slice lo hi none p2) pos) (tSl r te tl th):=by
 intro π s σ H Q I h;refine Subscript_ (thn (he π s σ H _ I h) λv s1 ⟨x,H1,I1,r1,q1⟩=>?_);refine wpAny_Slice (thn (hl π s1 σ H1 _ I1 q1) λvl s2 ⟨l,H2,I2,pl,q2⟩=>thn (hu π s2 σ H2 _ I2 q2) λvu s3 ⟨u,H3,I3,pu,q3⟩=>?_);rw[evalPart_none];refine ai ?_;have I4:Inv X π σ H3 { s3 with heap:=s3.heap.push { cls:=.type "slice",data:=.fields #[vl,vu,.none] } }:=I3.kept (t':=s3.toks) λb ob q=>aS _ q;obtain⟨T,id,hT,ht,hg⟩:=hr π { s3 with heap:=s3.heap.push { cls:=.type "slice",data:=.fields #[vl,vu,.none] } } σ H3 x v vl vu l u s3.heap.objs.size Q I4 r1 (Heap.IsSliceOf.new ..) pl pu q3;show ag .(2) X.A (AJ e (.Slice lo hi none p2) v (.ref s3.heap.objs.size)) (EP X π σ Q) X.xe { s3 with heap:=s3.heap.push { cls:=.type "slice",data:=.fields #[vl,vu,.none] } };exact tail_any (ops:=[.ref s3.heap.objs.size,v]) ht hT hg (by with_unfolding_all rfl)
def cutV(xs:List V)(lo hi:Option Int):List V:=(xs.drop (HT.sIx xs.length 0 lo)).take (HT.sIx xs.length xs.length hi-HT.sIx xs.length 0 lo)
theorem Qe(xs:List V)(lo hi:Option Int):(cutV xs lo hi).length<=xs.length:=by
 unfold cutV;rw[kU,oQ];omega
def rSlT(K:ay):V->Option Int->Option Int->Hp->VK->Prop:=λx lo hi H Q=>∃a xs,x=.ref a/\SqT K H a xs ∧
 ¬ (HT.sIx xs.length 0 lo=0/\HT.sIx xs.length xs.length hi=xs.length)/\∀p,H p=none->Q (.ref p) (upd H p (.tup (cutV xs lo hi)))
theorem uw:SlR X (rSlT X.K):=by
 intro π s σ H x v vl vu lo hi sl Q I rx hs pl pu h;obtain⟨a,xs,rfl,hx,hw,q⟩:=h;cases rx;obtain⟨its,r,ht,hz⟩:=I.tuple hx;have hlen:its.toArray.size=xs.length:=by rw[bS];exact r.length.symm
 refine⟨"tuple",_,AI.lookup,ht.typeIs,?_⟩;refine HT.Nr ht hs pl pu (by rw[hlen];exact hw) ?_ (by rw[hlen];exact hz);rw[hlen];refine⟨.ref s.heap.objs.size,_,I.laid (t':=s.toks) (o:=.tup (cutV xs lo hi)) (λb ob q=>aS _ q) (aE _) ?_,rfl,q _ (I.hok.fresh (aE _))⟩;exact⟨ck (Qe xs lo hi) hz,_,(r.drop (HT.sIx xs.length 0 lo)).take (HT.sIx xs.length xs.length hi-HT.sIx xs.length 0 lo),IsTup.new _ _⟩
end
def ixN(n:Nat)(i:Int):Option Nat:=if 0<=i then (if i<n then some i.toNat else none) else if -(n:Int)<=i then some (i+n).toNat else none
def atI{α:Type}(xs:List α)(i:Int):Option α:=(ixN xs.length i).bind λj=>xs[j]?
theorem oR{i:Int}(h:ixN n i=some j):yB i n=some j/\j<n/\-(n:Int)<=i/\i<n:=by
 unfold ixN at h
 by_cases h0:0<=i
 .rw[if_pos h0] at h
  by_cases h1:i<n
  .rw[if_pos h1] at h;have e:i.toNat=j:=cq h;exact⟨by rw[seqIndex_of h0 h1,e],by omega,by omega,h1⟩
  .rw[if_neg h1] at h;cases h
 .rw[if_neg h0] at h
  by_cases h1 : -(n:Int)<=i
  .rw[if_pos h1] at h;have e:(i+n).toNat=j:=cq h;exact⟨by rw[seqIndex_neg (by omega) h1,e],by omega,h1,by omega⟩
  .rw[if_neg h1] at h;cases h
theorem Vh{α:Type}{xs:List α}{i:Int}{v:α}(h:atI xs i=some v):∃j,yB i xs.length=some j/\xs[j]?=some v/\j<xs.length/\-(xs.length:Int)<=i/\i<xs.length:=by
 unfold atI at h;cases e:ixN xs.length i with
 |none=>rw[e] at h;cases h
 |some j=>
  rw[e] at h;obtain⟨h1,h2,h3,h4⟩:=oR e;exact⟨j,h1,h,h2,h3,h4⟩
def Nu(b:Expr):Prop:=∀o i,AK b false o i=operate [o,i] (rd o i)
def IxR(X:Cx)(r:R2):Prop:=
 ∀(value slice:Expr) (π:zP) (s:af) (σ:St) (H:Hp) (x y:V) (v u:ac) (Q:VK),Inv X π σ H s->RelV x v->RelV y u->r x y H Q ->
  AK slice false v u=operate [v,u] (rd v u)->ag .(2) X.A (AJ value slice v u) (EP X π σ Q) X.xe s
def MtR(X:Cx)(id:String)(r:V->List V->Hp->VK->Prop):Prop:=
 ∀(π:zP) (s:af) (σ:St) (H:Hp) (x:V) (xs:List V) (v:ac) (us:List ac) (Q:VK),Inv X π σ H s->RelV x v->Vals xs us->r x xs H Q ->
  ag .(2) X.A (call (.builtin id) (v::us)) (EP X π σ Q) X.xe s
section
variable {a b:Expr}{ta tb:TE}
theorem IxR.or{r r':R2}(h:IxR X r)(h':IxR X r'):IxR X (λx y H Q=>r x y H Q∨r' x y H Q):=by
 intro value slice π s σ H x y v u Q I rx ry q hs
 rcases q with q | q
 .exact h value slice π s σ H x y v u Q I rx ry q hs
 .exact h' value slice π s σ H x y v u Q I rx ry q hs
theorem rW{r:R2}(hr:IxR X r)(ha:PE X a ta)(hb:PE X b tb)(hs:Nu b):PE X (.Subscript a b pos) (tOp r ta tb):=by
 intro π s σ H Q I h;exact Subscript_ (binT ha hb I h λv u s2 x y H2 I2 rx ry q=>hr a b π s2 σ H2 x y v u Q I2 rx ry q (hs _ _))
def rIxL(K:ay):R2:=λx y H Q=>∃p xs i v,x=.ref p/\y=.int i/\SqL K H p xs/\atI xs i=some v/\Q v H
def rIxT(K:ay):R2:=λx y H Q=>∃p xs i v,x=.ref p/\y=.int i/\SqT K H p xs/\atI xs i=some v/\Q v H
def rIxS:R2:=λx y H Q=>∃z i c,x=.str z/\y=.int i/\z.length<=sizeLine/\atI z.cps.toList i=some c/\Q (.str ⟨#[c]⟩) H
theorem oU:IxR X (rIxL X.K):=by
 intro value slice π s σ H x y v u Q I rx ry h hs;obtain⟨p,xs,i,z,rfl,rfl,hq,he,q⟩:=h;cases rx;obtain⟨t,rfl⟩:=ry;obtain⟨its,r,pl,hz⟩:=I.list hq;obtain⟨j,h1,h2,h3,h4,h5⟩:=Vh he;obtain⟨w,ew,rw'⟩:=r.get h2;have hl:=r.length;have hn:=Rg;have fin:EP X π σ Q w s:=⟨z,H,I,rw',q⟩
 by_cases h0:0<=i
 .have hj:i.toNat=j:=by
   rw[seqIndex_of h0 h5] at h1;exact cq h1
  exact item_listR pl.isList h0 (by omega) (by rw[hj];simpa using ew) fin hs
 .have hj:(i+(its.toArray.size:Int)).toNat=j:=by
   rw[seqIndex_neg (by omega) h4] at h1;rw[bS,<-hl];exact cq h1
  exact DJ (x:=w) pl.isList.typeIs DL.lookup
   (wpAny_getItem_list_neg (Q:=λr s'=>r=w/\EP X π σ Q r s') pl.isList (by omega) (by rw[bS]<;>omega) (by omega) (by rw[hj];simpa using ew) ⟨rfl,fin⟩) hs
theorem ux:IxR X (rIxT X.K):=by
 intro value slice π s σ H x y v u Q I rx ry h hs;obtain⟨p,xs,i,z,rfl,rfl,hq,he,q⟩:=h;cases rx;obtain⟨t,rfl⟩:=ry;obtain⟨its,r,pl,hz⟩:=I.tuple hq;obtain⟨j,h1,h2,h3,h4,h5⟩:=Vh he;obtain⟨w,ew,rw'⟩:=r.get h2;have hl:=r.length;have hn:=Rg;have fin:EP X π σ Q w s:=⟨z,H,I,rw',q⟩;exact DJ (x:=w) pl.typeIs slot_tuple_getitem.lookup
  (getItem_tuple (j:=j) (Q:=λr s'=>r=w/\EP X π σ Q r s') pl (by omega) (by omega) (by rw[bS,<-hl];exact h1) (by simpa using ew) ⟨rfl,fin⟩) hs
theorem Vi:IxR X rIxS:=by
 intro value slice π s σ H x y v u Q I rx ry h hs;obtain⟨z,i,c,rfl,rfl,hz,he,q⟩:=h;obtain⟨t,rfl⟩:=rx;obtain⟨t',rfl⟩:=ry;obtain⟨j,h1,h2,h3,h4,h5⟩:=Vh he;have hl:z.cps.toList.length=z.length:=by simp[mf]
 rw[hl] at h1 h4 h5;have hn:=Rg;exact tail_any (AL s z t) slot_str_getitem.lookup (getItem_str (c:=c) (by
  have e1:decide (i < -(2^63:Int))=false:=decide_eq_false (by omega);have e2:decide (i≥2^63)=false:=decide_eq_false (by omega);rw[e1,e2,Bool.or_false]) (by rw[h1];simpa using h2) ⟨.str ⟨#[c]⟩,H,I.tok _,⟨_,rfl⟩,q⟩) hs
def rIx(K:ay):R2:=λx y H Q=>rIxL K x y H Q∨rIxT K x y H Q∨rIxS x y H Q
theorem fD:IxR X (rIx X.K):=oU.or (ux.or Vi)
theorem Vj(lo hi:Option Int)(n:Nat):(oS lo hi none n).1=((HT.sIx n 0 lo:Nat):Int)/\(oS lo hi none n).2.1=((HT.sIx n n hi:Nat):Int)/\(oS lo hi none n).2.2=1:=by
 refine⟨?_,?_,rfl⟩
 .cases lo with
  |none=>simp[oS,HT.sIx]
  |some i=>
   simp only[oS,HT.sIx,DM,show (1:Int) > 0 by decide,if_true]
   by_cases h:i<0
   .simp only[h,if_true]<;>omega
   .simp only[h,if_false]<;>omega
 .cases hi with
  |none=>simp[oS,HT.sIx]
  |some i=>
   simp only[oS,HT.sIx,DM,show (1:Int) > 0 by decide,if_true]
   by_cases h:i<0
   .simp only[h,if_true]<;>omega
   .simp only[h,if_false]<;>omega
theorem T6(its:List ac)(lo hi:Option Int):slicePick its.toArray lo hi none=((its.drop (HT.sIx its.length 0 lo)).take (HT.sIx its.length its.length hi-HT.sIx its.length 0 lo)).toArray:=by
 obtain⟨h1,h2,h3⟩:=Vj lo hi its.toArray.size;unfold slicePick;rw[h1,h2,h3];simp only[sliceRange_one,pick_run,bS]<;>rfl
def rSlL(K:ay):V->Option Int->Option Int->Hp->VK->Prop:=λx lo hi H Q=>∃a xs,x=.ref a/\SqL K H a xs/\∀p,H p=none->Q (.ref p) (upd H p (.lst (cutV xs lo hi)))
theorem oV:SlR X (rSlL X.K):=by
 intro π s σ H x v vl vu lo hi sl Q I rx hs pl pu h;obtain⟨a,xs,rfl,hx,q⟩:=h;cases rx;obtain⟨its,r,ht,hz⟩:=I.list hx;have hlen:=r.length;refine⟨"list",_,DL.lookup,ht.isList.typeIs,?_⟩;refine wpAny_getItem_list_slice ht.isList hs pl pu .none (by simp) ?_ (by rw[bS]<;>omega);rw[T6,<-hlen];refine⟨.ref s.heap.objs.size,_,I.laid (t':=s.toks) (o:=.lst (cutV xs lo hi)) (λb ob q=>aS _ q) (aE _) ?_,rfl,q _ (I.hok.fresh (aE _))⟩;exact⟨ck (Qe xs lo hi) hz,_,0,(r.drop (HT.sIx xs.length 0 lo)).take (HT.sIx xs.length xs.length hi-HT.sIx xs.length 0 lo),bn _ rfl⟩
def Kz:V->Bool
 |.non=>true
 |.bl _=>true
 |.int _=>true
 |.str _=>true
 |_=>false
def eqV:V->V->Bool
 |.non,.non=>true
 |.bl a,.bl b=>a==b
 |.bl a,.int b=>(if a then 1 else 0)==b
 |.int a,.bl b=>a==(if b then 1 else 0)
 |.int a,.int b=>a==b
 |.str a,.str b=>a==b
 |_,_=>false
theorem fG{A:ax}{y x:V}{v:ac}(ry:RelV y u)(rx:RelV x v)(fy:Kz y=true)(fx:Kz x=true):jS A s u v (eqV y x):=by
 cases y with
 |non=>
  cases ry;cases x with
  |non=>cases rx;exact AM _
  |bl b=>cases rx;exact SeqAt.EqAt.none_bool b
  |int b=>obtain⟨t,rfl⟩:=rx;exact SeqAt.EqAt.none_int b t
  |str b=>obtain⟨t,rfl⟩:=rx;exact SeqAt.EqAt.none_str b t
  |_=>exact absurd (show false=true from fx) cy
 |bl a=>
  cases ry;cases x with
  |non=>cases rx;exact SeqAt.EqAt.bool_none a
  |bl b=>cases rx;exact SeqAt.EqAt.bool_bool a b
  |int b=>obtain⟨t,rfl⟩:=rx;exact SeqAt.EqAt.bool_int a b t
  |str b=>obtain⟨t,rfl⟩:=rx;exact SeqAt.EqAt.bool_str a b t
  |_=>exact absurd (show false=true from fx) cy
 |int a=>
  obtain⟨t',rfl⟩:=ry;cases x with
  |non=>cases rx;exact SeqAt.EqAt.int_none a t'
  |bl b=>cases rx;exact SeqAt.EqAt.int_bool a t' b
  |int b=>obtain⟨t,rfl⟩:=rx;exact SeqAt.EqAt.int_int a t' b t
  |str b=>obtain⟨t,rfl⟩:=rx;exact CO a t' b t
  |_=>exact absurd (show false=true from fx) cy
 |str a=>
  obtain⟨t',rfl⟩:=ry;cases x with
  |non=>cases rx;exact SeqAt.EqAt.str_none a t'
  |bl b=>cases rx;exact SeqAt.EqAt.str_bool a t' b
  |int b=>obtain⟨t,rfl⟩:=rx;exact CS a t' b t
  |str b=>obtain⟨t,rfl⟩:=rx;exact SeqAt.EqAt.str_str a t' b t
  |_=>exact absurd (show false=true from fx) cy
 |_=>exact absurd (show false=true from fy) cy
def eqU(x:V)(u:ac):Bool:=match u with
 |.none=>eqV .non x
 |.bool b=>eqV (.bl b) x
 |.int i _=>eqV (.int i) x
 |.str z _=>eqV (.str z) x
 |_=>false
theorem fH{x y:V}(r:RelV y u)(f:Kz y=true):eqU x u=eqV y x:=by
 cases y with
 |non=>cases r;rfl
 |bl b=>cases r;rfl
 |int i=>obtain⟨t,rfl⟩:=r;rfl
 |str z=>obtain⟨t,rfl⟩:=r;rfl
 |_=>exact absurd (show false=true from f) cy
theorem Nv{x:V}:∀{xs:List V}{us:List ac},Vals xs us->xs.all Kz=true->us.any (eqU x)=xs.any λy=>eqV y x
 |_,_,.nil,_=>rfl
 |y::xs,u::us,.cons r t,f=>by
  rw[nB,gd] at f;rw[p4,p4,fH r f.1,Nv t f.2]
theorem K4{A:ax}{s:af}{x:V}{v:ac}(rx:RelV x v)(fx:Kz x=true):∀{xs:List V}{us:List ac},Vals xs us->xs.all Kz=true->∀u∈us,jS A s u v (eqU x u)
 |_,_,.nil,_=>λu hu=>by cases hu
 |y::xs,u::us,.cons r t,f=>λu' hu=>by
  rw[nB,gd] at f
  rcases bb.mp hu with rfl | hu
  .rw[fH r f.1];exact fG r rx f.1 fx
  .exact K4 rx fx t f.2 u' hu
def inV(x:V)(xs:List V):Bool:=xs.any λy=>eqV y x
def rIn(K:ay)(neg:Bool):R2:=λx y H Q=>∃p xs,y=.ref p/\(SqL K H p xs∨SqT K H p xs)/\Kz x=true/\xs.all Kz=true/\Q (.bl (if neg then !inV x xs else inV x xs)) H
theorem cA:OpR X (d3 .In) (rIn X.K false):=by
 intro π s σ H x y v u Q I rx ry h;obtain⟨p,xs,rfl,hq,fx,fs,q⟩:=h;cases ry
 rcases hq with hq | hq
 .obtain⟨its,r,pl,hz⟩:=I.list hq;refine DO (eqU x) pl.isList (λw hw=>K4 rx fx r fs w (by simpa using hw)) ⟨.bl _,H,I,rfl,?_⟩;rw[show its.toArray.any (eqU x)=its.any (eqU x) by simp,Nv r fs];exact q
 .obtain⟨its,r,pl,hz⟩:=I.tuple hq;refine SeqAt.in_tupleAt (eqU x) pl (λw hw=>K4 rx fx r fs w (by simpa using hw)) ⟨.bl _,H,I,rfl,?_⟩;rw[show its.toArray.any (eqU x)=its.any (eqU x) by simp,Nv r fs];exact q
theorem Vk:OpR X (d3 .NotIn) (rIn X.K true):=by
 intro π s σ H x y v u Q I rx ry h;obtain⟨p,xs,rfl,hq,fx,fs,q⟩:=h;cases ry
 rcases hq with hq | hq
 .obtain⟨its,r,pl,hz⟩:=I.list hq;refine DS (eqU x) pl.isList (λw hw=>K4 rx fx r fs w (by simpa using hw)) ⟨.bl _,H,I,rfl,?_⟩;rw[show its.toArray.any (eqU x)=its.any (eqU x) by simp,Nv r fs];exact q
 .obtain⟨its,r,pl,hz⟩:=I.tuple hq;refine SeqAt.notIn_tupleAt (eqU x) pl (λw hw=>K4 rx fx r fs w (by simpa using hw)) ⟨.bl _,H,I,rfl,?_⟩;rw[show its.toArray.any (eqU x)=its.any (eqU x) by simp,Nv r fs];exact q
theorem Dd.or{f:ac}{r':List V->Hp->VK->Prop}(h:Dd X f r)(h':Dd X f r'):Dd X f (λxs H Q=>r xs H Q∨r' xs H Q):=by
 intro π s σ H xs us Q I rs q
 rcases q with q | q
 .exact h π s σ H xs us Q I rs q
 .exact h' π s σ H xs us Q I rs q
theorem Hs:Dd X (.type "list") (λxs H Q=>∃p ys,xs=[.ref p]/\(SqL X.K H p ys∨SqT X.K H p ys)/\∀l,H l=none->Q (.ref l) (upd H l (.lst ys))):=by
  intro π s σ H xs us Q I r h;obtain⟨p,ys,rfl,hq,q⟩:=h;obtain⟨u,rfl,rx⟩:=vals1 r;cases rx;have fin:∀(its:List ac),Vals ys its->ys.length<=sizeLine->∀(h':Heap) (c':Nat),(∀b o',s.heap.get? b=some o'->h'.get? b=some o') ->
      h'.get? s.heap.objs.size=some { cls:=.type "list",dict:=none,data:=.seq its.toArray c',slots:=#[] }->EP X π σ Q (.ref s.heap.objs.size) { s with heap:=h' }:=λits r' hz h' c' kp e=>
    ⟨.ref s.heap.objs.size,_,I.laid (t':=s.toks) kp (aE _) (show Bc X.prog X.w _ h' _ (.lst ys) from⟨hz,its,c',r',e⟩),rfl,q _ (I.hok.fresh (aE _))⟩
  rcases hq with hq | hq
  . obtain⟨its,r',pl,hz⟩:=I.list hq
    have hlen:=r'.length;obtain⟨o,ho,hc,n,hd⟩:=pl.isList;exact call_list_seq p (.inl rfl) ho hc hd (λh' c' kp e=>fin its r' hz h' c' kp e) (by simp only[bS]<;>omega)
  . obtain⟨its,r',pl,hz⟩:=I.tuple hq
    have hlen:=r'.length;obtain⟨o,ho,hc,n,hd⟩:=pl;exact call_list_seq p (.inr rfl) ho hc hd (λh' c' kp e=>fin its r' hz h' c' kp e) (by simp only[bS]<;>omega)
def tyV(K:ay)(T:String)(x:V)(H:Hp):Prop:=match x with
  |.str _=>T="str"
  |.int _=>T="int"
  |.ref p=>(T="list"/\∃xs,SqL K H p xs)∨(T="tuple"/\∃o,K.lookup p=some o/\o.cls=.type "tuple"/\o.dict=none) ∨
      (T="dict"/\((∃kvs,H p=some (.dK kvs))∨∃kvs,H p=some (.dT kvs)))∨(T="set"/\∃S n,H p=some (.set S n))
  |_=>False
theorem uy{T:String}{x:V}{v:ac}(I:Inv X π σ H s)(r:RelV x v)(ty:tyV X.K T x H):
  s.TypeIs v T/\∀a,v=.ref a->∃ob,s.heap.get? a=some ob/\ob.dict=none:=by
 cases x with
 |str z=>
  obtain⟨t,rfl⟩:=r;cases (show T="str" from ty);exact⟨AL s z t,λ_ e=>nomatch e⟩
 |int i=>
  obtain⟨t,rfl⟩:=r;cases (show T="int" from ty);exact⟨typeIs_int s i t,λ_ e=>nomatch e⟩
 |ref p=>
  cases r
  rcases ty with ⟨rfl,xs,hq⟩ | ⟨rfl,o,hk,hc,hd⟩ | ⟨rfl,hk⟩ | ⟨rfl,S,n,hk⟩
  .obtain⟨its,_,pl,_⟩:=I.list hq;refine⟨pl.isList.typeIs,λa e=>?_⟩;cases e;obtain⟨o,n,e,c,hd,_⟩:=pl;exact⟨o,e,hd⟩
  .refine⟨⟨o,I.kIn p o hk,hc⟩,λa e=>?_⟩;cases e;exact⟨o,I.kIn _ o hk,hd⟩
  .have z:∃o,s.heap.get? p=some o/\o.ExactDict:=by
    rcases hk with ⟨kvs,hk⟩ | ⟨kvs,hk⟩
    .obtain⟨_,_,_,_,o,_,_,e,ex,_⟩:=I.hok p _ hk;exact⟨o,e,ex⟩
    .obtain⟨_,_,_,_,o,_,_,e,ex,_⟩:=I.hok p _ hk;exact⟨o,e,ex⟩
   obtain⟨o,e,ex⟩:=z;refine⟨⟨o,e,ex.1⟩,λa e2=>?_⟩;cases e2;exact⟨o,e,ex.2.1⟩
  .obtain⟨o,_,_,_,e,ex,_⟩:=I.hok p _ hk;refine⟨⟨o,e,ex.1⟩,λa e2=>?_⟩;cases e2;exact⟨o,e,ex.2.1⟩
 |_=>exact gI ty
def tBM(K:ay)(T:String)(r:V->List V->Hp->VK->Prop)(to:TE)(t:TA):TE:=λσ H Q=>to σ H λx H1=>tyV K T x H1/\t σ H1 λxs H2=>r x xs H2 Q
variable {o:Expr}{es:List Expr}{to:TE}{t:TA}{name:Str}{T id:String}{r:V->List V->Hp->VK->Prop}
theorem Wn(pa:PlainAttrs T)(slot:Slot T name id)(hty:typeOf (.builtin id)=pure (.type "method_descriptor"))(hm:MtR X id r)(ho:PE X o to)(ha:PA X (e::es) t)(hbase:fw o name X.env (eval o X.env)=eval o X.env:=by rfl)(hfew:((bP cpos (ar (e::es) X.env)).all (λx=>!x.1)&&(fA cpos (fE [] X.env)).all (λx=>x.1.isSome)
   && decide ((e::es).length+([]:List fF).length+(if ([]:List fF).isEmpty then 0 else 1)<30))=true:=by rfl)(hline:(apos.endLine==cpos.line)=true:=by rfl)(hs:ar (e::es) X.env=(false,eval e X.env)::ar es X.env:=by rfl)(hplain:(bP cpos (ar es X.env)).any (·.1)=false:=by rfl):
  PE X (.Call (.Attribute o name apos) (e::es) [] cpos) (tBM X.K T r to t):=by
 intro π s σ H Q I h;refine wpAny_Call_method_late hbase hfew hline rfl (thn (ho π s σ H _ I h) λv s1 ⟨x,H1,I1,r1,ty,q1⟩=>?_);obtain⟨h1,h2⟩:=uy I1 r1 ty;refine⟨T,id,pa,slot,hty,h1,h2,?_⟩;have hA:=ha cpos π s1 σ H1 _ I1 q1;rw[hs] at hA ⊢;refine Calls.callWith_builtin (by show (false||(bP cpos (ar es X.env)).any (·.1))=false;rw[hplain]<;>rfl) (Calls.evalArgs_plain ?_);exact thn hA λus s2 ⟨vs,H2,I2,r2,q2⟩=>hm π s2 σ H2 x vs v us Q I2 r1 r2 q2
end
def MtM(X:Cx)(id:String)(r:V->List V->Hp->VK->Prop):Prop:=
 ∀(π:zP) (s:af) (σ:St) (H:Hp) (x:V) (xs:List V) (v:ac) (us:List ac) (Q:VK),Inv X π σ H s->RelV x v->Vals xs us->r x xs H Q ->
  ag .(2) X.A (call (.builtin id) (v::us)) (EP X π σ Q) X.xe s
theorem Vals.one:∀{x:V}{us:List ac},Vals [x] us->∃u,us=[u]/\RelV x u
 |_,_,.cons r .nil=>⟨_,rfl,r⟩
theorem Vals.eraseIdx:∀{xs:List V}{us:List ac}(i:Nat),Vals xs us->Vals (xs.eraseIdx i) (us.eraseIdx i)
 |_,_,_,.nil=>.nil
 |_,_,0,.cons _ t=>t
 |_,_,i+1,.cons r t=>.cons r (Vals.eraseIdx i t)
theorem Pj{α:Type}:∀(l:List α) (i:Nat),(l.eraseIdx i).length<=l.length
 |[],_=>aE _
 |_::_,0=>iL _
 |_::r,i+1=>DT (Pj r i)
section
variable {l:Addr}{zs:List V}
theorem Inv.lset{its':List ac}{f:Array ac->Array ac}(I:Inv X π σ H s)(hH:H l=some (.lst xs))(e:s.heap.get? l=some { cls:=.type "list",data:=.seq its.toArray n })(hf:f its.toArray=its'.toArray)(hv:Vals ys its')(hz:ys.length<=sizeLine):
  Inv X π σ (upd H l (.lst ys)) { s with heap:=s.heap.update l (ku f),toks:=t' }:=by
 have q:=PySem.IsL.update e f;rw[hf] at q;refine I.write (x:=l) (e:=l) (by rw[hH];exact trivial) (.inl rfl) (λb' u hb hu=>(nE s.heap (ku f) (cp hb)).trans hu) ⟨_,q⟩ ?_;exact⟨hz,its',_,hv,q⟩
theorem Inv.lnew(I:Inv X π σ H s)(hv:Vals ys its)(hz:ys.length<=sizeLine):
  Inv X π σ (upd H s.heap.objs.size (.lst ys)) { s with heap:=s.heap.push { cls:=.type "list",data:=.seq its.toArray },toks:=t' }:=
 I.laid (λ_ _ q=>aS _ q) (aE _) ⟨hz,its,0,hv,bn _ rfl⟩
theorem Inv.fresh(I:Inv X π σ H s):H s.heap.objs.size=none:=I.hok.fresh (aE _)
theorem Inv.lstM(I:Inv X π σ H s)(hH:H l=some (.lst xs)):xs.length<=sizeLine/\∃(its:List ac) (n:Nat),Vals xs its/\xs.length=its.length/\s.heap.get? l=some { cls:=.type "list",data:=.seq its.toArray n }:=by
 obtain⟨z,its,n,r,e⟩:=I.hok l _ hH;exact⟨z,its,n,r,r.length,e⟩
theorem fJ(h:n<=sizeLine):yT n=false:=by
 unfold yT;exact decide_eq_false (by omega)
end
section
def Zf:V->List V->Hp->VK->Prop:=λx vs H Q=>∃l xs y,x=.ref l/\vs=[y]/\H l=some (.lst xs)/\xs.length<sizeLine/\Q .non (upd H l (.lst (xs++[y])))
theorem Lz:MtM X "list.append" Zf:=by
 intro π s σ H x vs v us Q I rx rv h;obtain⟨l,xs,y,rfl,rfl,hH,hz,q⟩:=h;cases rx;obtain⟨u,rfl,ru⟩:=rv.one;obtain⟨z,its,n,r,hl,e⟩:=I.lstM hH;refine re F.slot_list_append ⟨_,e,rfl⟩ F.entry_list_append (F.args_list_append_2 _ _) (PySem.list_append l its.toArray n u (by rw[bS];omega)) ⟨e,?_⟩;refine⟨.non,_,I.lset (its':=its++[u]) hH e (by simp) (r.append (.cons ru .nil)) ?_,rfl,q⟩;rw[cb,ky];omega
def uz:V->List V->Hp->VK->Prop:=λx vs H Q=>∃l xs i k y,x=.ref l/\vs=[.int i]/\H l=some (.lst xs)/\-(2^63)<=i/\i<2^63/\yB i xs.length=some k/\xs[k]?=some y/\Q y (upd H l (.lst (xs.eraseIdx k)))
theorem fK:MtM X "list.pop" uz:=by
 intro π s σ H x vs v us Q I rx rv h;obtain⟨l,xs,i,k,y,rfl,rfl,hH,h1,h2,hk,hy,q⟩:=h;cases rx;obtain⟨u,rfl,ru⟩:=rv.one;obtain⟨t,rfl⟩:=ru;obtain⟨z,its,n,r,hl,e⟩:=I.lstM hH;obtain⟨w,hw,rw'⟩:=r.get hy;refine re F.slot_list_pop ⟨_,e,rfl⟩ F.entry_list_pop (F.args_list_pop_2 _ _)
  (MeetsSeq.list_pop_at l its.toArray n i t k w (fitsIndex_both h1 h2) (by rw[bS,<-hl];exact hk) (by rw[<-AN];exact hw) (by rw[bS];omega)) ⟨e,?_⟩
 refine⟨y,_,I.lset (its':=its.eraseIdx k) hH e ?_ (r.eraseIdx k) ?_,rw',q⟩
 .show its.toArray.eraseIdxIfInBounds k=(its.eraseIdx k).toArray;rw[DU]
 .have:=Pj xs k;omega
end
section
variable {A:ax}
end
section
end
section
variable {κ:Type} [DecidableEq κ]
def valV(kvs:List (κ×V))(k:κ):Option V:=(kvs.find? λkv=>decide (kv.1=k)).map (·.2)
def putK(kvs:List (κ×V))(k:κ)(v:V):List (κ×V):=
 if (kvs.any λkv=>decide (kv.1=k))=true then kvs.map (λkv=>if kv.1=k then (kv.1,v) else kv) else kvs++[(k,v)]
theorem Nx{p:κ×V}{r:List (κ×V)}{k:κ}(e:p.1=k):valV (p::r) k=some p.2:=by simp[valV,p5,e]
theorem Ny{p:κ×V}{r:List (κ×V)}{k:κ}(e:¬ p.1=k):valV (p::r) k=valV r k:=by simp[valV,p5,e]
theorem Ri(k:κ):∀kvs:List (κ×V),(kvs.any λkv=>decide (kv.1=k))=(valV kvs k).isSome
 |[]=>rfl
 |p::r=>by
  rw[p4]
  by_cases e:p.1=k
  .simp only[Nx e,decide_eq_true e,yY,p9]
  .rw[Ny e,decide_eq_false e,v0];exact Ri k r
theorem Qf(kvs:List (κ×V))(k:κ)(v:V):(putK kvs k v).length<=kvs.length+1:=by
 unfold putK;split
 .rw[aw];omega
 .rw[cb,eR,DV];omega
theorem RelO.isSome_eq{o:Option V}{u:Option ac}(r:RelO o u):o.isSome=u.isSome:=by
 cases o with
 |none=>cases u with
  |none=>rfl
  |some _=>exact (show False from r).elim
 |some _=>cases u with
  |none=>exact (show False from r).elim
  |some _=>rfl
theorem KV.val{kvs:List (κ×V)}{vs:List (κ×ac)}(r:KV kvs vs)(k:κ):RelO (valV kvs k) (nI vs k):=by
 unfold KV at r
 induction r with
 |nil=>exact iE
 | @cons p q ps qs h t ih=>
  obtain⟨h1,h2⟩:=h
  by_cases e:p.1=k
  .have e':q.1=k:=h1.symm.trans e;have b:nI (q::qs) k=some q.2:=by simp[nI,p5,e']
   rw[Nx e,b];exact h2
  .have e':¬ q.1=k:=λz=>e (h1.trans z);have b:nI (q::qs) k=nI qs k:=by simp[nI,p5,e']
   rw[Ny e,b];exact ih
theorem KV.any{kvs:List (κ×V)}{vs:List (κ×ac)}(r:KV kvs vs)(k:κ):(kvs.any λkv=>decide (kv.1=k))=vs.any λkv=>decide (kv.1=k):=by
 unfold KV at r
 induction r with
 |nil=>rfl
 |cons h t ih=>rw[p4,p4,ih,h.1]
theorem KV.repl{kvs:List (κ×V)}{vs:List (κ×ac)}(r:KV kvs vs)(k:κ){y:V}{u:ac}(ry:RelV y u):
  KV (kvs.map λkv=>if kv.1=k then (kv.1,y) else kv) (vs.map λkv=>if kv.1=k then (kv.1,u) else kv):=by
 unfold KV at r ⊢
 induction r with
 |nil=>exact .nil
 | @cons p q ps qs h t ih=>
  rw[ba,ba];refine .cons ?_ ih;obtain⟨h1,h2⟩:=h
  by_cases e:p.1=k
  .rw[if_pos e,if_pos (h1.symm.trans e)];exact⟨h1,ry⟩
  .rw[if_neg e,if_neg (λz=>e (h1.trans z))];exact⟨h1,h2⟩
theorem KV.put{kvs:List (κ×V)}{vs:List (κ×ac)}(r:KV kvs vs)(k:κ){y:V}{u:ac}(ry:RelV y u):KV (putK kvs k y) (stored vs k u):=by
 unfold putK stored;rw[r.any k]
 by_cases e:(vs.any λkv=>decide (kv.1=k))=true
 .rw[if_pos e,if_pos e];exact r.repl k ry
 .rw[if_neg e,if_neg e];exact DZ r ⟨rfl,ry⟩
theorem KV.length{kvs:List (κ×V)}{vs:List (κ×ac)}(r:KV kvs vs):kvs.length=vs.length:=xC r
end
theorem Um{k:Key}(r:RelV (kV k) u):(Av P w).is k u=true:=by
 cases k with
 |inl i=>obtain⟨t,e⟩:=(show ∃t,u=tf i t from r);subst e;exact Wh P w i t
 |inr x=>obtain⟨t,e⟩:=(show ∃t,u=kK x t from r);subst e;exact Wi P w x t
theorem Uo{P:cE}{w:br}:∀{ks:List Key}{us:List ac},Vals (ks.map kV) us->ItemsAre (Av P w) ks us
 |[],_,r=>by rw[ke] at r;cases r;exact .nil
 |k::ks,_,r=>by
  rw[ba] at r;cases r with
  |cons h t=>exact .cons (Um h) (Uo t)
abbrev KT (H:Hp):List (List Key×V)->List (List Key×Addr×ac)->Prop:=mS λp q=>p.1=q.1/\H q.2.1=some (.tup (p.1.map kV))/\RelV p.2 q.2.2
theorem KT.val{xs:List (List Key×Addr×ac)}(r:KT H kvs xs)(k:List Key):RelO (valV kvs k) ((mh xs k).map (·.2)):=by
 induction r with
 |nil=>exact iE
 | @cons p q ps qs h t ih=>
  obtain⟨h1,_,h2⟩:=h
  by_cases e:p.1=k
  .have e':q.1=k:=h1.symm.trans e;have b:mh (q::qs) k=some q.2:=by simp[mh,p5,e']
   rw[Nx e,b];exact h2
  .have e':¬ q.1=k:=λz=>e (h1.trans z);have b:mh (q::qs) k=mh qs k:=by simp[mh,p5,e']
   rw[Ny e,b];exact ih
theorem KT.repl{xs:List (List Key×Addr×ac)}(r:KT H kvs xs)(k:List Key){y:V}{u:ac}(ry:RelV y u):
  KT H (kvs.map λkv=>if kv.1=k then (kv.1,y) else kv) (xs.map (putAt k u)):=by
 induction r with
 |nil=>exact .nil
 | @cons p q ps qs h t ih=>
  rw[ba,ba];refine .cons ?_ ih;obtain⟨h1,h2,h3⟩:=h;unfold putAt
  by_cases e:p.1=k
  .rw[if_pos e,if_pos (h1.symm.trans e)];exact⟨h1,h2,ry⟩
  .rw[if_neg e,if_neg (λz=>e (h1.trans z))];exact⟨h1,h2,h3⟩
theorem KT.put{xs:List (List Key×Addr×ac)}(r:KT H kvs xs)(k:List Key){b:Addr}{y:V}{u:ac}(hb:H b=some (.tup (k.map kV)))(ry:RelV y u):
  KT H (putK kvs k y) (storedH xs k b u):=by
 have e:(kvs.any λkv=>decide (kv.1=k))=(mh xs k).isSome:=by
  rw[Ri,(r.val k).isSome_eq,AO]
 unfold putK storedH;rw[e]
 by_cases q:(mh xs k).isSome=true
 .rw[if_pos q,if_pos q];exact r.repl k ry
 .rw[if_neg q,if_neg q];exact DZ r ⟨rfl,hb,ry⟩
theorem KT.keeps{xs:List (List Key×Addr×ac)}(r:KT H kvs xs)(ht:∀b ys,H b=some (.tup ys)->H' b=some (.tup ys)):KT H' kvs xs:=
 Paired.mapP r λ_ _ z=>⟨z.1,ht _ _ z.2.1,z.2.2⟩
section
theorem fL{u:HO}(ok:HOk P w H h)(e:Rd H a u):Bc P w H h a u:=e.ok ok
theorem Im{kvs:List (Key×V)}(ok:HOk P w H h)(e:Rd H a (.dK kvs)):kvs.length<=sizeLine/\(a==fq)=false/\∃vs,KV kvs vs/\h.DictOf (Av P w) a vs:=
 show Bc P w H h a (.dK kvs) from fL ok e
theorem rY{kvs:List (Key×V)}(ok:HOk P w H h)(e:H a=some (.dK kvs)):kvs.length<=sizeLine/\(a==fq)=false/\∃vs,KV kvs vs/\h.DictOf (Av P w) a vs:=Im ok (.inl e)
theorem Rj{ks:List Key}(ok:HOk P w H h)(e:H a=some (.tup (ks.map kV))):(oy (Av P w)).is h ks a:=by
 obtain⟨_,its,r,o,h1,h2,n,h3⟩:=(show Bc P w H h a (.tup (ks.map kV)) from ok a _ e);exact⟨o,its.toArray,n,h1,h2,h3,by simpa using Uo r⟩
theorem Wo(ok:HOk P w H h)(e:Rd H a (.dT kvs)):kvs.length<=sizeLine/\(a==fq)=false ∧
  ∃xs,KT H kvs xs/\h.DictOfH (oy (Av P w)) a xs:=by
 obtain⟨z,y,xs,r,o,es,ep,h1,h2,h3,h4,h5⟩:=(show Bc P w H h a (.dT kvs) from fL ok e);refine⟨z,y,xs,r,o,es,ep,h1,h2,h3,h4,λx hx=>?_,h5⟩;have all:∀{l:List (List Key×V)}{m:List (List Key×Addr×ac)},KT H l m->∀x∈m,(oy (Av P w)).is h x.1 x.2.1:=by
  intro l m q
  induction q with
  |nil=>intro x hx;exact nomatch hx
  | @cons p q ps qs hq t ih=>
   intro x hx
   rcases bb.mp hx with e | hx
   .subst e;exact Rj ok (by rw[<-hq.1];exact hq.2.1)
   .exact ih x hx
 exact all r x hx
theorem yJ(ok:HOk P w H h)(e:H a=some (.dT kvs)):kvs.length<=sizeLine/\(a==fq)=false ∧
  ∃xs,KT H kvs xs/\h.DictOfH (oy (Av P w)) a xs:=Wo ok (.inl e)
end
def DGet(H:Hp)(a:Addr)(y:V)(r:Option V):Prop:=
 (∃kvs k,Rd H a (.dK kvs)/\y=kV k/\r=valV kvs k)∨∃kvs k b,Rd H a (.dT kvs)/\y=.ref b/\H b=some (.tup (k.map kV))/\r=valV kvs k
def DPut(H:Hp)(a:Addr)(y v:V)(H':Hp):Prop:=
 (∃kvs k,H a=some (.dK kvs)/\y=kV k/\kvs.length<sizeLine/\H'=upd H a (.dK (putK kvs k v))) ∨
 ∃kvs k b,H a=some (.dT kvs)/\y=.ref b/\H b=some (.tup (k.map kV))/\kvs.length<sizeLine/\H'=upd H a (.dT (putK kvs k v))
theorem DPut.k{H:Hp}{a:Addr}{kvs:List (Key×V)}{k:Key}{v:V}(e:H a=some (.dK kvs))(hl:kvs.length<sizeLine):DPut H a (kV k) v (upd H a (.dK (putK kvs k v))):=.inl ⟨kvs,k,e,rfl,hl,rfl⟩
theorem DPut.t{k:List Key}(e:H a=some (.dT kvs))(eb:H b=some (.tup (k.map kV)))(hl:kvs.length<sizeLine):
  DPut H a (.ref b) v (upd H a (.dT (putK kvs k v))):=.inr ⟨kvs,k,b,e,rfl,eb,hl,rfl⟩
section
variable {y:V}{r:ac}{o:Option V}{A:ax}
theorem Inv.big(I:Inv X π σ H s):fq<s.heap.objs.size:=by
 have h:eS<s.heap.objs.size:=(I.mod.glob.keeps I.bk).lt;exact Nat.lt_trans (by decide) h
theorem cB{Q:ac->af->Prop}(hu:A.units+1<bi)(I:Inv X π σ H s)(g:DGet H a y (some v))(ry:RelV y u)(h:∀w' s',Inv X π σ H s'->RelV v w'->Q w' s'):
  ag .(2) A (rd (.ref a) u) Q E s:=by
 rcases g with ⟨kvs,k,e,ey,l⟩ | ⟨kvs,k,b,e,ey,eb,l⟩
 .subst ey;obtain⟨z,hd,vs,rel,dd⟩:=Im I.hok e;obtain⟨w',hw,rw'⟩:=RelO.some_of (v:=v) (o:=nI vs k) (by rw[l];exact rel.val k);exact wpAny_getItem_of (Um ry) dd.mapOf hw (h w' _ (I.tok _) rw')
 .subst ey;cases (show u=cw b from ry);obtain⟨z,hd,xs,rel,dd⟩:=Wo I.hok e;obtain⟨w',hw,rw'⟩:=RelO.some_of (v:=v) (o:=(mh xs k).map (·.2)) (by rw[l];exact rel.val k);obtain⟨p,hp,hp2⟩:=xw.mp hw;refine wpAny_getItem_heap (za hu) (Rj I.hok eb) dd hp ?_;rw[hp2];exact h w' _ (I.tok _) rw'
theorem d_in{Q:ac->af->Prop}(hu:A.units+1<bi)(I:Inv X π σ H s)(g:DGet H a y o)(ry:RelV y u)(h:∀s',Inv X π σ H s'->Q (.bool o.isSome) s'):
  ag .(2) A (d3 .In u (.ref a)) Q E s:=by
 rcases g with ⟨kvs,k,e,ey,l⟩ | ⟨kvs,k,b,e,ey,eb,l⟩
 .subst ey;obtain⟨z,hd,vs,rel,dd⟩:=Im I.hok e;refine wpAny_in_of (Um ry) hd dd.mapOf ?_;rw[<-(rel.val k).isSome_eq,<-l];exact h _ (I.tok _)
 .subst ey;cases (show u=cw b from ry);obtain⟨z,hd,xs,rel,dd⟩:=Wo I.hok e;refine wpAny_in_heap (za hu) (Rj I.hok eb) hd dd ?_;have q:=(rel.val k).isSome_eq;rw[AO] at q;rw[<-q,<-l];exact h _ (I.tok _)
theorem oW{Q:ac->af->Prop}(hu:A.units+1<bi)(I:Inv X π σ H s)(g:DGet H a y o)(ry:RelV y u)(h:∀s',Inv X π σ H s'->Q (.bool (!o.isSome)) s'):
  ag .(2) A (d3 .NotIn u (.ref a)) Q E s:=by
 rcases g with ⟨kvs,k,e,ey,l⟩ | ⟨kvs,k,b,e,ey,eb,l⟩
 .subst ey;obtain⟨z,hd,vs,rel,dd⟩:=Im I.hok e;refine wpAny_notIn_of (Um ry) hd dd.mapOf ?_;rw[<-(rel.val k).isSome_eq,<-l];exact h _ (I.tok _)
 .subst ey;cases (show u=cw b from ry);obtain⟨z,hd,xs,rel,dd⟩:=Wo I.hok e;refine wpAny_notIn_heap (za hu) (Rj I.hok eb) hd dd ?_;have q:=(rel.val k).isSome_eq;rw[AO] at q;rw[<-q,<-l];exact h _ (I.tok _)
theorem Q8{ob:HO}(I:Inv X π σ H s)(mu:Mut (H a))(hs:i7 a s.heap h')(he:∃q,h'.get? a=some q)(new:Bc X.prog X.w (upd H a ob) h' a ob):
  Inv X π σ (upd H a ob) { s with heap:=h',toks:=t' }:=
 I.write (x:=a) (e:=a) mu (.inl rfl) (λb q hb z=>(hs.2 b hb).trans z) he new
theorem Yn{kvs:List (Key×V)}{vs:List (Key×ac)}(z:kvs.length<=sizeLine)(hd:(a==fq)=false)(rel:KV kvs vs)(dd:h'.DictOf (Av P w) a vs):
  Bc P w H' h' a (.dK kvs):=⟨z,hd,vs,rel,dd⟩
theorem cC{Q:Unit->af->Prop}(hu:A.units+1<bi)(I:Inv X π σ H s)(g:DPut H a y v H')(ry:RelV y u)(rv:RelV v r)(h:∀s',Inv X π σ H' s'->Q () s'):
  ag .(2) A (setItem (.ref a) u r) Q E s:=by
 rcases g with ⟨kvs,k,e,ey,l,eH⟩ | ⟨kvs,k,b,e,ey,eb,l,eH⟩
 .subst ey eH;obtain⟨z,hd,vs,rel,dd⟩:=rY I.hok e;have hz:vs.length<=sizeLine:=by rw[<-rel.length];exact z
  have hl:(putK kvs k v).length<=sizeLine:=by have:=Qf kvs k v;omega
  refine wpAny_setItem_pairs (hsz:=hz) (Um ry) dd λh' dd' hs=>h _ ?_;have he:∃q,h'.get? a=some q:=let ⟨q,_,_,hq,_⟩:=dd';⟨q,hq⟩;exact Q8 I (by rw[e];exact iE) hs he (Yn hl hd (rel.put k rv) dd')
 .subst ey eH;cases (show u=cw b from ry);obtain⟨z,hd,xs,rel,dd⟩:=yJ I.hok e;have hz:xs.length<=sizeLine:=by rw[<-xC rel];exact z
  have hl:(putK kvs k v).length<=sizeLine:=by have:=Qf kvs k v;omega
  refine wpAny_setItem_heap (hsz:=hz) (za hu) (Rj I.hok eb) dd λh' dd' hs=>h _ ?_;obtain⟨q,es,ep,hq,h2,h3,h4,_,h5⟩:=dd';refine Q8 I (by rw[e];exact iE) hs ⟨q,hq⟩ ⟨hl,hd,_,(rel.put k eb rv).keeps λc ys ec=>?_,q,es,ep,hq,h2,h3,h4,h5⟩;rw[Aq (rO ec e (λz=>nomatch z))];exact ec
end
section
variable {kvs:List (Key×V)}{k:Key}{A:ax}
theorem yK{Q:ac->af->Prop}(I:Inv X π σ H s)(e:Rd H a (.dK kvs))(h:∀t s',Inv X π σ H s'->Q (.int kvs.length t) s'):ag .(2) A (call (.builtin "len") [.ref a]) Q E s:=by
 obtain⟨z,hd,vs,rel,dd⟩:=Im I.hok e;refine call_len_dict hd dd (by rw[<-rel.length];rw[nh] at z;omega) ?_;rw[<-rel.length];exact h _ _ (I.tok _)
end
theorem Wq{y:V}{o:Option V}(I:Inv X π σ H s)(g:DGet H a y o):s.TypeIs (.ref a) "dict":=by
 rcases g with ⟨kvs,k,e,_,_⟩ | ⟨kvs,k,b,e,_,_,_⟩
 .obtain⟨_,_,vs,_,dd⟩:=Im I.hok e;exact dd.typeIs
 .obtain⟨_,_,xs,_,dd⟩:=Wo I.hok e;exact dd.typeIs
def yL(td ty tv:TE):TS:=λD σ H=>tv σ H λv H1=>td σ H1 λx H2=>ty σ H2 λy H3=>∃a H4,x=.ref a/\DPut H3 a y v H4/\D.nx σ H4
section
variable {o i value:Expr}{tpos:Pos}{td ty tv:TE}
theorem Q9(hu:X.A.units+1<bi)(ho:PE X o td)(hi:PE X i ty)(hv:PE X value tv)(hs:eI value (some (.Subscript o i pos')) pos.line X.env=pure false):
  PS X (.Assign [.Subscript o i pos'] value pos) (yL td ty tv):=by
 intro π s σ H D I h;refine wpAny_Assign_Subscript (thn (hv π s σ H _ I h) λr s1 ⟨v,H1,I1,rv,q1⟩=>thn (ho π s1 σ H1 _ I1 q1) λu s2 ⟨x,H2,I2,rx,q2⟩=>thn (hi π s2 σ H2 _ I2 q2) λiv s3 ⟨y,H3,I3,ry,a,H4,ex,g,q3⟩=>?_) hs;subst ex;obtain rfl:u=cw a:=rx;exact cC hu I3 g ry rv λs4 I4=>⟨σ,H4,I4,q3⟩
end
theorem fO(h:Heap)(hb:fq<h.objs.size):Bc P w H (h.push { cls:=.type "dict",data:=.dict #[] }) h.objs.size (.dK []):=
 ⟨dQ _,beq_eq_false_iff_ne.mpr (cp (bg hb)),[],.nil,E1 h⟩
theorem fP(h:Heap)(hb:fq<h.objs.size):Bc P w H (h.push { cls:=.type "dict",data:=.dict #[] }) h.objs.size (.dT []):=
 ⟨dQ _,beq_eq_false_iff_ne.mpr (cp (bg hb)),[],.nil,_,#[],0,bn _ rfl,⟨rfl,rfl,rfl⟩,rfl,rfl,zb⟩
def u0:TE:=λ_ H Q=>∀p,H p=none->Q (.ref p) (upd H p (.dK []))
def u5:TE:=λ_ H Q=>∀p,H p=none->Q (.ref p) (upd H p (.dT []))
section
theorem fQ:PE X (.Dict [] [] pos) u0:=λπ s σ H Q I h=>
 E4 ⟨.ref s.heap.objs.size,_,I.laid (a:=s.heap.objs.size) (o:=.dK []) (t':=s.toks) (λ_ _ q=>aS _ q) (aE _) (fO s.heap I.big),rfl,h _ (I.hok.fresh (aE _))⟩
theorem fU:PE X (.Dict [] [] pos) u5:=λπ s σ H Q I h=>
 E4 ⟨.ref s.heap.objs.size,_,I.laid (a:=s.heap.objs.size) (o:=.dT []) (t':=s.toks) (λ_ _ q=>aS _ q) (aE _) (fP s.heap I.big),rfl,h _ (I.hok.fresh (aE _))⟩
end
section
variable {y d:V}{r:ac}{o:Option V}{A:ax}
end
section
variable {o f:Expr}{td ty tx:TE}
end
section
variable {kvs:List (Key×V)}{A:ax}
theorem fV{Q:ac->af->Prop}(I:Inv X π σ H s)(e:Rd H a (.dK kvs))(h:∀p s',H p=none->Inv X π σ (upd H p (.dK kvs)) s'->Q (.ref p) s'):ag .(2) A (call (.type "dict") [.ref a]) Q E s:=by
 obtain⟨z,hd,vs,rel,dd⟩:=Im I.hok e;refine kt_call_dict hd dd (by rw[<-rel.length];exact z) λh' dd' hs=>?_;refine h _ _ (I.hok.fresh (aE _)) (I.laid (a:=s.heap.objs.size) (o:=.dK kvs) (t':=s.toks) (λb q hq=>?_) (aE _) (Yn z (beq_eq_false_iff_ne.mpr (cp (bg I.big))) rel dd'));exact (hs.2 b (bg (aT hq))).trans (aS _ hq)
end
section
variable {y:V}{A:ax}
end
end L2
namespace Att
open PySem PySem.W PySem.Calls PyProof.Rows
theorem Q0{P:Params}:∀(ns:List Int) (vs:List ac),WellAll P h vs (ns.map WData.int)->ve vs ns:=by
 intro ns
 induction ns with
 |nil=>
  intro vs w;rw[ke] at w;cases w;exact .nil
 |cons n ns ih=>
  intro vs w;rw[ba] at w;cases w with
  |cons a b=>
   cases a;exact .cons _ _ (ih _ b)
theorem cD{l:OpenLaw}(hn:l.most=some n){P:Params}{h:Heap}{args:List WData}{vals:List ac}(hpre:l.row.toRowW.claim.pre args=true)(hwl:WellAll P h vals args):
  ∃a vs ns,vals=[cw a]/\args=[WData.list (ns.map WData.int)]/\h.get? a=some { cls:=.type "list",data:=.seq vs.toArray }/\ve vs ns/\ns.length<=n:=by
 have hsh:WShape.hasAll [] args [.list .int]=true:=(pre_splitW hpre).1;have hc:l.pre.holds [] { args:=args }=true:=(pre_splitW hpre).2;obtain⟨d,r,rfl,h1,h2⟩:=hasAllW_cons hsh;obtain rfl:=hasAllW_nil h2;obtain⟨xs,rfl,h3⟩:=hasW_list h1;obtain⟨ns,rfl⟩:=items_int h3;have hlen:ns.length<=n:=by
  unfold OpenLaw.pre at hc;have h4:(WTm.not (.lt (.lit .(4)) (.len (.arg 0)))).holds [] { args:=[.list .(9)] }=true:=by
   have h4:=(holds_andW hc).1;rw[hn] at h4;exact h4
  have h5:=condW_of h4 (w_not (w_lt w_lit (w_len_list (w_arg rfl))));rw[aw] at h5;refine Nat.le_of_not_lt λq=>?_;have q':(n:Int)<((ns.length:Nat):Int):=by omega
  first
   | (rw[decide_eq_true q'] at h5;exact absurd h5 (by decide))
   | (simp at h5;omega)
 cases hwl with
 |cons w1 w2=>
  cases w2;cases w1 with
  |list ho hall=>exact⟨_,_,ns,rfl,rfl,ho,Q0 ns _ hall,hlen⟩
theorem cF(l:OpenLaw)(args:List WData):l.row.toRowW.claim.post args (.bool true) args=true:=
 postW_of (r:=l.row.toRowW) (X:=(true==true))
  (show E5 [] (.bool true) .bool=true by first | rfl | decide | simp[E5,WShape.arms,WShape.armsAll])
  (show (WTm.eq .res (.lit (.bool true))).value [] { args:=args,res:=some (.bool true),after:=args }=some (.bool (true==true)) from w_eq_bool (w_res rfl) w_lit) rfl
theorem Wr{l:OpenLaw}{q:cE}{XP:(Str->Option ac)->Heap->Prop}{YP:br->Heap->Prop}{d:DefRec}(hn:l.most=some n)(hdf:d.params.defaults=[])(call:∀(w:br) (s₀ s₁:af) (mg mb:Str->Option ac) (fa:Addr) (o:Obj) (pm cd doc:ac) (a:Addr) (vs:List ac) (ns:List Int),
   Ground q loose [] XP w s₀ mg mb s₁.heap->YP w s₁.heap ->
   s₁.heap.get? fa=some o->o.data=.func (docDef d.name d.params d.body d.scope pm cd doc)->s₁.heap.CodeRec cd d.name->mg d.name=some (.ref fa) ->
   s₁.heap.get? a=some { cls:=.type "list",data:=.seq vs.toArray }->ve vs ns->ns.length<=n->s₁.gens=#[] ->
   fh (ah l.prog w) pc (.call (.ref fa) ⟨[.ref a],[]⟩) (λr s'=>r=.ok (.ret (.bool true))/\OldK s₁.heap s'.heap/\s'.os=s₁.os/\kL s'.gens) s₁):
  WalkO q loose XP YP l.row.toRowW d [] (λf vs=>AQ f vs):=by
 intro w s₀ s₁ mg mb G Y fa o pm cd doc dV kV ho hd hcd hD hmg hg args vals as hpre hlay hrd hwl hlo;obtain rfl:dV=.none:=Dflts.none hD hdf;obtain rfl:kV=.none:=Dflts.noKw hD;obtain⟨a,vs,ns,rfl,rfl,hobj,hints,hlen⟩:=cD hn hpre hwl;refine enter_call (nn (call w s₀ s₁ mg mb fa o pm cd doc a vs ns G Y ho (fd_plain hd) hcd hmg hobj hints hlen hg) λr s' hq=>?_);obtain⟨rfl,h2,h3,h4⟩:=hq;exact⟨.inl ⟨.bool true,.bool true,[],rfl,λ_=>rfl,.bool true,cF l _,λ_=>⟨AR,λ_ hm=>(nomatch hm)⟩⟩,h2,h3,h4⟩
section
variable {A:ax}{K:Frag}
end
end Att
namespace L2
open PySem PySem.Spec PyProof.Rows
theorem Ur:∀{vs:List ac}{ns:List Int},ve vs ns->Vals (ns.map V.int) vs
 |_,_,.nil=>.nil
 |_,_,.cons n t h=>.cons ⟨t,rfl⟩ (Ur h)
def Only(H:Hp):Prop:=∀b,H b=none∨∃o xs,H b=some (.frz o (.lst xs))
theorem fW{K:ay}{mb:Str->Option ac}{k:Nat}{fa:Addr}{sp:Sp}{s₁:af}{vs:List ac}{ns:List Int}(KX:K.In s₁.heap)(hns:s₁.heap.Ns eS mg)(hb:s₁.heap.Ns zZ mb)(hbb:∀x:Str,x≠"__name__"->mb x=cr x)(hlim:s₁.heap.NoLimit)(hg:s₁.gens=#[])(ha:s₁.heap.get? a=some { cls:=.type "list",data:=.seq vs.toArray })(hi:ve vs ns)(hl:ns.length<=sizeLine)(hr:Room k pc)(F:∀base:Heap,K.In base->base.Ns eS mg->FnOk P w K mg base CX k fa fd [x] sp)(hbind:∀(s:af) (u:ac),u3 s fd ⟨[u],[]⟩ [(x,u)])(hsp:∀H:Hp,Only H->SqL K H a (ns.map V.int)->sp [.ref a] H (λv _=>v=.bl true) λ_ _ _=>False)(hCX:∀H e s',CX [] H s₁ (λ_ _ _=>False) e s'->False):
    fh (ah P w) pc (.call (.ref fa) ⟨[.ref a],[]⟩) (λr s'=>r=.ok (.ret (.bool true))/\OldK s₁.heap s'.heap/\s'.os=s₁.os/\kL s'.gens) s₁:=by
  have rv:=Ur hi;have lenV:=hi.length;have core:∀H:Hp,Only H->SqL K H a (ns.map V.int)->HOk P w H s₁.heap->(∀b,H b≠none->b=a)->(H a≠none->K.lookup a=none) ->
      fh (ah P w) pc (.call (.ref fa) ⟨[.ref a],[]⟩) (λr s'=>r=.ok (.ret (.bool true))/\OldK s₁.heap s'.heap/\s'.os=s₁.os/\kL s'.gens) s₁:=by
    intro H hO hS hok hA hK;have base_of:∀{b:Addr}{o:Obj},s₁.heap.get? b=some o->H b=none->(hidT s₁.heap H).get? b=some o:=λe n=>dZ e n;have noA:∀{b:Addr}{o:Obj}{es:Array mi}{ep:Nat},s₁.heap.get? b=some o->o.data=.dict es ep->H b=none:=λ{b o es ep} e d=>by
      cases q:H b with
      |none=>rfl
      |some u=>
        have e':b=a:=hA b (by rw[q];simp);subst e';rw[ha] at e;cases e;have d':Data.seq vs.toArray _=Data.dict es ep:=d;cases d'
    have nsK:∀{b:Addr}{m:Str->Option ac},s₁.heap.Ns b m->(hidT s₁.heap H).Ns b m:=λ{b m} ⟨o,es,ep,e,d,r⟩=>⟨o,es,ep,base_of e (noA e d),d,r⟩;have hKb:K.In (hidT s₁.heap H):=λb o e=>base_of (KX b o e) (by
      cases q:H b with
      |none=>rfl
      |some u=>
        have e':b=a:=hA b (by rw[q];simp);subst e';rw[hK (by rw[q];simp)] at e;cases e)
    have hM:Mod K mg (hidT s₁.heap H):=⟨hKb,nsK hns,⟨mb,nsK hb,hbb⟩,let ⟨mc,h1,h2⟩:=hlim;⟨mc,nsK h1,h2⟩⟩;have e0:Env0 P w K mg (hidT s₁.heap H) pc [] s₁ H:=⟨rfl,hM,λb o e=>nU e,tP (bZ _ _),trivial,λb hb=>absurd (show b∈([]:List Addr) from hb) (by simp),hok,.of_eq hg⟩;refine nn ((F _ hKb (nsK hns)).run pc [] s₁ H ⟨[.ref a],[]⟩ [.ref a] [.ref a] _ _ hr e0 (hbind s₁ (.ref a)) (.cons rfl .nil) (hsp H hO hS)) λr s' h=>?_;cases r with
    |error e=>exact (hCX H e s' h).elim
    |ok fl=>
      cases fl with
      |next=>exact gI h
      |brk=>exact gI h
      |cont=>exact gI h
      |ret u=>
        obtain⟨v,H',os,bare,un,hok',r',q⟩:=h;have q':v=.bl true:=q;subst q';obtain rfl:u=om true:=r';refine⟨rfl,OldK.of_keep λb o e=>?_,os,bare⟩;cases q:H b with
        |none=>exact un.keep b o e q (by intro z;exact absurd (show b∈([]:List Addr) from z) (by simp)) (by simp)
        |some u=>
          rcases hO b with z | ⟨ob,xs,z⟩
          . rw[q] at z;cases z
          . have z2:=un.frzs b ob _ z
            obtain⟨e1,_⟩:=hok b _ z;obtain⟨e2,_⟩:=hok' b _ z2;rw[e] at e1;cases e1;exact e2
  cases hk:K.lookup a with
  |some o=>
    have e:=KX a o hk;rw[ha] at e;cases e;refine core (λ_=>none) (λ_=>.inl rfl) (.inr ⟨_,vs.toArray,_,hk,rfl,rfl,rfl,by rw[bS,lenV];exact hl,by simpa using rv⟩) (λb u z=>by have z':(none:Option HO)=some u:=z;cases z') (λb z=>absurd rfl z) λz=>absurd rfl z
  |none=>
    refine core (λb=>if b=a then some (.frz { cls:=.type "list",data:=.seq vs.toArray } (.lst (ns.map V.int))) else none) (λb=>?_) (.inl (.inr ⟨{ cls:=.type "list",data:=.seq vs.toArray },if_pos rfl⟩)) (λb u z=>?_) (λb z=>?_) λ_=>hk
    . by_cases hb:b=a
      . exact .inr ⟨_,_,if_pos hb⟩
      . exact .inl (if_neg hb)
    . by_cases hb:b=a
      . have z':=(if_pos hb).symm.trans z
        cases z';subst hb;exact⟨ha,by rw[aw];exact hl,vs,_,rv,ha⟩
      . have z':=(if_neg hb).symm.trans z
        cases z'
    . by_cases hb:b=a
      . exact hb
      . exact absurd (if_neg hb) z
abbrev KOf {K:ay}{h:Heap}(_:K.In h):ay:=K
theorem oX{l:PySem.W.OpenLaw}{k:Nat}{q:cE}{XP:(Str->Option ac)->Heap->Prop}{YP:br->Heap->Prop}{d:DefRec}{K:Params->ay}{CX:br->CXT}{sp:br->Sp}(hn:l.most=some n)(hn2:n<=sizeLine)(hdf:d.params.defaults=[])(hr:Room k pc)(hY:∀(w:br) (h:Heap),YP w h->(K w.params).In h)(F:∀(w:br) (mg:Str->Option ac) (fa:Addr) (h:Heap),(K w.params).In h->h.Ns eS mg->mg d.name=some (.ref fa) ->
   ∃fd:kR,(∀(s:af) (u:ac),u3 s fd ⟨[u],[]⟩ [(x,u)]) ∧
    ∀base:Heap,(K w.params).In base->base.Ns eS mg->FnOk l.prog w (K w.params) mg base (CX w) k fa fd [x] (sp w))(hsp:∀(w:br) (H:Hp) (a:Addr) (ns:List Int),ns.length<=n->Only H->SqL (K w.params) H a (ns.map V.int)->sp w [.ref a] H (λv _=>v=.bl true) λ_ _ _=>False)(hCX:∀(w:br) (H:Hp) (s:af) (e:ac) (s':af),CX w [] H s (λ_ _ _=>False) e s'->False):
  PySem.W.WalkO q loose XP YP l.row.toRowW d [] (λf vs=>AQ f vs):=by
 refine Att.Wr hn hdf λw s₀ s₁ mg mb fa o pm cd doc a vs ns G Y ho hd hcd hmg hobj hints hlen hg=>?_;have KX:=hY w _ Y;obtain⟨fd,hb,hF⟩:=F w mg fa _ KX G.T.g hmg;exact fW KX G.T.g G.T.b G.T.builtins G.T.nolimit hg hobj hints (ck hlen hn2) hr hF hb (λH hO hS=>hsp w H a ns hlen hO hS) λH e s'=>hCX w H s₁ e s'
def inClass(s:Stmt)(j:Nat):Stmt:=match s with
 |.ClassDef _ _ _ body _ _ _ _ _ _ _=>body.getD j (.Pass ⟨0,0,0,0⟩)
 |_=>.Pass ⟨0,0,0,0⟩
def Df(s:Stmt):Arguments:=match s with
 |.FunctionDef _ a _ _ _ _ _ _ _ _=>a
 |_=>{ posonlyargs:=[],args:=[],vararg:=none,kwonlyargs:=[],kw_defaults:=[],kwarg:=none,defaults:=[] }
def Bj(s:Stmt):List Stmt:=match s with
 |.FunctionDef _ _ b _ _ _ _ _ _ _=>b
 |_=>[]
def Ad(s:Stmt):ki:=match s with
 |.FunctionDef _ _ _ _ _ _ sc _ _ _=>sc
 |_=>{ kind:=.function,names:=[],isGenerator:=false,isCoroutine:=false }
abbrev CX0:CXT:=λ_ _ _ _ _ _=>False
abbrev E0:XK:=λ_ _ _=>False
theorem Ws:M4 CX0 X E0:=λ_ _ _ _ _ _ _ h=>h.elim
structure Fun (K:ay) (x qual:Str) (st:Stmt) (f:Addr) (fd:kR):Prop where
 ex:∃(oc:ac) (od:Option Addr) (kV doc pm:ac) (an:Option Addr) (cdv ct:ac) (osl:Array (Option ac)),
  fd=fR x qual (Df st) (Bj st) (Ad st) .none kV doc pm an cdv ct/\K.lookup f=some ⟨oc,od,.func fd,osl⟩/\lS K cdv qual=true
 kp:hU K (.ref f)=true
section
variable {K:ay}{base:Heap}
theorem Fun.ok{k:Nat}{sp:Sp}(F:Fun K x qual st f fd)(S:FnScope N ps (Ad st))(len:∀vs H Q E,sp vs H Q E->vs.length=ps.length)(hbody:∀(cdv:ac) (A:ax) (outer:List Env) (s:af) (H:Hp) (vs:List V) (Q:VK) (E:XK),Room k (A.deeper (fI qual (Ad st) s.heap.objs.size f cdv))->sp vs H Q E ->
   ∃t,PSs (cxOf CX0 P w K mg base N qual (Ad st) f cdv A outer s H E).nox (Bj st) t/\t { nx:=λ_ H'=>Q .non H',rt:=Q } (start N vs) H):FnOk P w K mg base CX0 (k+1) f fd ps sp:=by
 obtain⟨oc,od,kV,doc,pm,an,cdv,ct,osl,rfl,lk,hcd⟩:=F.ex;refine e_ lk hcd S len λA outer s H vs Q E hr hsp=>?_;obtain⟨t,h,q⟩:=hbody cdv A outer s H vs Q E hr hsp;exact⟨t,h.nox,q⟩
theorem Fun.binds(F:Fun K x qual st f fd)(h:∀(kV doc pm:ac) (an:Option Addr) (cdv ct:ac) (us:List ac),us.length=ps.length->u4 (fR x qual (Df st) (Bj st) (Ad st) .none kV doc pm an cdv ct) ⟨us,[]⟩=pure (ps.zip us)):Binds K fd ps []:=by
 obtain⟨oc,od,kV,doc,pm,an,cdv,ct,osl,rfl,lk,hcd⟩:=F.ex;exact .all (h kV doc pm an cdv ct)
theorem Rk{kV:ac}(l:K.lookup f=some ⟨oc,od,.func (fR x qual (Df st) (Bj st) (Ad st) .none kV doc pm an cdv ct),osl⟩)(c:lS K cdv qual=true)(k:hU K (.ref f)=true):Fun K x qual st f (fR x qual (Df st) (Bj st) (Ad st) .none kV doc pm an cdv ct):=⟨⟨oc,od,kV,doc,pm,an,cdv,ct,osl,rfl,l,c⟩,k⟩
end
theorem GC{A:ax}{k:Nat}(hr:Room k A):A.units+1<bi:=rf (Nat.add_le_add_left (by decide:1<=64) _) hr.units
section
theorem pv(i:Nat){x:Str}{pos:Pos}(hN:X.N[i]?=some x:=by rfl)(hv:Vis X.env.scope x:=by first | exact fm rfl | exact eB (fm rfl) | exact eB (eB rfl))(hd:.(12)=false:=by decide)(hcd:(x==("__classdict__":Str))=false:=by decide):PE X (.Name x pos) (tVar i):=uQ hN hv hd hcd
end
theorem iteF{A B:Prop}(h:B):if false=true then A else B:=by
 rw[if_neg cy];exact h
theorem iteT{A B:Prop}(h:A):if true=true then A else B:=by
 rw[if_pos rfl];exact h
def Same(H H':Hp):Prop:=∀b o,H b=some o->H' b=some o
theorem Same.refl(H:Hp):Same H H:=λ_ _ h=>h
theorem Same.trans{H2:Hp}(a:Same H H1)(b:Same H1 H2):Same H H2:=λc o h=>b c o (a c o h)
theorem Same.free(e:Same H H'){l:Addr}(h:H' l=E6):H l=E6:=by
 cases q:H l with
 |none=>rfl
 |some o=>
  rw[e l o q] at h;cases h
theorem Same.seq{K:ay}(e:Same H H')(h:SqL K H a xs):SqL K H' a xs:=by
 rcases h with (h | ⟨o,h⟩) | h
 .exact .inl (.inl (e _ _ h))
 .exact .inl (.inr ⟨o,e _ _ h⟩)
 .exact .inr h
section
variable {κ:Type} [DecidableEq κ]
end
def clOf(cells:List (Str×Addr)):List (Str×kt)->List (Str×Addr)->List (Str×Addr)
 |[],cs=>cs
 |y::r,cs=>if y.2==.free then clOf cells r ((y.1,(cells.lookup y.1).getD 0)::cs) else clOf cells r cs
theorem Rm{cells:List (Str×Addr)}{x:Str}{c:Addr}:∀{names:List (Str×kt)}{cs:List (Str×Addr)},(∀y∈names,y.2=.free ->∃c,cells.lookup y.1=some c) ->
  (clOf cells names cs).lookup x=some c->cs.lookup x=some c∨cells.lookup x=some c
 |[],_,_,h=>.inl h
 |y::r,cs,hf,h=>by
  unfold clOf at h;split at h
  .rename_i hk;have hk':y.2=.free :=by simpa using hk
   obtain⟨c',hc⟩:=hf y cS hk'
   rcases Rm (λz hz=>hf z (bE _ hz)) h with q | q
   .rw[ca] at q;split at q
    .rename_i e;have e':x=y.1:=by simpa using e
     rw[hc] at q;subst e';right;rw[hc];simpa using q
    .exact .inl q
   .exact .inr q
  .exact Rm (λz hz=>hf z (bE _ hz)) h
theorem Pk{cells:List (Str×Addr)}{x:Str}:∀{names:List (Str×kt)}{cs:List (Str×Addr)},(∃c,cs.lookup x=some c)->∃c,(clOf cells names cs).lookup x=some c
 |[],_,h=>h
 |y::r,cs,h=>by
  unfold clOf;split
  .apply Pk;rw[ca];split
   .exact⟨_,rfl⟩
   .exact h
  .exact Pk h
theorem K5{cells:List (Str×Addr)}{x:Str}:∀{names:List (Str×kt)}{cs:List (Str×Addr)},(x,rh)∈names->∃c,(clOf cells names cs).lookup x=some c
 |[],_,h=>by cases h
 |y::r,cs,h=>by
  unfold clOf
  rcases bb.mp h with e | h
  .subst e;rw[if_pos (by rfl)];apply Pk;rw[ca];simp
  .split
   .exact K5 h
   .exact K5 h
theorem Zg{env:Env}:∀(names:List (Str×kt)) (cs:List (Str×Addr)),(∀y∈names,y.2=.free ->∃c,env.cells.lookup y.1=some c) ->
  (forIn names cs (λx r=>match x with
   | (name,kind)=>if (kind==rh)=true then do let a <-cellOf env name;pure (ri ((name,a)::r)) else pure (ri r)):Sem (List (Str×Addr)))=pure (clOf env.cells names cs)
 |[],_,_=>rfl
 | (n,k)::r,cs,hf=>by
  have ih:=λcs=>Zg r cs (λz hz=>hf z (bE _ hz));rw[zc]
  by_cases hk:(k==rh)=true
  .obtain⟨c,hc⟩:=hf (n,k) cS (by simpa using hk);have hc':env.cells.lookup n=some c:=hc;have e:cellOf env n=pure c:=by unfold cellOf;rw[hc']
   simp only[hk,if_true,e];show (forIn r ((n,c)::cs) _:Sem _)=_;rw[ih]
   conv=>rhs;unfold clOf
   simp only[hk,if_true,hc',rj]
  .simp only[hk,if_false];show (forIn r cs _:Sem _)=_;rw[ih]
   conv=>rhs;unfold clOf
   simp only[hk,if_false];rfl
theorem Mj(hf:∀y∈scope.names,y.2=.free ->∃c,env.cells.lookup y.1=some c):closureFor scope env=pure (clOf env.cells scope.names []):=by
 have h:=Zg (env:=env) scope.names [] hf;unfold closureFor;show ((forIn scope.names [] _:Sem _) >>= λr=>pure r)=_;exact (congrArg (λm=>m >>= λr=>pure r) h)
theorem GD{env:Env}{x:Str}{k:kt}:∀{names:List (Str×kt)},(names.map λ(n,k)=>if (k==rh&&env.scope.kind==.function&&env.kindOf n==some .cell) then (n,NameKind.cell) else (n,k)).lookup x=some k ->
  ∃k',(x,k')∈names/\(k'=k∨(k'=.free /\k=.cell))
 |[],h=>by simp at h
 | (n,k0)::r,h=>by
  rw[ba] at h;have ih:=@GD env x k r
  by_cases hc:(k0==rh&&env.scope.kind==.function&&env.kindOf n==some .cell)=true
  .simp only[hc,if_true] at h;rw[ca] at h;split at h
   .rename_i e;have e':x=n:=by simpa using e
    subst e';have hk0:k0=.free :=by
     rw[gd,gd] at hc;simpa using hc.1.1
    cases h;exact⟨k0,cS,.inr ⟨hk0,rfl⟩⟩
   .obtain⟨k',h1,h2⟩:=ih h;exact⟨k',bE _ h1,h2⟩
  .simp only[hc,if_false] at h;rw[ca] at h;split at h
   .rename_i e;have e':x=n:=by simpa using e
    subst e';cases h;exact⟨k0,cS,.inl rfl⟩
   .obtain⟨k',h1,h2⟩:=ih h;exact⟨k',bE _ h1,h2⟩
def Bu(ts N:List Str):List Str:=N.map λy=>if y∈ts then eA else y
abbrev De (t:Str) (N:List Str):List Str:=Bu [t] N
abbrev Bl (X:Cx) (scope:ki) (N2:List Str) (s2:af) (H2:Hp) (fp:List Addr):Cx:=
 { X with N:=N2,s₀:=s2,H₀:=H2,env:=compEnvC scope (clOf X.env.cells scope.names []) (s2.heap.objs.size+1) X.env,outer:=X.stack,ex:=fp,fn:=λ_=>false,pn:=[],xe:=λ_ _=>False }
structure CompOkL (X:Cx) (scope:ki) (ts:List Str):Prop where
 nocell:∀y∈scope.names,y.2≠.cell
 kind:scope.kind=.function
 names:∀y∈scope.names,y.2=.local ->scope.names.lookup y.1=some .local
 tl:∀t∈ts,scope.names.lookup t=some .local
 loc:∀y∈scope.names,y.2=.local ->y.1∈ts∨y.1∉X.N
 fre:∀y∈scope.names,y.2=.free ->X.env.kindOf y.1=some .cell ∨X.env.kindOf y.1=some .free
 emp:∀y∈scope.names,y.1≠eA
 nd:∀t∈ts,Uq (Bu ts X.N++ts) t
section
variable {t:Str}{ts:List Str}
theorem CompOkL.cells(c:CompOkL X scope ts)(ok:X.Ok):∀y∈scope.names,y.2=.free ->∃c,X.env.cells.lookup y.1=some c:=λy hy hf=>ok.has y.1 (c.fre y hy hf)
theorem CompOkL.sub(c:CompOkL X scope ts)(ok:X.Ok){x:Str}{a:Addr}(h:(clOf X.env.cells scope.names []).lookup x=some a):X.env.cells.lookup x=some a:=by
 rcases Rm (c.cells ok) h with q | q
 .simp at q
 .exact q
theorem CompOkL.inv{h1:Heap}{tk:Nat}(c:CompOkL X scope ts)(I:Inv X π σ H s)(hf:∀b∈fp,FpOk X π H b)(ho:∀b∈fp,∃o,s.heap.get? b=some o)(hns:h1.Ns (s.heap.objs.size+1) (λ_=>none))(kp:∀b o,s.heap.get? b=some o->h1.get? b=some o)(hacc:h1.get? s.heap.objs.size=some { cls:=.type "list",data:=.seq #[] }):
  Inv (Bl X scope (Bu ts X.N++ts) s H fp) [] (σ++u7 ts.length none) (upd H s.heap.objs.size (.lst [])) { s with heap:=h1,toks:=tk }:=by
 have lt_of:∀b o,s.heap.get? b=some o->b<s.heap.objs.size:=λb o e=>aT e;have ok':(Bl X scope (Bu ts X.N++ts) s H fp).Ok:=by
  refine⟨I.ok.mod,c.kind,I.ok.glob,I.ok.blt,iL _,λx y a h1 h2=>I.ok.inj x y a (c.sub I.ok h1) (c.sub I.ok h2),λx hx=>?_,λx a h _=>absurd (show false=true from h) cy,I.ok.hd,I.ok.frames,.inl rfl,λb hb=>⟨?_,λx a h=>?_⟩,I.bs,ck I.ok.bsz I.sz,λb o e hb=>?_,λb hb hs=>?_,I.stack,I.stkFree⟩
  .have hx':(mn scope X.env).names.lookup x=some .cell ∨(mn scope X.env).names.lookup x=some .free :=hx;have go:∀k,(mn scope X.env).names.lookup x=some k->(k=.cell ∨k=.free)->(x,rh)∈scope.names:=λk hk hkk=>by
    obtain⟨k',m,e⟩:=GD hk
    rcases e with e | ⟨e,_⟩
    .subst e
     rcases hkk with z | z
     .exact absurd z (c.nocell _ m)
     .rw[<-z];exact m
    .rw[<-e];exact m
   rcases hx' with h | h
   .exact K5 (go _ h (.inl rfl))
   .exact K5 (go _ h (.inr rfl))
  .obtain⟨o,e⟩:=ho b hb;exact bg (mv (lt_of b o e))
  .exact (hf b hb).2.2.2.2.1 x a (c.sub I.ok h)
  .rcases (hf b hb).2.2.2.1 with z | z
   .exact I.ok.noex b o e z
   .exact absurd (f6 (aT e) (ck I.ok.bsz z)) (oB _)
  .rcases bb.mp (I.stkSub b hs) with z | z
   .exact (hf b hb).2.1 z
   .exact (hf b hb).2.2.1 z
 have fr:H s.heap.objs.size=none:=I.hok.fresh (aE _);have new:Bc X.prog X.w (upd H s.heap.objs.size (.lst [])) h1 s.heap.objs.size (.lst []):=⟨dQ _,[],0,.nil,hacc⟩;refine⟨ok',rfl,I.bare,Un.laid kp (aE _) fr,⟨_,hns,λi x v e1 e2 e3=>?_⟩,λx a h=>?_,?_,λx a h=>?_,λp hp=>absurd (show p∈([]:zP) from hp) (by simp),I.hok.laid kp (aE _) new,?_⟩
 .have e1':(Bu ts X.N++ts)[i]?=some x:=e1;have hil:i<σ.length:=by
   by_cases z:i<σ.length
   .exact z
   .rw[jv (by omega),yb] at e2;split at e2<;>cases e2
  have e2':σ[i]?=some (some v):=by rw[jI hil] at e2;exact e2
  have hN:i<X.N.length:=by rw[<-I.len];exact hil
  have e1'':(Bu ts X.N)[i]?=some x:=by rw[jI (by unfold Bu;rw[aw];exact hN)] at e1';exact e1'
  unfold Bu at e1'';rw[be] at e1'';have e3':(mn scope X.env).names.lookup x=some .local ∨(mn scope X.env).names.lookup x=some .cell ∨(mn scope X.env).names.lookup x=some .free :=e3;have hin:∃k',(x,k')∈scope.names/\(k'=.local ∨k'=.free)/\(k'=.free ->(mn scope X.env).names.lookup x=some .cell ∨(mn scope X.env).names.lookup x=some .free):=by
   rcases e3' with z | z | z
   .obtain⟨k',m,e⟩:=GD z
    rcases e with e | ⟨_,e⟩
    .exact⟨k',m,.inl e,λq=>by rw[q] at e;cases e⟩
    .cases e
   .obtain⟨k',m,e⟩:=GD z
    rcases e with e | ⟨e,_⟩
    .exact absurd e (c.nocell _ m)
    .exact⟨k',m,.inr e,λ_=>.inl z⟩
   .obtain⟨k',m,e⟩:=GD z
    rcases e with e | ⟨e,q⟩
    .exact⟨k',m,.inr e,λ_=>.inr z⟩
    .cases q
  cases ey:X.N[i]? with
  |none=>rw[ey] at e1'';cases e1''
  |some y=>
   rw[ey] at e1'';have e1z:(if y∈ts then eA else y)=x:=cq e1'';obtain⟨k',m,hk',hfr⟩:=hin
   by_cases hyt:y∈ts
   .rw[if_pos hyt] at e1z;exact absurd e1z.symm (c.emp _ m)
   .rw[if_neg hyt] at e1z;subst e1z
    rcases hk' with hk' | hk'
    .rcases c.loc _ m hk' with z | z
     .exact absurd z hyt
     .exact absurd (fN ey) z
    .have hkk:=c.fre _ m hk';have hkk':X.env.kindOf y=some .cell ∨X.env.kindOf y=some .free :=hkk;obtain⟨mm,hn,hl⟩:=I.loc;have hv:Vis X.env.scope y:=by
      rcases hkk' with z | z
      .exact .inr (.inl z)
      .exact .inr (.inr z)
     obtain⟨u,r,l⟩:=hl i y v ey e2' hv;refine⟨u,r,.inr ⟨hfr hk',?_⟩⟩
     rcases l with ⟨kl,_⟩ | ⟨_,a,ea,hc⟩
     .rcases hkk' with z | z
      .rw[kl] at z;cases z
      .rw[kl] at z;cases z
     .rw[hk'] at m;obtain⟨a',ha'⟩:=K5 (cells:=X.env.cells) (cs:=[]) m;refine⟨a',ha',?_⟩;have:=c.sub I.ok ha';rw[ea] at this;cases this;obtain⟨o,e,d⟩:=hc;exact⟨o,kp _ _ e,d⟩
 .obtain⟨v,o,e,d⟩:=I.cell x a (c.sub I.ok h);exact⟨v,o,kp _ _ e,d⟩
 .show upd H s.heap.objs.size (.lst []) (s.heap.objs.size+1)=none;rw[Aq (Nat.succ_ne_self _)];exact I.hok.fresh (iL _)
 .have ha:=c.sub I.ok h;obtain⟨v,o,e,d⟩:=I.cell x a ha;rw[Aq (bg (lt_of _ _ e))];exact I.freeC x a ha
 .show (σ++u7 ts.length none).length=(Bu ts X.N++ts).length;unfold Bu;rw[cb,cb,aw,I.len,uk]
def Yo(n:Nat)(wi:TI)(g:TG)(tc:TT)(te:TE):TE:=λσ H Q=>wi σ H λJ H1=>∀p,H1 p=none->∃W:Nat->Nat->List V->Hp->Prop,(∃m,W 0 m [] (upd H1 p (.lst []))) ∧
 ∀i m ys H,W i m ys H->(J.stop i H/\Q (.ref p) H)∨(J.go i H/\∀x H',J.yld i H x H'->∀os:List (Option V),os.length=n->g x (σ++os) H' λσ2 H1=>(∃o2,σ2=σ++o2/\o2.length=n)/\tc σ2 H1 λb H2=>
  if b=true then te σ2 H2 λy H3=>H3 p=some (.lst ys)/\ys.length<sizeLine/\∃m',m'<m/\W (i+1) m' (ys++[y]) (upd H3 p (.lst (ys++[y]))) else ∃m',m'<m/\W (i+1) m' ys H2)
def PTs(X:Cx)(ifs:List Expr)(tc:TT):Prop:=
 ∀(π:zP) (s:af) (σ:St) (H:Hp) (Q:Bool->Hp->Prop),Inv X π σ H s->tc σ H Q ->
  ag .(2) X.A (forIn ifs true λc r=>if r=true then do let ok <-qv c X.env (eval c X.env);pure (ri ok) else pure (ri r)) (TP X π σ Q) X.xe s
theorem oY:PTs X [] (λ_ H Q=>Q true H):=λ_ _ _ H _ I h=>wpAny_tests_nil ⟨H,I,h⟩
theorem oZ(h:PT X e tc):PTs X [e] tc:=λπ s σ H Q I q=>wpAny_tests_one (h π s σ H Q I q)
variable {elt iter:Expr}{ifs:List Expr}{px:Pos}{wi:TI}{g:TG}
theorem Yp{A:ax}{R:nl->af->Prop}{itv acc:ac}(J:Nat->af->Prop)(E:ac->af->Prop)(hE:E=notedBy (ah prog w) A env λe s'=>R (.error e) s')(go:∀n s,J n s->ag (ah prog w) A (eJ itv) (λr s1=>match r with
      |none=>R (.ok .next) s1
      |some v=>ag (ah prog w) A (xI tg itv v) (λ_ s2=>ag (ah prog w) A (ly tg env v) (λ_ s3=>
          ag (ah prog w) A (forIn ifs true λc r=>if r=true then do let ok <-qv c env (eval c env);pure (ri ok) else pure (ri r)) (λok s4=>
            if ok=true then ag (ah prog w) A (eval elt env) (λx s5=>ag (ah prog w) A (call (.builtin "list.append") [acc,x]) (λ_ s6=>∃m,m<n/\J m s6) E s5) E s4 else ∃m,m<n/\J m s4) E s3) E s2) E s1) E s)(n:Nat)(j0:J n s):fh (ah prog w) A (.compLoop .(14) 0 itv acc env) R s:=by
  subst hE;refine codeAny_loop rfl J (λn s jn=>?_) n j0;show ag _ A (Sem.onRaise (compTurn .(14) 0 itv acc env) (λx=>do noteFrame x env;theTreesLotGoes x)) _ _ s;refine wpAny_noted ?_;rw[compTurn_list];refine ae (AS (ae (thn (go n s jn) λr s1 q1=>?_)));cases r with
  |none=>exact ai q1
  |some v=>
    refine ae (thn q1 λ_ s2 q2=>ae (thn q2 λ_ s3 q3=>ae (thn q3 λok s4 q4=>?_)));cases ok with
    |false=>exact ai ⟨rfl,q4⟩
    |true=>exact ae (ae (thn q4 λx s5 q5=>ae (thn q5 λ_ s6 q6=>ai (ai ⟨rfl,q6⟩))))
theorem Rn{Q:VK}{tn:Nat->Heap->Prop}{J:It}{RR:ac->Addr->nl->af->Prop}(c:CompOkL X scope ts)(hc:X.calm=true)(I:Inv X π σ H s)(T:Turn X.prog X.w X.K tg J fp it tn)(st0:tn 0 s.heap)(hf:∀b∈fp,FpOk X π H b)(hG:∀s2 H2 fp,PG (Bl X scope (Bu ts X.N++ts) s2 H2 fp) tg g)(hI:∀s2 H2 fp,PTs (Bl X scope (Bu ts X.N++ts) s2 H2 fp) ifs tc)(hE:∀s2 H2 fp,PE (Bl X scope (Bu ts X.N++ts) s2 H2 fp) elt te)(h:∀p,H p=none->∃W:Nat->Nat->List V->Hp->Prop,(∃m,W 0 m [] (upd H p (.lst []))) ∧
      ∀i m ys H,W i m ys H->(J.stop i H/\Q (.ref p) H)∨(J.go i H/\∀x H',J.yld i H x H'->∀os:List (Option V),os.length=ts.length->g x (σ++os) H' λσ2 H1=>(∃o2,σ2=σ++o2/\o2.length=ts.length)/\tc σ2 H1 λb H2=>
        if b=true then te σ2 H2 λy H3=>H3 p=some (.lst ys)/\ys.length<sizeLine/\∃m',m'<m/\W (i+1) m' (ys++[y]) (upd H3 p (.lst (ys++[y]))) else ∃m',m'<m/\W (i+1) m' ys H2))(hRR:∀p C s' H' m,Inv X π σ H' s'->H' C=none->C≠X.env.locals->X.s₀.heap.objs.size<=C->(∀x a,X.env.cells.lookup x=some a->a≠C)->(∀q∈X.pn++π,q.1≠C)->s'.heap.Ns C m->Q (.ref p) H'->RR (.ref p) C (.ok .next) s'):
    ag .(2) X.A (newList []) (λacc s₃=>ag .(2) X.A (newFunctionEnv scope X.env.globals (clOf X.env.cells scope.names []) [] X.env.qual none .none (some X.env)) (λcenv s₄=>
      fh .(2) X.A (.compStart .(14) 0 (.ref it) acc { cenv with scope:=mn scope X.env }) (RR acc cenv.locals) s₄) E s₃) E s:=by
  refine kX (wpAny_newFunctionEnv c.nocell (by intro y hy;simp at hy) (λh₁ hns₁ hsb₁=>?_) c.kind);dsimp only at hns₁ hsb₁ ⊢;generalize hH2:s.heap.push { cls:=.type "list",dict:=none,data:=.seq ([]:List ac).toArray }=G2 at hns₁ hsb₁ ⊢;have hC:G2.objs.size=s.heap.objs.size+1:=by rw[<-hH2,hZ]
  rw[hC] at hns₁ hsb₁ ⊢;have kp:∀b o,s.heap.get? b=some o->h₁.get? b=some o:=λb o e=>hsb₁.extBut b o (bg (mv (aT e))) (aS _ (hH2▸aS _ e));have hacc:h₁.get? s.heap.objs.size=some { cls:=.type "list",data:=.seq #[] }:=hsb₁.extBut _ _ (bg (qE _)) (aS _ (hH2▸bn _ rfl));have hob:∀b∈fp,∃o,s.heap.get? b=some o:=λb hb=>let ⟨o,e,_⟩:=T.obj 0 _ st0 b hb;⟨o,e⟩;have I0:=c.inv (fp:=fp) (h1:=h₁) (tk:=s.toks+([]:List (Str×ac)).length) I hf hob (by simpa using hns₁) kp hacc;have fr:H s.heap.objs.size=none:=I.hok.fresh (aE _);obtain⟨W,⟨m0,w0⟩,turn⟩:=h _ fr;have st1:tn 0 h₁:=T.keep 0 _ _ st0 λb _ o e=>kp b o e;generalize hX:Bl X scope (Bu ts X.N++ts) s H fp=Y at I0;have hcY:Y.calm=true:=by rw[<-hX];exact hc
  have stat:∀{H':Hp},(∀b∈fp,H' b=none)->∀b∈fp,FpOk Y [] H' b:=λ{H'} hn b hb=>by
    obtain⟨o,e⟩:=hob b hb;refine⟨hn b hb,?_,?_,.inl ?_,λx a e'=>?_,λp hp=>?_⟩
    . rw[<-hX];exact bg (mv (aT e))
    . intro z
      exact I0.ok.exfs b (by rw[<-hX];exact hb) z
    . rw[<-hX];exact hb
    . exact (I0.ok.exf b (by rw[<-hX];exact hb)).2 x a e'
    . rw[<-hX] at hp
      exact absurd (show p∈([]:zP) from hp) (by simp)
  have fp0:∀b∈fp,upd H s.heap.objs.size (.lst []) b=none:=λb hb=>by
    obtain⟨o,e⟩:=hob b hb;rw[Aq (bg (aT e))];exact (hf b hb).1
  have envY:Y.env=compEnvC scope (clOf X.env.cells scope.names []) (s.heap.objs.size+1) X.env:=by rw[<-hX]
  have pY:Y.prog=X.prog:=by rw[<-hX]
  have wY:Y.w=X.w:=by rw[<-hX]
  have aY:Y.A=X.A:=by rw[<-hX]
  have kY:Y.K=X.K:=by rw[<-hX]
  have xY:Y.xe=λ_ _=>False:=by rw[<-hX]
  have hIY:PTs Y ifs tc:=by rw[<-hX];exact hI s H fp
  have hEY:PE Y elt te:=by rw[<-hX];exact hE s H fp
  have hGY:PG Y tg g:=by rw[<-hX];exact hG s H fp
  have loop:∀s₃:af,s₃={ s with heap:=h₁,toks:=s.toks+([]:List (Str×ac)).length } ->
      fh .(2) X.A (.compLoop .(14) 0 (.ref it) (.ref s.heap.objs.size) (compEnvC scope (clOf X.env.cells scope.names []) (s.heap.objs.size+1) X.env)) (RR (.ref s.heap.objs.size) (s.heap.objs.size+1)) s₃:=by
    rintro s₃ rfl;rw[<-envY];refine Yp (λn s'=>∃i ys os H',os.length=ts.length/\Inv Y [] (σ++os) H' s'/\tn i s'.heap/\(∀b∈fp,H' b=none)/\W i n ys H') _ rfl ?_ m0 ⟨0,[],_,_,uk,I0,st1,fp0,w0⟩;rintro n s3 ⟨i,ys,os,H3,hos,I3,st3,fr3,w3⟩
    rcases turn i n ys H3 w3 with ⟨stop,qn⟩ | ⟨go,step⟩
    . have d:=T.done Y pY wY kY hcY i [] s3 _ H3 (λ_ _=>False) I3 (stat fr3) st3 stop
      rw[aY] at d;refine i8 d (λr s4 ⟨hr,I4⟩=>?_) λ_ _ z=>z.elim;subst hr;have cN:=I4.free;have cN':H3 (s.heap.objs.size+1)=none:=by rw[envY] at cN;exact cN
      have un:=I4.base;obtain⟨m,hm,_⟩:=I4.loc;have hm':s4.heap.Ns (s.heap.objs.size+1) m:=by rw[envY] at hm;exact hm
      have un':Un (frs X.stack) fp H H3 s.heap s4.heap:=by rw[<-hX] at un;exact un
      have os':s4.os=s.os:=by have:=I4.os;rw[<-hX] at this;exact this
      have hok':HOk X.prog X.w H3 s4.heap:=by have:=I4.hok;rw[<-hX] at this;exact this
      have bare':=I4.bare;have IX:Inv X π σ H3 s4:=I.call' os' un' hok' bare' λb hb=>⟨(hf b hb).2.2.2.1,(hf b hb).2.1,(hf b hb).2.2.2.2.1,(hf b hb).2.2.2.2.2⟩;refine hRR _ _ _ _ m IX cN' (nc (mv I.lt)) (ck I.sz (iL _)) (λx a e z=>?_) (λq hq z=>?_) hm' qn
      . obtain⟨v,oc,e',_⟩:=I.cell x a e
        have q2:a<s.heap.objs.size:=aT e';have z':a=s.heap.objs.size+1:=z;exact absurd (z'▸q2) (kA.mpr (iL _))
      . have q2:q.1<s.heap.objs.size:=aT (I.pin q hq).1
        have z':q.1=s.heap.objs.size+1:=z;exact absurd (z'▸q2) (kA.mpr (iL _))
    . have d:=T.item Y pY wY kY hcY i [] s3 _ H3 (λ_ _=>False) I3 (stat fr3) st3 go
      rw[aY] at d;refine i8 d (λr s4 ⟨u,hr,h4⟩=>?_) λ_ _ z=>z.elim;subst hr;refine i8 h4 (λ_ s4 ⟨x,H5,I5,r5,y5,st5,fr5⟩=>?_) λ_ _ z=>z.elim;have I5':=I5.pinned (stat fr5) (T.obj _ _ st5);have asg:=hGY _ s4 _ H5 x u _ I5' r5 (step x H5 y5 os hos);rw[aY,pY,wY,xY] at asg;refine i8 asg (λ_ s6 ⟨σ6,H6,I6,⟨o2,e6,l6⟩,q⟩=>?_) λ_ _ z=>z.elim;subst e6;have tst:=hIY _ s6 _ H6 _ I6 q;rw[aY,pY,wY,xY] at tst;refine i8 tst (λb s7 ⟨H7,I7,q7⟩=>?_) λ_ _ z=>z.elim;have back:∀{H8:Hp}{s8:af},Inv Y ([]++Rc fp s4.heap) (σ++o2) H8 s8->tn (i+1) s8.heap/\∀b∈fp,H8 b=none:=λ{H8 s8} I8=>by
        refine⟨T.keep _ _ _ st5 λb hb ob e=>(I8.pin (b,ob) (eP _ (eP _ (J8 hb e)))).1,λb hb=>?_⟩;obtain⟨ob,e,d⟩:=T.obj _ _ st5 b hb;exact (I8.pin (b,ob) (eP _ (eP _ (J8 hb e)))).2.1
      cases b with
      |false=>
        rw[if_neg cy] at q7 ⊢;obtain⟨m',hm,w7⟩:=q7;obtain⟨t7,f7⟩:=back I7;exact⟨m',hm,i+1,ys,o2,H7,l6,I7.unpinned,t7,f7,w7⟩
      |true=>
        rw[if_pos rfl] at q7 ⊢;have ev:=hEY _ s7 _ H7 _ I7 q7;rw[aY,pY,wY,xY] at ev;refine i8 ev (λy s8 ⟨yv,H8,I8,r8,hp8,hz8,m',hm,w8⟩=>?_) λ_ _ z=>z.elim;have ap:=Lz (X:=Y) _ s8 _ H8 (.ref s.heap.objs.size) [yv] (.ref s.heap.objs.size) [y] (λ_ H9=>H9=upd H8 s.heap.objs.size (.lst (ys++[yv]))) I8 rfl (.cons r8 .nil) ⟨_,ys,yv,rfl,rfl,hp8,hz8,rfl⟩;rw[aY,pY,wY,xY] at ap;refine i8 ap (λ_ s9 ⟨_,H9,I9,_,e9⟩=>?_) λ_ _ z=>z.elim;subst e9;obtain⟨t9,f9⟩:=back I9;exact⟨m',hm,i+1,_,o2,_,l6,I9.unpinned,t9,f9,w8⟩
  exact codeAny_compStart_list (loop _ rfl) (T.self X.A 0 _ _ _ st1 (loop _ rfl))
theorem fY(c:CompOkL X scope ts)(hc:X.calm=true)(hi:PI X tg iter wi)(hG:∀s2 H2 fp,PG (Bl X scope (Bu ts X.N++ts) s2 H2 fp) tg g)(hI:∀s2 H2 fp,PTs (Bl X scope (Bu ts X.N++ts) s2 H2 fp) ifs tc)(hE:∀s2 H2 fp,PE (Bl X scope (Bu ts X.N++ts) s2 H2 fp) elt te)(hs:∀x,ip iter X.env x=pure x:=by intro _;rfl):PE X .(14) (Yo ts.length wi g tc te):=by
 intro π s σ H Q I h;rw[eval_ListComp];refine E7 (use:=none) rfl hs (Mj (c.cells I.ok)) c.kind c.names (thn (hi π s σ H _ I h) λv s1 h1=>thn h1 λitv s2 h2=>?_);obtain⟨it,fp,tn,J,H2,e,I2,T,st2,f2,q⟩:=h2;subst e;refine Rn (Q:=Q) c hc I2 T st2 f2 hG hI hE q λp C s' H' m I' n1 n2 n3 n4 n5 hm q'=>?_;exact⟨m,hm,λh' sb=>⟨.ref p,H',I'.turned (t':=s'.toks) (λb o hb e=>(sb.2 b hb).trans e) n1 (cp (cp n2)) (.inr n3) n4 n5,rfl,q'⟩⟩
theorem fZ(c:CompOkL X scope ts)(hc:X.calm=true)(hN:X.N.Nodup)(hi':X.N[i]?=some y)(hx:Loc X.env.scope y)(hi:PI X tg iter wi)(hG:∀s2 H2 fp,PG (Bl X scope (Bu ts X.N++ts) s2 H2 fp) tg g)(hI:∀s2 H2 fp,PTs (Bl X scope (Bu ts X.N++ts) s2 H2 fp) ifs tc)(hE:∀s2 H2 fp,PE (Bl X scope (Bu ts X.N++ts) s2 H2 fp) elt te)(hsw:eI .(14) (some (.Name y py)) spos.line X.env=pure true:=by rfl)(hf:X.fn y=true∨X.env.scope.names.lookup y=some .local :=by first | exact .inl rfl | exact .inr rfl | assumption)(hs:∀x,ip iter X.env x=pure x:=by intro _;rfl):
  PS X (.Assign [.Name y py] .(14) spos) (tAsg (Yo ts.length wi g tc te) (FN i)):=by
 intro π s σ H D I h;rw[exec_Assign_Name_used _ _ _ _ hsw];refine ae (AS (ae ?_));show ag _ X.A (do let _ <-comprehension .(14) scope X.env _ (newList []) false (eval iter X.env) (some (ly (.Name y py) X.env))) _ _ s;refine ae (i8 (E7 (use:=some (ly (.Name y py) X.env)) (Q:=λ_ s'=>SP X π D .next s') rfl hs (Mj (c.cells I.ok)) c.kind c.names
  (thn (hi π s σ H _ I h) λv s1 h1=>thn h1 λitv s2 h2=>?_)) (λ_ s' hq=>ai (ai hq)) λ_ _ e=>e)
 obtain⟨it,fp,tn,J,H2,e,I2,T,st2,f2,q⟩:=h2;subst e;refine Rn (Q:=λx H1=>FN i x σ H1 D.nx) c hc I2 T st2 f2 hG hI hE q λp C s' H' m I' n1 n2 n3 n4 n5 hm q'=>?_;show ag _ X.A (ly (.Name y py) X.env (.ref p)) _ _ _;refine A7 (Ue (v:=.ref p) I' hN hi' hx rfl (λs3 I3 ⟨a,sb,ha⟩=>?_) hf);have hCa:C≠a:=by
  rcases ha with z | z
  .rw[z];exact n2
  .exact cp (n4 _ _ z)
 exact⟨m,hm.sameBut sb hCa,λh' sb'=>⟨_,H',I3.turned (t':=s3.toks) (λb o hb e=>(sb'.2 b hb).trans e) n1 n2 (.inr n3) n4 n5,q'⟩⟩
abbrev K6 (X:Cx) (scope:ki) (t:Str):Prop:=CompOkL X scope [t]
abbrev KC (X:Cx) (scope:ki) (t:Str) (s2:af) (H2:Hp) (fp:List Addr):Cx:=Bl X scope (De t X.N++[t]) s2 H2 fp
theorem Ro(hN:Uq X.N x)(hi:X.N[i]?=some x)(hx:Loc X.env.scope x)(hf:X.fn x=true∨X.env.scope.names.lookup x=some .local):PG X (.Name x pos) (FN i):=by
 intro π s σ H v u Q I r h;exact A7 (Ra I hN hi hx r (λs' I' _=>⟨_,H,I',h⟩) hf)
theorem gOne(c:K6 X scope t)(s2:af)(H2:Hp)(fp:List Addr):PG (KC X scope t s2 H2 fp) (.Name t px) (FN X.N.length):=
 Ro (c.nd t (gL.mpr rfl)) (by show (De t X.N++[t])[X.N.length]?=some t;unfold De Bu;rw[jv (by rw[aw];exact aE _),aw,vi];rfl) (.inl (zd (c.tl t (gL.mpr rfl)))) (.inr (zd (c.tl t (gL.mpr rfl))))
def rZ(X:Cx)(wi:TI):TI:=λσ H R=>∃R0,wi σ H R0/\∀J H1,σ.length=X.N.length->R0 J H1->R J H1
theorem Zh(hi:PI X tg iter wi):PI X tg iter (rZ X wi):=λπ s σ H R I ⟨R0,h0,hm⟩=>
 thn (hi π s σ H R0 I h0) λv s1 h1=>thn h1 λitv s2 ⟨it,fp,tn,J,H',e,I',T,st,f,r⟩=>⟨it,fp,tn,J,H',e,I',T,st,f,hm J H' I.len r⟩
end
end L2
namespace PV
open PySem L2
inductive D where
 |non | bl (b:Bool) | int (i:Int) | str (x:Str) | tup (ds:List D) | lst (ds:List D)
 |dk (kvs:List (Key×D)) | dt (kvs:List (List Key×D)) | ob (c:Str) (fs:List (Str×D)) | adr (a:Addr) | exc (c:Str) (fs:List (Str×D)) | err (c:Str) (fs:List (Str×D)) | mem (F:List (List Key)->Int)
inductive Slot where
 |un | fz (d:D) | ow (d:D)
abbrev Rho:=List Slot
abbrev FE:=Rho->Option D
abbrev FA:=Rho->Option (List D)
abbrev FT:=Rho->Option Bool
abbrev FO:=Rho->Option (Option Int)
abbrev FI:=Rho->Option (List D)
def vF(i:Nat):FE:=λρ=>match ρ[i]? with | some (.fz d)=>some d | _=>none
def vU(i:Nat):FE:=λρ=>match ρ[i]? with | some (.fz d)=>some d | some (.ow d)=>some d | _=>none
def kF(d:D):FE:=λ_=>some d
def bF(g:D->D->Option D)(fa fb:FE):FE:=λρ=>(fa ρ).bind λx=>(fb ρ).bind λy=>g x y
def uF(g:D->Option D)(fa:FE):FE:=λρ=>(fa ρ).bind g
def blF(f:FE):FT:=λρ=>match f ρ with | some (.bl b)=>some b | _=>none
def iiD(g:Int->Int->Option D):D->D->Option D:=λx y=>match x,y with | .int i,.int j=>g i j | _,_=>none
instance (i j:Int):Decidable (CMul i j):=by unfold CMul;infer_instance
instance (i j:Int):Decidable (CDiv i j):=by unfold CDiv;infer_instance
instance (i j:Int):Decidable (CPow i j):=by unfold CPow;infer_instance
def subD:=iiD λi j=>some (.int (i-j))
def Nz(i j:Int):Prop:=CMul i j∨(AT i<=4194304/\AT j<=4194304)
instance (i j:Int):Decidable (Nz i j):=by unfold Nz;infer_instance
def CShl(i j:Int):Prop:=0<=j/\j<=1000000/\AT i<=4194304
instance (i j:Int):Decidable (CShl i j):=by unfold CShl;infer_instance
def mulD:=iiD λi j=>if Nz i j then some (.int (i*j)) else none
def Dy:=iiD λi j=>if CDiv i j then some (.int (i/j)) else none
def modD:=iiD λi j=>if 0<j then some (.int (i%j)) else none
def shlD:=iiD λi j=>if CShl i j then some (.int (i*2^j.toNat)) else none
def fu:=iiD λi j=>some (.int (tq i j))
def borD:=iiD λi j=>some (.int (tz i j))
def ltD:=iiD λi j=>some (.bl (decide (i<j)))
def leD:=iiD λi j=>some (.bl (decide (i<=j)))
def gtD:=iiD λi j=>some (.bl (decide (j<i)))
def geD:=iiD λi j=>some (.bl (decide (j<=i)))
def addD:D->D->Option D:=λx y=>match x,y with
 |.int i,.int j=>some (.int (i+j))
 |.str i,.str j=>if i.length+j.length<=sizeLine then some (.str (i++j)) else none
 |.lst i,.lst j=>if i.length+j.length<=sizeLine then some (.lst (i++j)) else none
 |_,_=>none
def andF(fa fb:FE):FE:=λρ=>match fa ρ with | some (.bl true)=>fb ρ | some .(8)=>some .(8) | _=>none
def orF(fa fb:FE):FE:=λρ=>match fa ρ with | some (.bl true)=>some (.bl true) | some .(8)=>fb ρ | _=>none
def notF(fa:FE):FE:=λρ=>match fa ρ with | some (.bl b)=>some (.bl (!b)) | _=>none
def andT(fa fb:FT):FT:=λρ=>match fa ρ with | some true=>fb ρ | some false=>some false | none=>none
def orT(fa fb:FT):FT:=λρ=>match fa ρ with | some true=>some true | some false=>fb ρ | none=>none
def notT(fa:FT):FT:=λρ=>(fa ρ).map (!·)
def truD:D->Option Bool
 |.non=>some false
 |.bl b=>some b
 |.int i=>some (i != 0)
 |.str y=>if y.length<=sizeLine then some ((y.length:Int) != 0) else none
 |.lst ds=>some (!ds.isEmpty)
 |.tup ds=>some (!ds.isEmpty)
 |_=>none
def trF(f:FE):FT:=λρ=>(f ρ).bind truD
def ifF(t:FT)(fa fb:FE):FE:=λρ=>match t ρ with | some true=>fa ρ | some false=>fb ρ | none=>none
def nilA:FA:=λ_=>some []
def Aa(fa:FE)(fs:FA):FA:=λρ=>(fa ρ).bind λd=>(fs ρ).map (d::·)
def tupF(fs:FA):FE:=λρ=>(fs ρ).bind λds=>if ds.length<=sizeLine then some (.tup ds) else none
def lstF(fs:FA):FE:=λρ=>(fs ρ).bind λds=>if ds.length<=sizeLine then some (.lst ds) else none
def ixD:D->D->Option D:=λx y=>match x,y with
 |.lst ds,.int i=>atI ds i
 |.tup ds,.int i=>atI ds i
 |.str z,.int i=>if z.length<=sizeLine then (atI z.cps.toList i).map λc=>.str ⟨#[c]⟩ else none
 |_,_=>none
def noO:FO:=λ_=>some none
def someO(f:FE):FO:=λρ=>match f ρ with | some (.int i)=>some (some i) | _=>none
def cutD{α:Type}(ds:List α)(lo hi:Option Int):List α:=(ds.drop (HT.sIx ds.length 0 lo)).take (HT.sIx ds.length ds.length hi-HT.sIx ds.length 0 lo)
def cutS(z:Str)(lo hi:Option Int):Str:=⟨(cutD z.cps.toList lo hi).toArray⟩
def slD(x:D)(lo hi:Option Int):Option D:=match x with
 |.lst ds=>some (.lst (cutD ds lo hi))
 |.tup ds=>if HT.sIx ds.length 0 lo=0/\HT.sIx ds.length ds.length hi=ds.length then none else some (.tup (cutD ds lo hi))
 |.str z=>if z.length<=sizeLine then some (.str (cutS z lo hi)) else none
 |_=>none
def slF(f:FE)(l h:FO):FE:=λρ=>(f ρ).bind λx=>(l ρ).bind λlo=>(h ρ).bind λhi=>slD x lo hi
def flV:D->Option V
 |.non=>some .non
 |.bl b=>some (.bl b)
 |.int i=>some (.int i)
 |.str x=>some (.str x)
 |_=>none
def flVs:List D->Option (List V)
 |[]=>some []
 |d::r=>(flV d).bind λv=>(flVs r).map (v::·)
def inD(neg:Bool):D->D->Option D:=λx y=>match x,y with
 |.str i,.str j=>some (.bl (if neg then !(!(ng j i 0 j.length 1).isEmpty) else !(ng j i 0 j.length 1).isEmpty))
 |x,.lst ds=>(flV x).bind λv=>(flVs ds).map λvs=>.bl (if neg then !inV v vs else inV v vs)
 |x,.tup ds=>(flV x).bind λv=>(flVs ds).map λvs=>.bl (if neg then !inV v vs else inV v vs)
 |_,_=>none
def allO(f:D->D->Option Bool):List D->List D->Option Bool
 |[],[]=>some true
 |x::xs,y::ys=>match f x y,allO f xs ys with | some a,some b=>some (a&&b) | _,_=>none
 |_,_=>none
def flD(x y:D):Option Bool:=(flV x).bind λu=>(flV y).map λv=>eqV u v
def eqS(f:D->D->Option Bool):D->D->Option Bool
 |.lst xs,.lst ys=>if xs.length=ys.length then allO f xs ys else some false
 |.tup xs,.tup ys=>if xs.length=ys.length then allO f xs ys else none
 |x,y=>flD x y
def eqK:Nat->D->D->Option Bool
 |0=>flD
 |n+1=>eqS (eqK n)
def eqvD(x y:D):Option Bool:=match x,y with
 |.int i,.int j=>some (decide (i=j))
 |.str i,.str j=>some (decide (i=j))
 |.bl i,.bl j=>some (decide (i=j))
 |.lst xs,.lst ys=>if xs.length=ys.length then allO (eqK 180) xs ys else some false
 |.tup xs,.tup ys=>if xs.length=ys.length then allO (eqK 180) xs ys else none
 |_,_=>none
def eqD(neg:Bool)(x y:D):Option D:=(eqvD x y).map λb=>.bl (if neg then !b else b)
def lenD:D->Option D
 |.str y=>if y.length<=sizeLine then some (.int y.length) else none
 |.lst ds=>some (.int ds.length)
 |.tup ds=>some (.int ds.length)
 |_=>none
def maxD:=iiD λi j=>some (.int (if j > i then j else i))
def gB:D->Option D
 |.lst ds=>some (.lst ds)
 |.tup ds=>some (.lst ds)
 |_=>none
def intD:D->Option D
 |.int i=>some (.int i)
 |.bl k=>some (.int (if k then 1 else 0))
 |_=>none
def negD:D->Option D
 |.int i=>some (.int (-i))
 |_=>none
def seqI(f:FE):FI:=λρ=>match f ρ with | some (.lst ds)=>some ds | some (.tup ds)=>some ds | _=>none
def rngD(n:Nat):List D:=(av n).map λ(i:Nat)=>.int i
def rngI(f:FE):FI:=λρ=>match f ρ with | some (.int j)=>if -(2^62)<=j/\j<2^62 then some (rngD j.toNat) else none | _=>none
inductive Out where
 |nx (ρ:Rho) | rt (d:D) (ρ:Rho) | bk (ρ:Rho) | ct (ρ:Rho)
abbrev FS:=Rho->Option Out
def nxF:FS:=λρ=>some (.nx ρ)
def seqF(g gs:FS):FS:=λρ=>match g ρ with | some (.nx ρ')=>gs ρ' | o=>o
def ifS(t:FT)(g gs:FS):FS:=λρ=>match t ρ with | some true=>g ρ | some false=>gs ρ | none=>none
def setF(i:Nat)(f:FE):FS:=λρ=>(f ρ).map λd=>.nx (ρ.set i (.fz d))
def retF(f:FE):FS:=λρ=>(f ρ).map λd=>.rt d ρ
def retN:FS:=λρ=>some (.rt .non ρ)
def HR(f:FE):FS:=λρ=>(f ρ).map λ_=>.nx ρ
def badF:FS:=λ_=>none
def forF(b:D->FS):List D->FS
 |[],ρ=>some (.nx ρ)
 |d::r,ρ=>match b d ρ with
  |some (.nx ρ')=>forF b r ρ'
  |some (.ct ρ')=>forF b r ρ'
  |some (.bk ρ')=>some (.nx ρ')
  |some (.rt e ρ')=>some (.rt e ρ')
  |none=>none
abbrev FG:=D->Rho->Option Rho
def BK(i:Nat):FG:=λd ρ=>some (ρ.set i (.fz d))
def tgB(tg:FG)(b:FS):D->FS:=λd ρ=>(tg d ρ).bind b
def forS(src:FI)(tg:FG)(b:FS):FS:=λρ=>(src ρ).bind λds=>forF (tgB tg b) ds ρ
def Gy(c:FT)(b:FS):Nat->FS
 |0,_=>none
 |n+1,ρ=>match c ρ with
  |some false=>some (.nx ρ)
  |some true=>(match b ρ with
   |some (.nx ρ')=>Gy c b n ρ'
   |some (.ct ρ')=>Gy c b n ρ'
   |some (.bk ρ')=>some (.nx ρ')
   |some (.rt e ρ')=>some (.rt e ρ')
   |none=>none)
  |none=>none
def Ai(g:List D->Option D)(fs:FA):FE:=λρ=>(fs ρ).bind g
def Ck(n:Nat)(ds:List D):Rho:=ds.map .fz++u7 (n-ds.length) .un
def runF(n np:Nat)(b:FS)(ds:List D):Option D:=if ds.length=np then (match b (Ck n ds) with | some (.rt d _)=>some d | some (.nx _)=>some .non | _=>none) else none
def Io(ρ:Rho)(ga:FT)(fe:FE):List D->Option (List D)
 |[]=>some []
 |d::r=>match ga (ρ++[.fz d]) with
  |some true=>(fe (ρ++[.fz d])).bind λy=>(Io ρ ga fe r).map (y::·)
  |some false=>Io ρ ga fe r
  |none=>none
def BV(src:FI)(ga:FT)(fe:FE):FE:=λρ=>(src ρ).bind λds=>if ds.length<=sizeLine then (Io ρ ga fe ds).map .lst else none
def allT:FT:=λ_=>some true
def mxN(val:Nat->Int):Nat->Int
 |0=>val 0
 |k+1=>if val (k+1) > mxN val k then val (k+1) else mxN val k
def rm:List D->Option (List Int)
 |[]=>some []
 |.int i::r=>(rm r).map (i::·)
 |_::_=>none
def zL(x y:D):Option D:=match x with
 |.lst ds=>(rm ds).map λns=>if ns=[] then y else .int (mxN (λi=>ns.getD i 0) (ns.length-1))
 |_=>none
def Ju:List D->Option (List Str)
 |[]=>some []
 |.str i::r=>(Ju r).map (i::·)
 |_::_=>none
def tyD:D->Option String
 |.non=>some "NoneType"
 |.bl _=>some "bool"
 |.int _=>some "int"
 |.str _=>some "str"
 |.lst _=>some "list"
 |.tup _=>some "tuple"
 |_=>none
def isiD(T:String)(x:D):Option D:=(tyD x).map λn=>.bl (n==T||(n=="bool"&&T=="int"))
def ltS(a b:Str):Bool:=decide (a.cps.toList<b.cps.toList)
def insS(x:Str):List Str->List Str
 |[]=>[x]
 |y::r=>if ltS x y then x::y::r else if x=y then y::r else y::insS x r
def An(xs:List Str):List Str:=xs.foldr insS []
def ssL(ds:List D):Option D:=(Ju ds).bind λxs=>if xs.length<=1000/\(An xs).length<=60 then some (.lst ((An xs).map .str)) else none
def ssD:D->Option D
 |.lst ds=>ssL ds
 |.tup ds=>ssL ds
 |_=>none
def setW(i:Nat)(f:FE):FS:=λρ=>(f ρ).map λd=>.nx (ρ.set i (.ow d))
def ownO(ρ:Rho)(i:Nat):Option D:=match ρ[i]? with | some (.ow d)=>some d | _=>none
def appL(x v:D):Option D:=match x with | .lst ds=>if ds.length<sizeLine then some (.lst (ds++[v])) else none | _=>none
def extL(x v:D):Option D:=match x,v with
 |.lst ds,.lst es=>if ds.length+es.length<=sizeLine then some (.lst (ds++es)) else none
 |_,_=>none
def mutF(g:D->D->Option D)(i:Nat)(f:FE):FS:=λρ=>(f ρ).bind λv=>(ownO ρ i).bind λx=>(g x v).map λy=>.nx (ρ.set i (.ow y))
def frz1(ρ:Rho)(i:Nat):Rho:=match ρ[i]? with | some (.ow d)=>ρ.set i (.fz d) | _=>ρ
def fzS(is:List Nat)(g:FS):FS:=λρ=>g (is.foldl frz1 ρ)
end PV
namespace EX
open PySem PySem.Spec L2
open PyProof.Rows hiding St
def tbV:Option Addr->ac
 |none=>.none
 |some T=>.ref T
def ExcP(a C:Addr)(od tb:Option Addr):Heap->Prop:=λh=>∃o vs,h.get? a=some o/\o.cls=.ref C/\o.dict=od/\o.data=.fields vs/\vs.size=6/\vs[1]?=some (tbV tb)
def TbP(T:Addr)(v:ac):Heap->Prop:=λh=>∃o ts,h.get? T=some o/\o.data=.fields ts/\ts[3]?=some v/\o.cls=.type "traceback"
abbrev excO (a C:Addr) (od tb:Option Addr):HO:=.ext (ExcP a C od tb)
abbrev tbO (T:Addr) (v:ac):HO:=.ext (TbP T v)
section
variable {e:Addr}{tb:Option Addr}
end
end EX
namespace PV
open PySem PySem.Spec L2
open PyProof.Rows hiding St
structure Gx where
 K:ay
 cl:Str->Option Addr
 xcl:Str->Option Addr:=λ_=>none
 lent:Option Addr:=none
theorem HS{K:ay}(e:Same H H')(h:SqT K H a xs):SqT K H' a xs:=by
 rcases h with (h | ⟨o,h⟩) | h
 .exact .inl (.inl (e _ _ h))
 .exact .inl (.inr ⟨o,e _ _ h⟩)
 .exact .inr h
theorem Ar(h:H p=none)(o:HO):Same H (upd H p o):=λb u q=>by rw[Aq (DG q h)];exact q
def FsV(fs:List (Str×V))(gs:List (Str×D)):Prop:=fs.map (λp=>(p.1,some p.2))=gs.map λp=>(p.1,flV p.2)
def XdA(H:Hp)(od:Option Addr)(fs:List (Str×V)):Prop:=match od with | some dx=>H dx=some (.xd fs) | none=>fs=[]
theorem XdA.mono{fs:List (Str×V)}(h:XdA H od fs)(s:Same H H'):XdA H' od fs:=by
 cases od with
 |none=>exact h
 |some dx=>exact s _ _ h
inductive Rep (G:Gx) (H:Hp):V->D->Prop
 |non:Rep G H .non .non
 |bl (b:Bool):Rep G H (.bl b) (.bl b)
 |int (i:Int):Rep G H (.int i) (.int i)
 |str (x:Str):Rep G H (.str x) (.str x)
 |tup {a:Addr}{xs:List V}{ds:List D}:SqT G.K H a xs->xs.length=ds.length->(∀(i:Nat) x d,xs[i]?=some x->ds[i]?=some d->Rep G H x d)->Rep G H (.ref a) (.tup ds)
 |lst {a:Addr}{xs:List V}{ds:List D}:SqL G.K H a xs->xs.length=ds.length->(∀(i:Nat) x d,xs[i]?=some x->ds[i]?=some d->Rep G H x d)->Rep G H (.ref a) (.lst ds)
 |dk {a:Addr}{o:Obj}{kvs:List (Key×V)}{kds:List (Key×D)}:H a=some (.frz o (.dK kvs))->kvs.map (·.1)=kds.map (·.1)->(∀(i:Nat) x d,(kvs.map (·.2))[i]?=some x->(kds.map (·.2))[i]?=some d->Rep G H x d)->Rep G H (.ref a) (.dk kds)
 |dt {a:Addr}{o:Obj}{kvs:List (List Key×V)}{kds:List (List Key×D)}:H a=some (.frz o (.dT kvs))->kvs.map (·.1)=kds.map (·.1)->(∀(i:Nat) x d,(kvs.map (·.2))[i]?=some x->(kds.map (·.2))[i]?=some d->Rep G H x d)->Rep G H (.ref a) (.dt kds)
 |adr (a:Addr):Rep G H (.ref a) (.adr a)
 |ob {a C dx:Addr}{c:Str}{fs:List (Str×V)}{gs:List (Str×D)}:G.cl c=some C->H a=some (.ins C dx fs)->fs.map (·.1)=gs.map (·.1)->(∀(i:Nat) x d,(fs.map (·.2))[i]?=some x->(gs.map (·.2))[i]?=some d->Rep G H x d)->Rep G H (.ref a) (.ob c gs)
 |err {a C:Addr}{od tb:Option Addr}{c:Str}{fs:List (Str×V)}{gs:List (Str×D)}:G.xcl c=some C->H a=some (EX.excO a C od tb)->XdA H od fs->FsV fs gs->Rep G H (.ref a) (.err c gs)
 |mem {a:Addr}{F:List (List Key)->Int}:H a=some (.mem F G.K)->Rep G H (.ref a) (.mem F)
def RepL(G:Gx)(H:Hp)(xs:List V)(ds:List D):Prop:=xs.length=ds.length/\∀(i:Nat) x d,xs[i]?=some x->ds[i]?=some d->Rep G H x d
theorem Rep.mono{G:Gx}{H H':Hp}{v:V}{d:D}(r:Rep G H v d)(s:Same H H'):Rep G H' v d:=by
 induction r with
 |non=>exact .non
 |bl b=>exact .bl b
 |int i=>exact .int i
 |str x=>exact .str x
 |tup h l _ ih=>exact .tup (HS s h) l ih
 |lst h l _ ih=>exact .lst (s.seq h) l ih
 |dk h l _ ih=>exact .dk (s _ _ h) l ih
 |dt h l _ ih=>exact .dt (s _ _ h) l ih
 |adr a=>exact .adr a
 |ob c h l _ ih=>exact .ob c (s _ _ h) l ih
 |err c h q f=>exact .err c (s _ _ h) (q.mono s) f
 |mem h=>exact .mem (s _ _ h)
theorem RepL.mono{G:Gx}{H H':Hp}{xs:List V}{ds:List D}(r:RepL G H xs ds)(s:Same H H'):RepL G H' xs ds:=⟨r.1,λi x d a b=>(r.2 i x d a b).mono s⟩
theorem RepL.nil{G:Gx}:RepL G H [] []:=⟨rfl,λi x d h=>by simp at h⟩
theorem RepL.cons{G:Gx}{H:Hp}{x:V}{d:D}{xs:List V}{ds:List D}(r:Rep G H x d)(rs:RepL G H xs ds):RepL G H (x::xs) (d::ds):=
 ⟨by simp[rs.1],λi y e h1 h2=>by
  cases i with
  |zero=>simp at h1 h2;subst h1;subst h2;exact r
  |succ i=>simp at h1 h2;exact rs.2 i y e h1 h2⟩
theorem RepL.uncons{G:Gx}{d:D}{ds:List D}(r:RepL G H xs (d::ds)):∃x ys,xs=x::ys/\Rep G H x d/\RepL G H ys ds:=by
 obtain⟨l,h⟩:=r;cases xs with
 |nil=>simp at l
 |cons x ys=>exact⟨x,ys,rfl,h 0 x d rfl rfl,by simpa using l,λi y e h1 h2=>h (i+1) y e (by simpa using h1) (by simpa using h2)⟩
theorem RepL.nil_inv{G:Gx}(r:RepL G H xs []):xs=[]:=by
 have:=r.1;cases xs with
 |nil=>rfl
 |cons x ys=>simp at this
theorem RepL.append{G:Gx}{ds es:List D}(a:RepL G H xs ds)(b:RepL G H ys es):RepL G H (xs++ys) (ds++es):=by
 refine⟨by rw[cb,cb,a.1,b.1],λi x d h1 h2=>?_⟩
 by_cases hi:i<xs.length
 .rw[jI hi] at h1;rw[jI (by rw[<-a.1];exact hi)] at h2;exact a.2 i x d h1 h2
 .rw[jv (kA.mp hi)] at h1;rw[jv (by rw[<-a.1];exact kA.mp hi),<-a.1] at h2;exact b.2 _ x d h1 h2
theorem RepL.drop{G:Gx}{ds:List D}(a:RepL G H xs ds)(n:Nat):RepL G H (xs.drop n) (ds.drop n):=
 ⟨by rw[oQ,oQ,a.1],λi x d h1 h2=>by rw[E8] at h1 h2;exact a.2 _ x d h1 h2⟩
theorem RepL.take{G:Gx}{ds:List D}(a:RepL G H xs ds)(n:Nat):RepL G H (xs.take n) (ds.take n):=
 ⟨by rw[kU,kU,a.1],λi x d h1 h2=>by
  rw[List.getElem?_take] at h1 h2;split at h1
  .rename_i hlt;rw[if_pos hlt] at h2;exact a.2 _ x d h1 h2
  .cases h1⟩
theorem RepL.get{G:Gx}{ds:List D}(a:RepL G H xs ds){i:Nat}{d:D}(h:ds[i]?=some d):∃x,xs[i]?=some x/\Rep G H x d:=by
 have hi:i<ds.length:=(d6.mp h).1;have hi':i<xs.length:=by rw[a.1];exact hi
 exact⟨xs[i],by simp[hi'],a.2 i _ d (by simp[hi']) h⟩
theorem RepL.atI{G:Gx}{H:Hp}{xs:List V}{ds:List D}(a:RepL G H xs ds){i:Int}{d:D}(h:L2.atI ds i=some d):∃x,L2.atI xs i=some x/\Rep G H x d:=by
 unfold L2.atI at h ⊢;rw[<-a.1] at h;cases e:ixN xs.length i with
 |none=>rw[e] at h;cases h
 |some j=>
  rw[e] at h;obtain⟨x,h1,h2⟩:=a.get (show ds[j]?=some d from h);exact⟨x,h1,h2⟩
def hid(A:List Addr)(H:Hp):Hp:=λb=>if b∈A then none else H b
theorem Az(s:Same H H'):Same (hid A H) (hid A H'):=λb o h=>by
 unfold hid at h ⊢;split at h
 .cases h
 .rename_i hb;rw[if_neg hb];exact s b o h
theorem Am:Same (hid A H) H:=λb o h=>by
 unfold hid at h;split at h
 .cases h
 .exact h
theorem Dz(h:∀a∈A,a∈B):Same (hid B H) (hid A H):=λb o q=>by
 unfold hid at q ⊢;split at q
 .cases q
 .rename_i hb;rw[if_neg (λz=>hb (h b z))];exact q
theorem BL(h:p∉A):hid A H p=H p:=by unfold hid;rw[if_neg h]
theorem Bg{o:HO}(h:p∈A):hid A (upd H p o)=hid A H:=by
 funext b;unfold hid
 by_cases hb:b∈A
 .rw[if_pos hb,if_pos hb]
 .rw[if_neg hb,if_neg hb,Aq (λe:b=p=>hb (by rw[e];exact h))]
def Top(G:Gx)(A:List Addr)(H:Hp)(a:Addr):D->Prop
 |.lst ds=>∃xs,H a=some (.lst xs)/\RepL G (hid A H) xs ds
 |.dk kds=>∃kvs,H a=some (.dK kvs)/\kvs.map (·.1)=kds.map (·.1)/\RepL G (hid A H) (kvs.map (·.2)) (kds.map (·.2))
 |.dt kds=>∃kvs,H a=some (.dT kvs)/\kvs.map (·.1)=kds.map (·.1)/\RepL G (hid A H) (kvs.map (·.2)) (kds.map (·.2))
 |.ob c gs=>∃C dx fs,H a=some (.ins C dx fs)/\(G.cl c=some C/\fs.map (·.1)=gs.map (·.1))/\RepL G (hid A H) (fs.map (·.2)) (gs.map (·.2))
 |_=>False
theorem Top.mono{G:Gx}{A:List Addr}{H H':Hp}{a:Addr}{d:D}(t:Top G A H a d)(s:Same H H'):Top G A H' a d:=by
 cases d with
 |lst ds=>obtain⟨xs,h,r⟩:=t;exact⟨xs,s _ _ h,r.mono (Az s)⟩
 |dk ds=>obtain⟨xs,h,k,r⟩:=t;exact⟨xs,s _ _ h,k,r.mono (Az s)⟩
 |dt ds=>obtain⟨xs,h,k,r⟩:=t;exact⟨xs,s _ _ h,k,r.mono (Az s)⟩
 |ob c gs=>obtain⟨C,dx,xs,h,k,r⟩:=t;exact⟨C,dx,xs,s _ _ h,k,r.mono (Az s)⟩
 |_=>exact t.elim
structure Nt (x:Option HO):Prop where
 ne:x≠none
 tup:∀xs,x≠some (.tup xs)
theorem Nt.mono{x y:Option HO}(h:Nt x)(k:∀u,x=some u->y=some u):Nt y:=by
 cases x with
 |none=>exact absurd rfl h.ne
 |some u=>rw[k u rfl];exact h
theorem Nt.lst{xs:List V}:Nt (some (.lst xs)):=⟨λz=>(nomatch z),λ_ z=>(nomatch z)⟩
theorem Nt.dK{xs:List (Key×V)}:Nt (some (.dK xs)):=⟨λz=>(nomatch z),λ_ z=>(nomatch z)⟩
theorem Nt.dT{xs:List (List Key×V)}:Nt (some (.dT xs)):=⟨λz=>(nomatch z),λ_ z=>(nomatch z)⟩
theorem Nt.ins{C dx:Addr}{xs:List (Str×V)}:Nt (some (.ins C dx xs)):=⟨λz=>(nomatch z),λ_ z=>(nomatch z)⟩
structure Okp (G:Gx) (A:List Addr) (σ:St) (H:Hp) (ρ:Rho):Prop where
 len:σ.length=ρ.length
 live:∀a∈A,Nt (H a)
 fz:∀(i:Nat) (d:D),ρ[i]?=some (.fz d)->∃v,σ[i]?=some (some v)/\Rep G (hid A H) v d
 ow:∀(i:Nat) (d:D),ρ[i]?=some (.ow d)->∃a,σ[i]?=some (some (.ref a))/\a∈A/\Top G A H a d
 inj:∀(i j:Nat) (d e:D) (a:Addr),ρ[i]?=some (.ow d)->ρ[j]?=some (.ow e)->σ[i]?=some (some (.ref a))->σ[j]?=some (some (.ref a))->i=j
theorem Okp.mono{G:Gx}{A:List Addr}{σ:St}{H H':Hp}{ρ:Rho}(o:Okp G A σ H ρ)(s:Same H H'):Okp G A σ H' ρ:=
 ⟨o.len,λa ha=>(o.live a ha).mono λu e=>s _ _ e,
  λi d h=>let ⟨v,h1,h2⟩:=o.fz i d h;⟨v,h1,h2.mono (Az s)⟩,λi d h=>let ⟨a,h1,h2,h3⟩:=o.ow i d h;⟨a,h1,h2,h3.mono s⟩,o.inj⟩
def RepT(G:Gx)(A:List Addr)(H:Hp)(v:V)(d:D):Prop:=Rep G (hid A H) v d∨∃a,v=.ref a/\Top G A H a d
theorem RepT.mono{G:Gx}{A:List Addr}{H H':Hp}{v:V}{d:D}(r:RepT G A H v d)(s:Same H H'):RepT G A H' v d:=by
 rcases r with r | ⟨a,e,r⟩
 .exact .inl (r.mono (Az s))
 .exact .inr ⟨a,e,r.mono s⟩
theorem RepT.lst{G:Gx}{A:List Addr}{H:Hp}{v:V}{ds:List D}(r:RepT G A H v (.lst ds)):∃a xs,v=.ref a/\SqL G.K H a xs/\RepL G (hid A H) xs ds:=by
 rcases r with r | ⟨a,e,xs,h,r⟩
 .cases r with
  |lst h l r=>exact⟨_,_,rfl,Am.seq h,l,r⟩
 .exact⟨a,xs,e,.of h,r⟩
theorem RepT.tup{G:Gx}{A:List Addr}{H:Hp}{v:V}{ds:List D}(r:RepT G A H v (.tup ds)):∃a xs,v=.ref a/\SqT G.K H a xs/\RepL G (hid A H) xs ds:=by
 rcases r with r | ⟨a,e,r⟩
 .cases r with
  |tup h l r=>exact⟨_,_,rfl,HS Am h,l,r⟩
 .exact r.elim
theorem RepT.int{G:Gx}{i:Int}(r:RepT G A H v (.int i)):v=.int i:=by
 rcases r with r | ⟨a,e,r⟩
 .cases r;rfl
 .exact r.elim
theorem RepT.str{G:Gx}{i:Str}(r:RepT G A H v (.str i)):v=.str i:=by
 rcases r with r | ⟨a,e,r⟩
 .cases r;rfl
 .exact r.elim
theorem RepT.bl{G:Gx}{i:Bool}(r:RepT G A H v (.bl i)):v=.bl i:=by
 rcases r with r | ⟨a,e,r⟩
 .cases r;rfl
 .exact r.elim
theorem RepT.non{G:Gx}(r:RepT G A H v .non):v=.non:=by
 rcases r with r | ⟨a,e,r⟩
 .cases r;rfl
 .exact r.elim
theorem RepT.dk{G:Gx}{A:List Addr}{H:Hp}{v:V}{kds:List (Key×D)}(r:RepT G A H v (.dk kds)):∃a kvs,v=.ref a/\Rd H a (.dK kvs)/\kvs.map (·.1)=kds.map (·.1)/\RepL G (hid A H) (kvs.map (·.2)) (kds.map (·.2)):=by
 rcases r with r | ⟨a,e,kvs,h,k,r⟩
 .cases r with
  |dk h k r=>
   refine⟨_,_,rfl,.inr ⟨_,Am _ _ h⟩,k,?_,r⟩;have:=congrArg dE k;rw[aw,aw] at this ⊢;exact this
 .exact⟨a,kvs,e,.of h,k,r⟩
theorem Us(live:∀a∈A,Nt (H a))(hp:H p=none)(o:HO):hid A (upd H p o) p=some o:=by
 rw[BL (λz=>(live p z).ne hp),Ak]
theorem Cq{G:Gx}{ds:List D}(live:∀a∈A,Nt (H a))(hp:H p=none)(r:RepL G (hid A H) xs ds):Rep G (hid A (upd H p (.lst xs))) (.ref p) (.lst ds):=
 let q:=r.mono (Az (Ar hp (.lst xs)));.lst (.of (Us live hp _)) q.1 q.2
theorem K7{G:Gx}{ds:List D}(live:∀a∈A,Nt (H a))(hp:H p=none)(r:RepL G (hid A H) xs ds):Rep G (hid A (upd H p (.tup xs))) (.ref p) (.tup ds):=
 let q:=r.mono (Az (Ar hp (.tup xs)));.tup (.of (Us live hp _)) q.1 q.2
def tF(G:Gx)(A:List Addr)(f:FE):TE:=λσ H Q=>∃ρ d,Okp G A σ H ρ/\f ρ=some d/\∀v H',Same H H'->Rep G (hid A H') v d->Q v H'
def tT(G:Gx)(A:List Addr)(f:FE):TE:=λσ H Q=>∃ρ d,Okp G A σ H ρ/\f ρ=some d/\∀v H',Same H H'->RepT G A H' v d->Q v H'
def PF(X:Cx)(G:Gx)(e:Expr)(f:FE):Prop:=∀⦃A⦄,PE X e (tF G A f)
def PU(X:Cx)(G:Gx)(e:Expr)(f:FE):Prop:=∀⦃A⦄,PE X e (tT G A f)
theorem Bx{t t':TE}(h:PE X e t)(w:∀σ H Q,t' σ H Q->t σ H Q):PE X e t':=λπ s σ H Q I q=>h π s σ H Q I (w σ H Q q)
theorem PF.pu{G:Gx}{f:FE}(h:PF X G e f):PU X G e f:=λA=>Bx (@h A) λσ H Q ⟨ρ,d,o,e,k⟩=>⟨ρ,d,o,e,λv H' s r=>k v H' s (.inl r)⟩
def tFA(G:Gx)(A:List Addr)(f:FA):TA:=λσ H Q=>∃ρ ds,Okp G A σ H ρ/\f ρ=some ds/\∀vs H',Same H H'->RepL G (hid A H') vs ds->Q vs H'
def PFA(X:Cx)(G:Gx)(es:List Expr)(f:FA):Prop:=∀⦃A⦄,PA X es (tFA G A f)
theorem sE{e:List Expr}{t t':TA}(h:PA X e t)(w:∀σ H Q,t' σ H Q->t σ H Q):PA X e t':=λpos π s σ H Q I q=>h pos π s σ H Q I (w σ H Q q)
def tFT(G:Gx)(A:List Addr)(f:FT):TT:=λσ H Q=>∃ρ b,Okp G A σ H ρ/\f ρ=some b/\∀H',Same H H'->Q b H'
def PFT(X:Cx)(G:Gx)(e:Expr)(f:FT):Prop:=∀⦃A⦄,PT X e (tFT G A f)
def PFW(X:Cx)(G:Gx)(e:Expr)(f:FT):Prop:=∀⦃A⦄,PW X e (tFT G A f)
theorem Zi{t t':TT}(h:PT X e t)(w:∀σ H Q,t' σ H Q->t σ H Q):PT X e t':=λπ s σ H Q I q=>h π s σ H Q I (w σ H Q q)
theorem gC{t t':TT}(h:PW X e t)(w:∀σ H Q,t' σ H Q->t σ H Q):PW X e t':=λwh π s σ H Q I q=>h wh π s σ H Q I (w σ H Q q)
section
variable {G:Gx}{a b c:Expr}{fa fb fc:FE}
theorem u6(i:Nat){x:Str}(h:PE X (.Name x pos) (tVar i)):PF X G (.Name x pos) (vF i):=λA=>Bx h λσ H Q ⟨ρ,d,o,e,k⟩=>by
 unfold vF at e;split at e
 .rename_i d' h';cases e;obtain⟨v,h1,h2⟩:=o.fz i _ h';exact⟨v,h1,k v H (Same.refl H) h2⟩
 .cases e
theorem u9(i:Nat){x:Str}(h:PE X (.Name x pos) (tVar i)):PU X G (.Name x pos) (vU i):=λA=>Bx h λσ H Q ⟨ρ,d,o,e,k⟩=>by
 unfold vU at e;split at e
 .rename_i d' h';cases e;obtain⟨v,h1,h2⟩:=o.fz i _ h';exact⟨v,h1,k v H (Same.refl H) (.inl h2)⟩
 .rename_i d' h';cases e;obtain⟨p,h1,_,h2⟩:=o.ow i _ h';exact⟨.ref p,h1,k _ H (Same.refl H) (.inr ⟨p,rfl,h2⟩)⟩
 .cases e
theorem Eg{d:D}(h:PE X a (tC v))(r:Rep G (λ_=>none) v d):PF X G a (kF d):=λA=>Bx h λσ H Q ⟨ρ,d',o,e,k⟩=>by
 cases e;exact k v H (Same.refl H) (r.mono λb o z=>nomatch z)
theorem Pn{i j}:PF X G (.Constant (.int i) j pos) (kF (.int i)):=Eg uR (.int i)
theorem K8{b j}:PF X G (.Constant (.bool b) j pos) (kF (.bl b)):=Eg xV (.bl b)
theorem Pq{j}:PF X G (.Constant .none j pos) (kF .non):=Eg uT .non
theorem Rp{x j}:PF X G (.Constant (.str x) j pos) (kF (.str x)):=Eg uU (.str x)
def Dm(G:Gx)(r:R2)(g:D->D->Option D):Prop:=∀(A:List Addr) (H:Hp) (x y:V) (dx dy d:D) (Q:VK),(∀a∈A,Nt (H a))->RepT G A H x dx->RepT G A H y dy->g dx dy=some d->(∀v H',Same H H'->Rep G (hid A H') v d->Q v H')->r x y H Q
theorem Q_{g:D->D->Option D}{ρ:Rho}{d:D}(h:bF g fa fb ρ=some d):∃x y,fa ρ=some x/\fb ρ=some y/\g x y=some d:=by
 unfold bF at h;cases e1:fa ρ with
 |none=>rw[e1] at h;cases h
 |some x=>
  rw[e1] at h;cases e2:fb ρ with
  |none=>simp[e2] at h
  |some y=>simp[e2] at h;exact⟨x,y,rfl,rfl,h⟩
theorem M5{r:R2}{g:D->D->Option D}(s:Dm G r g){A:List Addr}{σ:St}{H:Hp}{Q:VK}(h:tF G A (bF g fa fb) σ H Q):tOp r (tT G A fa) (tT G A fb) σ H Q:=by
 obtain⟨ρ,d,o,e,k⟩:=h;obtain⟨x,y,e1,e2,e3⟩:=Q_ e;exact⟨ρ,x,o,e1,λv H1 s1 r1=>⟨ρ,y,o.mono s1,e2,λu H2 s2 r2=>s A H2 v u x y d Q ((o.mono s1).mono s2).live (r1.mono s2) r2 e3 λw H3 s3 r3=>k w H3 (s1.trans (s2.trans s3)) r3⟩⟩
theorem K9{op:Operator}{r:R2}{g:D->D->Option D}(ho:OpR X (iq op) r)(s:Dm G r g)(ha:PU X G a fa)(hb:PU X G b fb):PF X G (.BinOp a op b pos) (bF g fa fb):=
 λA=>Bx (rQ ho (@ha A) (@hb A)) λ_ _ _ h=>M5 s h
theorem gD{op:n9}{r:R2}{g:D->D->Option D}(ho:OpR X (d3 op) r)(s:Dm G r g)(ha:PU X G a fa)(hb:PU X G b fb)(hm:io op b=false):PF X G (.Compare a [op] [b] pos) (bF g fa fb):=
 λA=>Bx (oA ho (@ha A) (@hb A) hm) λ_ _ _ h=>M5 s h
theorem Wt{f:FE}{ρ:Rho}{b:Bool}(h:blF f ρ=some b):f ρ=some (.bl b):=by
 unfold blF at h;split at h
 .rename_i e;cases h;exact e
 .cases h
theorem FP{op:n9}{r:R2}{g:D->D->Option D}(ho:OpR X (d3 op) r)(s:Dm G r g)(ha:PU X G a fa)(hb:PU X G b fb)(hm:io op b=false):PFT X G (.Compare a [op] [b] pos) (blF (bF g fa fb)):=
 λA=>Zi (Zb ho (@ha A) (@hb A) hm) λσ H Q ⟨ρ,d,o,e,k⟩=>M5 s ⟨ρ,.bl d,o,Wt e,λv H' s' r'=>by cases r';exact⟨d,rfl,k H' s'⟩⟩
theorem Rq{g:Int->Int->Option D}{x y d:D}(h:iiD g x y=some d):∃i j,x=.int i/\y=.int j/\g i j=some d:=by
 unfold iiD at h;split at h
 .exact⟨_,_,rfl,rfl,h⟩
 .cases h
theorem M6{g:Int->Int->V}{g':Int->Int->D}(e:∀i j H,Rep G H (g i j) (g' i j)):Dm G (rI0 g) (iiD λi j=>some (g' i j)):=by
 intro A H x y dx dy d Q lv rx ry h k;obtain⟨i,j,rfl,rfl,h⟩:=Rq h;cases h;exact⟨i,j,rx.int,ry.int,k _ H (Same.refl H) (e i j _)⟩
theorem Vl{C:Int->Int->Prop}{g:Int->Int->V}{g':Int->Int->D}[∀i j,Decidable (C i j)](e:∀i j H,Rep G H (g i j) (g' i j)):Dm G (rI C g) (iiD λi j=>if C i j then some (g' i j) else none):=by
 intro A H x y dx dy d Q lv rx ry h k;obtain⟨i,j,rfl,rfl,h'⟩:=Rq h
 by_cases hc:C i j
 .rw[if_pos hc] at h';cases h';exact⟨i,j,rx.int,ry.int,hc,k _ H (Same.refl H) (e i j _)⟩
 .rw[if_neg hc] at h';cases h'
theorem oh:Dm G (rI0 λi j=>.int (i-j)) subD:=M6 λi j H=>.int _
theorem Nz.ok{i j:Int}(h:Nz i j):IntMulOk i j:=by
 rcases h with h | h
 .exact h.ok
 .exact IntMulOk.of_le h.1 h.2 (by decide)
theorem ou:OpR X (iq .Mult) (rI Nz λi j=>.int (i*j)):=opI λ_ _ _ _ _ _ _ hc q=>mul_int q hc.ok
theorem o6:OpR X (iq .LShift) (rI CShl λi j=>.int (i*2^j.toNat)):=opI λi j _ _ _ _ _ hc q=>lshift_int hc.1 (by have h1:=hc.2.1;have h2:=hc.2.2;omega) q
theorem o7:Dm G (rI Nz λi j=>.int (i*j)) mulD:=Vl λi j H=>.int _
theorem gF:Dm G (rI CDiv λi j=>.int (i/j)) Dy:=Vl λi j H=>.int _
theorem o8:Dm G (rI (λ_ j=>0<j) λi j=>.int (i%j)) modD:=Vl (C:=λ_ j=>0<j) λi j H=>.int _
theorem o9:Dm G (rI CShl λi j=>.int (i*2^j.toNat)) shlD:=Vl λi j H=>.int _
theorem gG:Dm G (rI0 λi j=>.int (tq i j)) fu:=M6 λi j H=>.int _
theorem o_:Dm G (rI0 λi j=>.int (tz i j)) borD:=M6 λi j H=>.int _
theorem u_:Dm G (rI0 λi j=>.bl (decide (i<j))) ltD:=M6 λi j H=>.bl _
theorem vA:Dm G (rI0 λi j=>.bl (decide (i<=j))) leD:=M6 λi j H=>.bl _
theorem vB:Dm G (rI0 λi j=>.bl (decide (j<i))) gtD:=M6 λi j H=>.bl _
theorem vC:Dm G (rI0 λi j=>.bl (decide (j<=i))) geD:=M6 λi j H=>.bl _
def sG(K:ay):R2:=λx y H Q=>∃l b xs zs,x=.ref l/\y=.ref b/\SqL K H l xs/\SqL K H b zs/\xs.length+zs.length<=sizeLine/\∀p,H p=none->Q (.ref p) (upd H p (.lst (xs++zs)))
theorem Zj:OpR X (iq .Add) (sG X.K):=by
 intro π s σ H x y v u Q I rx ry h;obtain⟨l,b,xs,zs,rfl,rfl,hl,hb,hz,q⟩:=h;cases rx;cases ry;obtain⟨its,r,pl,z⟩:=I.list hl;obtain⟨its2,r2,pl2,z2⟩:=I.list hb;have e1:=r.length;have e2:=r2.length;obtain⟨⟨cls,dd,data,sl⟩,ho,hc,n,hd⟩:=pl.isList;obtain⟨⟨cls2,dd2,data2,sl2⟩,ho2,hc2,n2,hd2⟩:=pl2.isList;simp only at hc hd hc2 hd2;subst hc hd hc2 hd2;refine concat_meets ⟨_,ho,rfl⟩ ⟨_,ho2,rfl⟩ noFill_list_add seq_list_add PySem.F.slot_list_add PySem.F.entry_list_add (PySem.F.args_list_add_2 _ _) (list_addW l b its.toArray its2.toArray n n2 dd dd2 sl sl2 (by rw[bS,bS];omega)) ⟨ho,ho2,?_⟩;have ea:its.toArray++its2.toArray=(its++its2).toArray:=by simp
 rw[ea];exact⟨.ref _,_,I.lnew (t':=s.toks) (r.append r2) (by rw[cb];omega),rfl,q _ I.fresh⟩
def rAdd(K:ay):R2:=λx y H Q=>(rI0 λi j=>.int (i+j)) x y H Q∨((λx y H Q=>∃i j,x=.str i/\y=.str j/\i.length+j.length<=sizeLine/\Q (.str (i++j)) H) x y H Q∨sG K x y H Q)
theorem pA:OpR X (iq .Add) (rAdd X.K):=ul.or (Yd.or Zj)
theorem pB:Dm G (rAdd G.K) addD:=by
 intro A H x y dx dy d Q lv rx ry h k;unfold addD at h;split at h
 .cases h;exact .inl ⟨_,_,rx.int,ry.int,k _ H (Same.refl H) (.int _)⟩
 .split at h
  .rename_i hz;cases h;exact .inr (.inl ⟨_,_,rx.str,ry.str,hz,k _ H (Same.refl H) (.str _)⟩)
  .cases h
 .split at h
  .rename_i hz;cases h;obtain⟨l,xs,rfl,h1,r1⟩:=rx.lst;obtain⟨m,zs,rfl,h2,r2⟩:=ry.lst;exact .inr (.inr ⟨l,m,xs,zs,rfl,rfl,h1,h2,by rw[r1.1,r2.1];exact hz,λp hp=>k _ _ (Ar hp _) (Cq lv hp (r1.append r2))⟩)
  .cases h
 .cases h
theorem Rr{op:BoolOp}(h:PF X G a fa):PF X G (.BoolOp op [a] pos) fa:=λA=>uZ (@h A)
theorem Vm{rest:List Expr}(ha:PF X G a fa)(hb:PF X G (.BoolOp .And (b::rest) pos) fb):PF X G (.BoolOp .And (a::b::rest) pos) (andF fa fb):=λA=>Bx (uc (@ha A) (@hb A)) λσ H Q ⟨ρ,d,o,e,k⟩=>by
 unfold andF at e;split at e
 .rename_i e1;refine⟨ρ,_,o,e1,λv H1 s1 r1=>?_⟩;cases r1;refine⟨true,rfl,?_⟩;rw[if_pos rfl];exact⟨ρ,d,o.mono s1,e,λv H2 s2 r2=>k v H2 (s1.trans s2) r2⟩
 .rename_i e1;refine⟨ρ,_,o,e1,λv H1 s1 r1=>?_⟩;cases r1;refine⟨false,rfl,?_⟩;rw[if_neg cy];cases e;exact k _ H1 s1 .(8)
 .cases e
theorem yM{rest:List Expr}(ha:PF X G a fa)(hb:PF X G (.BoolOp .Or (b::rest) pos) fb):PF X G (.BoolOp .Or (a::b::rest) pos) (orF fa fb):=λA=>Bx (xZ (@ha A) (@hb A)) λσ H Q ⟨ρ,d,o,e,k⟩=>by
 unfold orF at e;split at e
 .rename_i e1;refine⟨ρ,_,o,e1,λv H1 s1 r1=>?_⟩;cases r1;refine⟨true,rfl,?_⟩;rw[if_pos rfl];cases e;exact k _ H1 s1 (.bl true)
 .rename_i e1;refine⟨ρ,_,o,e1,λv H1 s1 r1=>?_⟩;cases r1;refine⟨false,rfl,?_⟩;rw[if_neg cy];exact⟨ρ,d,o.mono s1,e,λv H2 s2 r2=>k v H2 (s1.trans s2) r2⟩
 .cases e
theorem vD(ha:PF X G a fa):PF X G (.UnaryOp .Not a pos) (notF fa):=λA=>Bx (ud (@ha A)) λσ H Q ⟨ρ,d,o,e,k⟩=>by
 unfold notF at e;split at e
 .rename_i b e1;refine⟨ρ,_,o,e1,λv H1 s1 r1=>?_⟩;cases r1;cases e;exact⟨b,rfl,k _ H1 s1 (.bl _)⟩
 .cases e
variable {ga gb:FT}
theorem PFW.pt(h:PFW X G a ga):PFT X G a ga:=λA=>(@h A).pt
theorem DK(h:PFT X G a ga):PFW X G (.BoolOp .And [a] pos) ga:=λA=>nj (@h A)
theorem Dr(h:PFT X G a ga):PFW X G (.BoolOp .Or [a] pos) ga:=λA=>dh (@h A)
theorem Ff{rest:List Expr}(ha:PFT X G a ga)(hb:PFW X G (.BoolOp .And (b::rest) pos) gb):PFW X G (.BoolOp .And (a::b::rest) pos) (andT ga gb):=λA=>gC (uX (@ha A) (@hb A)) λσ H Q ⟨ρ,d,o,e,k⟩=>by
 unfold andT at e;split at e
 .rename_i e1;exact⟨ρ,_,o,e1,λH1 s1=>iteT ⟨ρ,d,o.mono s1,e,λH2 s2=>k H2 (s1.trans s2)⟩⟩
 .rename_i e1;cases e;exact⟨ρ,_,o,e1,λH1 s1=>iteF (k H1 s1)⟩
 .cases e
theorem GF{rest:List Expr}(ha:PFT X G a ga)(hb:PFW X G (.BoolOp .Or (b::rest) pos) gb):PFW X G (.BoolOp .Or (a::b::rest) pos) (orT ga gb):=λA=>gC (rP (@ha A) (@hb A)) λσ H Q ⟨ρ,d,o,e,k⟩=>by
 unfold orT at e;split at e
 .rename_i e1;cases e;exact⟨ρ,_,o,e1,λH1 s1=>iteT (k H1 s1)⟩
 .rename_i e1;exact⟨ρ,_,o,e1,λH1 s1=>iteF ⟨ρ,d,o.mono s1,e,λH2 s2=>k H2 (s1.trans s2)⟩⟩
 .cases e
theorem Ht(ha:PFT X G a ga):PFT X G (.UnaryOp .Not a pos) (notT ga):=λA=>Zi (uY (@ha A)) λσ H Q ⟨ρ,d,o,e,k⟩=>by
 unfold notT at e;cases e1:ga ρ with
 |none=>rw[e1] at e;cases e
 |some b=>rw[e1] at e;cases e;exact⟨ρ,b,o,e1,λH1 s1=>k H1 s1⟩
theorem Qg{α β:Type}{xs:List α}{ys:List β}(h:xs.length=ys.length):xs.isEmpty=ys.isEmpty:=by
 cases xs<;>cases ys<;>simp at h ⊢
theorem Cr(ha:PU X G a fa)(hG:G.K=X.K)(he:∀whole,qv a X.env whole=(do let v <-whole;kP a.pos;ko [v] (truthy v)):=by intro _;rfl):PFT X G a (λρ=>(fa ρ).bind truD):=λA=>Zi (eE (@ha A) he) λσ H Q ⟨ρ,b,o,e,k⟩=>by
 cases e1:fa ρ with
 |none=>simp[e1] at e
 |some d=>
  have e':truD d=some b:=by simpa [e1] using e
  refine⟨ρ,d,o,e1,λv H1 s1 r1=>⟨b,?_,k H1 s1⟩⟩;rw[<-hG];cases d with
  |non=>rw[r1.non];exact (cq e').symm
  |bl b'=>rw[r1.bl];exact (cq e').symm
  |int i=>rw[r1.int];exact (cq e').symm
  |str y=>
   rw[r1.str];simp only[truD] at e';split at e'
   .rename_i hz;exact⟨hz,(cq e').symm⟩
   .cases e'
  |lst ds=>
   obtain⟨p,xs,rfl,h1,h2⟩:=r1.lst;refine .inl ⟨xs,h1,?_⟩;rw[Qg h2.1];exact (cq e').symm
  |tup ds=>
   obtain⟨p,xs,rfl,h1,h2⟩:=r1.tup;refine .inr (.inl ⟨xs,h1,?_⟩);rw[Qg h2.1];exact (cq e').symm
  |_=>cases e'
theorem Zk(ht:PFT X G c ga)(ha:PF X G a fa)(hb:PF X G b fb):PF X G (.IfExp c a b pos) (ifF ga fa fb):=λA=>Bx (di (@ht A) (@ha A) (@hb A)) λσ H Q ⟨ρ,d,o,e,k⟩=>by
 unfold ifF at e;split at e
 .rename_i e1;exact⟨ρ,_,o,e1,λH1 s1=>iteT ⟨ρ,d,o.mono s1,e,λv H2 s2 r2=>k v H2 (s1.trans s2) r2⟩⟩
 .rename_i e1;exact⟨ρ,_,o,e1,λH1 s1=>iteF ⟨ρ,d,o.mono s1,e,λv H2 s2 r2=>k v H2 (s1.trans s2) r2⟩⟩
 .cases e
variable {es:List Expr}{fs:FA}
theorem Ac:PFA X G [] nilA:=λA=>sE Dw λσ H Q ⟨ρ,ds,o,e,k⟩=>by cases e;exact k [] H (Same.refl H) RepL.nil
theorem Af(ha:PF X G a fa)(hr:PFA X G es fs)(hs:ar (a::es) X.env=.(16)::ar es X.env:=by rfl):PFA X G (a::es) (Aa fa fs):=λA=>sE (B_ (@ha A) (@hr A) hs) λσ H Q ⟨ρ,ds,o,e,k⟩=>by
 unfold Aa at e;cases e1:fa ρ with
 |none=>simp[e1] at e
 |some d=>
  cases e2:fs ρ with
  |none=>simp[e1,e2] at e
  |some ds'=>
   simp[e1,e2] at e;subst e;exact⟨ρ,d,o,e1,λv H1 s1 r1=>⟨ρ,ds',o.mono s1,e2,λvs H2 s2 r2=>k _ H2 (s1.trans s2) (.cons (r1.mono (Az s2)) r2)⟩⟩
theorem CV{x1}(h:PFA X G es fs):PF X G (.Tuple es x1 pos) (tupF fs):=λA=>Bx (eU (@h A)) λσ H Q ⟨ρ,d,o,e,k⟩=>by
 unfold tupF at e;cases e1:fs ρ with
 |none=>simp[e1] at e
 |some ds=>
  rw[e1] at e;have e':(if ds.length<=sizeLine then some (D.tup ds) else none)=some d:=e;split at e'
  .rename_i hz;cases e';exact⟨ρ,ds,o,e1,λvs H1 s1 r1=>⟨by rw[r1.1];exact hz,λp hp=>k _ _ (s1.trans (Ar hp _)) (K7 (o.mono s1).live hp r1)⟩⟩
  .cases e'
theorem CQ(h:PFA X G es fs):PF X G (.List es pos) (lstF fs):=λA=>Bx (eX (@h A)) λσ H Q ⟨ρ,d,o,e,k⟩=>by
 unfold lstF at e;cases e1:fs ρ with
 |none=>simp[e1] at e
 |some ds=>
  rw[e1] at e;have e':(if ds.length<=sizeLine then some (D.lst ds) else none)=some d:=e;split at e'
  .rename_i hz;cases e';exact⟨ρ,ds,o,e1,λvs H1 s1 r1=>⟨by rw[r1.1];exact hz,λp hp=>k _ _ (s1.trans (Ar hp _)) (Cq (o.mono s1).live hp r1)⟩⟩
  .cases e'
theorem gH:Dm G (rIx G.K) ixD:=by
 intro A H x y dx dy d Q lv rx ry h k;unfold ixD at h;split at h
 .obtain⟨p,xs,rfl,h1,r1⟩:=rx.lst;obtain⟨v,h2,r2⟩:=r1.atI h;exact .inl ⟨p,xs,_,v,rfl,ry.int,h1,h2,k v H (Same.refl H) r2⟩
 .obtain⟨p,xs,rfl,h1,r1⟩:=rx.tup;obtain⟨v,h2,r2⟩:=r1.atI h;exact .inr (.inl ⟨p,xs,_,v,rfl,ry.int,h1,h2,k v H (Same.refl H) r2⟩)
 .split at h
  .rename_i z i hz;cases e:atI z.cps.toList i with
   |none=>rw[e] at h;cases h
   |some c=>
    rw[e] at h;cases h;exact .inr (.inr ⟨z,i,c,rx.str,ry.int,hz,e,k _ H (Same.refl H) (.str _)⟩)
  .cases h
 .cases h
theorem yN(hG:G.K=X.K)(ha:PU X G a fa)(hb:PU X G b fb)(hs:Nu b):PF X G (.Subscript a b pos) (bF ixD fa fb):=
 λA=>Bx (rW (r:=rIx X.K) fD (@ha A) (@hb A) hs) λ_ _ _ h=>M5 (by rw[<-hG];exact gH) h
def tFO(G:Gx)(A:List Addr)(f:FO):TO:=λσ H Q=>∃ρ o,Okp G A σ H ρ/\f ρ=some o/\∀H',Same H H'->Q o H'
def PFO(X:Cx)(G:Gx)(e:Option Expr)(f:FO):Prop:=∀⦃A⦄,PO X e (tFO G A f)
theorem sH{e:Option Expr}{t t':TO}(h:PO X e t)(w:∀σ H Q,t' σ H Q->t σ H Q):PO X e t':=λπ s σ H Q I q=>h π s σ H Q I (w σ H Q q)
theorem Eh:PFO X G none noO:=λA=>sH oN λσ H Q ⟨ρ,o,ok,e,k⟩=>by cases e;exact k H (Same.refl H)
theorem DW(h:PU X G a fa):PFO X G (some a) (someO fa):=λA=>sH (oO (@h A)) λσ H Q ⟨ρ,o,ok,e,k⟩=>by
 unfold someO at e;split at e
 .rename_i i e1;cases e;exact⟨ρ,_,ok,e1,λv H1 s1 r1=>⟨i,r1.int,k H1 s1⟩⟩
 .cases e
theorem RepL.cut{ds:List D}(r:RepL G H xs ds)(lo hi:Option Int):RepL G H (cutV xs lo hi) (cutD ds lo hi):=by
 unfold cutV cutD;rw[r.1];exact (r.drop _).take _
end
end PV
theorem L2.Room.unitsW{k:Nat}{A:PySem.Around}(r:L2.Room k A):A.units+190<PySem.cLine:=by have:=r.un;omega
namespace PV
open PySem PySem.Spec L2
open PyProof.Rows hiding St
section
variable {G:Gx}{a b c:Expr}{fa fb fc:FE}{p2:Pos}
section
open Builtin.Str
theorem Wu(n:Nat)(v:Option Int)(d:Nat)(hd:d<=n):(match v with | none=>(d:Int) | some i=>max 0 (min (if i<0 then i+(n:Int) else i) (n:Int)))=(HT.sIx n d v:Int):=by
 cases v with
 |none=>rfl
 |some i=>
  simp only[HT.sIx];split<;>omega
theorem pC(n d:Nat)(v:Option Int)(hd:d<=n):HT.sIx n d v<=n:=by
 cases v with
 |none=>exact hd
 |some i=>simp only[HT.sIx];split<;>omega
theorem Yq(lo hi:Option Int)(n:Nat):strSliceIndices lo hi 1 n=(av (HT.sIx n n hi-HT.sIx n 0 lo)).map (λk=>HT.sIx n 0 lo+k):=by
 have h1:=Wu n lo 0 (dQ _);have h2:=Wu n hi n (aE _);have hp:((1:Int) > 0):=by decide
 have e:strSliceIndices lo hi 1 n=AU (HT.sIx n 0 lo:Int) (HT.sIx n n hi:Int) 1:=by
  unfold strSliceIndices;simp only[hp,if_true];exact congrFun (congr (congrArg AU h1) h2) 1
 rw[e];unfold AU;simp only[hp,if_true];generalize HT.sIx n 0 lo=a;generalize HT.sIx n n hi=b;have hc:(if (a:Int)<(b:Int) then ((b:Int)-a+1-1)/1 else 0).toNat=b-a:=by
  split
  .rw[DF];omega
  .omega
 rw[hc];apply pd;intro k _;omega
theorem cG(x:Str)(lo hi:Option Int):ze x lo hi=cutS x lo hi:=by
 have hb:=pC x.length x.length hi (aE _);have hn:x.cps.toList.length=x.length:=by simp[mf]
 unfold ze cutS cutD;rw[Yq,hn];generalize HT.sIx x.length 0 lo=a at *;generalize HT.sIx x.length x.length hi=b at *;rw[aw,eW];split
 .rename_i h;simp only[gd,beq_iff_eq] at h;have hab:b-a=x.length:=h.2
  by_cases h0:x.length=0
  .have:x.cps.toList=[]:=zf.mp (by omega);cases x with
   |mk c=>
    simp at this;subst this;simp
  .have ha:a=0:=by omega
   subst ha;have:b=x.length:=by omega
   subst this;rw[E9,Nat.sub_zero,AV (by omega)]
 .congr 1;apply congrArg;apply AW;intro i;rw[DI];have key:∀m,m<=b-a->(List.filterMap ((λk=>x.cps[k]?) ∘ λk=>a+k) (av m))=((x.cps.toList.drop a).take m):=by
   intro m
   induction m with
   |zero=>intro _;simp
   |succ m ih=>
    intro hm;rw[ro,List.filterMap_append,ih (by omega)];have hlt:a+m<x.cps.size:=by have:x.length=x.cps.size:=rfl;omega
    rw[List.take_succ_eq_append_getElem .(17)];simp[hlt]
  rw[key _ (aE _)]
end
def rSlS:V->Option Int->Option Int->Hp->VK->Prop:=λx lo hi H Q=>∃z,x=.str z/\z.length<=sizeLine/\Q (.str (ze z lo hi)) H
theorem vG:SlR X rSlS:=by
 intro π s σ H x v vl vu lo hi sl Q I rx hs pl pu h;obtain⟨z,rfl,hz,q⟩:=h;obtain⟨t,rfl⟩:=rx;obtain⟨o,e1,e2,e3⟩:=hs;have fin:∀t' k,EP X π σ Q (.str (ze z lo hi) t') { s with toks:=k }:=λt' k=>⟨.str _,H,I.tok _,⟨t',rfl⟩,q⟩;have hl:=ck (Txt.slice_le z lo hi) hz;refine⟨"str",_,PySem.F.slot_str_getitem.lookup,AL _ _ _,?_⟩;cases pl with
 |none=>
  cases pu with
  |none=>exact zg (l:=none) (u:=none) (st:=none) ⟨o,e1,e2,e3⟩ rfl (zh ⟨hl,fin⟩)
  |int j uj=>exact zg (l:=none) (u:=some (j,uj)) (st:=none) ⟨o,e1,e2,e3⟩ rfl (zh ⟨hl,fin⟩)
 |int i ui=>
  cases pu with
  |none=>exact zg (l:=some (i,ui)) (u:=none) (st:=none) ⟨o,e1,e2,e3⟩ rfl (zh ⟨hl,fin⟩)
  |int j uj=>exact zg (l:=some (i,ui)) (u:=some (j,uj)) (st:=none) ⟨o,e1,e2,e3⟩ rfl (zh ⟨hl,fin⟩)
def rSl(K:ay):V->Option Int->Option Int->Hp->VK->Prop:=λx lo hi H Q=>rSlL K x lo hi H Q∨(rSlT K x lo hi H Q∨rSlS x lo hi H Q)
theorem vH:SlR X (rSl X.K):=oV.or (uw.or vG)
theorem Dn{lo hi:Option Expr}{gl gh:FO}(hG:G.K=X.K)(ha:PU X G a fa)(hl:PFO X G lo gl)(hh:PFO X G hi gh):PF X G (.Subscript a (.Slice lo hi none p2) pos) (slF fa gl gh):=λA=>Bx (fC (vH (X:=X)) (@ha A) (@hl A) (@hh A)) λσ H Q ⟨ρ,d,o,e,k⟩=>by
 unfold slF at e;cases e1:fa ρ with
 |none=>simp[e1] at e
 |some x=>
  cases e2:gl ρ with
  |none=>simp[e1,e2] at e
  |some l=>
   cases e3:gh ρ with
   |none=>simp[e1,e2,e3] at e
   |some h=>
    have e':slD x l h=some d:=by simpa [e1,e2,e3] using e
    refine⟨ρ,x,o,e1,λv H1 s1 r1=>⟨ρ,l,o.mono s1,e2,λH2 s2=>⟨ρ,h,(o.mono s1).mono s2,e3,λH3 s3=>?_⟩⟩⟩;have r3:=(r1.mono s2).mono s3;have o3:=((o.mono s1).mono s2).mono s3;have s0:=s1.trans (s2.trans s3);unfold slD at e';split at e'
    .cases e';obtain⟨p,xs,rfl,h1,r⟩:=r3.lst;exact .inl ⟨p,xs,rfl,by rw[<-hG];exact h1,λq hq=>k _ _ (s0.trans (Ar hq _)) (Cq o3.live hq (r.cut _ _))⟩
    .split at e'
     .cases e'
     .rename_i hw;cases e';obtain⟨p,xs,rfl,h1,r⟩:=r3.tup;exact .inr (.inl ⟨p,xs,rfl,by rw[<-hG];exact h1,by rw[r.1];exact hw,λq hq=>k _ _ (s0.trans (Ar hq _)) (K7 o3.live hq (r.cut _ _))⟩)
    .split at e'
     .rename_i hz;cases e';refine .inr (.inr ⟨_,r3.str,hz,?_⟩);rw[cG];exact k _ _ s0 (.str _)
     .cases e'
    .cases e'
theorem Vn{u:V}{d:D}(r:RepT G A H v d)(h:flV d=some u):v=u/\Kz v=true:=by
 cases d with
 |non=>cases h;rw[r.non];exact⟨rfl,rfl⟩
 |bl b=>cases h;rw[r.bl];exact⟨rfl,rfl⟩
 |int b=>cases h;rw[r.int];exact⟨rfl,rfl⟩
 |str b=>cases h;rw[r.str];exact⟨rfl,rfl⟩
 |_=>cases h
theorem Wv{H:Hp}:∀{ds:List D}{xs us:List V},RepL G H xs ds->flVs ds=some us->xs=us/\xs.all Kz=true
 |[],xs,us,r,h=>by cases h;rw[r.nil_inv];exact⟨rfl,rfl⟩
 |d::ds,xs,us,r,h=>by
  obtain⟨x,ys,rfl,r1,r2⟩:=r.uncons;unfold flVs at h;cases e1:flV d with
  |none=>simp[e1] at h
  |some v=>
   cases e2:flVs ds with
   |none=>simp[e1,e2] at h
   |some vs=>
    simp[e1,e2] at h;subst h;have q:Rep G (hid [] H) x d:=r1.mono λb o z=>z;obtain⟨z1,z2⟩:=Vn (A:=[]) (.inl q) e1;obtain⟨z3,z4⟩:=Wv r2 e2;subst z1;subst z3;exact⟨rfl,by rw[nB,z2,z4];rfl⟩
def rInA(K:ay)(neg:Bool):R2:=λx y H Q=>rIn K neg x y H Q∨∃i j,x=.str i/\y=.str j/\Q (.bl (if neg then !(!(ng j i 0 j.length 1).isEmpty) else !(ng j i 0 j.length 1).isEmpty)) H
theorem gJ:OpR X (d3 .In) (rInA X.K false):=cA.or bu
theorem cH:OpR X (d3 .NotIn) (rInA X.K true):=Vk.or Vg
theorem vI(neg:Bool):Dm G (rInA G.K neg) (inD neg):=by
 intro A H x y dx dy d Q lv rx ry h k;have seq:∀{ds:List D}{p:Addr}{xs:List V},y=.ref p->(SqL G.K H p xs∨SqT G.K H p xs)->RepL G (hid A H) xs ds->((flV dx).bind λv=>(flVs ds).map λvs=>D.bl (if neg then !inV v vs else inV v vs))=some d->rIn G.K neg x y H Q:=λ{ds p xs} ey hq r h=>by
  cases e1:flV dx with
  |none=>simp[e1] at h
  |some v=>
   cases e2:flVs ds with
   |none=>simp[e1,e2] at h
   |some vs=>
    rw[e1,e2] at h;cases h;obtain⟨z1,z2⟩:=Vn rx e1;obtain⟨z3,z4⟩:=Wv r e2;subst z1;subst z3;exact⟨p,xs,ey,hq,z2,z4,k _ H (Same.refl H) (.bl _)⟩
 unfold inD at h;split at h
 .cases h;exact .inr ⟨_,_,rx.str,ry.str,k _ H (Same.refl H) (.bl _)⟩
 .obtain⟨p,xs,e,h1,r⟩:=ry.lst;exact .inl (seq e (.inl h1) r h)
 .obtain⟨p,xs,e,h1,r⟩:=ry.tup;exact .inl (seq e (.inr h1) r h)
 .cases h
def eAt(f:D->D->Option Bool)(xs ys:List D)(j:Nat):Bool:=match xs[j]?,ys[j]? with | some x,some y=>(f x y).getD false | _,_=>false
theorem Pu{f:D->D->Option Bool}:∀{xs ys:List D}{b:Bool},allO f xs ys=some b->xs.length=ys.length/\(∀(j:Nat) x y,xs[j]?=some x->ys[j]?=some y->f x y=some (eAt f xs ys j))/\b=(av xs.length).all (eAt f xs ys)
 |[],[],b,h=>by cases h;exact⟨rfl,λj x y h=>by simp at h,rfl⟩
 |[],_::_,b,h=>by cases h
 |_::_,[],b,h=>by cases h
 |x::xs,y::ys,b,h=>by
  unfold allO at h;split at h
  .rename_i a c e1 e2;cases h;obtain⟨h1,h2,h3⟩:=Pu e2;refine⟨by simp[h1],λj u v hu hv=>?_,?_⟩
   .cases j with
    |zero=>simp at hu hv;subst hu;subst hv;rw[e1];simp[eAt,e1]
    |succ j=>
     have:=h2 j u v (by simpa using hu) (by simpa using hv);rw[this];simp[eAt]
   .rw[eR,List.range_succ_eq_map,nB,Ee];have z:eAt f (x::xs) (y::ys) 0=a:=by simp[eAt,e1]
    rw[z,h3];rfl
  .cases h
theorem gK{u:V}(h:Kz u=true):eqV u u=true:=by
 cases u<;>simp[eqV]<;>cases h
theorem RB{d:D}{u:V}(r:Rep G H v d)(h:flV d=some u):v=u/\Kz v=true:=Vn (A:=[]) (.inl (r.mono λb o z=>by rw[BL mB];exact z)) h
section
theorem Ww(I:Inv X π σ H s)(hG:G.K=X.K):∀(n:Nat) {x y:D}{v:V}{b:Bool},eqK n x y=some b->Rep G H v x->Rep G H v y->b=true:=by
 have flat:∀{x y:D}{v:V}{b:Bool},flD x y=some b->Rep G H v x->Rep G H v y->b=true:=λ{x y v b} h rx ry=>by
  unfold flD at h;cases e1:flV x with
  |none=>simp[e1] at h
  |some u=>
   cases e2:flV y with
   |none=>simp[e1,e2] at h
   |some w=>
    simp[e1,e2] at h;obtain⟨z1,z2⟩:=RB rx e1;obtain⟨z3,_⟩:=RB ry e2;rw[<-h,<-z1,<-z3];exact gK z2
 intro n
 induction n with
 |zero=>intro x y v b h rx ry;exact flat h rx ry
 |succ n ih=>
  have items:∀{xs:List V}{ds es:List D}{b:Bool},allO (eqK n) ds es=some b->RepL G H xs ds->RepL G H xs es->b=true:=λ{xs ds es b} h r1 r2=>by
   obtain⟨h1,h2,h3⟩:=Pu h;rw[h3,gg];intro j hj;have hj':j<ds.length:=bv.mp hj;have hx:xs[j]?=some (xs[j]'(by rw[r1.1];exact hj')):=by simp[r1.1,hj']
   have hd:ds[j]?=some ds[j]:=by simp[hj']
   have he:es[j]?=some (es[j]'(by omega)):=cf (by omega);exact ih (h2 j _ _ hd he) (r1.2 j _ _ hx hd) (r2.2 j _ _ hx he)
  intro x y v b h rx ry;unfold eqK eqS at h;split at h
  .split at h
   .cases rx with
    |lst h1 l1 r1=>
     cases ry with
     |lst h2 l2 r2=>
      have e:=I.list_inj (by rw[<-hG];exact h1) (by rw[<-hG];exact h2);subst e;exact items h ⟨l1,r1⟩ ⟨l2,r2⟩
   .rename_i hne;cases rx with
    |lst h1 l1 r1=>
     cases ry with
     |lst h2 l2 r2=>
      have e:=I.list_inj (by rw[<-hG];exact h1) (by rw[<-hG];exact h2);subst e;exact absurd (l1.symm.trans l2) hne
  .split at h
   .cases rx with
    |tup h1 l1 r1=>
     cases ry with
     |tup h2 l2 r2=>
      have e:=I.tuple_inj (by rw[<-hG];exact h1) (by rw[<-hG];exact h2);subst e;exact items h ⟨l1,r1⟩ ⟨l2,r2⟩
   .cases h
  .exact flat h rx ry
theorem Jv{A:ax}{ds es:List D}{b:Bool}{jts:List ac}(ih:∀{x y:D}{v w:V}{u1 u2:ac}{b:Bool},eqK n x y=some b->Rep G H v x->Rep G H w y->RelV v u1->RelV w u2->jS A s u1 u2 b)(h:allO (eqK n) ds es=some b)(r1:RepL G H xs ds)(r2:RepL G H ys es)(v1:Vals xs its)(v2:Vals ys jts):
  its.toArray.size=jts.toArray.size/\b=(av its.toArray.size).all (eAt (eqK n) ds es)/\∀j (h1:j<its.toArray.size) (h2:j<jts.toArray.size),jS A s its.toArray[j] jts.toArray[j] (eAt (eqK n) ds es j):=by
 obtain⟨h1,h2,h3⟩:=Pu h;have l1:=v1.length;have l2:=v2.length;have q1:=r1.1;have q2:=r2.1;have z1:its.toArray.size=ds.length:=by rw[bS];omega
 refine⟨by rw[bS,bS];omega,by rw[z1];exact h3,λj j1 j2=>?_⟩;rw[bS] at j1 j2;have jx:j<xs.length:=by omega
 have jy:j<ys.length:=by omega
 have hx:xs[j]?=some xs[j]:=by simp[jx]
 have hy:ys[j]?=some ys[j]:=by simp[jy]
 have hd:ds[j]?=some (ds[j]'(by omega)):=cf (by omega);have he:es[j]?=some (es[j]'(by omega)):=cf (by omega);obtain⟨u,eu,ru⟩:=v1.get hx;obtain⟨w,ew,rw'⟩:=v2.get hy;have a1:its.toArray[j]=u:=by simpa [cf j1] using eu
 have a2:jts.toArray[j]=w:=by simpa [cf j2] using ew
 rw[a1,a2];exact ih (h2 j _ _ hd he) (r1.2 j _ _ hx hd) (r2.2 j _ _ hy he) ru rw'
theorem Vo{ds es:List D}{jts:List ac}(h:ds.length≠es.length)(r1:RepL G H xs ds)(r2:RepL G H ys es)(v1:Vals xs its)(v2:Vals ys jts):(its.toArray.size != jts.toArray.size)=true:=by
 have l1:=v1.length;have l2:=v2.length;have q1:=r1.1;have q2:=r2.1;rw[bS,bS];exact bne_iff_ne.mpr (by omega)
theorem M7(I:Inv X π σ H s)(hG:G.K=X.K):∀(n:Nat) (A:ax),A.units+n<bi->∀{x y:D}{v w:V}{u1 u2:ac}{b:Bool},eqK n x y=some b->Rep G H v x->Rep G H w y->RelV v u1->RelV w u2->jS A s u1 u2 b:=by
 have flat:∀{A:ax}{x y:D}{v w:V}{u1 u2:ac}{b:Bool},flD x y=some b->Rep G H v x->Rep G H w y->RelV v u1->RelV w u2->jS A s u1 u2 b:=λ{A x y v w u1 u2 b} h rx ry q1 q2=>by
  unfold flD at h;cases e1:flV x with
  |none=>simp[e1] at h
  |some u=>
   cases e2:flV y with
   |none=>simp[e1,e2] at h
   |some w=>
    simp[e1,e2] at h;obtain⟨z1,z2⟩:=RB rx e1;obtain⟨z3,z4⟩:=RB ry e2;rw[<-h,<-z1,<-z3];exact fG q1 q2 z2 z4
 intro n
 induction n with
 |zero=>intro A hu x y v w u1 u2 b h rx ry q1 q2;exact flat h rx ry q1 q2
 |succ n ih=>
  intro A hu x y v w u1 u2 b h rx ry q1 q2;have h':=h;have hu1:A.in1.units+n<bi:=by show A.units+1+n<bi;omega
  have hu0:A.units<bi:=by omega
  unfold eqK eqS at h;split at h
  .cases rx with
   | @lst a _ _ h1 l1 r1=>
    cases ry with
    | @lst c _ _ h2 l2 r2=>
     obtain rfl:u1=.ref a:=q1;obtain rfl:u2=.ref c:=q2;obtain⟨its,v1,p1,_⟩:=I.list (by rw[<-hG];exact h1);obtain⟨jts,v2,p2,_⟩:=I.list (by rw[<-hG];exact h2)
     by_cases hac:a=c
     .subst hac;have:=Ww I hG (n+1) h' (.lst h1 l1 r1) (.lst h2 l2 r2);subst this;exact AM _
     .split at h
      .obtain⟨z1,z2,z3⟩:=Jv (λq=>ih A.in1 hu1 q) h ⟨l1,r1⟩ ⟨l2,r2⟩ v1 v2;rw[z2];exact AX hac (EA p1.isList p2.isList z1 hu0 z3)
      .rename_i hne;cases h;exact AX hac (EB p1.isList p2.isList (Vo hne ⟨l1,r1⟩ ⟨l2,r2⟩ v1 v2) hu0)
  .cases rx with
   | @tup a _ _ h1 l1 r1=>
    cases ry with
    | @tup c _ _ h2 l2 r2=>
     obtain rfl:u1=.ref a:=q1;obtain rfl:u2=.ref c:=q2;obtain⟨its,v1,p1,_⟩:=I.tuple (by rw[<-hG];exact h1);obtain⟨jts,v2,p2,_⟩:=I.tuple (by rw[<-hG];exact h2)
     by_cases hac:a=c
     .subst hac;have:=Ww I hG (n+1) h' (.tup h1 l1 r1) (.tup h2 l2 r2);subst this;exact AM _
     .split at h
      .obtain⟨z1,z2,z3⟩:=Jv (λq=>ih A.in1 hu1 q) h ⟨l1,r1⟩ ⟨l2,r2⟩ v1 v2;have q:=EC (show s.heap.IsTuple a its.toArray from p1) (show s.heap.IsTuple c jts.toArray from p2) hu0 z3;rw[z1,AY,beq_self_eq_true,rL,<-z1,<-z2] at q;exact AX hac q
      .cases h
  .exact flat h rx ry q1 q2
end
def rEqP(G:Gx)(neg:Bool):R2:=λx y H Q=>∃(A:List Addr) (ds es:List D) (b:Bool),eqvD (.lst ds) (.lst es)=some b/\((RepT G A H x (.lst ds)/\RepT G A H y (.lst es))∨(ds.length=es.length/\RepT G A H x (.tup ds)/\RepT G A H y (.tup es)))/\Q (.bl (if neg then !b else b)) H
theorem vJ(hG:G.K=X.K)(hu:X.A.units+190<bi):OpR X (d3 .Eq) (rEqP G false):=by
 intro π s σ H x y v u Q I rx ry h;obtain⟨A,ds,es,b,e,hr,k⟩:=h;have fin:EP X π σ Q (.bool b) s:=⟨.bl b,H,I,rfl,k⟩;simp only[eqvD] at e
 rcases hr with ⟨r1,r2⟩ | ⟨hl,r1,r2⟩
 .obtain⟨a,xs,rfl,h1,q1⟩:=r1.lst;obtain⟨c,ys,rfl,h2,q2⟩:=r2.lst;cases rx;cases ry;obtain⟨its,v1,p1,_⟩:=I.list (by rw[<-hG];exact h1);obtain⟨jts,v2,p2,_⟩:=I.list (by rw[<-hG];exact h2);split at e
  .obtain⟨z1,z2,z3⟩:=Jv (λq=>M7 I hG 180 X.A.in1 (by show X.A.units+1+180<bi;omega) q) e (q1.mono Am) (q2.mono Am) v1 v2;exact EA p1.isList p2.isList z1 (by omega) z3 _ _ _ _ (by rw[<-z2];exact fin)
  .rename_i hne;cases e;exact EB p1.isList p2.isList (Vo hne q1 q2 v1 v2) (by omega) _ _ _ _ fin
 .obtain⟨a,xs,rfl,h1,q1⟩:=r1.tup;obtain⟨c,ys,rfl,h2,q2⟩:=r2.tup;cases rx;cases ry;obtain⟨its,v1,p1,_⟩:=I.tuple (by rw[<-hG];exact h1);obtain⟨jts,v2,p2,_⟩:=I.tuple (by rw[<-hG];exact h2);rw[if_pos hl] at e;obtain⟨z1,z2,z3⟩:=Jv (λq=>M7 I hG 180 X.A.in1 (by show X.A.units+1+180<bi;omega) q) e (q1.mono Am) (q2.mono Am) v1 v2;have q:=EC (show s.heap.IsTuple a its.toArray from p1) (show s.heap.IsTuple c jts.toArray from p2) (by omega) z3;rw[z1,AY,beq_self_eq_true,rL,<-z1,<-z2] at q;exact q _ _ _ _ fin
theorem vK(hG:G.K=X.K)(hu:X.A.units+190<bi):OpR X (d3 .NotEq) (rEqP G true):=by
 intro π s σ H x y v u Q I rx ry h;obtain⟨A,ds,es,b,e,hr,k⟩:=h;have fin:EP X π σ Q (.bool (!b)) s:=⟨.bl (!b),H,I,rfl,k⟩;simp only[eqvD] at e
 rcases hr with ⟨r1,r2⟩ | ⟨hl,r1,r2⟩
 .obtain⟨a,xs,rfl,h1,q1⟩:=r1.lst;obtain⟨c,ys,rfl,h2,q2⟩:=r2.lst;cases rx;cases ry;obtain⟨its,v1,p1,_⟩:=I.list (by rw[<-hG];exact h1);obtain⟨jts,v2,p2,_⟩:=I.list (by rw[<-hG];exact h2);split at e
  .obtain⟨z1,z2,z3⟩:=Jv (λq=>M7 I hG 180 X.A.in1 (by show X.A.units+1+180<bi;omega) q) e (q1.mono Am) (q2.mono Am) v1 v2;exact SeqAt.RcNeAt.lists p1.isList p2.isList z1 (by omega) z3 _ _ _ _ (by rw[<-z2];exact fin)
  .rename_i hne;cases e;exact SeqAt.RcNeAt.lists_lengths p1.isList p2.isList (Vo hne q1 q2 v1 v2) (by omega) _ _ _ _ fin
 .obtain⟨a,xs,rfl,h1,q1⟩:=r1.tup;obtain⟨c,ys,rfl,h2,q2⟩:=r2.tup;cases rx;cases ry;obtain⟨its,v1,p1,_⟩:=I.tuple (by rw[<-hG];exact h1);obtain⟨jts,v2,p2,_⟩:=I.tuple (by rw[<-hG];exact h2);rw[if_pos hl] at e;obtain⟨z1,z2,z3⟩:=Jv (λq=>M7 I hG 180 X.A.in1 (by show X.A.units+1+180<bi;omega) q) e (q1.mono Am) (q2.mono Am) v1 v2;have q:=SeqAt.RcNeAt.tuples (show s.heap.IsTuple a its.toArray from p1) (show s.heap.IsTuple c jts.toArray from p2) (by omega) z3;rw[z1,AY,beq_self_eq_true,rL,<-z1,<-z2] at q;exact q _ _ _ _ fin
def rEqA(G:Gx)(neg:Bool):R2:=λx y H Q=>(λx y H Q=>scal x y=true/\Q (.bl (if neg then !decide (x=y) else decide (x=y))) H) x y H Q∨rEqP G neg x y H Q
theorem Yr(hG:G.K=X.K)(hu:X.A.units+190<bi):OpR X (d3 .Eq) (rEqA G false):=xu.or (vJ hG hu)
theorem gM(hG:G.K=X.K)(hu:X.A.units+190<bi):OpR X (d3 .NotEq) (rEqA G true):=xx.or (vK hG hu)
theorem Vp{α β:Type}[DecidableEq α][DecidableEq β]{f:α->β}(h:∀a b,f a=f b->a=b)(a b:α):decide (f a=f b)=decide (a=b):=by
 by_cases e:a=b
 .subst e;simp
 .rw[decide_eq_false e,decide_eq_false λz=>e (h a b z)]
theorem Vq(neg:Bool):Dm G (rEqA G neg) (eqD neg):=by
 intro A H x y dx dy d Q lv rx ry h k;unfold eqD at h;cases e:eqvD dx dy with
 |none=>simp[e] at h
 |some b=>
  simp only[e,eK] at h;cases h;unfold eqvD at e;split at e
  .cases e;rw[rx.int,ry.int];refine .inl ⟨rfl,?_⟩;rw[Vp (f:=V.int) (λa b z=>by cases z;rfl)];exact k _ H (Same.refl H) (.bl _)
  .cases e;rw[rx.str,ry.str];refine .inl ⟨rfl,?_⟩;rw[Vp (f:=V.str) (λa b z=>by cases z;rfl)];exact k _ H (Same.refl H) (.bl _)
  .cases e;rw[rx.bl,ry.bl];refine .inl ⟨rfl,?_⟩;rw[Vp (f:=V.bl) (λa b z=>by cases z;rfl)];exact k _ H (Same.refl H) (.bl _)
  .exact .inr ⟨A,_,_,b,e,.inl ⟨rx,ry⟩,k _ H (Same.refl H) (.bl _)⟩
  .split at e
   .rename_i hl;exact .inr ⟨A,_,_,b,(by simp only[eqvD];rw[if_pos hl];exact e),.inr ⟨hl,rx,ry⟩,k _ H (Same.refl H) (.bl _)⟩
   .cases e
  .cases e
def SndC(G:Gx)(r:List V->Hp->VK->Prop)(g:D->Option D):Prop:=∀(A:List Addr) (H:Hp) (x:V) (dx d:D) (Q:VK),(∀a∈A,Nt (H a))->RepT G A H x dx->g dx=some d->(∀v H',Same H H'->Rep G (hid A H') v d->Q v H')->r [x] H Q
def gO(G:Gx)(r:List V->Hp->VK->Prop)(g:D->D->Option D):Prop:=∀(A:List Addr) (H:Hp) (x y:V) (dx dy d:D) (Q:VK),(∀a∈A,Nt (H a))->RepT G A H x dx->RepT G A H y dy->g dx dy=some d->(∀v H',Same H H'->Rep G (hid A H') v d->Q v H')->r [x,y] H Q
theorem Hu{g:D->Option D}{ρ:Rho}{d:D}(h:uF g fa ρ=some d):∃x,fa ρ=some x/\g x=some d:=by
 unfold uF at h;cases e:fa ρ with
 |none=>simp[e] at h
 |some x=>exact⟨x,rfl,by simpa [e] using h⟩
theorem gP{g:D->Option D}(s:SndC G r g){A:List Addr}{σ:St}{H:Hp}{Q:VK}(h:tF G A (uF g fa) σ H Q):tCB r (Zc (tT G A fa) tNil) σ H Q:=by
 obtain⟨ρ,d,o,e,k⟩:=h;obtain⟨x,e1,e2⟩:=Hu e;exact⟨ρ,x,o,e1,λv H1 s1 r1=>s A H1 v x d Q (o.mono s1).live r1 e2 λw H2 s2 r2=>k w H2 (s1.trans s2) r2⟩
theorem pD{g:D->D->Option D}(s:gO G r g){A:List Addr}{σ:St}{H:Hp}{Q:VK}(h:tF G A (bF g fa fb) σ H Q):tCB r (Zc (tT G A fa) (Zc (tT G A fb) tNil)) σ H Q:=by
 obtain⟨ρ,d,o,e,k⟩:=h;obtain⟨x,y,e1,e2,e3⟩:=Q_ e;exact⟨ρ,x,o,e1,λv H1 s1 r1=>⟨ρ,y,o.mono s1,e2,λu H2 s2 r2=>s A H2 v u x y d Q ((o.mono s1).mono s2).live (r1.mono s2) r2 e3 λw H3 s3 r3=>k w H3 (s1.trans (s2.trans s3)) r3⟩⟩
theorem BJ{p:Pos}{id:String}{g:D->Option D}(hc:Dd X (.builtin id) r)(s:SndC G r g)(hg:Gl X x)(hm:X.mg x=none)(hv:cr x=some (.builtin id))(ha:PU X G a fa)(hn:x≠"__name__":=by decide)(hdb:.(12)=false:=by decide)(he:ar [a] X.env=[.(16)]:=by rfl):PF X G (.Call (.Name x p) [a] [] pos) (uF g fa):=
 λA=>Bx (Nq hc hg hm hv (B_ (@ha A) Dw he) hn hdb he rfl) λ_ _ _ h=>gP s h
theorem Wx{p:Pos}{id:String}{g:D->D->Option D}(hc:Dd X (.builtin id) r)(s:gO G r g)(hg:Gl X x)(hm:X.mg x=none)(hv:cr x=some (.builtin id))(ha:PU X G a fa)(hb:PU X G b fb)(hn:x≠"__name__":=by decide)(hdb:.(12)=false:=by decide)(he:ar [a,b] X.env=.(16)::ar [b] X.env:=by rfl)(he2:ar [b] X.env=[(false,eval b X.env)]:=by rfl):PF X G (.Call (.Name x p) [a,b] [] pos) (bF g fa fb):=
 λA=>Bx (Nq hc hg hm hv (B_ (@ha A) (B_ (@hb A) Dw he2) he) hn hdb he (by rw[he2];rfl)) λ_ _ _ h=>pD s h
theorem Dt{p:Pos}{T:String}{g:D->Option D}(hc:Dd X (.type T) r)(s:SndC G r g)(hg:Gl X x)(hm:X.mg x=none)(hv:cr x=some (.type T))(ha:PU X G a fa)(hn:x≠"__name__":=by decide)(hdb:.(12)=false:=by decide)(he:ar [a] X.env=[.(16)]:=by rfl):PF X G (.Call (.Name x p) [a] [] pos) (uF g fa):=
 λA=>Bx (Ii hc hg hm hv (B_ (@ha A) Dw he) hn hdb he rfl) λ_ _ _ h=>gP s h
theorem RC:SndC G (λxs H Q=>∃x n,xs=[x]/\LenV G.K x H n/\Q (.int n) H) lenD:=by
 intro A H x dx d Q lv rx h k;unfold lenD at h;split at h
 .split at h
  .rename_i hz;cases h;rw[rx.str];exact⟨_,_,rfl,⟨hz,rfl⟩,k _ H (Same.refl H) (.int _)⟩
  .cases h
 .cases h;obtain⟨p,xs,rfl,h1,r⟩:=rx.lst;exact⟨_,_,rfl,.inl ⟨xs,h1,rfl⟩,by rw[r.1];exact k _ H (Same.refl H) (.int _)⟩
 .cases h;obtain⟨p,xs,rfl,h1,r⟩:=rx.tup;exact⟨_,_,rfl,.inr ⟨xs,h1,rfl⟩,by rw[r.1];exact k _ H (Same.refl H) (.int _)⟩
 .cases h
theorem BP(hG:G.K=X.K):Dd X (.builtin "len") (λxs H Q=>∃x n,xs=[x]/\LenV G.K x H n/\Q (.int n) H):=by rw[hG];exact eF
theorem Wy:gO G (λxs H Q=>∃i j,xs=[.int i,.int j]/\Q (.int (if j > i then j else i)) H) maxD:=by
 intro A H x y dx dy d Q lv rx ry h k;obtain⟨i,j,rfl,rfl,h⟩:=Rq h;cases h;exact⟨i,j,by rw[rx.int,ry.int],k _ H (Same.refl H) (.int _)⟩
theorem gQ:SndC G (λxs H Q=>∃p ys,xs=[.ref p]/\(SqL G.K H p ys∨SqT G.K H p ys)/\∀l,H l=none->Q (.ref l) (upd H l (.lst ys))) gB:=by
 intro A H x dx d Q lv rx h k;unfold gB at h;split at h
 .cases h;obtain⟨p,xs,rfl,h1,r⟩:=rx.lst;exact⟨p,xs,rfl,.inl h1,λl hl=>k _ _ (Ar hl _) (Cq lv hl r)⟩
 .cases h;obtain⟨p,xs,rfl,h1,r⟩:=rx.tup;exact⟨p,xs,rfl,.inr h1,λl hl=>k _ _ (Ar hl _) (Cq lv hl r)⟩
 .cases h
theorem L_:SndC G (λxs H Q=>(∃i,xs=[.int i]/\Q (.int i) H)∨∃k,xs=[.bl k]/\Q (.int (if k then 1 else 0)) H) intD:=by
 intro A H x dx d Q lv rx h k;unfold intD at h;split at h
 .cases h;exact .inl ⟨_,by rw[rx.int],k _ H (Same.refl H) (.int _)⟩
 .cases h;exact .inr ⟨_,by rw[rx.bl],k _ H (Same.refl H) (.int _)⟩
 .cases h
theorem Vr(ha:PU X G a fa):PF X G (.UnaryOp .USub a pos) (uF negD fa):=λA=>Bx (xq ur (@ha A)) λσ H Q ⟨ρ,d,o,e,k⟩=>by
 obtain⟨x,e1,e2⟩:=Hu e;refine⟨ρ,x,o,e1,λv H1 s1 r1=>?_⟩;unfold negD at e2;split at e2
 .cases e2;exact⟨_,r1.int,k _ H1 s1 (.int _)⟩
 .cases e2
end
def sI(G:Gx)(F2 H H':Hp)(x:V)(d:D):Prop:=Same H H'/\∀B:List Addr,(∀a∈B,Nt (H a))->Same F2 (hid B H)->Rep G (hid B H') x d
theorem Px{G:Gx}{x:V}{d:D}(h:H'=H/\Rep G F2 x d):sI G F2 H H' x d:=by
 obtain⟨rfl,r⟩:=h;exact⟨Same.refl _,λB _ sm=>r.mono sm⟩
structure Src (G:Gx) (J:It) (ds:List D) (F1 F2:Hp):Prop where
 go:∀i H,Same F1 H->i<ds.length->J.go i H
 yld:∀i H x H' d,Same F1 H->ds[i]?=some d->J.yld i H x H'->sI G F2 H H' x d
 stop:∀i H,Same F1 H->ds.length<=i->J.stop i H
def tI(G:Gx)(A:List Addr)(top:Bool)(f:FI):TI:=λσ H R=>∃ρ ds,Okp G A σ H ρ/\f ρ=some ds/\∀J H1,Same H H1->Src G J ds (if top then H1 else hid A H1) (hid A H1)->R J H1
def PFI(X:Cx)(G:Gx)(top:Bool)(tg e:Expr)(f:FI):Prop:=∀⦃A⦄,PI X tg e (tI G A top f)
theorem Rt{t t':TI}(h:PI X tg e t)(w:∀σ H Q,t' σ H Q->t σ H Q):PI X tg e t':=λπ s σ H Q I q=>h π s σ H Q I (w σ H Q q)
theorem piOr{t t':TI}(h:PI X tg e t)(h':PI X tg e t'):PI X tg e (λσ H R=>t σ H R∨t' σ H R):=λπ s σ H Q I q=>by
 rcases q with q | q
 .exact h π s σ H Q I q
 .exact h' π s σ H Q I q
section
variable {G:Gx}{a b c:Expr}{fa fb fc:FE}{p2:Pos}
theorem pF{ds:List D}(h:SqT G.K F1 p xs)(r:RepL G F2 xs ds):Src G (Itt G.K p) ds F1 F2 where
 go:=λi H s hi=>⟨xs,xs[i]'(by rw[r.1];exact hi),HS s h,by simp[r.1,hi]⟩
 yld:=λi H x H' d s hd y=>Px ⟨y.1,r.2 i x d (y.2 xs (HS s h)) hd⟩
 stop:=λi H s hi=>⟨xs,HS s h,by rw[r.1];exact hi⟩
theorem pG(hG:G.K=X.K)(h:PF X G a fa):PFI X G false tg a (seqI fa):=λA=>Rt (piOr (n8 (@h A)) (uh (@h A))) λσ H R ⟨ρ,ds,o,e,k⟩=>by
 unfold seqI at e;split at e
 .rename_i ds' e1;cases e;refine .inl ⟨ρ,_,o,e1,λv H1 s1 r1=>?_⟩;cases r1 with
  |lst h l r=>exact⟨_,rfl,⟨_,by rw[<-hG];exact Am.seq h⟩,by rw[<-hG];exact k _ H1 s1 { go:=λi H s hi=>⟨_,_,s.seq h,by simp[l,hi];rfl⟩,yld:=λi H x H' d s hd y=>Px ⟨y.1,r i x d (y.2 _ (s.seq h)) hd⟩,stop:=λi H s hi=>⟨_,s.seq h,by rw[l];exact hi⟩ }⟩
 .rename_i ds' e1;cases e;refine .inr ⟨ρ,_,o,e1,λv H1 s1 r1=>?_⟩;cases r1 with
  |tup h l r=>exact⟨_,rfl,⟨_,by rw[<-hG];exact HS Am h⟩,by rw[<-hG];exact k _ H1 s1 (pF h ⟨l,r⟩)⟩
 .cases e
theorem gR{d:D}(h:(rngD n)[i]?=some d):d=.int i:=by
 unfold rngD at h;rw[be] at h;cases e:(av n)[i]? with
 |none=>rw[e] at h;cases h
 |some j=>
  rw[e] at h;have:=(d6.mp e);obtain⟨hi,ej⟩:=this;rw[AZ] at ej;subst ej;exact (cq h).symm
theorem pH:Src G (Itr 0 n) (rngD n) F1 F2 where
 go:=λi H s hi=>by unfold rngD at hi;show i<n;simpa using hi
 yld:=λi H x H' d s hd y=>by
  obtain⟨y1,y2⟩:=y;rw[gR hd,y2,Int.zero_add];exact Px ⟨y1,.int _⟩
 stop:=λi H s hi=>by unfold rngD at hi;show n<=i;simpa using hi
theorem Fg{top:Bool}{p:Pos}(hg:Gl X "range")(hm:X.mg "range"=none)(h:PU X G a fa)(hs:ar [a] X.env=[.(16)]:=by rfl):PFI X G top tg (.Call (.Name "range" p) [a] [] pos) (rngI fa):=λA=>Rt (bf hg hm (B_ (@h A) Dw hs) hs) λσ H R ⟨ρ,ds,o,e,k⟩=>by
 unfold rngI at e;split at e
 .rename_i j e1;split at e
  .rename_i hj;cases e;exact⟨ρ,_,o,e1,λv H1 s1 r1=>⟨j,by rw[r1.int],hj.1,hj.2,k _ H1 s1 pH⟩⟩
  .cases e
 .cases e
end
structure OkW (G:Gx) (A0:List Addr) (He:Hp) (A:List Addr) (σ:St) (H:Hp) (ρ:Rho):Prop where
 same:Same He H
 sub:∀a∈A0,a∈A
 fr:∀a∈A,a∈A0∨He a=none
 l0:∀a∈A0,He a≠none
 ok:Okp G A σ H ρ
 ow0:∀(i:Nat) (d:D) (a:Addr),ρ[i]?=some (.ow d)->σ[i]?=some (some (.ref a))->a∉A0
 lt:∀(x:Addr) (d:D),G.lent=some x->ρ[0]?=some (.ow d)->σ[0]?=some (some (.ref x))
def OkS(G:Gx)(A0:List Addr)(He:Hp)(σ:St)(H:Hp)(ρ:Rho):Prop:=∃A,OkW G A0 He A σ H ρ
def Ru(G:Gx)(A0:List Addr)(He:Hp)(D:Ends):Out->Prop
 |.nx ρ=>∀σ H,OkS G A0 He σ H ρ->D.nx σ H
 |.rt d ρ=>∀v σ H A,OkW G A0 He A σ H ρ->Rep G (hid A H) v d->D.rt v H
 |.bk ρ=>∀σ H,OkS G A0 He σ H ρ->D.bk σ H
 |.ct ρ=>∀σ H,OkS G A0 He σ H ρ->D.ct σ H
def tS(G:Gx)(A0:List Addr)(He:Hp)(g:FS):TS:=λD σ H=>∃ρ o,OkS G A0 He σ H ρ/\g ρ=some o/\Ru G A0 He D o
def PSD(X:Cx)(G:Gx)(st:Stmt)(g:FS):Prop:=∀⦃A0⦄ He,PS X st (tS G A0 He g)
def PSDs(X:Cx)(G:Gx)(st:List Stmt)(g:FS):Prop:=∀⦃A0⦄ He,PSs X st (tS G A0 He g)
theorem Okp.set{G:Gx}{A:List Addr}{σ:St}{H:Hp}{ρ:Rho}{v:V}{d:D}(o:Okp G A σ H ρ)(r:Rep G (hid A H) v d)(i:Nat):Okp G A (σ.set i (some v)) H (ρ.set i (.fz d)):=by
 have key:∀(j:Nat) (z:Slot),(ρ.set i (.fz d))[j]?=some z->(j=i/\z=.fz d/\i<ρ.length)∨(j≠i/\ρ[j]?=some z):=λj z h=>by
  by_cases hj:j=i
  .subst hj
   by_cases hl:j<ρ.length
   .rw[kN hl] at h;exact .inl ⟨rfl,(cq h).symm,hl⟩
   .rw[nK (by simpa using kA.mp hl)] at h;cases h
  .rw[gE (cp hj)] at h;exact .inr ⟨hj,h⟩
 have keyS:∀(j:Nat),j≠i->(σ.set i (some v))[j]?=σ[j]?:=λj hj=>gE (cp hj);refine⟨by rw[pr,pr];exact o.len,o.live,λj e h=>?_,λj e h=>?_,λj k e f p h1 h2 h3 h4=>?_⟩
 .rcases key j _ h with ⟨hj,hz,hl⟩ | ⟨hj,hz⟩
  .cases hz;subst hj;exact⟨v,by rw[kN (by rw[o.len];exact hl)],r⟩
  .obtain⟨u,q1,q2⟩:=o.fz j e hz;exact⟨u,by rw[keyS j hj];exact q1,q2⟩
 .rcases key j _ h with ⟨hj,hz,hl⟩ | ⟨hj,hz⟩
  .cases hz
  .obtain⟨u,q1,q2⟩:=o.ow j e hz;exact⟨u,by rw[keyS j hj];exact q1,q2⟩
 .rcases key j _ h1 with ⟨_,hz,_⟩ | ⟨hj,hz⟩
  .cases hz
  .rcases key k _ h2 with ⟨_,hz',_⟩ | ⟨hk,hz'⟩
   .cases hz'
   .rw[keyS j hj] at h3;rw[keyS k hk] at h4;exact o.inj j k e f p hz hz' h3 h4
theorem OkW.mono{G:Gx}{A0:List Addr}{He:Hp}{A:List Addr}{σ:St}{H H':Hp}{ρ:Rho}(o:OkW G A0 He A σ H ρ)(s:Same H H'):OkW G A0 He A σ H' ρ:=⟨o.same.trans s,o.sub,o.fr,o.l0,o.ok.mono s,o.ow0,o.lt⟩
theorem OkW.set{G:Gx}{A0:List Addr}{He:Hp}{A:List Addr}{σ:St}{H:Hp}{ρ:Rho}{v:V}{d:D}(o:OkW G A0 He A σ H ρ)(r:Rep G (hid A H) v d)(i:Nat):OkW G A0 He A (σ.set i (some v)) H (ρ.set i (.fz d)):=⟨o.same,o.sub,o.fr,o.l0,o.ok.set r i,λj e a h1 h2=>by
  have hj:j≠i:=by
   intro z;subst z
   by_cases hl:j<ρ.length
   .rw[kN hl] at h1;cases h1
   .rw[nK (by simpa using kA.mp hl)] at h1;cases h1
  rw[gE (cp hj)] at h1 h2;exact o.ow0 j e a h1 h2,λx e hx h0=>by
  by_cases hi:i=0
  .subst hi;cases ρ with
   |nil=>cases h0
   |cons a r=>cases h0
  .rw[gE hi] at h0 ⊢;exact o.lt x e hx h0⟩
theorem OkW.base{G:Gx}{ρ:Rho}(o:OkW G A0 Hf A σ H ρ)(s:Same He Hf)(l0:∀a∈A0,He a≠none):OkW G A0 He A σ H ρ:=
 ⟨s.trans o.same,o.sub,λa ha=>(o.fr a ha).imp id λz=>s.free z,l0,o.ok,o.ow0,o.lt⟩
theorem OkW.here{G:Gx}{ρ:Rho}(o:OkW G A0 He A σ H ρ):Same He (hid (A.filter λa=>decide (a∉A0)) H)/\OkW G A0 (hid (A.filter λa=>decide (a∉A0)) H) A σ H ρ:=by
 have hb:∀b,b∈(A.filter λa=>decide (a∉A0))↔b∈A/\b∉A0:=λb=>by simp[eC]
 have s1:Same He (hid (A.filter λa=>decide (a∉A0)) H):=λb u h=>by
  rw[BL]
  .exact o.same b u h
  .intro z;obtain⟨z1,z2⟩:=(hb b).mp z
   rcases o.fr b z1 with q | q
   .exact z2 q
   .rw[q] at h;cases h
 refine⟨s1,Am,o.sub,λa ha=>?_,λa ha h=>?_,o.ok,o.ow0,o.lt⟩
 .by_cases hz:a∈A0
  .exact .inl hz
  .right;unfold hid;rw[if_pos ((hb a).mpr ⟨ha,hz⟩)]
 .rw[BL (λz=>((hb a).mp z).2 ha)] at h;exact (o.ok.live a (o.sub a ha)).ne h
theorem OkW.plain{G:Gx}{ρ:Rho}(sub:∀a∈A0,a∈B)(o:OkW G A0 (hid (B.filter λa=>decide (a∉A0)) H1) A σ H ρ):Same (hid B H1) (hid A H):=λb u h=>by
 unfold hid at h;split at h
 .cases h
 .rename_i hb;have e:hid (B.filter λa=>decide (a∉A0)) H1 b=some u:=by
   rw[BL (λz=>hb (eC.mp z).1)];exact h
  rw[BL]
  .exact o.same b u e
  .intro z
   rcases o.fr b z with q | q
   .exact hb (sub b q)
   .rw[q] at e;cases e
section
variable {G:Gx}{a b c:Expr}{fa fb fc:FE}{ga:FT}{p2:Pos}{rest:List Stmt}{g gs gb:FS}
theorem Al:PSDs X G [] nxF:=λA0 He π s σ H D I ⟨ρ,o,ok,e,k⟩=>by
 cases e;exact Q6 π s σ H D I (k σ H ok)
theorem Ab(h1:PSD X G st g)(h2:PSDs X G rest gs):PSDs X G (st::rest) (seqF g gs):=λA0 He π s σ H D I ⟨ρ,o,ok,e,k⟩=>by
 refine Nk (@h1 A0 He) (@h2 A0 He) π s σ H D I ?_;unfold seqF at e;split at e
 .rename_i ρ' e1;exact⟨ρ,_,ok,e1,λσ' H' ok'=>⟨ρ',o,ok',e,k⟩⟩
 .rename_i hno;refine⟨ρ,o,ok,e,?_⟩;cases o with
  |nx ρ'=>exact absurd e (hno ρ')
  |rt d ρ'=>exact k
  |bk ρ'=>exact k
  |ct ρ'=>exact k
theorem Ae(h1:PSD X G st g):PSDs X G [st] g:=λA0 He=>Vf (@h1 A0 He)
theorem Ax{s2:List Stmt}(ht:PFT X G c ga)(h1:PSDs X G s1 g)(h2:PSDs X G s2 gs):PSD X G (.If c s1 s2 pos) (ifS ga g gs):=λA0 He π s σ H D I ⟨ρ,o,⟨A,w⟩,e,k⟩=>by
 refine dw (@ht A) (@h1 A0 He) (@h2 A0 He) π s σ H D I ?_;unfold ifS at e;split at e
 .rename_i e1;exact⟨ρ,_,w.ok,e1,λH1 s1=>iteT ⟨ρ,o,⟨A,w.mono s1⟩,e,k⟩⟩
 .rename_i e1;exact⟨ρ,_,w.ok,e1,λH1 s1=>iteF ⟨ρ,o,⟨A,w.mono s1⟩,e,k⟩⟩
 .cases e
theorem gU{ρ:Rho}{o:Out}{D:Ends}(w:OkW G A0 He A σ H ρ)(e:setF i fa ρ=some o)(k:Ru G A0 He D o):tAsg (tF G A fa) (FN i) D σ H:=by
 unfold setF at e;cases e1:fa ρ with
 |none=>simp[e1] at e
 |some d=>
  simp only[e1,eK] at e;cases e;exact⟨ρ,d,w.ok,e1,λv H1 s1 r1=>k _ _ ⟨A,(w.mono s1).set r1 i⟩⟩
theorem pI{p:Pos}(h:∀te,PE X a te->PS X (.Assign [.Name x p] a pos) (tAsg te (FN i)))(ha:PF X G a fa):PSD X G (.Assign [.Name x p] a pos) (setF i fa):=λA0 He π s σ H D I ⟨ρ,o,⟨A,w⟩,e,k⟩=>
 h _ (@ha A) π s σ H D I (gU w e k)
theorem Ag(ha:PF X G a fa):PSD X G (.Return (some a) pos) (retF fa):=λA0 He π s σ H D I ⟨ρ,o,⟨A,w⟩,e,k⟩=>by
 refine ue (@ha A) π s σ H D I ?_;unfold retF at e;cases e1:fa ρ with
 |none=>simp[e1] at e
 |some d=>
  simp only[e1,eK] at e;cases e;exact⟨ρ,d,w.ok,e1,λv H1 s1 r1=>k v σ H1 A (w.mono s1) r1⟩
theorem gW:PSD X G (.Return none pos) retN:=λA0 He π s σ H D I ⟨ρ,o,⟨A,w⟩,e,k⟩=>by
 cases e;exact nu π s σ H D I (k _ σ H A w .non)
theorem GJ(ha:PF X G a fa)(hs:eI a none pos.line X.env=pure false:=by rfl):PSD X G (.Expr a pos) (HR fa):=λA0 He π s σ H D I ⟨ρ,o,⟨A,w⟩,e,k⟩=>by
 refine Np (@ha A) hs π s σ H D I ?_;unfold HR at e;cases e1:fa ρ with
 |none=>simp[e1] at e
 |some d=>
  simp only[e1,eK] at e;cases e;exact⟨ρ,d,w.ok,e1,λv H1 s1 r1=>k _ _ ⟨A,w.mono s1⟩⟩
theorem BR:PSD X G st badF:=λA0 He π s σ H D I ⟨ρ,o,ok,e,k⟩=>by cases e
def tGD(G:Gx)(A0:List Addr)(He:Hp)(g:FG):TG:=λv σ H Q=>∃A ρ d ρ',OkW G A0 He A σ H ρ/\Rep G (hid A H) v d/\g d ρ=some ρ'/\∀σ' H',OkS G A0 He σ' H' ρ'->Q σ' H'
def PGD(X:Cx)(G:Gx)(tg:Expr)(g:FG):Prop:=∀⦃A0⦄ He,PG X tg (tGD G A0 He g)
theorem BW(h:PG X tg (FN i)):PGD X G tg (BK i):=λA0 He π s σ H v u Q I r ⟨A,ρ,d,ρ',w,rv,e,k⟩=>by
 cases e;exact h π s σ H v u Q I r (k _ _ ⟨A,w.set rv i⟩)
theorem Ru.base{A0:List Addr}{He Hf:Hp}{D:Ends}{o:Out}(k:Ru G A0 He D o)(s:Same He Hf)(l0:∀a∈A0,He a≠none):Ru G A0 Hf D o:=by
 cases o with
 |nx ρ=>exact λσ H ⟨A,w⟩=>k σ H ⟨A,w.base s l0⟩
 |rt d ρ=>exact λv σ H A w r=>k v σ H A (w.base s l0) r
 |bk ρ=>exact λσ H ⟨A,w⟩=>k σ H ⟨A,w.base s l0⟩
 |ct ρ=>exact λσ H ⟨A,w⟩=>k σ H ⟨A,w.base s l0⟩
theorem Bm{it:Expr}{src:FI}{fg:FG}(hp:qA .(2) X.A X.env X.xe)(hc:X.calm=true)(hi:PFI X G false tg it src)(hg:PGD X G tg fg)(hb:PSDs X G body gb)(hs:∀x,ip it X.env x=pure x:=by intro _;rfl):PSD X G (.For tg it body [] pos) (forS src fg gb):=λA0 He π s σ H D I ⟨ρ,o,⟨A,w⟩,e,k⟩=>by
 cases e1:src ρ with
 |none=>simp[forS,e1] at e
 |some ds=>
  have e':forF (λd ρ=>(fg d ρ).bind gb) ds ρ=some o:=by
   have e2:forF (tgB fg gb) ds ρ=some o:=by simpa [forS,e1] using e
   exact e2
  have hb':PSs X body (λD σ H=>∃A0 He,tS G A0 He gb D σ H):=λπ s σ H D I ⟨A0,He,q⟩=>@hb A0 He π s σ H D I q;have hg':PG X tg (λv σ H Q=>∃A0 He,tGD G A0 He fg v σ H Q):=λπ s σ H v u Q I r ⟨A0,He,q⟩=>@hg A0 He π s σ H v u Q I r q;refine Yb hp hc (@hi A) hg' hb' hs π s σ H D I ⟨ρ,ds,w.ok,e1,λJ H1 s1 sr=>?_⟩;obtain⟨sHe,w2⟩:=(w.mono s1).here;have k2:=k.base sHe w.l0;generalize hHf:hid (A.filter λa=>decide (a∉A0)) H1=Hf at sHe w2 k2;refine⟨λi m σ' H'=>m=ds.length-i/\i<=ds.length/\∃ρ',OkS G A0 Hf σ' H' ρ'/\forF (λd ρ=>(fg d ρ).bind gb) (ds.drop i) ρ'=some o,⟨ds.length,by simp,dQ _,ρ,⟨A,w2⟩,by simpa using e'⟩,?_⟩;rintro i m σ3 H3 ⟨rfl,hil,ρ3,⟨B,w3⟩,e3⟩;have pl:Same (hid A H1) (hid B H3):=by rw[<-hHf] at w3;exact OkW.plain w.sub w3
  by_cases hlt:i<ds.length
  .right;have hd:ds[i]?=some ds[i]:=by simp[hlt]
   have ed:ds.drop i=ds[i]::ds.drop (i+1):=rS hlt;rw[ed] at e3;unfold forF at e3;refine⟨sr.go i H3 (pl.trans Am) hlt,λσ' H'=>∃ρ',OkS G A0 Hf σ' H' ρ'/\forF (λd ρ=>(fg d ρ).bind gb) (ds.drop (i+1)) ρ'=some o,λσ' H' q=>⟨ds.length-(i+1),by omega,rfl,hlt,q⟩,λx H' y=>?_⟩;obtain⟨sy,rx⟩:=sr.yld i H3 x H' _ (pl.trans Am) hd y;refine⟨A0,Hf,B,ρ3,ds[i],?_⟩;cases e4:fg ds[i] ρ3 with
   |none=>simp[e4] at e3
   |some ρ4=>
    refine⟨ρ4,w3.mono sy,rx B w3.ok.live pl,rfl,λσ5 H5 ok5=>⟨A0,Hf,ρ4,?_⟩⟩;cases e5:gb ρ4 with
    |none=>simp[e4,e5] at e3
    |some o5=>
     refine⟨o5,ok5,rfl,?_⟩;cases o5 with
     |nx ρ5=>
      simp only[e4,e5,dS] at e3;exact λσ' H' ok'=>⟨ρ5,ok',e3⟩
     |ct ρ5=>
      simp only[e4,e5,dS] at e3;exact λσ' H' ok'=>⟨ρ5,ok',e3⟩
     |bk ρ5=>
      simp only[e4,e5,dS] at e3;cases e3;exact λσ' H' ok'=>k2 σ' H' ok'
     |rt d5 ρ5=>
      simp only[e4,e5,dS] at e3;cases e3;exact k2
  .left;have ei:i=ds.length:=by omega
   subst ei;rw[zi] at e3;cases e3;exact⟨sr.stop _ H3 (pl.trans Am) (aE _),k2 σ3 H3 ⟨B,w3⟩⟩
theorem cI(n:Nat)(hp:qA .(2) X.A X.env X.xe)(ht:PFT X G c ga)(hb:PSDs X G body gb):PSD X G (.While c body [] pos) (Gy ga gb n):=λA0 He π s σ H D I ⟨ρ,o,ok,e,k⟩=>by
 have ht':PT X c (λσ H Q=>∃A,tFT G A ga σ H Q):=λπ s σ H Q I ⟨A,q⟩=>@ht A π s σ H Q I q;refine d8 hp ht' (@hb A0 He) π s σ H D I ⟨λm σ' H'=>∃ρ',OkS G A0 He σ' H' ρ'/\Gy ga gb m ρ'=some o,⟨n,ρ,ok,e⟩,?_⟩;rintro m σ1 H1 ⟨ρ1,⟨A,w1⟩,e1⟩;cases m with
 |zero=>cases e1
 |succ m=>
  unfold Gy at e1;cases e2:ga ρ1 with
  |none=>simp[e2] at e1
  |some t=>
   refine⟨A,ρ1,t,w1.ok,e2,λH2 s2=>?_⟩;cases t with
   |false=>
    refine iteF ?_;simp only[e2] at e1;cases e1;exact k σ1 H2 ⟨A,w1.mono s2⟩
   |true=>
    refine iteT ⟨λσ' H'=>∃ρ',OkS G A0 He σ' H' ρ'/\Gy ga gb m ρ'=some o,λσ' H' q=>⟨m,qE m,q⟩,ρ1,?_⟩;simp only[e2] at e1;cases e3:gb ρ1 with
    |none=>simp[e3] at e1
    |some o3=>
     refine⟨o3,⟨A,w1.mono s2⟩,rfl,?_⟩;cases o3 with
     |nx ρ5=>simp only[e3] at e1;exact λσ' H' ok'=>⟨ρ5,ok',e1⟩
     |ct ρ5=>simp only[e3] at e1;exact λσ' H' ok'=>⟨ρ5,ok',e1⟩
     |bk ρ5=>simp only[e3] at e1;cases e1;exact λσ' H' ok'=>k σ' H' ok'
     |rt d5 ρ5=>simp only[e3] at e1;cases e1;exact k
end
def spD(G:Gx)(g:List D->Option D):Sp:=λvs H Q _=>∃A ds d,(∀a∈A,Nt (H a))/\RepL G (hid A H) vs ds/\g ds=some d/\∀v H',Same H H'->Rep G (hid A H') v d->Q v H'
section
variable {G:Gx}{a:Expr}{es:List Expr}{fs:FA}{p:Pos}
theorem yO{k:Nat}{g:List D->Option D}(F:FnOk X.prog X.w X.K X.mg X.base CX0 k f fd ps (spD G g))(hr:Room k X.A)(hg:Gl X x)(hm:X.mg x=some (.ref f))(hk:hU X.K (.ref f)=true)(hb:Binds X.K fd ps [])(ha:PFA X G (a::es) fs)(hdb:.(12)=false:=by decide)(he:ar (a::es) X.env=.(16)::ar es X.env:=by rfl)(hpl:(bP pos (ar es X.env)).any (·.1)=false:=by rfl):
  PF X G (.Call (.Name x p) (a::es) [] pos) (Ai g fs):=λA=>Bx (Zd F hr hg hm hk hb .nil Ws (@ha A) hdb he hpl) λσ H Q ⟨ρ,d,o,e,k⟩=>by
 unfold Ai at e;cases e1:fs ρ with
 |none=>simp[e1] at e
 |some ds=>
  have e':g ds=some d:=by simpa [e1] using e
  refine⟨ρ,ds,o,e1,λvs H1 s1 r1=>⟨A,ds,d,(o.mono s1).live,by rw[eL];exact r1,e',λv H2 s2 r2=>k v H2 (s1.trans s2) r2⟩⟩
end
theorem N5{G:Gx}{ds:List D}(live:∀a∈A,Nt (H a))(r:RepL G (hid A H) vs ds)(hn:vs.length<=N.length):OkS G A H (start N vs) H (Ck N.length ds):=by
 have key:∀(i:Nat) (z:Slot),(Ck N.length ds)[i]?=some z->(∃d,z=.fz d/\ds[i]?=some d)∨z=.un:=λi z h=>by
  unfold Ck at h
  by_cases hi:i<ds.length
  .rw[jI (by simpa using hi),be] at h;cases e:ds[i]? with
   |none=>rw[e] at h;cases h
   |some d=>rw[e] at h;exact .inl ⟨d,(cq h).symm,rfl⟩
  .rw[jv (by simpa using kA.mp hi),yb] at h;split at h
   .exact .inr (cq h).symm
   .cases h
 refine⟨A,Same.refl H,λ_ h=>h,λa h=>.inl h,λa ha=>(live a ha).ne,⟨?_,live,λi d h=>?_,λi d h=>?_,λi j d e a h _ _ _=>?_⟩,λi d a h _=>?_,λx d _ h=>?_⟩
 .unfold L2.start Ck;rw[cb,cb,aw,aw,uk,uk,r.1]
 .rcases key i _ h with ⟨d',e,hd⟩ | e
  .cases e;obtain⟨v,h1,h2⟩:=r.get hd;refine⟨v,?_,h2⟩;unfold L2.start;rw[jI (by rw[aw];exact (d6.mp h1).1),be,h1];rfl
  .cases e
 .rcases key i _ h with ⟨d',e,hd⟩ | e
  .cases e
  .cases e
 .rcases key i _ h with ⟨d',e,hd⟩ | e
  .cases e
  .cases e
 .rcases key i _ h with ⟨d',e,hd⟩ | e
  .cases e
  .cases e
 .rcases key 0 _ h with ⟨d',e,hd⟩ | e
  .cases e
  .cases e
theorem fn_D{G:Gx}{base:Heap}{k:Nat}{b:FS}(F:Fun G.K x qual st f fd)(S:FnScope N ps (Ad st))(hl:ps.length<=N.length)(hb:∀(cdv:ac) (A:ax) (outer:List Env) (s:af) (H:Hp) (E:XK),Room k (A.deeper (fI qual (Ad st) s.heap.objs.size f cdv))->PSDs (cxOf CX0 P w G.K mg base N qual (Ad st) f cdv A outer s H E).nox G (Bj st) b):
  FnOk P w G.K mg base CX0 (k+1) f fd ps (spD G (runF N.length ps.length b)):=by
 refine F.ok S (λvs H Q E h=>?_) (λcdv A outer s H vs Q E hr h=>?_)
 .obtain⟨A,ds,d,lv,r,e,_⟩:=h;unfold runF at e;split at e
  .rename_i hz;rw[r.1];exact hz
  .cases e
 .obtain⟨A0,ds,d,lv,r,e,k⟩:=h;unfold runF at e;split at e
  .rename_i hz;have hzz:=hb cdv A outer s H E hr;refine⟨_,@hzz A0 H,Ck N.length ds,?_⟩;cases e1:b (Ck N.length ds) with
   |none=>simp[e1] at e
   |some o=>
    refine⟨o,N5 lv r (by rw[r.1,hz];exact hl),rfl,?_⟩;cases o with
    |nx ρ=>
     simp only[e1] at e;cases e;exact λσ H' ⟨A,w⟩=>k _ H' w.same .non
    |rt d' ρ'=>
     simp only[e1] at e;cases e;exact λv σ H' A w r'=>k v H' w.same (r'.mono (Dz w.sub))
    |bk ρ=>simp[e1] at e
    |ct ρ=>simp[e1] at e
  .cases e
section
variable {G:Gx}{a b c:Expr}{fa fb fc:FE}{p2 px:Pos}{t:Str}{elt iter:Expr}{ifs:List Expr}{ga:FT}{fe:FE}{src:FI}
def PFTs(X:Cx)(G:Gx)(ifs:List Expr)(f:FT):Prop:=∀⦃A⦄,PTs X ifs (tFT G A f)
theorem Ei:PFTs X G [] allT:=λA π s σ H Q I ⟨ρ,b,o,e,k⟩=>by
 cases e;exact oY π s σ H Q I (k H (Same.refl H))
theorem HW(h:PFT X G a ga):PFTs X G [a] ga:=λA=>oZ (@h A)
theorem Okp.fill{Hc:Hp}{ρ:Rho}(o:Okp G A σ H ρ)(s:Same H Hc)(hp:H p=none)(hc:Nt (Hc p)):Okp G (p::A) σ Hc ρ:=by
 have sm:Same (hid A H) (hid (p::A) Hc):=λb u h=>by
  unfold hid at h;split at h
  .cases h
  .rename_i hb;rw[BL]
   .exact s b u h
   .intro z
    rcases bb.mp z with z | z
    .rw[z,hp] at h;cases h
    .exact hb z
 refine⟨o.len,λa ha=>?_,λi d h=>?_,λi d h=>?_,o.inj⟩
 .rcases bb.mp ha with z | z
  .rw[z];exact hc
  .exact (o.mono s).live a z
 .obtain⟨v,h1,h2⟩:=o.fz i d h;exact⟨v,h1,h2.mono sm⟩
 .obtain⟨a,h1,h2,h3⟩:=o.ow i d h;refine⟨a,h1,bE _ h2,?_⟩;cases d with
  |lst ds=>obtain⟨xs,q1,q2⟩:=h3;exact⟨xs,s _ _ q1,q2.mono sm⟩
  |dk ds=>obtain⟨xs,q1,q2,q3⟩:=h3;exact⟨xs,s _ _ q1,q2,q3.mono sm⟩
  |dt ds=>obtain⟨xs,q1,q2,q3⟩:=h3;exact⟨xs,s _ _ q1,q2,q3.mono sm⟩
  |ob c gs=>obtain⟨C,dx,xs,q1,q2,q3⟩:=h3;exact⟨C,dx,xs,s _ _ q1,q2,q3.mono sm⟩
  |_=>exact h3.elim
theorem Okp.snoc{ρ:Rho}{d:D}(o:Okp G A σ H ρ)(r:Rep G (hid A H) v d):Okp G A (σ++[some v]) H (ρ++[.fz d]):=by
 have key:∀(j:Nat) (z:Slot),(ρ++[.fz d])[j]?=some z->(j=ρ.length/\z=.fz d)∨(j<ρ.length/\ρ[j]?=some z):=λj z h=>by
  by_cases hj:j<ρ.length
  .rw[jI hj] at h;exact .inr ⟨hj,h⟩
  .rw[jv (kA.mp hj)] at h;cases q:j-ρ.length with
   |zero=>rw[q] at h;exact .inl ⟨by omega,(cq h).symm⟩
   |succ n=>rw[q] at h;cases h
 have keyS:∀(j:Nat),j<ρ.length->(σ++[some v])[j]?=σ[j]?:=λj hj=>jI (by rw[o.len];exact hj);refine⟨by rw[cb,cb,o.len];rfl,o.live,λj e h=>?_,λj e h=>?_,λj k e f p h1 h2 h3 h4=>?_⟩
 .rcases key j _ h with ⟨hj,hz⟩ | ⟨hj,hz⟩
  .cases hz;subst hj;exact⟨v,by rw[jv (by rw[o.len];exact aE _),o.len,vi];rfl,r⟩
  .obtain⟨u,q1,q2⟩:=o.fz j e hz;exact⟨u,by rw[keyS j hj];exact q1,q2⟩
 .rcases key j _ h with ⟨hj,hz⟩ | ⟨hj,hz⟩
  .cases hz
  .obtain⟨u,q1,q2⟩:=o.ow j e hz;exact⟨u,by rw[keyS j hj];exact q1,q2⟩
 .rcases key j _ h1 with ⟨_,hz⟩ | ⟨hj,hz⟩
  .cases hz
  .rcases key k _ h2 with ⟨_,hz'⟩ | ⟨hk,hz'⟩
   .cases hz'
   .rw[keyS j hj] at h3;rw[keyS k hk] at h4;exact o.inj j k e f p hz hz' h3 h4
theorem Okp.snocs{A:List Addr}{H:Hp}:∀{vs:List V}{es:List D}{σ:St}{ρ:Rho},Okp G A σ H ρ->RepL G (hid A H) vs es->Okp G A (σ++vs.map some) H (ρ++es.map .fz)
 |[],[],σ,ρ,o,_=>by simpa using o
 |[],_::_,_,_,_,r=>by have:=r.1;simp at this
 |_::_,[],_,_,_,r=>by have:=r.1;simp at this
 |v::vs,e::es,σ,ρ,o,r=>by
  obtain⟨x,ys,h,r1,r2⟩:=r.uncons;cases h;simpa using (o.snoc r1).snocs r2
def Ez(bd:D->Option (List D))(ρ:Rho)(ga:FT)(fe:FE):List D->Option (List D)
 |[]=>some []
 |d::r=>(bd d).bind λes=>match ga (ρ++es.map .fz) with
  |some true=>(fe (ρ++es.map .fz)).bind λy=>(Ez bd ρ ga fe r).map (y::·)
  |some false=>Ez bd ρ ga fe r
  |none=>none
def Ip(bd:D->Option (List D))(src:FI)(ga:FT)(fe:FE):FE:=λρ=>(src ρ).bind λds=>if ds.length<=sizeLine then (Ez bd ρ ga fe ds).map .lst else none
def bd1(d:D):Option (List D):=some [d]
theorem Wz(ρ:Rho)(ga:FT)(fe:FE):∀ds,Io ρ ga fe ds=Ez bd1 ρ ga fe ds
 |[]=>rfl
 |d::r=>by
  unfold Io Ez;rw[Wz ρ ga fe r];rfl
theorem N6(src:FI)(ga:FT)(fe:FE):BV src ga fe=Ip bd1 src ga fe:=by
 funext ρ;unfold BV Ip;congr 1;funext ds;rw[Wz]
def Bnd(G:Gx)(N n:Nat)(bd:D->Option (List D))(g:TG):Prop:=∀(A:List Addr) (σ os:St) (H:Hp) (x:V) (d:D) (es:List D) (Q:St->Hp->Prop),σ.length=N->os.length=n->bd d=some es->Rep G (hid A H) x d->(∀vs,vs.length=n->RepL G (hid A H) vs es->Q (σ++vs.map some) H)->g x (σ++os) H Q
theorem bnd1{N:Nat}:Bnd G N 1 bd1 (FN N):=λA σ os H x d es Q hl ho e r k=>by
 cases e;obtain⟨o,rfl⟩:=ED.mp ho;have z:(σ++[o]).set N (some x)=σ++[some x]:=by rw[<-hl,B0 _ _ (aE _),vi];rfl
 show Q ((σ++[o]).set N (some x)) H;rw[z];exact k [x] rfl (.cons r .nil)
def tN(G:Gx)(A:List Addr)(f:FE):TE:=λσ H Q=>∃ρ d,Okp G A σ H ρ/\f ρ=some d/\∀p H',Same H H'->H p=none->Top G (p::A) H' p d->Q (.ref p) H'
theorem W0{N:Nat}{bd:D->Option (List D)}{g:TG}(hX:X.N.length=N)(hB:Bnd G N n bd g){A:List Addr}{σ:St}{H:Hp}{Q:VK}(h:tN G A (Ip bd src ga fe) σ H Q):Yo n (rZ X (tI G A true src)) g (λσ H Q=>∃A,tFT G A ga σ H Q) (λσ H Q=>∃A,tF G A fe σ H Q) σ H Q:=by
 obtain⟨ρ,d,o,e,k⟩:=h;unfold Ip at e;cases e1:src ρ with
 |none=>simp[e1] at e
 |some ds=>
  rw[e1] at e;have e':(if ds.length<=sizeLine then (Ez bd ρ ga fe ds).map D.lst else none)=some d:=e;split at e'
  .rename_i hz;cases e2:Ez bd ρ ga fe ds with
   |none=>simp[e2] at e'
   |some out=>
    simp only[e2,eK] at e';cases e';refine⟨λJ H1=>Same H H1/\Src G J ds H1 (hid A H1),⟨ρ,ds,o,e1,λJ H1 s1 sr=>⟨s1,sr⟩⟩,λJ H1 hlen ⟨s1,sr⟩ p hp=>?_⟩;have o1:=o.mono s1;refine⟨λi m ys Hc=>m=ds.length-i/\i<=ds.length/\Hc p=some (.lst ys)/\Same H1 Hc/\ys.length<=i/\∃es rest,RepL G (hid (p::A) Hc) ys es/\Ez bd ρ ga fe (ds.drop i)=some rest/\es++rest=out,
     ⟨ds.length,by simp,dQ _,Ak,Ar hp _,aE _,[],out,RepL.nil,by simpa using e2,rfl⟩,?_⟩
    rintro i m ys Hc ⟨rfl,hil,hpc,sc,hy,es,rest,rr,er,eo⟩
    by_cases hlt:i<ds.length
    .right;have hd:ds[i]?=some ds[i]:=by simp[hlt]
     have ed:ds.drop i=ds[i]::ds.drop (i+1):=rS hlt;rw[ed] at er;unfold Ez at er;refine⟨sr.go i Hc sc hlt,λx H' y os ho=>?_⟩;obtain⟨sy,rx⟩:=sr.yld i Hc x H' _ sc hd y;have okc:Okp G (p::A) σ Hc ρ:=o1.fill sc hp (by rw[hpc];exact Nt.lst);have sm:Same (hid A H1) (hid (p::A) Hc):=λb u h=>by
      unfold hid at h;split at h
      .cases h
      .rename_i hb;rw[BL]
       .exact sc b u h
       .intro z
        rcases bb.mp z with z | z
        .rw[z,hp] at h;cases h
        .exact hb z
     cases ebd:bd ds[i] with
     |none=>simp[ebd] at er
     |some bs=>
     simp only[ebd,dS] at er;refine hB (p::A) σ os H' x ds[i] bs _ (hlen.trans hX) ho ebd (rx _ okc.live sm) λvs hvs rvs=>⟨⟨_,rfl,by rw[aw];exact hvs⟩,?_⟩;have ok2:=(okc.mono sy).snocs rvs;have hpc:=sy _ _ hpc;have rr:=rr.mono (Az sy);have sc:=sc.trans sy;cases eg:ga (ρ++bs.map .fz) with
     |none=>simp[eg] at er
     |some b=>
      refine⟨p::A,_,b,ok2,eg,λH2 s2=>?_⟩;cases b with
      |false=>
       refine iteF ⟨ds.length-(i+1),by omega,rfl,hlt,s2 _ _ hpc,sc.trans s2,vj hy,es,rest,rr.mono (Az s2),by simpa [eg] using er,eo⟩
      |true=>
       simp only[eg] at er;cases ee:fe (ρ++bs.map .fz) with
       |none=>simp[ee] at er
       |some yd=>
        cases ec:Ez bd ρ ga fe (ds.drop (i+1)) with
        |none=>simp[ee,ec] at er
        |some rest'=>
         simp only[ee,ec,dS,eK] at er;cases er;refine iteT ⟨p::A,_,yd,ok2.mono s2,ee,λyv H3 s3 r3=>?_⟩;have hp3:=s3 _ _ (s2 _ _ hpc);refine⟨hp3,by omega,ds.length-(i+1),by omega,rfl,hlt,Ak,λb u q=>?_,by rw[cb];simp;omega,es++[yd],rest',?_,ec,by rw[mE];exact eo⟩
         .have hb:b≠p:=DG q hp;rw[Aq hb];exact s3 _ _ (s2 _ _ (sc _ _ q))
         .rw[Bg cS];exact (rr.mono (Az (s2.trans s3))).append (.cons r3 .nil)
    .left;have ei:i=ds.length:=by omega
     subst ei;rw[zi] at er;simp only[Ez] at er;cases er;rw[eL] at eo;subst eo;exact⟨sr.stop _ Hc sc (aE _),k p Hc (s1.trans sc) (s1.free hp) ⟨ys,hpc,rr⟩⟩
  .cases e'
theorem sJ{bd:D->Option (List D)}{Q:VK}(h:tF G A (Ip bd src ga fe) σ H Q):tN G A (Ip bd src ga fe) σ H Q:=by
 obtain⟨ρ,d,o,e,k⟩:=h;have e':=e;unfold Ip at e';cases e1:src ρ with
 |none=>simp[e1] at e'
 |some ds=>
  rw[e1] at e';have e2:(if ds.length<=sizeLine then (Ez bd ρ ga fe ds).map D.lst else none)=some d:=e';split at e2
  .cases e3:Ez bd ρ ga fe ds with
   |none=>rw[e3] at e2;cases e2
   |some out=>
    rw[e3] at e2;cases e2;refine⟨ρ,_,o,e,λp H' sm hp ⟨xs,h1,h2⟩=>k _ H' sm ?_⟩;have q:=h2.mono (Dz (A:=A) λa ha=>bE _ ha);exact .lst (.of (by rw[BL (λz=>(o.live p z).ne hp)];exact h1)) q.1 q.2
  .cases e2
section
variable {bd:D->Option (List D)}{g:TG}{ts:List Str}
theorem Rv(N':List Str)(eN:Bu ts X.N++ts=N')(c:CompOkL X scope ts)(hc:X.calm=true)(hi:PFI X G true tg iter src)(hG:∀s2 H2 fp,PG (Bl X scope N' s2 H2 fp) tg g)(hB:Bnd G X.N.length ts.length bd g)(hI:∀s2 H2 fp,PFTs (Bl X scope N' s2 H2 fp) G ifs ga)(hE:∀s2 H2 fp,PF (Bl X scope N' s2 H2 fp) G elt fe)(hs:∀x,ip iter X.env x=pure x:=by intro _;rfl)(A:List Addr):PE X .(14) (tN G A (Ip bd src ga fe)):=by
 subst eN;refine Bx (fY (tc:=λσ H Q=>∃A,tFT G A ga σ H Q) (te:=λσ H Q=>∃A,tF G A fe σ H Q) c hc (Zh (@hi A)) hG (λs2 H2 fp=>?_) (λs2 H2 fp=>?_) hs) λ_ _ _ h=>W0 rfl hB h
 .exact λπ s σ H Q I ⟨A,q⟩=>hI s2 H2 fp π s σ H Q I q
 .exact λπ s σ H Q I ⟨A,q⟩=>hE s2 H2 fp π s σ H Q I q
theorem W2(N':List Str)(eN:Bu ts X.N++ts=N')(c:CompOkL X scope ts)(hc:X.calm=true)(hN:X.N.Nodup)(hi':X.N[i]?=some y)(hx:Loc X.env.scope y)(hi:PFI X G true tg iter src)(hG:∀s2 H2 fp,PG (Bl X scope N' s2 H2 fp) tg g)(hB:Bnd G X.N.length ts.length bd g)(hI:∀s2 H2 fp,PFTs (Bl X scope N' s2 H2 fp) G ifs ga)(hE:∀s2 H2 fp,PF (Bl X scope N' s2 H2 fp) G elt fe)(hsw:eI .(14) (some (.Name y py)) spos.line X.env=pure true)(hf:X.fn y=true∨X.env.scope.names.lookup y=some .local)(hs:∀x,ip iter X.env x=pure x)(A:List Addr){π:zP}{s:af}{σ:St}{H:Hp}{D:Ends}(I:Inv X π σ H s)(h:tAsg (tN G A (Ip bd src ga fe)) (FN i) D σ H):
  ag .(2) X.A (exec (.Assign [.Name y py] .(14) spos) X.env) (SP X π D) X.xe s:=by
 subst eN;refine fZ (tc:=λσ H Q=>∃A,tFT G A ga σ H Q) (te:=λσ H Q=>∃A,tF G A fe σ H Q) c hc hN hi' hx (Zh (@hi A)) hG (λs2 H2 fp=>?_) (λs2 H2 fp=>?_) hsw hf hs π s σ H D I (W0 rfl hB h)
 .exact λπ s σ H Q I ⟨A,q⟩=>hI s2 H2 fp π s σ H Q I q
 .exact λπ s σ H Q I ⟨A,q⟩=>hE s2 H2 fp π s σ H Q I q
end
theorem Zm{N':List Str}(eN:De t X.N++[t]=N')(c:K6 X scope t)(s2:af)(H2:Hp)(fp:List Addr):PG (Bl X scope N' s2 H2 fp) (.Name t px) (FN X.N.length):=by
 subst eN;exact gOne c s2 H2 fp
theorem Et(N':List Str)(eN:De t X.N++[t]=N')(c:K6 X scope t)(hc:X.calm=true)(hi:PFI X G true (.Name t px) iter src)(hI:∀s2 H2 fp,PFTs { KC X scope t s2 H2 fp with N:=N' } G ifs ga)(hE:∀s2 H2 fp,PF { KC X scope t s2 H2 fp with N:=N' } G elt fe)(hs:∀x,ip iter X.env x=pure x:=by intro _;rfl):PF X G (.ListComp elt [⟨.Name t px,iter,ifs,0⟩] scope pos) (BV src ga fe):=λA=>by
 rw[N6];exact Bx (Rv N' eN c hc hi (Zm eN c) bnd1 hI hE hs A) λ_ _ _ h=>sJ h
theorem Rw(N':List Str)(eN:De t X.N++[t]=N')(c:K6 X scope t)(hc:X.calm=true)(hN:X.N.Nodup)(hi':X.N[i]?=some y)(hx:Loc X.env.scope y)(hi:PFI X G true (.Name t px) iter src)(hI:∀s2 H2 fp,PFTs { KC X scope t s2 H2 fp with N:=N' } G ifs ga)(hE:∀s2 H2 fp,PF { KC X scope t s2 H2 fp with N:=N' } G elt fe)(hsw:eI (.ListComp elt [⟨.Name t px,iter,ifs,0⟩] scope pos) (some (.Name y py)) spos.line X.env=pure true:=by rfl)(hf:X.fn y=true∨X.env.scope.names.lookup y=some .local :=by first | exact .inl rfl | exact .inr rfl | assumption)(hs:∀x,ip iter X.env x=pure x:=by intro _;rfl):
  PSD X G (.Assign [.Name y py] (.ListComp elt [⟨.Name t px,iter,ifs,0⟩] scope pos) spos) (setF i (BV src ga fe)):=λA0 He π s σ H D I ⟨ρ,o,⟨A,w⟩,e,k⟩=>by
 rw[N6] at e;exact W2 N' eN c hc hN hi' hx hi (Zm eN c) bnd1 hI hE hsw hf hs A I (sJ (gU w e k))
end
section
variable {A:ax}{R:nl->af->Prop}{I:Addr}{wr:List Addr}{P:Nat->ac->Prop}{Sx:Nat->Heap->Prop}
end
section
variable {A:ax}{l:Addr}{xs:Array (Int×Tok)}
end
section
variable {G:Gx}{a b:Expr}{fa fb:FE}{p kpos:Pos}
theorem W3{H:Hp}:∀{ds:List D}{xs:List V}{ns:List Str},RepL G H xs ds->Ju ds=some ns->xs=ns.map V.str
 |[],xs,ns,r,h=>by cases h;rw[r.nil_inv];rfl
 |d::ds,xs,ns,r,h=>by
  obtain⟨x,ys,rfl,r1,r2⟩:=r.uncons;cases d with
  |str i=>
   simp only[Ju] at h;cases e:Ju ds with
   |none=>simp[e] at h
   |some ms=>
    simp only[e,eK] at h;cases h;cases r1;rw[W3 r2 e];rfl
  |_=>simp[Ju] at h
theorem pJ(K:ay)(n T:String):qS K (.type n) (.type T)=qS [] (.type n) (.type T):=rfl
def TyX(K:ay)(H:Hp)(x:V)(n:String):Prop:=
 TyOf K H x (.type n)∨(n="list"/\∃a xs,x=.ref a/\SqL K H a xs)∨(n="tuple"/\∃a xs,x=.ref a/\SqT K H a xs)
theorem vL{d:D}{n:String}(r:RepT G A H v d)(h:tyD d=some n):TyX G.K H v n:=by
 cases d with
 |non=>cases h;rw[r.non];exact .inl .non
 |bl b=>cases h;rw[r.bl];exact .inl (.bl b)
 |int b=>cases h;rw[r.int];exact .inl (.int b)
 |str b=>cases h;rw[r.str];exact .inl (.str b)
 |lst ds=>cases h;obtain⟨a,xs,e,q,_⟩:=r.lst;exact .inr (.inl ⟨rfl,a,xs,e,q⟩)
 |tup ds=>cases h;obtain⟨a,xs,e,q,_⟩:=r.tup;exact .inr (.inr ⟨rfl,a,xs,e,q⟩)
 |_=>cases h
theorem gY(T:String):Dd X (.builtin "isinstance") (λxs H Q=>∃x n b,xs=[x,.ty T]/\TyX X.K H x n/\qS X.K (.type n) (.type T)=some b/\Q (.bl b) H):=by
 intro π s σ H xs us Q I r h;obtain⟨x,n,b,rfl,ty,e,k⟩:=h;obtain⟨u,c,rfl,ru,rc⟩:=vals2 r;cases rc
 rcases ty with ty | ⟨rfl,a,ys,rfl,q⟩ | ⟨rfl,a,ys,rfl,q⟩
 .exact bz I ru ty e λtk=>⟨.bl b,H,I.tok _,rfl,k⟩
 .cases ru;obtain⟨its,_,p,_⟩:=I.list q;obtain⟨o,ho,hc,_⟩:=p.isList;exact iF AC I.kIn ⟨o,ho,hc⟩ e (λz=>nomatch z) λtk=>⟨.bl b,H,I.tok _,rfl,k⟩
 .cases ru;obtain⟨its,_,p,_⟩:=I.tuple q;obtain⟨o,ho,hc,_⟩:=(show s.heap.IsTuple a its.toArray from p);exact iF DA I.kIn ⟨o,ho,hc⟩ e (λz=>nomatch z) λtk=>⟨.bl b,H,I.tok _,rfl,k⟩
def Ry(T:String):Bool:=(["NoneType","bool","int","str","list","tuple"]:List String).all λn=>qS [] (.type n) (.type T)==some (n==T||(n=="bool"&&T=="int"))
theorem cJ{T:String}(h:Ry T=true){d:D}{n:String}(e:tyD d=some n):qS [] (.type n) (.type T)=some (n==T||(n=="bool"&&T=="int")):=by
 unfold Ry at h;rw[gg] at h;have m:n∈(["NoneType","bool","int","str","list","tuple"]:List String):=by
  cases d<;>simp[tyD] at e<;>subst e<;>simp
 simpa using h n m
theorem Vs{t:Str}{T:String}(hT:Ry T=true)(hG:G.K=X.K)(hg:Gl X x)(hm:X.mg x=none)(hv:cr x=some (.builtin "isinstance"))(ht:Gl X t)(hmt:X.mg t=none)(hvt:cr t=some (.type T))(ha:PU X G a fa)(hn:x≠"__name__":=by decide)(hdb:.(12)=false:=by decide)(hnt:t≠"__name__":=by decide)(hdt:(t==("__debug__":Str))=false:=by decide)(he:ar [a,.Name t tp] X.env=.(16)::ar [.Name t tp] X.env:=by rfl)(he2:ar [.Name t tp] X.env=[(false,eval (.Name t tp) X.env)]:=by rfl):
  PF X G (.Call (.Name x p) [a,.Name t tp] [] pos) (uF (isiD T) fa):=λA=>Bx (Nq (gY T) hg hm hv (B_ (@ha A) (B_ (nZ (v:=.ty T) ht hmt hvt rfl hnt hdt) Dw he2) he) hn hdb he (by rw[he2];rfl)) λσ H Q ⟨ρ,d,o,e,k⟩=>by
 obtain⟨dx,e1,e2⟩:=Hu e;unfold isiD at e2;cases et:tyD dx with
 |none=>simp[et] at e2
 |some n=>
  simp only[et,eK] at e2;cases e2;exact⟨ρ,dx,o,e1,λv H1 s1 r1=>⟨v,n,_,rfl,by rw[<-hG];exact vL r1 et,by rw[pJ];exact cJ hT et,k _ H1 s1 (.bl _)⟩⟩
theorem Vt:Ry "str"=true:=by decide +kernel
theorem cL:Ry "tuple"=true:=by decide +kernel
end
theorem DX:cr "len"=some (.builtin "len"):=by decide +kernel
theorem gZ:cr "max"=some (.builtin "max"):=by decide +kernel
theorem G9:cr "isinstance"=some (.builtin "isinstance"):=by decide +kernel
theorem Jw:cr "sorted"=some (.builtin "sorted"):=by decide +kernel
theorem Py:cr "int"=some (.type "int"):=by decide +kernel
theorem Ys:cr "str"=some (.type "str"):=by decide +kernel
theorem MF:cr "list"=some (.type "list"):=by decide +kernel
theorem Zn:cr "dict"=some (.type "dict"):=by decide +kernel
theorem vM:cr "set"=some (.type "set"):=by decide +kernel
def N7(N:List Str)(sc scope:ki)(ts:List Str):Bool:=
 scope.names.all (λy=>y.2 != .cell)&&scope.kind==.function&&scope.names.all (λy=>y.2 != .local ||scope.names.lookup y.1==some .local)&&ts.all (λt=>scope.names.lookup t==some .local)
  && scope.names.all (λy=>y.2 != .local ||ts.contains y.1||!N.contains y.1)&&scope.names.all (λy=>y.2 != .free ||sc.names.lookup y.1==some .cell ||sc.names.lookup y.1==some .free)&&scope.names.all (λy=>y.1 != eA)&&decide ts.Nodup&&ts.all (λt=>t != eA)
theorem pK{ts:List Str}(nd:ts.Nodup){t:Str}(ht:t∈ts)(he:t≠eA):Uq (Bu ts N++ts) t:=by
 have no:∀i:Nat,(Bu ts N)[i]?≠some t:=λi e=>by
  unfold Bu at e;rw[be] at e;cases q:N[i]? with
  |none=>rw[q] at e;cases e
  |some y=>
   rw[q] at e;have e:(if y∈ts then eA else y)=t:=cq e;split at e
   .exact he e.symm
   .rename_i z;exact z (e▸ht)
 have big:∀i:Nat,(Bu ts N++ts)[i]?=some t->(Bu ts N).length<=i/\ts[i-(Bu ts N).length]?=some t:=λi e=>by
  rcases Nat.lt_or_ge i (Bu ts N).length with z | z
  .rw[jI z] at e;exact absurd e (no i)
  .rw[jv z] at e;exact⟨z,e⟩
 intro i j a b;obtain⟨a1,a2⟩:=big i a;obtain⟨b1,b2⟩:=big j b;have:=K3 nd a2 b2;omega
theorem R1{ts:List Str}(hN:X.N=N)(hs:X.env.scope=sc)(h:N7 N sc scope ts=true):CompOkL X scope ts:=by
 unfold N7 at h;simp only[gd,gg,decide_eq_true_eq,beq_iff_eq,bne_iff_ne,Bool.or_eq_true,ne_eq] at h;obtain⟨⟨⟨⟨⟨⟨⟨⟨h1,h2⟩,h3⟩,h4⟩,h5⟩,h6⟩,h7⟩,h8⟩,h9⟩:=h;refine⟨h1,h2,λy hy e=>?_,h4,λy hy e=>?_,λy hy e=>?_,h7,λt ht=>pK h8 ht (h9 t ht)⟩
 .rcases h3 y hy with z | z
  .exact absurd e z
  .exact z
 .rcases h5 y hy with (z | z) | z
  .exact absurd e z
  .exact .inl (by simpa using z)
  .right;rw[hN];simpa using z
 .have hk:∀x,X.env.kindOf x=sc.names.lookup x:=λx=>by rw[<-hs];rfl
  rw[hk]
  rcases h6 y hy with (z | z) | z
  .exact absurd e z
  .exact .inl z
  .exact .inr z
abbrev Zo (N:List Str) (sc scope:ki) (t:Str):Bool:=N7 N sc scope [t]
theorem cM{t:Str}(hN:X.N=N)(hs:X.env.scope=sc)(h:Zo N sc scope t=true):K6 X scope t:=R1 hN hs h
theorem N8{K:ay}{base:Heap}{G:Gx}{k:Nat}:FnOk P w K mg base CX0 k f fd ps (spD G λ_=>none):=by
 have no:∀vs H Q E,¬ spD G (λ_=>none) vs H Q E:=λvs H Q E ⟨_,_,_,_,_,e,_⟩=>nomatch e;exact⟨λvs H Q E h=>absurd h (no vs H Q E),λA outer s H args us vs Q E _ _ _ _ h=>absurd h (no vs H Q E)⟩
theorem cP{G:Gx}{sl:Array (Option ac)}{its:Array ac}{xs:List Str}(h:G.K.lookup a=some ⟨.type "tuple",od,.seq its n,sl⟩)(hz:its.size<=sizeLine)(r:Vals (xs.map V.str) its.toList):Rep G (λ_=>none) (.ref a) (.tup (xs.map .str)):=by
 refine .tup (xs:=xs.map V.str) (.inr ⟨_,its,n,h,rfl,rfl,hz,r⟩) (by simp) λi x d h1 h2=>?_;rw[be] at h1 h2;cases e:xs[i]? with
 |none=>rw[e] at h1;cases h1
 |some z=>rw[e] at h1 h2;cases h1;cases h2;exact .str z
end PV
namespace PySem
theorem Vu(l:Addr)(items:Array ac)(n:Nat)(b:Addr)(items2:Array ac)(n2:Nat)(dd2:Option Addr)(sl2:Array (Option ac))(hc0:¬(!items.isEmpty&&yT (items.size+items2.size))=true)(hc1:items.size<=sizeLine)(hs2:items.size+items2.size<=sizeLine+1):
  Meets (d4.«list.extend» ⟨[.ref l,.ref b],[]⟩) (λ_ R s=>s.heap.get? l=some { cls:=.type "list",dict:=none,data:=.seq items n,slots:=#[] }/\s.heap.get? b=some { cls:=.type "list",dict:=dd2,data:=.seq items2 n2,slots:=sl2 }/\R (.ok (.ret jp)) { s with heap:=s.heap.update l (ku λx=>x++items2),toks:=s.toks }):=
 .of_wp λprog w A R s h=>by
  obtain⟨hp,g,d,tk,os⟩:=s;obtain⟨hl,hb,h⟩:=h;have f1:=AutoSeq1.idx_int;have f2:=AutoSeq1.sub_tuple_tuple;have f3:=AutoSeq1.sub_list_list;have f4:=AutoSeq1.sub_tuple_list;have f5:=AutoSeq1.sub_list_tuple;have both:=(Array.size_append (xs:=items) (ys:=items2))▸hs2
  wp_walk using (zj hl rfl (hz:=hc1) (_hz':=both)),rV hl,rV hb;exact⟨_,rfl,h⟩
end PySem
namespace PV
open PySem PySem.Spec L2
open PyProof.Rows hiding St
section
variable {G:Gx}{a b c:Expr}{fa fb fc:FE}{p2 px:Pos}{es:List Expr}{fs:FA}
def PN(X:Cx)(G:Gx)(e:Expr)(f:FE):Prop:=∀⦃A⦄,PE X e (tN G A f)
theorem Gz(s:Same H H')(hp:H p=none):Same (hid A H) (hid (p::A) H'):=λb u h=>by
 unfold hid at h;split at h
 .cases h
 .rename_i hb;rw[BL]
  .exact s b u h
  .intro z
   rcases bb.mp z with z | z
   .rw[z,hp] at h;cases h
   .exact hb z
theorem Vv(h:PFA X G es fs):PN X G (.List es pos) (lstF fs):=λA=>Bx (eX (@h A)) λσ H Q ⟨ρ,d,o,e,k⟩=>by
 unfold lstF at e;cases e1:fs ρ with
 |none=>simp[e1] at e
 |some ds=>
  rw[e1] at e;have e':(if ds.length<=sizeLine then some (D.lst ds) else none)=some d:=e;split at e'
  .rename_i hz;cases e';exact⟨ρ,ds,o,e1,λvs H1 s1 r1=>⟨by rw[r1.1];exact hz,λp hp=>k p _ (s1.trans (Ar hp _)) (s1.free hp) ⟨vs,Ak,r1.mono (Gz (Ar hp _) hp)⟩⟩⟩
  .cases e'
theorem Top.fill{d:D}(t:Top G A H q d)(s:Same H H')(hp:H p=none):Top G (p::A) H' q d:=by
 have sm:=Gz (A:=A) s hp;cases d with
 |lst ds=>obtain⟨xs,q1,q2⟩:=t;exact⟨xs,s _ _ q1,q2.mono sm⟩
 |dk ds=>obtain⟨xs,q1,q2,q3⟩:=t;exact⟨xs,s _ _ q1,q2,q3.mono sm⟩
 |dt ds=>obtain⟨xs,q1,q2,q3⟩:=t;exact⟨xs,s _ _ q1,q2,q3.mono sm⟩
 |ob c gs=>obtain⟨C,dx,xs,q1,q2,q3⟩:=t;exact⟨C,dx,xs,s _ _ q1,q2,q3.mono sm⟩
 |_=>exact t.elim
theorem Top.live{d:D}(t:Top G A H q d):Nt (H q):=by
 cases d with
 |lst ds=>obtain⟨xs,q1,q2⟩:=t;rw[q1];exact Nt.lst
 |dk ds=>obtain⟨xs,q1,q2,q3⟩:=t;rw[q1];exact Nt.dK
 |dt ds=>obtain⟨xs,q1,q2,q3⟩:=t;rw[q1];exact Nt.dT
 |ob c gs=>obtain⟨C,dx,xs,q1,q2,q3⟩:=t;rw[q1];exact Nt.ins
 |_=>exact t.elim
theorem Bt{α:Type}{l:List α}{x z:α}(h:(l.set i x)[j]?=some z):(j=i/\z=x/\i<l.length)∨(j≠i/\l[j]?=some z):=by
 by_cases hj:j=i
 .subst hj
  by_cases hl:j<l.length
  .rw[kN hl] at h;exact .inl ⟨rfl,(cq h).symm,hl⟩
  .rw[nK (by simpa using kA.mp hl)] at h;cases h
 .rw[gE (cp hj)] at h;exact .inr ⟨hj,h⟩
theorem OkW.setW{ρ:Rho}{d:D}(w:OkW G A0 He A σ H ρ)(s:Same H H')(hp:H p=none)(t:Top G (p::A) H' p d)(i:Nat)(hi0:i≠0):OkW G A0 He (p::A) (σ.set i (some (.ref p))) H' (ρ.set i (.ow d)):=by
 have hf:=w.ok.fill (Hc:=H') s hp t.live;have hep:He p=none:=w.same.free hp;have npA:p∉A:=λz=>(w.ok.live p z).ne hp;refine⟨w.same.trans s,λa ha=>bE _ (w.sub a ha),λa ha=>?_,w.l0,⟨by rw[pr,pr];exact hf.len,hf.live,λj e h=>?_,λj e h=>?_,λj k e f q h1 h2 h3 h4=>?_⟩,λj e q h1 h2=>?_,λx e hx h0=>by rw[gE hi0] at h0 ⊢;exact w.lt x e hx h0⟩
 .rcases bb.mp ha with z | z
  .rw[z];exact .inr hep
  .exact w.fr a z
 .rcases Bt h with ⟨_,hz,_⟩ | ⟨hj,hz⟩
  .cases hz
  .obtain⟨v,q1,q2⟩:=hf.fz j e hz;exact⟨v,by rw[gE (cp hj)];exact q1,q2⟩
 .rcases Bt h with ⟨hj,hz,hl⟩ | ⟨hj,hz⟩
  .cases hz;subst hj;exact⟨p,by rw[kN (by rw[w.ok.len];exact hl)],cS,t⟩
  .obtain⟨v,q1,q2,q3⟩:=hf.ow j e hz;exact⟨v,by rw[gE (cp hj)];exact q1,q2,q3⟩
 .have no:∀(m:Nat) (g:D),ρ[m]?=some (.ow g)->σ[m]?=some (some (.ref q))->q≠p:=λm g a1 a2 z=>by
   obtain⟨v,b1,b2,_⟩:=w.ok.ow m g a1;rw[a2] at b1;cases b1;exact npA (z▸b2)
  rcases Bt h1 with ⟨hj,_,hl⟩ | ⟨hj,hz⟩
  .rcases Bt h2 with ⟨hk,_,_⟩ | ⟨hk,hz'⟩
   .rw[hj,hk]
   .exfalso;subst hj;rw[kN (by rw[w.ok.len];exact hl)] at h3;cases h3;rw[gE (cp hk)] at h4;exact no k f hz' h4 rfl
  .rcases Bt h2 with ⟨hk,_,hl⟩ | ⟨hk,hz'⟩
   .exfalso;subst hk;rw[kN (by rw[w.ok.len];exact hl)] at h4;cases h4;rw[gE (cp hj)] at h3;exact no j e hz h3 rfl
   .rw[gE (cp hj)] at h3;rw[gE (cp hk)] at h4;exact w.ok.inj j k e f q hz hz' h3 h4
 .rcases Bt h1 with ⟨hj,_,hl⟩ | ⟨hj,hz⟩
  .subst hj;rw[kN (by rw[w.ok.len];exact hl)] at h2;cases h2;exact λz=>w.l0 p z hep
  .rw[gE (cp hj)] at h2;exact w.ow0 j e q hz h2
theorem Zq{ρ:Rho}{o:Out}{D:Ends}(hi0:i≠0)(w:OkW G A0 He A σ H ρ)(e:setW i fa ρ=some o)(k:Ru G A0 He D o):tAsg (tN G A fa) (FN i) D σ H:=by
 unfold setW at e;cases e1:fa ρ with
 |none=>simp[e1] at e
 |some d=>
  simp only[e1,eK] at e;cases e;exact⟨ρ,d,w.ok,e1,λp H1 s1 hp t=>k _ _ ⟨p::A,w.setW s1 hp t i hi0⟩⟩
theorem gf{p:Pos}(h:∀te,PE X a te->PS X (.Assign [.Name x p] a pos) (tAsg te (FN i)))(ha:PN X G a fa)(hi0:i≠0:=by decide):PSD X G (.Assign [.Name x p] a pos) (setW i fa):=λA0 He π s σ H D I ⟨ρ,o,⟨A,w⟩,e,k⟩=>
 h _ (@ha A) π s σ H D I (Zq hi0 w e k)
theorem OkW.wr{ρ:Rho}{d0 d:D}{o:HO}(w:OkW G A0 He A σ H ρ)(hi:ρ[i]?=some (.ow d0))(hs:σ[i]?=some (some (.ref p)))(t:Top G A (upd H p o) p d):OkW G A0 He A σ (upd H p o) (ρ.set i (.ow d)):=by
 obtain⟨q,h1,hA,_⟩:=w.ok.ow i d0 hi;rw[hs] at h1;cases h1;have hep:He p=none:=by
  rcases w.fr p hA with z | z
  .exact absurd z (w.ow0 i d0 p hi hs)
  .exact z
 have eh:hid A (upd H p o)=hid A H:=Bg hA;refine⟨λb u h=>by rw[Aq (DG h hep)];exact w.same b u h,w.sub,w.fr,w.l0,⟨by rw[pr];exact w.ok.len,λb hb=>?_,λj e h=>?_,λj e h=>?_,λj k e f q g1 g2 g3 g4=>?_⟩,λj e q g1 g2=>?_,λx e hx h0=>?_⟩
 .by_cases z:b=p
  .rw[z];exact t.live
  .rw[Aq z];exact w.ok.live b hb
 .rcases Bt h with ⟨_,hz,_⟩ | ⟨hj,hz⟩
  .cases hz
  .rw[eh];exact w.ok.fz j e hz
 .rcases Bt h with ⟨hj,hz,hl⟩ | ⟨hj,hz⟩
  .cases hz;subst hj;exact⟨p,hs,hA,t⟩
  .obtain⟨q,q1,q2,q3⟩:=w.ok.ow j e hz;have nq:q≠p:=λz=>hj (w.ok.inj j i e d0 p hz hi (z▸q1) hs);refine⟨q,q1,q2,?_⟩;cases e with
   |lst ds=>obtain⟨xs,a1,a2⟩:=q3;exact⟨xs,by rw[Aq nq];exact a1,by rw[eh];exact a2⟩
   |dk ds=>obtain⟨xs,a1,a2,a3⟩:=q3;exact⟨xs,by rw[Aq nq];exact a1,a2,by rw[eh];exact a3⟩
   |dt ds=>obtain⟨xs,a1,a2,a3⟩:=q3;exact⟨xs,by rw[Aq nq];exact a1,a2,by rw[eh];exact a3⟩
   |ob c gs=>obtain⟨C,dx,xs,a1,a2,a3⟩:=q3;exact⟨C,dx,xs,by rw[Aq nq];exact a1,a2,by rw[eh];exact a3⟩
   |_=>exact q3.elim
 .have up:∀(m:Nat) (g:D),(ρ.set i (.ow d))[m]?=some (.ow g)->∃g',ρ[m]?=some (.ow g'):=λm g z=>by
   rcases Bt z with ⟨hm,_,_⟩ | ⟨_,hz⟩
   .exact⟨d0,by rw[hm];exact hi⟩
   .exact⟨g,hz⟩
  obtain⟨e',z1⟩:=up j e g1;obtain⟨f',z2⟩:=up k f g2;exact w.ok.inj j k e' f' q z1 z2 g3 g4
 .rcases Bt g1 with ⟨hj,_,_⟩ | ⟨hj,hz⟩
  .subst hj;exact w.ow0 j d0 q hi g2
  .exact w.ow0 j e q hz g2
 .rcases Bt h0 with ⟨hj,_,_⟩ | ⟨_,hz⟩
  .exact w.lt x d0 hx (by rw[hj];exact hi)
  .exact w.lt x e hx hz
theorem Ij{ρ:Rho}{d:D}(h:ownO ρ i=some d):ρ[i]?=some (.ow d):=by
 unfold ownO at h;split at h
 .rename_i e;cases h;exact e
 .cases h
theorem Ut{g:D->D->Option D}{ρ:Rho}{o:Out}(h:mutF g i fa ρ=some o):∃v x y,fa ρ=some v/\ρ[i]?=some (.ow x)/\g x v=some y/\o=.nx (ρ.set i (.ow y)):=by
 unfold mutF at h;cases e1:fa ρ with
 |none=>simp[e1] at h
 |some v=>
  cases e2:ownO ρ i with
  |none=>simp[e1,e2] at h
  |some x=>
   cases e3:g x v with
   |none=>simp[e1,e2,e3] at h
   |some y=>
    simp[e1,e2,e3] at h;exact⟨v,x,y,rfl,Ij e2,e3,h.symm⟩
theorem KD(hv:PE X .(15) (tVar i))(ha:PF X G a fa)(hbase:fw .(15) "append" X.env (eval .(15) X.env)=eval .(15) X.env:=by rfl)(hfew:.(0)=true:=by rfl)(hline:(apos.endLine==pos.line)=true:=by rfl)(hs:ar [a] X.env=[.(16)]:=by rfl)(hsw:eI (.Call (.Attribute .(15) "append" apos) [a] [] pos) none p2.line X.env=pure false:=by rfl):
  PSD X G (.Expr (.Call (.Attribute .(15) "append" apos) [a] [] pos) p2) (mutF appL i fa):=λA0 He π s σ H D I ⟨ρ,o,⟨A,w⟩,e,k⟩=>by
 obtain⟨v,x0,y,e1,hi,e2,rfl⟩:=Ut e;refine Np (Wn rX B3 B4 Lz hv (B_ (@ha A) Dw hs) hbase hfew hline hs rfl) hsw π s σ H D I ?_;unfold appL at e2;split at e2
 .rename_i ds;split at e2
  .rename_i hz;cases e2;obtain⟨p,h1,hA,xs,h2,r⟩:=w.ok.ow i _ hi;refine⟨_,h1,.inl ⟨rfl,xs,.of h2⟩,ρ,v,w.ok,e1,λu H1 s1 r1=>⟨p,xs,u,rfl,rfl,s1 _ _ h2,by rw[r.1];exact hz,?_⟩⟩;have w1:=w.mono s1;refine k _ _ ⟨A,w1.wr hi h1 ⟨xs++[u],Ak,?_⟩⟩;rw[Bg hA];exact (r.mono (Az s1)).append (.cons r1 .nil)
  .cases e2
 .cases e2
theorem Yt:MtM X "list.extend" (λx vs H Q=>∃l b xs zs,x=.ref l/\vs=[.ref b]/\H l=some (.lst xs)/\SqL X.K H b zs/\xs.length+zs.length<=sizeLine/\Q .non (upd H l (.lst (xs++zs)))):=by
 intro π s σ H x vs v us Q I rx rv h;obtain⟨l,b,xs,zs,rfl,rfl,hH,hB,hz,q⟩:=h;cases rx;obtain⟨u,rfl,ru⟩:=rv.one;cases ru;obtain⟨z,its,n,r,hl,e⟩:=I.lstM hH;obtain⟨its2,r2,pl2,z2⟩:=I.list hB;obtain⟨⟨cls2,dd2,data2,sl2⟩,ho2,hc2,n2,hd2⟩:=pl2.isList;simp only at hc2 hd2;subst hc2 hd2;have e1:=r.length;have e2:=r2.length;have hsz:its.toArray.size+its2.toArray.size<=sizeLine:=by rw[bS,bS];omega
 have hlong:¬ (!its.toArray.isEmpty&&yT (its.toArray.size+its2.toArray.size))=true:=by
  rw[fJ hsz,Bool.and_false];exact cy
 refine re F.slot_list_extend ⟨_,e,rfl⟩ F.entry_list_extend (F.args_list_extend_2 _ _)
  (Vu l its.toArray n b its2.toArray n2 dd2 sl2 hlong (by rw[bS];omega) (by omega)) ⟨e,ho2,?_⟩
 refine⟨.non,_,I.lset (its':=its++its2) hH e (by simp) (r.append r2) ?_,rfl,q⟩;rw[cb];omega
theorem pL(hG:G.K=X.K){i:Nat}{x:Str}{xpos apos:Pos}(hv:PE X .(15) (tVar i))(ha:PF X G a fa)(hbase:fw .(15) "extend" X.env (eval .(15) X.env)=eval .(15) X.env:=by rfl)(hfew:.(0)=true:=by rfl)(hline:(apos.endLine==pos.line)=true:=by rfl)(hs:ar [a] X.env=[.(16)]:=by rfl)(hsw:eI (.Call (.Attribute .(15) "extend" apos) [a] [] pos) none p2.line X.env=pure false:=by rfl):
  PSD X G (.Expr (.Call (.Attribute .(15) "extend" apos) [a] [] pos) p2) (mutF extL i fa):=λA0 He π s σ H D I ⟨ρ,o,⟨A,w⟩,e,k⟩=>by
 obtain⟨v,x0,y,e1,hi,e2,rfl⟩:=Ut e;refine Np (Wn rX PySem.F.slot_list_extend PySem.F.type_list_extend Yt hv (B_ (@ha A) Dw hs) hbase hfew hline hs rfl) hsw π s σ H D I ?_;unfold extL at e2;split at e2
 .rename_i ds es';split at e2
  .rename_i hz;cases e2;obtain⟨p,h1,hA,xs,h2,r⟩:=w.ok.ow i _ hi;refine⟨_,h1,.inl ⟨rfl,xs,.of h2⟩,ρ,_,w.ok,e1,λu H1 s1 r1=>?_⟩;cases r1 with
   | @lst q zs _ hq lq rq=>
    refine⟨p,q,xs,zs,rfl,rfl,s1 _ _ h2,by rw[<-hG];exact Am.seq hq,by rw[r.1,lq];exact hz,?_⟩;have w1:=w.mono s1;refine k _ _ ⟨A,w1.wr hi h1 ⟨xs++zs,Ak,?_⟩⟩;rw[Bg hA];exact (r.mono (Az s1)).append ⟨lq,rq⟩
  .cases e2
 .cases e2
theorem Inv.frzK{kvs:List (Key×V)}(I:Inv X π σ H s)(e:H p=some (.dK kvs)):∃o,Inv X π σ (upd H p (.frz o (.dK kvs))) s:=by
 obtain⟨z,hd,vs,rel,dd⟩:=rY I.hok e;obtain⟨o,es,ep,ho,h2⟩:=id dd;exact⟨o,Q8 (h':=s.heap) (t':=s.toks) I (by rw[e];exact iE) ⟨rfl,λ_ _=>rfl⟩ ⟨o,ho⟩ ⟨ho,z,hd,vs,rel,dd⟩⟩
theorem Inv.frzT(I:Inv X π σ H s)(e:H p=some (.dT kvs)):∃o,Inv X π σ (upd H p (.frz o (.dT kvs))) s:=by
 obtain⟨z,hd,vs,rel,o,es,ep,ho,h3,h4,h5,h6⟩:=I.hok p _ e;refine⟨o,Q8 (h':=s.heap) (t':=s.toks) I (by rw[e];exact iE) ⟨rfl,λ_ _=>rfl⟩ ⟨o,ho⟩ ⟨ho,z,hd,vs,KT.keeps rel λc ys ec=>?_,o,es,ep,ho,h3,h4,h5,h6⟩⟩;rw[Aq (rO ec e (λz=>nomatch z))];exact ec
theorem OkW.frzC{ρ:Rho}{d:D}(w:OkW G A0 He A σ H ρ)(hi:ρ[i]?=some (.ow d))(h1:σ[i]?=some (some (.ref p)))(hA:p∈A)(hh:∀b,b≠p->H' b=H b)(rp:Same (hid A H) (hid (A.filter λb=>decide (b≠p)) H')->hid (A.filter λb=>decide (b≠p)) H' p=H' p->Rep G (hid (A.filter λb=>decide (b≠p)) H') (.ref p) d):OkS G A0 He σ H' (ρ.set i (.fz d)):=by
 have hn:=w.ow0 i d p hi h1;have hmem:∀b,b∈A.filter (λb=>decide (b≠p))↔b∈A/\b≠p:=λb=>by simp[eC]
 have sm:Same (hid A H) (hid (A.filter λb=>decide (b≠p)) H'):=λb o h=>by
  unfold hid at h ⊢;split at h
  .cases h
  .rename_i hb;have hbp:b≠p:=λz=>hb (z▸hA);rw[if_neg (λz=>hb ((hmem b).mp z).1),hh b hbp];exact h
 have rp:=rp sm (BL λz=>((hmem p).mp z).2 rfl);have hep:He p=none:=(w.fr p hA).resolve_left hn;refine⟨A.filter λb=>decide (b≠p),λb o h=>?_,λb hb=>(hmem b).mpr ⟨w.sub b hb,λz=>hn (z▸hb)⟩,λb hb=>w.fr b ((hmem b).mp hb).1,w.l0,⟨by rw[pr];exact w.ok.len,λb hb=>?_,λj e h=>?_,λj e h=>?_,λj k e f q g1 g2 g3 g4=>?_⟩,λj e q g1 g2=>?_,λx e hx h0=>?_⟩
 .have hbp:b≠p:=λz=>by rw[z,hep] at h;cases h
  rw[hh b hbp];exact w.same b o h
 .obtain⟨z1,z2⟩:=(hmem b).mp hb;rw[hh b z2];exact w.ok.live b z1
 .rcases Bt h with ⟨hj,hz,_⟩ | ⟨hj,hz⟩
  .cases hz;subst hj;exact⟨_,h1,rp⟩
  .obtain⟨v,q1,q2⟩:=w.ok.fz j e hz;exact⟨v,q1,q2.mono sm⟩
 .rcases Bt h with ⟨_,hz,_⟩ | ⟨hj,hz⟩
  .cases hz
  .obtain⟨q,q1,q2,q3⟩:=w.ok.ow j e hz;have nq:q≠p:=λz=>hj (w.ok.inj j i e d p hz hi (z▸q1) h1);refine⟨q,q1,(hmem q).mpr ⟨q2,nq⟩,?_⟩;cases e with
   |lst ds=>obtain⟨xs,a1,a2⟩:=q3;exact⟨xs,by rw[hh q nq];exact a1,a2.mono sm⟩
   |dk ds=>obtain⟨xs,a1,a2,a3⟩:=q3;exact⟨xs,by rw[hh q nq];exact a1,a2,a3.mono sm⟩
   |dt ds=>obtain⟨xs,a1,a2,a3⟩:=q3;exact⟨xs,by rw[hh q nq];exact a1,a2,a3.mono sm⟩
   |ob c gs=>obtain⟨C,dx,xs,a1,a2,a3⟩:=q3;exact⟨C,dx,xs,by rw[hh q nq];exact a1,a2,a3.mono sm⟩
   |_=>exact q3.elim
 .rcases Bt g1 with ⟨_,hz,_⟩ | ⟨_,z1⟩
  .cases hz
  .rcases Bt g2 with ⟨_,hz,_⟩ | ⟨_,z2⟩
   .cases hz
   .exact w.ok.inj j k e f q z1 z2 g3 g4
 .rcases Bt g1 with ⟨_,hz,_⟩ | ⟨_,z1⟩
  .cases hz
  .exact w.ow0 j e q z1 g2
 .rcases Bt h0 with ⟨_,hz,_⟩ | ⟨_,z1⟩
  .cases hz
  .exact w.lt x e hx z1
theorem OkS.frz{π:zP}{s:af}{A0:List Addr}{He:Hp}{σ:St}{H:Hp}{ρ:Rho}(I:Inv X π σ H s)(w:OkS G A0 He σ H ρ)(i:Nat):∃H',Inv X π σ H' s/\OkS G A0 He σ H' (frz1 ρ i):=by
 unfold frz1;split
 .rename_i d hi;obtain⟨A,w⟩:=w;obtain⟨p,h1,hA,t⟩:=w.ok.ow i d hi;cases d with
  |lst ds=>
   obtain⟨xs,a1,a2⟩:=t;exact⟨H,I,w.frzC hi h1 hA (λ_ _=>rfl) λsm hp=>.lst (.of (by rw[hp];exact a1)) (a2.mono sm).1 (a2.mono sm).2⟩
  |dk ds=>
   obtain⟨xs,a1,a2,a3⟩:=t;obtain⟨o,I'⟩:=Inv.frzK I a1;exact⟨_,I',w.frzC hi h1 hA (λb hb=>Aq hb) λsm hp=>.dk (by rw[hp];exact Ak) a2 (a3.mono sm).2⟩
  |dt ds=>
   obtain⟨xs,a1,a2,a3⟩:=t;obtain⟨o,I'⟩:=Inv.frzT I a1;exact⟨_,I',w.frzC hi h1 hA (λb hb=>Aq hb) λsm hp=>.dt (by rw[hp];exact Ak) a2 (a3.mono sm).2⟩
  |ob c gs=>
   obtain⟨C,dx,xs,a1,a2,a3⟩:=t;exact⟨H,I,w.frzC hi h1 hA (λ_ _=>rfl) λsm hp=>.ob a2.1 (by rw[hp];exact a1) a2.2 (a3.mono sm).2⟩
  |_=>exact t.elim
 .exact⟨H,I,w⟩
theorem Zr{π:zP}{s:af}{A0:List Addr}{He:Hp}{σ:St}:∀(is:List Nat) {H:Hp}{ρ:Rho},Inv X π σ H s->OkS G A0 He σ H ρ->∃H',Inv X π σ H' s/\OkS G A0 He σ H' (is.foldl frz1 ρ)
 |[],H,_,I,w=>⟨H,I,w⟩
 |i::r,_,_,I,w=>let ⟨_,I1,w1⟩:=w.frz I i;Zr r I1 w1
theorem G3{g:FS}(is:List Nat)(h:PSD X G st g):PSD X G st (fzS is g):=λA0 He π s σ H D I ⟨ρ,o,ok,e,k⟩=>
 let ⟨H',I',ok'⟩:=Zr is I ok
 @h A0 He π s σ H' D I' ⟨is.foldl frz1 ρ,o,ok',e,k⟩
end
section
variable {G:Gx}{a b c:Expr}{fa fb fc:FE}{p2 px:Pos}{t:Str}{elt iter:Expr}{ifs:List Expr}{ga:FT}{fe:FE}{src:FI}
theorem cR(N':List Str)(eN:De t X.N++[t]=N')(c:K6 X scope t)(hc:X.calm=true)(hN:X.N.Nodup)(hi':X.N[i]?=some y)(hx:Loc X.env.scope y)(hi:PFI X G true (.Name t px) iter src)(hI:∀s2 H2 fp,PFTs { KC X scope t s2 H2 fp with N:=N' } G ifs ga)(hE:∀s2 H2 fp,PF { KC X scope t s2 H2 fp with N:=N' } G elt fe)(hsw:eI (.ListComp elt [⟨.Name t px,iter,ifs,0⟩] scope pos) (some (.Name y py)) spos.line X.env=pure true:=by rfl)(hf:X.fn y=true∨X.env.scope.names.lookup y=some .local :=by first | exact .inl rfl | exact .inr rfl | assumption)(hs:∀x,ip iter X.env x=pure x:=by intro _;rfl)(hi0:i≠0:=by decide):
  PSD X G (.Assign [.Name y py] (.ListComp elt [⟨.Name t px,iter,ifs,0⟩] scope pos) spos) (setW i (BV src ga fe)):=λA0 He π s σ H D I ⟨ρ,o,⟨A,w⟩,e,k⟩=>by
 rw[N6] at e;exact W2 N' eN c hc hN hi' hx hi (Zm eN c) bnd1 hI hE hsw hf hs A I (Zq hi0 w e k)
end
end PV
namespace PV
open PySem PySem.Spec
section
variable {A:ax}
def btx(w:br):Bool:=w.params.followText "set-order"
def keyOf(e:Int×ac):Str:=match e.2 with | .str k _=>k | _=>eA
def EntS(w:br)(e:Int×ac)(k:Str):Prop:=e.1=hashStr w k/\∃t,e.2=.str k t
abbrev kS (prog:cE) (w:br):=PySem.strKind prog w
structure FX (w:br) (es:Array (Int×ac)) (t:ib) (ks:List Str):Prop where
 ent:∀e∈es.toList,EntS w e (keyOf e)
 perm:(es.toList.map keyOf).Perm ks
 nd:ks.Nodup
 sz:es.size<sd
 fits:t.fits es.size=true
 led:btx w=false->t.led=true
 plain:es.size≠0->t.plain=false
def ObX(h:Heap)(a:Addr)(es:Array (Int×ac))(t:ib):Prop:=∃o ep,h.get? a=some o/\o.ExactSet/\o.data=.set es ep t
def SetX(w:br)(h:Heap)(a:Addr)(ks:List Str):Prop:=∃es t,ObX h a es t/\FX w es t ks
theorem SetX.keep(x:SetX w h a ks)(e:∀o,h.get? a=some o->h'.get? a=some o):SetX w h' a ks:=by
 obtain⟨es,t,⟨o,ep,g,q⟩,f⟩:=x;exact⟨es,t,⟨o,ep,e o g,q⟩,f⟩
theorem SetX.typeIs(x:SetX w s.heap a ks):s.TypeIs (.ref a) "set":=
 let ⟨_,_,⟨o,_,g,q,_⟩,_⟩:=x;⟨o,g,q.1⟩
theorem R3{k:Str}{v:ac}:(kS prog w).is k v=true↔∃t,v=.str k t:=
 ⟨λh=>CM h,λ⟨t,q⟩=>by subst q;show xy k (.str k t)=true;simp[xy,Value.isStr]⟩
theorem FX.elems{t:ib}(f:FX w es t ks):ElemsOf (kS prog w) es.toList:=λe m=>
 let ⟨q1,u,q2⟩:=f.ent e m;⟨⟨keyOf e,R3.mpr ⟨u,q2⟩,q1⟩,by rw[q2];rfl⟩
theorem FX.len{t:ib}(f:FX w es t ks):es.size=ks.length:=by simpa using f.perm.length_eq
theorem key_is{e:Int×ac}{k:Str}{u:Tok}(h:e.2=.str k u):keyOf e=k:=by unfold keyOf;rw[h]
theorem cT(t:ib)(es:Array (Int×ac))(n:Int)(x:ac):(layNew t es n x).2.1.led=t.led/\(t.plain=false->(layNew t es n x).2.1.plain=false):=by
 unfold layNew;cases t.freeSlot n with
 |none=>exact⟨rfl,λ_=>rfl⟩
 |some p=>
  obtain⟨j,b⟩:=p;simp only[SetTable.orStandIn]
  by_cases q:((t.put j).1.fits (SetTable.insertAt es (t.put j).2 (n,x)).size)=true
  .rw[if_pos q];exact⟨rfl,id⟩
  .rw[if_neg q];exact⟨rfl,λ_=>rfl⟩
theorem W4(t:ib)(es:Array (Int×ac))(n:Nat):(mI t es n).2.1.led=t.led/\(t.plain=false->(mI t es n).2.1.plain=false):=by
 have inner:∀t' ord,t.relaid (es.map (·.1)) n=some (t',ord)->t'.led=t.led/\t'.plain=t.plain:=λt' ord z=>by
  unfold SetTable.relaid SetTable.laid at z;cases q:SetTable.layClean (SetTable.sizeAbove n-1) (es.map (·.1)) with
  |none=>simp[q] at z
  |some ow=>simp[q] at z;rw[<-z.1];exact⟨rfl,rfl⟩
 unfold mI;cases q:t.relaid (es.map (·.1)) n with
 |none=>exact⟨rfl,λ_=>rfl⟩
 |some p=>
  obtain⟨t',ord⟩:=p;obtain⟨i1,i2⟩:=inner t' ord q
  by_cases z:(coversAll ord es.size&&t'.fits (ord.filterMap (es[·]?)).size)=true
  .simp only[z,if_true];exact⟨i1,λy=>i2.trans y⟩
  .simp only[z,if_false];exact⟨rfl,λ_=>rfl⟩
theorem FX.relay{t:ib}(f:FX w es t ks)(n:Nat):FX w (mI t es n).1 (mI t es n).2.1 ks:=by
 have p:=relayAll_perm t es n;have l:(mI t es n).1.size=es.size:=by simpa using p.length_eq
 obtain⟨m1,m2⟩:=W4 t es n;exact⟨λe m=>f.ent e (p.mem_iff.mp m),(p.map keyOf).trans f.perm,f.nd,l▸f.sz,relayAll_fits t es n,λb=>m1.trans (f.led b),λz=>m2 (f.plain (l▸z))⟩
theorem gj{es':Array (Int×ac)}{t t':ib}{Q:Unit->af->Prop}(x:ObX s.heap a es t)(z:es'.size<sd)(k:∀h',i7 a s.heap h'->ObX h' a es' t'->Q () { s with heap:=h' }):ag (ah prog w) A (storeSet a es' t') Q E s:=by
 obtain⟨o,ep,g,q,d⟩:=x;refine wpAny_storeSet_of g d (k _ (vk _ _ _) ⟨{ o with data:=.set es' (ep+1) t' },ep+1,?_,q,rfl⟩) (fits_of_scanBound z);have u:=pE (Obj.putSet es' t') g (by rw[putSet_of es' t' d];rfl)
 rwa [putSet_of es' t' d] at u
def addK(ks:List Str)(k:Str):List Str:=if k∈ks then ks else ks++[k]
theorem FX.more{es1:Array (Int×ac)}{t t1:ib}{k:Str}{u:Tok}(f:FX w es t ks)(nk:k∉ks)(p:es1.toList.Perm (es.toList++[(hashStr w k,.str k u)]))(r:ks.length+1<sd)(q1:t1.fits es1.size=true)(q2:t1.led=t.led)(q3:t1.plain=false):FX w es1 t1 (addK ks k):=by
 have l:es1.size=es.size+1:=by simpa using p.length_eq
 unfold addK;rw[if_neg nk];refine⟨λe m=>(eD.mp (p.mem_iff.mp m)).elim (f.ent e) λm=>?_,?_,dL.mpr ⟨f.nd,by simp,λx hx y hy e=>nk ?_⟩,by rw[l,f.len];exact r,q1,λb=>q2.trans (f.led b),λ_=>q3⟩
 .cases gL.mp m;exact⟨rfl,u,rfl⟩
 .have:=p.map keyOf;rw[dP] at this;exact this.trans (f.perm.append_right _)
 .cases gL.mp hy;rw[<-e];exact hx
theorem addX{k:Str}{u:Tok}{Q:Bool->af->Prop}(x:SetX w s.heap a ks)(r:ks.length+1<sd)(c:∀b h',i7 a s.heap h'->SetX w h' a (addK ks k)->Q b { s with heap:=h' }):ag (ah prog w) A (B5 a (.str k u) (hashStr w k)) Q E s:=by
  obtain⟨es,t,ob,f⟩:=x;obtain⟨o,ep,g,ex,d⟩:=id ob;have el:ElemsOf (kS prog w) es.toList:=f.elems;have iss:(kS prog w).is k (.str k u)=true:=R3.mpr ⟨u,rfl⟩;show ag _ A (B5 a (.str k u) ((kS prog w).hash k)) Q E s;unfold B5 setAddHashedIn setAddByScan;refine wpAny_holding (ae (se g d f.fits ?_));dsimp only;rw[if_pos (show byScan (.str k u) es=true from byScan_of rfl f.sz el)];refine ae (ae (og (ae (wpAny_setScan_of iss g d f.fits el ?_))))
  rcases Option.eq_none_or_eq_some (es.toList.findIdx? λe=>(kS prog w).is k e.2) with no | ⟨j,yes⟩
  . have nk:k∉ks:=λm=>by
      obtain⟨e,m,ek⟩:=aI.mp (f.perm.mem_iff.mpr m);obtain⟨_,v,ev⟩:=f.ent e m;have z:=List.findIdx?_eq_none_iff.mp no e m;rw[R3.mpr ⟨v,ek▸ev⟩] at z;cases z
    rw[no];have p:=layNew_perm t es ((kS prog w).hash k) (.str k u);have q:=layNew_fits t es ((kS prog w).hash k) (.str k u);obtain⟨m1,m2⟩:=cT t es ((kS prog w).hash k) (.str k u);dsimp only;generalize layNew t es ((kS prog w).hash k) (.str k u)=y at p q m1 m2 ⊢;obtain⟨es1,t1,du,gv⟩:=y;rw[EE] at p;have quiet:∀(b:Bool) (z:af) (R:Unit->af->Prop),R () z->ag (ah prog w) A (match b with | true=>rule "set.scan.the-table-gave-way" | false=>pure ()) R E z:=λb z R y=>match b with
      |true=>og y
      |false=>ai y
    refine ae (quiet gv _ _ ?_);have rest:∀t2:ib,FX w es1 t2 (addK ks k)->ag (ah prog w) A (do
        storeSet a es1 t2
        if (!du&&t2.tooFull)=true then
          (match (mI t2 es1 (B6 es1.size)).2.2 with | true=>rule "set.scan.the-table-gave-way" | false=>pure ())
          storeSet a (mI t2 es1 (B6 es1.size)).1 (mI t2 es1 (B6 es1.size)).2.1
          return some true
        else return some true) (λv z=>match v with | some v=>ag (ah prog w) A (pure v) Q E z | none=>False) E s:=λt2 f2=>by
      refine ae (gj ob f2.sz λh1 b1 o1=>?_)
      by_cases full:(!du&&t2.tooFull)=true
      . rw[if_pos full]
        refine ae (quiet _ _ _ (ae (gj o1 (f2.relay _).sz λh2 b2 o2=>ai (ai (c _ h2 (b1.trans b2) ⟨_,_,o2,f2.relay _⟩)))))
      . rw[if_neg full]
        exact ai (ai (c _ h1 b1 ⟨_,_,o1,f2⟩))
    have shut:∀(v:Option Bool) (z:af),(match v with | some v=>ag (ah prog w) A (pure v) Q E z | none=>False)->ag (ah prog w) A (match v with | some added=>pure added | none=>setAddHashedIn a (.str k u) ((kS prog w).hash k) 99999) Q E z:=λv z y=>match v with
      |some _=>y
      |none=>y.elim
    cases tp:t1.plain with
    |true=>
      rw[if_pos rfl,show hashByValue 8 (.str k u)=pure false from hashByValue_scannable 8 rfl];exact ae (ai (i8 (rest { t1 with plain:=false } (f.more nk p r (SetTable.fits_plain_off q) m1 rfl)) (λv z y=>shut v z y) λ_ _ y=>y))
    |false=>
      rw[if_neg cy];exact ae (ai (i8 (rest t1 (f.more nk p r q m1 tp)) (λv z y=>shut v z y) λ_ _ y=>y))
  . rw[yes]
    obtain⟨hj,isj,_⟩:=List.findIdx?_eq_some_iff_getElem.mp yes;obtain⟨v,ev⟩:=R3.mp isj;have kk:k∈ks:=f.perm.mem_iff.mp (aI.mpr ⟨_,pS hj,key_is ev⟩);have:=c false s.heap (EF a _) (by unfold addK;rw[if_pos kk];exact⟨es,t,ob,f⟩);exact ai (ai this)
end
section
variable {A:ax}{R:nl->af->Prop}{I:Addr}{wr:List Addr}{P:Nat->ac->Prop}{Sx:Nat->Heap->Prop}
def metX(val:Nat->Str)(i:Nat):List Str:=((av i).map val).foldl addK []
theorem Uu(val:Nat->Str)(i:Nat):metX val (i+1)=addK (metX val i) (val i):=by simp[metX,ro,List.foldl_append]
theorem W5(val:Nat->Str):∀i,(metX val i).length<=i
 |0=>aE _
 |i+1=>by
  have q:=W5 val i;rw[Uu];unfold addK;split<;>simp<;>omega
theorem yP(W:Walks prog w A.in1 I fp wr n P Sx){S:Addr}(nS:S∉fp)(val:Nat->Str)(hv:∀i v,P i v->∃u,v=.str (val i) u)(hb:n+1<sd):
    ∀(m i:Nat) (s:af),i+m=n->Sx i s.heap->SetX w s.heap S (metX val i) ->
      (∀h' tk,(∀b o,b∉wr->b≠S->s.heap.get? b=some o->h'.get? b=some o)->SetX w h' S (metX val n)->R (.ok (.ret .none)) { s with heap:=h',toks:=tk }) ->
      fh (ah prog w) A (.builtin "set.update.loop" ⟨[.ref S,.ref I],[]⟩) R s:=by
  have nW:S∉wr:=λz=>nS (W.sub S z);have turn:∀{s:af},ag (ah prog w) A.in1 (do
        let some x <-eJ (.ref I) | ret .none
        let _ <-ko [x] (setAdd S x)
        again (.builtin "set.update.loop" ⟨[.ref S,.ref I],[]⟩))
      (λfin s'=>match fin with | .done f=>R (.ok f) s' | .again c'=>c'.quiet=true/\fh (ah prog w) A c' R s') (λe s'=>R (.error e) s') s->fh (ah prog w) A (.builtin "set.update.loop" ⟨[.ref S,.ref I],[]⟩) R s:=λq=>by
    refine lc PyProof.Rows.F.entry_set_update_loop ?_;rw[pT EG _];exact q
  intro m
  induction m with
  |zero=>
    intro i s e st x k;have:i=n:=by omega
    subst this;exact turn (ae (W.done s _ _ st λh' tk kp=>ai (k h' tk (λb o nb _ q=>kp b o nb q) (x.keep λo q=>kp S o nW q))))
  |succ m ih=>
    intro i s e st x k;refine turn (ae (W.item i s _ _ (by omega) st λv h1 tk pv st1 kp=>?_));obtain⟨u,rfl⟩:=hv i v pv;have x1:SetX w h1 S (metX val i):=x.keep λo q=>kp S o nW q;have hl:=W5 val i;refine ae (wpAny_holding (wpAny_holding (ae ((kS prog w).pyHash (k:=val i) (R3.mpr ⟨u,rfl⟩) ?_))));refine addX (s:={ s with heap:=h1,toks:=tk+1 }) (w:=w) x1 (by omega) λb h2 sb x2=>ai ⟨nL EG _,?_⟩;rw[<-Uu] at x2;refine ih (i+1) { s with heap:=h2,toks:=tk+1 } (by omega) (W.frame _ _ _ st1 λb m o q=>(sb.2 b λz=>nS (z▸m)).trans q) x2 λh3 t3 kp3 x3=>?_;exact k h3 t3 (λb o nb nS' q=>kp3 b o nb nS' ((sb.2 b nS').trans (kp b o nb q))) x3
end
section
variable {A:ax}
theorem yQ{T nid iid:String}{as:List ac}{Q Q1:ac->af->Prop}(ft:TypeCalled T nid iid)(hc:checkTypeCall T ⟨as,[]⟩=pure ())(hn:fh (ah prog w) A.in1 (.call (.builtin nid) ⟨.type T::as,[]⟩) (wants Q1 E) s)(hi:∀ob s1,Q1 ob s1->s1.TypeIs ob T/\fh (ah prog w) A.in1 (.call (.builtin iid) ⟨ob::as,[]⟩) (wants (λr s2=>r=.none/\Q ob s2) E) s1):ag (ah prog w) A (call (.type T) as) Q E s:=by
 obtain⟨m0,mr,g1⟩:=ft.mro;have g2:=ft.made;have g3:=ft.sub;have g4:=ft.notType;have g5:=ft.canCreate;refine y7 (codeAny_of_tree (show ag _ _ (callAny (.type T) _) _ _ _ from ai ⟨EH _ (by decide +kernel),lc F.entry_type_call ?_⟩));rw[Around.under_plain (weight_type_call_type T as []) (units_type_call_type T as [])]
 repeat (any_goals (first | assumption | wp_step))
 refine nn hn λr s1 q1=>?_
 match r,q1 with
 |.error _,q1=>exact q1
 |.ok .next,q1=>exact q1.elim
 |.ok .brk,q1=>exact q1.elim
 |.ok .cont,q1=>exact q1.elim
 |.ok (.ret ob),q1=>
  obtain⟨ty,run⟩:=hi ob s1 q1;have g6:=ft.init.lookup;have g7:=ft.init.bind ob
  repeat (any_goals (first | assumption | wp_step))
  refine nn run λr2 s2 q2=>?_
  match r2,q2 with
  |.error _,q2=>exact q2
  |.ok .next,q2=>exact q2.elim
  |.ok .brk,q2=>exact q2.elim
  |.ok .cont,q2=>exact q2.elim
  |.ok (.ret v),⟨e,q2⟩=>
   subst e
   repeat (any_goals (first | assumption | wp_step))
structure TextsAt (prog:cE) (w:br) (T:String) (l:Addr) (n:Nat) (val:Nat->Str) (h0:Heap):Prop where
 ty:∀s:af,(∀o,h0.get? l=some o->s.heap.get? l=some o)->s.TypeIs (.ref l) T
 ns:isSubtype (.type T) (.type "set")=pure false
 nf:isSubtype (.type T) (.type "frozenset")=pure false
 nd:(xB T==xB "dict")=false
 lt:l<h0.objs.size
 it:∀(A:ax) (E:ac->af->Prop) (s:af) (Q:ac->af->Prop),A.handled=none->(∀o,h0.get? l=some o->s.heap.get? l=some o)->l<s.heap.objs.size ->
  (∀(oI:Obj) (Sx:Nat->Heap->Prop) (P:Nat->ac->Prop),(∀A':ax,A'.handled=none->Walks prog w A' s.heap.objs.size [s.heap.objs.size,l] [s.heap.objs.size] n P Sx)->Sx 0 (s.heap.push oI)->(∀i v,P i v->∃u,v=.str (val i) u)->Q (.ref s.heap.objs.size) { s with heap:=s.heap.push oI }) ->
  ag (ah prog w) A (lI (.ref l)) Q E s
theorem pM(v:ac){Q:ac->af->Prop}(k:Q (.ref s.heap.objs.size) { s with heap:=s.heap.push { cls:=.type "set",dict:=none,data:=.set #[] 0 (.fresh 0 0 (!btx w)) } }):fh (ah prog w) A (.call (.builtin "set.__new__") ⟨[.type "set",v],[]⟩) (wants Q E) s:=by
 have sb:isSubtype (.type "set") (.type "set")=pure true:=by rw[nN];kernel_rfl
 refine codeAny_of_tree (show ag _ A.in1 (do checkBuiltinCall "set.__new__" ⟨[.type "set",v],[]⟩;again (.builtin "set.__new__" ⟨[.type "set",v],[]⟩)) _ _ s from ?_);refine ae (wpAny_of_eq (F.newCall_set_1 v) (ai ⟨nL EI _,lc F.entry_set_new ?_⟩));rw[pT EI _];unfold d4.«set.__new__» Builtin.Frozenset.newClass;obtain⟨h,g,d,tk,os⟩:=s
 wp_walk
 refine sg (ai ?_);dsimp only [newObj];exact ae (wpAny_alloc (ai (ai k)))
theorem cU(h:Heap):SetX w (h.push { cls:=.type "set",dict:=none,data:=.set #[] 0 (.fresh 0 0 (!btx w)) }) h.objs.size []:=
 ⟨#[],_,⟨_,0,bn _ rfl,⟨rfl,rfl,rfl⟩,rfl⟩,λe m=>by simp at m,by simp,by simp,by decide,by rfl,λb=>by simp[SetTable.fresh,b],λz=>by simp at z⟩
theorem vN{T:String}{l:Addr}{val:Nat->Str}{Q:ac->af->Prop}(hh:A.handled=none)(X:TextsAt prog w T l n val s.heap)(hb:n+1<sd)(k:∀h' tk,SetX w h' s.heap.objs.size (metX val n)->.(13)->Q (.ref s.heap.objs.size) { s with heap:=h',toks:=tk }):ag (ah prog w) A (call (.type "set") [.ref l]) Q E s:=by
 refine yQ (Q1:=λob s1=>ob=.ref s.heap.objs.size/\s1={ s with heap:=s.heap.push { cls:=.type "set",dict:=none,data:=.set #[] 0 (.fresh 0 0 (!btx w)) } }) F.called_set (F.typeCall_set_1 _) (pM _ ⟨rfl,rfl⟩) λob s1 ⟨e1,e2⟩=>?_;subst e1 e2;have ob:=bn s.heap (o:={ cls:=.type "set",dict:=none,data:=.set #[] 0 (.fresh 0 0 (!btx w)) }) rfl;refine⟨⟨_,ob,rfl⟩,codeAny_call_builtin F.called_set.init.plain F.entry_set_init (check_set_init_1 ⟨_,ob,rfl⟩ ?_)⟩;have kl:∀o,s.heap.get? l=some o->(s.heap.push { cls:=.type "set",dict:=none,data:=.set #[] 0 (.fresh 0 0 (!btx w)) }).get? l=some o:=λo q=>aS _ q;have ty:=X.ty { s with heap:=s.heap.push { cls:=.type "set",dict:=none,data:=.set #[] 0 (.fresh 0 0 (!btx w)) } } kl;have s1:=X.ns;have s2:=X.nf;have s3:=X.nd;unfold d4.«set.__init__» noKeywords Builtin.Frozenset.updateFrom;generalize hp:lI=PI
 wp_walk
 subst hp;refine X.it _ _ _ _ (by simp[hh]) kl (by rw[hZ];exact mv X.lt) λoI Sx P W st hv=>?_;refine ae (B7 ?_);have szI:(s.heap.push { cls:=.type "set",dict:=none,data:=.set #[] 0 (.fresh 0 0 (!btx w)) }).objs.size=s.heap.objs.size+1:=hZ _ _;have x0:SetX w ((s.heap.push { cls:=.type "set",dict:=none,data:=.set #[] 0 (.fresh 0 0 (!btx w)) }).push oI) s.heap.objs.size (metX val 0):=(cU s.heap).keep λo q=>aS _ q;refine yP (W _ (by simp[hh])) (S:=s.heap.objs.size) (λz=>?_) val hv hb n 0 _ (by omega) st x0 λh' tk kp x=>?_
 .rcases bb.mp z with z | z
  .rw[szI] at z;exact absurd z (bg (qE _))
  .exact absurd (gL.mp z) (nc X.lt)
 .show ag _ _ _ _ _ _;refine ai (show ag _ _ (ret jp) _ _ _ from ai ⟨rfl,k h' tk x λb o q=>?_⟩);have lb:b<s.heap.objs.size:=aT q;exact kp b o (λz=>by have e:=gL.mp z;rw[szI] at e;exact absurd e (bg (mv lb))) (bg lb) (aS _ (aS _ q))
end
theorem G_:B8 "set_iterator" "__next__" "set_iterator.__next__":=
 .of (owner:="set_iterator") (n:="__next__") (by rw[zk,zl];kernel_rfl) (by decide +kernel) (by decide +kernel) (by decide +kernel) (by first | exact .inl (by decide +kernel) | exact .inr (by decide +kernel)) (by rw[nN];kernel_rfl)
theorem N_:vt table "set_iterator.__next__"=some d4.«set_iterator.__next__»:=EJ (by kernel_rfl)
theorem gk:Manifest.owners.lookup (String.ofList ['r','o','t','a','r','e','t','i','_','t','e','s'].reverse)=some Manifest.sig_set_iterator:=by kernel_rfl
theorem RD(a:ac):argsOk "set_iterator.__next__" ⟨[a],[]⟩:=by
 unfold argsOk;rw[signature?_of (id:="set_iterator.__next__") (n:=['_','_','t','x','e','n','_','_']) (o:=['r','o','t','a','r','e','t','i','_','t','e','s']) (by kernel_rfl) gk]
 kernel_rfl
section
variable {A:ax}{I T:Addr}{first:ac}{t:ib}
def ItX(h:Heap)(I q:Addr)(first:ac)(j n ep:Nat):Prop:=∃o,h.get? I=some o/\o.cls=.type "set_iterator"/\o.data=.fields #[first,.int j 0,.ref q,.int n 0,.int ep 0]
def Jx(h:Heap)(q:Addr)(es:Array (Int×ac))(ep:Nat)(t:ib):Prop:=∃o,h.get? q=some o/\o.ExactSet/\o.data=.set es ep t
theorem ItX.ty(x:ItX s.heap I q first j n ep):s.TypeIs (.ref I) "set_iterator":=let ⟨o,g,c,_⟩:=x;⟨o,g,c⟩
theorem ItX.put0(x:ItX h I q first j n ep)(f2:ac):ItX (h.update I (pV (·.setIfInBounds 0 f2))) I q f2 j n ep:=by
 obtain⟨o,g,c,d⟩:=x;exact⟨_,pE _ g (B9 (vx d _)),(Bi ..).trans c,by rw[vx d];simp⟩
theorem ItX.put1(x:ItX h I q first j n ep):ItX (h.update I (pV (·.setIfInBounds 1 (de ((j:Int)+1))))) I q first (j+1) n ep:=by
 obtain⟨o,g,c,d⟩:=x;exact⟨_,pE _ g (B9 (vx d _)),(Bi ..).trans c,by rw[vx d];simp[de]⟩
theorem MJ{a:Addr}(z:s.heap=h)(x:ItX h I q first j n ep){i:Nat}(hi:i<5){v:ac}{Q:Unit->af->Prop}(k:Q () { s with heap:=h.update I (pV (·.setIfInBounds i v)) }):ag (ah prog w) A (setField (.ref I) i v) Q E s:=by
 subst z;obtain⟨o,g,_,d⟩:=x;exact vE g d (by simpa using hi) k
theorem pO{sl:Int}{v:ac}{nx:Nat}{Q:Option ac->af->Prop}(x:ItX s.heap I q (.int sl 0) j n ep)(y:Jx s.heap q es ep t)(hf:t.fits es.size=true)(hn:es.size=n)(hx:∀(B:ax) (E2:ac->af->Prop) (R:Option (ac×Nat)->af->Prop),R (some (v,nx)) s->ag (ah prog w) B (nV q sl.toNat j ep) R E2 s)(k:∀h',i7 I s.heap h'->ItX h' I q (.int nx 0) (j+1) n ep->Q (some v) { s with heap:=h' }):ag (ah prog w) A (eJ (.ref I)) Q E s:=by
 obtain⟨o,g,c,d⟩:=id x;obtain⟨oq,gq,_,dq⟩:=y;unfold eJ;refine ae (nX (ma (name:=gi "__next__") x.ty G_ (hJ G_ x.ty N_ ?_ (RD _))));unfold d4.«set_iterator.__next__»;refine ae (ai (ae (sh g d ?_)));dsimp only;refine ae (vS gq dq hf ?_);rw[if_neg (by rw[hn];simp),df,df];refine ae (hx _ _ _ ?_);refine ae (MJ (a:=I) rfl x (by decide) (ae (MJ (a:=I) rfl (x.put0 (de nx)) (by decide) (ai ⟨v,rfl,ai ?_⟩))));exact k _ ((vk ..).trans (vk ..)) (x.put0 (de nx)).put1
theorem Zt{Q:Option ac->af->Prop}{z:af}(hh:A.handled=none)(k:∀h',(∀b o,z.heap.get? b=some o->h'.get? b=some o)->Q none { z with heap:=h' }):
  ag (ah prog w) A.in1 (newExc (.type "StopIteration") [] >>= λe=>(raiseNew e:Sem Fin)) (λfin s'=>∃v,fin=Fin.done (Flow.ret v)/\ag (ah prog w) A (pure (some v)) Q E s')
   (λe s'=>ag (ah prog w) A (xh e (.type "StopIteration") >>= λb=>if b=true then pure none else throw e) Q E s') z:=by
 refine ae ?_;simp only[newExc,newTuple];refine ae (kX ?_ (by size_fits));refine ae (m:=firstArgMember _ _) (wpAny_of_eq (a:=jp) (by first | rfl | (simp only[firstArgMember];rfl)) (kX ?_ (by size_fits)));unfold raiseNew;refine ae (wpAny_handled ?_);rw[show A.in1.handled=none from hh];refine ae (ai (wpAny_throw ?_));have ty:∀(h0:Heap) (ob:Obj),ob.cls=.type "StopIteration"->ob.isFreed=false->Bn { z with heap:=h0.push ob } (.ref h0.objs.size) "StopIteration":=λh0 ob c f=>⟨ob,bn _ f,c⟩;refine ae (oi (T:="StopIteration") (b:=true) (ty _ _ rfl rfl) Bz ?_);refine ai (k _ λb o e=>?_);exact aS _ (aS _ e)
theorem pP{sl:Int}{Q:Option ac->af->Prop}(hh:A.handled=none)(x:ItX s.heap I q (.int sl 0) j n ep)(y:Jx s.heap q es ep t)(hf:t.fits es.size=true)(hn:es.size=n)(hx:∀(B:ax) (E2:ac->af->Prop) (R:Option (ac×Nat)->af->Prop),R none s->ag (ah prog w) B (nV q sl.toNat j ep) R E2 s)(k:∀h',(∀b o,b≠I->s.heap.get? b=some o->h'.get? b=some o)->Q none { s with heap:=h' }):ag (ah prog w) A (eJ (.ref I)) Q E s:=by
 obtain⟨o,g,c,d⟩:=id x;obtain⟨oq,gq,_,dq⟩:=y;unfold eJ;refine ae (nX (ma (name:=gi "__next__") x.ty G_ (hJ G_ x.ty N_ ?_ (RD _))));unfold d4.«set_iterator.__next__»;refine ae (ai (ae (sh g d ?_)));dsimp only;refine ae (vS gq dq hf ?_);rw[if_neg (by rw[hn];simp),df,df];refine ae (hx _ _ _ (ae (MJ (a:=I) rfl x (by decide) (Zt hh λh' kp=>k h' λb o nb e=>kp b o ?_))));exact (nE _ _ (cp nb)).trans e
theorem pQ{pl:Array ac}{p:Nat}{u:Tok}{e0:Int×ac}{Q:Option ac->af->Prop}(x:ItX s.heap I q (.ref T) j n ep)(y:Jx s.heap q es ep t)(hf:t.fits es.size=true)(hn:es.size=n)(ht:s.heap.IsTuple T pl)(hp:pl[j]?=some (.int p u))(he:es[p]?=some e0)(k:∀h',i7 I s.heap h'->ItX h' I q (.ref T) (j+1) n ep->Q (some e0.2) { s with heap:=h' }):ag (ah prog w) A (eJ (.ref I)) Q E s:=by
 obtain⟨o,g,c,d⟩:=id x;obtain⟨oq,gq,_,dq⟩:=y;obtain⟨ot,gt,_,nt,dt⟩:=ht;unfold eJ;refine ae (nX (ma (name:=gi "__next__") x.ty G_ (hJ G_ x.ty N_ ?_ (RD _))));unfold d4.«set_iterator.__next__»;refine ae (ai (ae (sh g d ?_)));dsimp only;refine ae (vS gq dq hf ?_);rw[if_neg (by rw[hn];simp)];refine ae (kg gt dt ?_);rw[df,df];simp only[hp];unfold setNextDrawn;refine ae (ae (se gq dq hf ?_));dsimp only;rw[if_neg (by simp),df];simp only[he];refine ai (ae (MJ (a:=I) rfl x (by decide) (ai ⟨e0.2,rfl,ai ?_⟩)));exact k _ (vk ..) x.put1
theorem pR{pl:Array ac}{Q:Option ac->af->Prop}(hh:A.handled=none)(x:ItX s.heap I q (.ref T) j n ep)(y:Jx s.heap q es ep t)(hf:t.fits es.size=true)(hn:es.size=n)(ht:s.heap.IsTuple T pl)(hp:pl[j]?=none)(k:∀h',(∀b o,b≠I->s.heap.get? b=some o->h'.get? b=some o)->Q none { s with heap:=h' }):ag (ah prog w) A (eJ (.ref I)) Q E s:=by
 obtain⟨o,g,c,d⟩:=id x;obtain⟨oq,gq,_,dq⟩:=y;obtain⟨ot,gt,_,nt,dt⟩:=ht;unfold eJ;refine ae (nX (ma (name:=gi "__next__") x.ty G_ (hJ G_ x.ty N_ ?_ (RD _))));unfold d4.«set_iterator.__next__»;refine ae (ai (ae (sh g d ?_)));dsimp only;refine ae (vS gq dq hf ?_);rw[if_neg (by rw[hn];simp)];refine ae (kg gt dt ?_);rw[df,df];simp only[hp];refine ae (MJ (a:=I) rfl x (by decide) (ae (MJ (a:=I) rfl (x.put0 (de 0)) (by decide) (Zt hh λh' kp=>k h' λb o nb e=>kp b o ?_))));exact (nE _ _ (cp nb)).trans ((nE _ _ (cp nb)).trans e)
end
end PV
namespace PV
open PySem L2
theorem Vw{α:Type}(l:List α)(x:α):atI (l++[x]) (-1)=some x:=by
 unfold atI ixN;rw[if_neg (by omega),if_pos .(17)];simp;rw[show (-1+((l.length:Int)+1)).toNat=l.length by omega];simp
theorem vO{α:Type}(l:List α)(k:Nat):cutD l none (some (k:Int))=l.take k:=by
 unfold cutD HT.sIx;simp;rw[if_neg (by omega)]
 first | omega | (rw[List.take_eq_take_iff];omega)
theorem gr{α:Type}(l:List α)(k:Nat):cutD l (some (k:Int)) none=l.drop k:=by
 unfold cutD HT.sIx;simp;rw[if_neg (by omega)]
 by_cases h:k<=l.length
 .rw[vT h,AV (by simp)]
 .rw[Nat.min_eq_right (by omega),EK (by omega),EK (by omega)];simp
theorem gw{α:Type}{xs:List α}{i:Int}(h0:0<=i)(h1:i<xs.length):atI xs i=xs[i.toNat]?:=by
 unfold atI ixN;rw[if_pos h0,if_pos h1];rfl
theorem Hl(i j:Int)(h:0<j):modD (.int i) (.int j)=some (.int (i%j)):=by
 show (if 0<j then some (D.int (i%j)) else none)=_;rw[if_pos h]
theorem GK(i j:Int)(h:0<j)(h2:j<1073741824):Dy (.int i) (.int j)=some (.int (i/j)):=by
 show (if CDiv i j then some (D.int (i/j)) else none)=_;rw[if_pos ⟨h,h2⟩]
theorem OD(i j:Int)(h : -(2^64)<j/\j<2^64):mulD (.int i) (.int j)=some (.int (i*j)):=by
 show (if Nz i j then some (D.int (i*j)) else none)=_;rw[if_pos (.inl (.inr h))]
theorem pW(i j:Int)(h : -(2^64)<i/\i<2^64):mulD (.int i) (.int j)=some (.int (i*j)):=by
 show (if Nz i j then some (D.int (i*j)) else none)=_;rw[if_pos (.inl (.inl h))]
theorem M8(i j:Int):addD (.int i) (.int j)=some (.int (i+j)):=zE_ _
theorem Yu(i j:Int):subD (.int i) (.int j)=some (.int (i-j)):=zE_ _
theorem W6(i j:Int):ltD (.int i) (.int j)=some (.bl (decide (i<j))):=zE_ _
theorem Qh(i j:Int):gtD (.int i) (.int j)=some (.bl (decide (j<i))):=zE_ _
theorem g_(i j:Int):leD (.int i) (.int j)=some (.bl (decide (i<=j))):=zE_ _
theorem h_(i j:Int):geD (.int i) (.int j)=some (.bl (decide (j<=i))):=zE_ _
theorem Uv(i j:Int):eqD false (.int i) (.int j)=some (.bl (decide (i=j))):=zE_ _
theorem iB(i j:Int):eqD true (.int i) (.int j)=some (.bl (!decide (i=j))):=zE_ _
theorem R4(i:Int):negD (.int i)=some (.int (-i)):=zE_ _
theorem JT(h:n<=10000000):n<=sizeLine:=ck h (by decide)
theorem Vx{i j:List D}(h:i.length+j.length<=10000000):addD (.lst i) (.lst j)=some (.lst (i++j)):=by
 show (if _ then _ else _)=_;rw[if_pos (JT h)]
theorem Vy{i j:Str}(h:i.length+j.length<=10000000):addD (.str i) (.str j)=some (.str (i++j)):=by
 show (if _ then _ else _)=_;rw[if_pos (JT h)]
theorem K_{b:D->FS}{P:Nat->Rho->Prop}:∀{ds:List D}{ρ:Rho}(k:Nat),P k ρ->(∀(i:Nat) d ρ,ds[i]?=some d->P (k+i) ρ->∃ρ',b d ρ=some (.nx ρ')/\P (k+i+1) ρ')->∃ρ',forF b ds ρ=some (.nx ρ')/\P (k+ds.length) ρ'
 |[],ρ,k,h0,_=>⟨ρ,rfl,by simpa using h0⟩
 |d::r,ρ,k,h0,hs=>by
  obtain⟨ρ1,e1,p1⟩:=hs 0 d ρ rfl (by simpa using h0);obtain⟨ρ2,e2,p2⟩:=K_ (ds:=r) (ρ:=ρ1) (k+1) (by simpa using p1) λi d' ρ' hd hp=>by
   have:=hs (i+1) d' ρ' (by simpa using hd) (by rw[show k+(i+1)=k+1+i by omega];exact hp);rw[show k+(i+1)+1=k+1+i+1 by omega] at this;exact this
  refine⟨ρ2,?_,by rw[eR,show k+(r.length+1)=k+1+r.length by omega];exact p2⟩;unfold forF;rw[e1];exact e2
theorem MK{src:FI}{ga:FT}{fe:FE}{ρ:Rho}{ds out:List D}(h:src ρ=some ds)(hz:ds.length<=10000000)(hc:Io ρ ga fe ds=some out):BV src ga fe ρ=some (.lst out):=by
 unfold BV;rw[h];show (if ds.length<=sizeLine then (Io ρ ga fe ds).map D.lst else none)=_;rw[if_pos (JT hz),hc];rfl
def iC(o:Option Out)(gs:FS):Option Out:=match o with | some (.nx ρ')=>gs ρ' | o=>o
theorem W7(g gs:FS)(ρ:Rho):seqF g gs ρ=iC (g ρ) gs:=zE_ _
theorem e_nx(gs:FS)(ρ:Rho):iC (some (.nx ρ)) gs=gs ρ:=zE_ _
theorem e_rt(gs:FS)(d:D)(ρ:Rho):iC (some (.rt d ρ)) gs=some (.rt d ρ):=zE_ _
theorem iG(ρ:Rho):nxF ρ=some (.nx ρ):=zE_ _
def iteO(o:Option Bool)(g gs:FS)(ρ:Rho):Option Out:=match o with | some true=>g ρ | some false=>gs ρ | none=>none
theorem e_if(t:FT)(g gs:FS)(ρ:Rho):ifS t g gs ρ=iteO (t ρ) g gs ρ:=zE_ _
theorem iH(g gs:FS)(ρ:Rho):iteO (some true) g gs ρ=g ρ:=zE_ _
theorem iJ(g gs:FS)(ρ:Rho):iteO (some false) g gs ρ=gs ρ:=zE_ _
def setO(i:Nat)(ρ:Rho)(o:Option D):Option Out:=o.map λd=>.nx (ρ.set i (.fz d))
theorem iK(i:Nat)(f:FE)(ρ:Rho):setF i f ρ=setO i ρ (f ρ):=zE_ _
theorem Yv(i:Nat)(ρ:Rho)(d:D):setO i ρ (some d)=some (.nx (ρ.set i (.fz d))):=zE_ _
def retO(ρ:Rho)(o:Option D):Option Out:=o.map λd=>.rt d ρ
theorem sO(f:FE)(ρ:Rho):retF f ρ=retO ρ (f ρ):=zE_ _
theorem iM(d:D)(ρ:Rho):retO ρ (some d)=some (.rt d ρ):=zE_ _
theorem iQ(ρ:Rho):retN ρ=some (.rt .non ρ):=zE_ _
def sS(ρ:Rho)(o:Option D):Option Out:=o.map λ_=>.nx ρ
theorem iR(f:FE)(ρ:Rho):HR f ρ=sS ρ (f ρ):=zE_ _
theorem Zu(ρ:Rho)(d:D):sS ρ (some d)=some (.nx ρ):=zE_ _
def b2(g:D->D->Option D)(x y:Option D):Option D:=x.bind λx=>y.bind λy=>g x y
theorem e_b(g:D->D->Option D)(fa fb:FE)(ρ:Rho):bF g fa fb ρ=b2 g (fa ρ) (fb ρ):=zE_ _
theorem e_bs(g:D->D->Option D)(x y:D):b2 g (some x) (some y)=g x y:=zE_ _
def b1(g:D->Option D)(x:Option D):Option D:=x.bind g
theorem e_u(g:D->Option D)(fa:FE)(ρ:Rho):uF g fa ρ=b1 g (fa ρ):=zE_ _
theorem e_us(g:D->Option D)(x:D):b1 g (some x)=g x:=zE_ _
def cl1(g:List D->Option D)(x:Option (List D)):Option D:=x.bind g
theorem iT(g:List D->Option D)(fs:FA)(ρ:Rho):Ai g fs ρ=cl1 g (fs ρ):=zE_ _
theorem Zv(g:List D->Option D)(ds:List D):cl1 g (some ds)=g ds:=zE_ _
def sU(x:Option D)(y:Option (List D)):Option (List D):=x.bind λd=>y.map (d::·)
theorem iU(fa:FE)(fs:FA)(ρ:Rho):Aa fa fs ρ=sU (fa ρ) (fs ρ):=zE_ _
theorem Zw(d:D)(ds:List D):sU (some d) (some ds)=some (d::ds):=zE_ _
theorem sV(ρ:Rho):nilA ρ=some []:=zE_ _
def tupO(o:Option (List D)):Option D:=o.bind λds=>if ds.length<=sizeLine then some (.tup ds) else none
def lstO(o:Option (List D)):Option D:=o.bind λds=>if ds.length<=sizeLine then some (.lst ds) else none
theorem sX(fs:FA)(ρ:Rho):tupF fs ρ=tupO (fs ρ):=zE_ _
theorem sY(fs:FA)(ρ:Rho):lstF fs ρ=lstO (fs ρ):=zE_ _
theorem iV:tupO (some [])=some (.tup []):=zE_ _
theorem iW(a b:D):tupO (some [a,b])=some (.tup [a,b]):=zE_ _
theorem iY(a b c:D):tupO (some [a,b,c])=some (.tup [a,b,c]):=zE_ _
theorem iZ(a b c d:D):tupO (some [a,b,c,d])=some (.tup [a,b,c,d]):=zE_ _
theorem ie:lstO (some [])=some (.lst []):=zE_ _
theorem ig(a:D):lstO (some [a])=some (.lst [a]):=zE_ _
theorem ik(a b:D):lstO (some [a,b])=some (.lst [a,b]):=zE_ _
theorem ir(a b c:D):lstO (some [a,b,c])=some (.lst [a,b,c]):=zE_ _
theorem iu(a b c d:D):lstO (some [a,b,c,d])=some (.lst [a,b,c,d]):=zE_ _
theorem iw(a b c d e:D):lstO (some [a,b,c,d,e])=some (.lst [a,b,c,d,e]):=zE_ _
def blO(o:Option D):Option Bool:=match o with | some (.bl b)=>some b | _=>none
theorem e_bl(f:FE)(ρ:Rho):blF f ρ=blO (f ρ):=zE_ _
theorem sZ(b:Bool):blO (some (.bl b))=some b:=zE_ _
def andO(o:Option Bool)(fb:FT)(ρ:Rho):Option Bool:=match o with | some true=>fb ρ | some false=>some false | none=>none
def orO(o:Option Bool)(fb:FT)(ρ:Rho):Option Bool:=match o with | some true=>some true | some false=>fb ρ | none=>none
theorem iy(a b:FT)(ρ:Rho):andT a b ρ=andO (a ρ) b ρ:=zE_ _
theorem Zx(b:FT)(ρ:Rho):andO (some true) b ρ=b ρ:=zE_ _
theorem Zy(b:FT)(ρ:Rho):andO (some false) b ρ=some false:=zE_ _
theorem su(a b:FT)(ρ:Rho):orT a b ρ=orO (a ρ) b ρ:=zE_ _
theorem iz(b:FT)(ρ:Rho):orO (some true) b ρ=some true:=zE_ _
theorem Yw(b:FT)(ρ:Rho):orO (some false) b ρ=b ρ:=zE_ _
theorem i_(a:FT)(ρ:Rho):notT a ρ=(a ρ).map (!·):=zE_ _
def andP(o:Option D)(fb:FE)(ρ:Rho):Option D:=match o with | some (.bl true)=>fb ρ | some .(8)=>some .(8) | _=>none
def orP(o:Option D)(fb:FE)(ρ:Rho):Option D:=match o with | some (.bl true)=>some (.bl true) | some .(8)=>fb ρ | _=>none
def notP(o:Option D):Option D:=match o with | some (.bl b)=>some (.bl (!b)) | _=>none
theorem jA(a b:FE)(ρ:Rho):andF a b ρ=andP (a ρ) b ρ:=zE_ _
theorem Zz(b:FE)(ρ:Rho):andP (some (.bl true)) b ρ=b ρ:=zE_ _
theorem Z0(b:FE)(ρ:Rho):andP (some .(8)) b ρ=some .(8):=zE_ _
theorem tD(a b:FE)(ρ:Rho):orF a b ρ=orP (a ρ) b ρ:=zE_ _
theorem jB(b:FE)(ρ:Rho):orP (some (.bl true)) b ρ=some (.bl true):=zE_ _
theorem jC(b:FE)(ρ:Rho):orP (some .(8)) b ρ=b ρ:=zE_ _
theorem jD(a:FE)(ρ:Rho):notF a ρ=notP (a ρ):=zE_ _
theorem Z2(b:Bool):notP (some (.bl b))=some (.bl (!b)):=zE_ _
def ifP(o:Option Bool)(fa fb:FE)(ρ:Rho):Option D:=match o with | some true=>fa ρ | some false=>fb ρ | none=>none
theorem tG(t:FT)(a b:FE)(ρ:Rho):ifF t a b ρ=ifP (t ρ) a b ρ:=zE_ _
theorem jE(a b:FE)(ρ:Rho):ifP (some true) a b ρ=a ρ:=zE_ _
theorem jF(a b:FE)(ρ:Rho):ifP (some false) a b ρ=b ρ:=zE_ _
def sl3(f:Option D)(l h:Option (Option Int)):Option D:=f.bind λx=>l.bind λlo=>h.bind λhi=>slD x lo hi
theorem e_sl(f:FE)(l h:FO)(ρ:Rho):slF f l h ρ=sl3 (f ρ) (l ρ) (h ρ):=zE_ _
theorem tH(x:D)(l h:Option Int):sl3 (some x) (some l) (some h)=slD x l h:=zE_ _
theorem tK(ρ:Rho):noO ρ=some none:=zE_ _
def somO(o:Option D):Option (Option Int):=match o with | some (.int i)=>some (some i) | _=>none
theorem Z3(f:FE)(ρ:Rho):someO f ρ=somO (f ρ):=zE_ _
theorem W8(i:Int):somO (some (.int i))=some (some i):=zE_ _
def getO(o:Option Slot):Option D:=match o with | some (.fz d)=>some d | _=>none
def getU(o:Option Slot):Option D:=match o with | some (.fz d)=>some d | some (.ow d)=>some d | _=>none
theorem e_v(i:Nat)(ρ:Rho):vF i ρ=getO (ρ[i]?):=zE_ _
theorem e_vs(d:D):getO (some (.fz d))=some d:=zE_ _
theorem e_vU(i:Nat)(ρ:Rho):vU i ρ=getU (ρ[i]?):=zE_ _
theorem tL(d:D):getU (some (.ow d))=some d:=zE_ _
theorem e_k(d:D)(ρ:Rho):kF d ρ=some d:=zE_ _
def rngO(o:Option D):Option (List D):=match o with | some (.int j)=>if -(2^62)<=j/\j<2^62 then some (rngD j.toNat) else none | _=>none
theorem R5(f:FE)(ρ:Rho):rngI f ρ=rngO (f ρ):=zE_ _
theorem Ir(j:Int)(h : -(2^62)<=j/\j<2^62):rngO (some (.int j))=some (rngD j.toNat):=by
 show (if _ then _ else _)=_;rw[if_pos h]
def forO(o:Option (List D))(tg:FG)(b:FS)(ρ:Rho):Option Out:=o.bind λds=>forF (tgB tg b) ds ρ
theorem tO(src:FI)(tg:FG)(b:FS)(ρ:Rho):forS src tg b ρ=forO (src ρ) tg b ρ:=zE_ _
theorem jG(ds:List D)(tg:FG)(b:FS)(ρ:Rho):forO (some ds) tg b ρ=forF (tgB tg b) ds ρ:=zE_ _
def ccO(o:Option Bool)(e:Option D)(r:Option (List D)):Option (List D):=match o with | some true=>e.bind λy=>r.map (y::·) | some false=>r | none=>none
theorem G4(ρ:Rho)(ga:FT)(fe:FE)(d:D)(r:List D):Io ρ ga fe (d::r)=ccO (ga (ρ++[.fz d])) (fe (ρ++[.fz d])) (Io ρ ga fe r):=zE_ _
theorem W9(ρ:Rho):allT ρ=some true:=zE_ _
def runO(o:Option Out):Option D:=match o with | some (.rt d _)=>some d | some (.nx _)=>some .non | _=>none
theorem tQ{np:Nat}{b:FS}{ds:List D}(h:ds.length=np):runF n np b ds=runO (b (Ck n ds)):=by
 unfold runF;rw[if_pos h];rfl
theorem jH(d:D)(ρ:Rho):runO (some (.rt d ρ))=some d:=zE_ _
theorem jJ(ρ:Rho):runO (some (.nx ρ))=some .non:=zE_ _
theorem Z4{α β:Type}(f:α->β)(x:α):Option.map f (some x)=some (f x):=zE_ _
theorem jK{α β:Type}(f:α->Option β)(x:α):Option.bind (some x) f=f x:=zE_ _
theorem W_(n:Nat)(ds:List D):Ck n ds=ds.map .fz++u7 (n-ds.length) .un:=zE_ _
theorem truB(b:Bool):truD (.bl b)=some b:=zE_ _
theorem Hm{α:Type}(l:List α)(k:Nat):atI l (k:Int)=l[k]?:=by
 unfold atI ixN;rw[if_pos (by omega)]
 by_cases h:k<l.length
 .rw[if_pos (by omega)];simp
 .rw[if_neg (by omega),nK (by omega)];rfl
theorem ix0(x:D)(r:List D):ixD (.lst (x::r)) (.int 0)=some x:=Hm _ 0
theorem ix1(x y:D)(r:List D):ixD (.lst (x::y::r)) (.int 1)=some y:=Hm _ 1
theorem ix2(x y z:D)(r:List D):ixD (.lst (x::y::z::r)) (.int 2)=some z:=Hm _ 2
theorem ixt0(x:D)(r:List D):ixD (.tup (x::r)) (.int 0)=some x:=Hm _ 0
theorem ixt1(x y:D)(r:List D):ixD (.tup (x::y::r)) (.int 1)=some y:=Hm _ 1
theorem ixt2(x y z:D)(r:List D):ixD (.tup (x::y::z::r)) (.int 2)=some z:=Hm _ 2
theorem ixt3(x y z w:D)(r:List D):ixD (.tup (x::y::z::w::r)) (.int 3)=some w:=Hm _ 3
theorem e_tr(f:FE)(ρ:Rho):trF f ρ=(f ρ).bind truD:=zE_ _
theorem M9(x y:Str):(x++y).length=x.length+y.length:=by
 show (x.cps++y.cps).size=_;simp[mf]
theorem sl_s(z:Str)(lo hi:Option Int)(h:z.length<=10000000):slD (.str z) lo hi=some (.str (cutS z lo hi)):=by
 show (if z.length<=sizeLine then some (D.str (cutS z lo hi)) else none)=_;rw[if_pos (JT h)]
theorem yR(z:Str)(h:z.length<=10000000):lenD (.str z)=some (.int z.length):=by
 show (if z.length<=sizeLine then some (D.int z.length) else none)=_;rw[if_pos (JT h)]
theorem XD(l:List D):lenD (.lst l)=some (.int l.length):=zE_ _
theorem Z5(x:Str)(ys:List Str):inD false (.str x) (.lst (ys.map .str))=some (.bl (ys.any (λy=>y==x))):=by
 have h:∀ys:List Str,flVs (ys.map .str)=some (ys.map V.str):=λys=>by
  induction ys with
  |nil=>rfl
  |cons y r ih=>simp[flVs,flV,ih]
 show ((flV (.str x)).bind λv=>(flVs (ys.map .str)).map λvs=>D.bl (inV v vs))=_;rw[h];show some (D.bl (inV (.str x) (ys.map V.str)))=_;simp[inV,qa,w9,eqV]
theorem FQ(n:Nat):(rngD n).length=n:=by simp[rngD]
theorem Uw(ys:List Str):Ju (ys.map .str)=some ys:=by
 induction ys with
 |nil=>rfl
 |cons y r ih=>simp[Ju,ih]
def tR(i:Nat)(ρ:Rho)(o:Option D):Option Out:=o.map λd=>.nx (ρ.set i (.ow d))
theorem R6(i:Nat)(f:FE)(ρ:Rho):setW i f ρ=tR i ρ (f ρ):=zE_ _
theorem OJ(i:Nat)(ρ:Rho)(d:D):tR i ρ (some d)=some (.nx (ρ.set i (.ow d))):=zE_ _
def mutO(g:D->D->Option D)(i:Nat)(ρ:Rho)(x v:Option D):Option Out:=v.bind λv=>x.bind λx=>(g x v).map λy=>.nx (ρ.set i (.ow y))
def getW(o:Option Slot):Option D:=match o with | some (.ow d)=>some d | _=>none
theorem tU(g:D->D->Option D)(i:Nat)(f:FE)(ρ:Rho):mutF g i f ρ=mutO g i ρ (getW ρ[i]?) (f ρ):=zE_ _
theorem jL(g:D->D->Option D)(i:Nat)(ρ:Rho)(x v:D):mutO g i ρ (some x) (some v)=(g x v).map λy=>.nx (ρ.set i (.ow y)):=zE_ _
theorem LC(d:D):getW (some (.ow d))=some d:=zE_ _
def forB(o:Option Out)(b:D->FS)(r:List D):Option Out:=match o with
  |some (.nx ρ')=>forF b r ρ'
  |some (.ct ρ')=>forF b r ρ'
  |some (.bk ρ')=>some (.nx ρ')
  |some (.rt e ρ')=>some (.rt e ρ')
  |none=>none
theorem LK(b:D->FS)(ρ:Rho):forF b [] ρ=some (.nx ρ):=zE_ _
theorem G5(b:D->FS)(d:D)(r:List D)(ρ:Rho):forF b (d::r) ρ=forB (b d ρ) b r:=zE_ _
theorem Cu(b:D->FS)(r:List D)(ρ:Rho):forB (some (.nx ρ)) b r=forF b r ρ:=zE_ _
theorem Vz(b:D->FS)(r:List D)(d:D)(ρ:Rho):forB (some (.rt d ρ)) b r=some (.rt d ρ):=zE_ _
def bndO(o:Option Rho)(b:FS):Option Out:=o.bind b
theorem e_tg(tg:FG)(b:FS)(d:D)(ρ:Rho):tgB tg b d ρ=bndO (tg d ρ) b:=zE_ _
theorem LQ(ρ:Rho)(b:FS):bndO (some ρ) b=b ρ:=zE_ _
theorem LR(i:Nat)(d:D)(ρ:Rho):BK i d ρ=some (ρ.set i (.fz d)):=zE_ _
theorem KH(a:Str):ltS a a=false:=by
 unfold ltS;exact decide_eq_false (List.lt_irrefl _)
theorem Pz{a b c:Str}(h1:ltS a b=true)(h2:ltS b c=true):ltS a c=true:=by
 unfold ltS at *;exact decide_eq_true (List.lt_trans (of_decide_eq_true h1) (of_decide_eq_true h2))
theorem Z6{a b:Str}(h1:ltS a b=false)(h2:a≠b):ltS b a=true:=by
 unfold ltS at *;have h1':=of_decide_eq_false h1;have h3:b.cps.toList<=a.cps.toList:=EL.mp h1'
 rcases Decidable.em (b.cps.toList<a.cps.toList) with h | h
 .exact decide_eq_true h
 .exfalso;have h4:a.cps.toList<=b.cps.toList:=EL.mp h;have e:a.cps.toList=b.cps.toList:=List.le_antisymm h4 h3;apply h2;cases a;cases b;simp at e;rw[e]
def Up(l:List Str):Prop:=l.Pairwise λa b=>ltS a b=true
theorem R7(x y:Str):∀l:List Str,y∈insS x l↔y=x∨y∈l
 |[]=>by simp[insS]
 |z::r=>by
  unfold insS;split
  .simp
  .split
   .rename_i _ e;subst e;simp
   .simp[R7 x y r];constructor
    .rintro (h | h | h)
     .exact .inr (.inl h)
     .exact .inl h
     .exact .inr (.inr h)
    .rintro (h | h | h)
     .exact .inr (.inl h)
     .exact .inl h
     .exact .inr (.inr h)
theorem Z7(x:Str):∀{l:List Str},Up l->Up (insS x l)
 |[],_=>by simp[insS,Up]
 |z::r,h=>by
  obtain⟨h1,h2⟩:=qc.mp h;unfold insS;split
  .rename_i hlt;exact qc.mpr ⟨λy hy=>by
    rcases bb.mp hy with rfl | hy
    .exact hlt
    .exact Pz hlt (h1 y hy),h⟩
  .rename_i hn;split
   .exact h
   .rename_i hne;refine qc.mpr ⟨λy hy=>?_,Z7 x h2⟩
    rcases (R7 x y r).mp hy with rfl | hy
    .exact Z6 (by simpa using hn) hne
    .exact h1 y hy
theorem Ej(l:List Str):Up (An l):=by
 unfold An
 induction l with
 |nil=>exact AR
 |cons x r ih=>exact Z7 x ih
theorem Ay(y:Str)(l:List Str):y∈An l↔y∈l:=by
 unfold An
 induction l with
 |nil=>simp
 |cons x r ih=>rw[List.foldr_cons,R7,ih];simp
theorem La(h:Up l):l.Nodup:=h.imp λ{a b} hab e=>by
 subst e;rw[KH] at hab;cases hab
theorem sub_len:∀{l m:List Str},l.Nodup->(∀x∈l,x∈m)->l.length<=m.length
 |[],_,_,_=>dQ _
 |x::r,m,h,hs=>by
  obtain⟨h1,h2⟩:=i6.mp h;have hx:x∈m:=hs x cS;have:=sub_len (l:=r) (m:=m.erase x) h2 λy hy=>(BA (λe=>by subst e;exact h1 hy)).mpr (hs y (bE _ hy));rw[BB hx] at this;have hp:0<m.length:=BC hx;simp;omega
theorem R8:∀{l m:List Str},Up l->Up m->(∀x,x∈l↔x∈m)->l=m
 |[],[],_,_,_=>rfl
 |[],y::s,_,_,h=>by have:=(h y).mpr cS;simp at this
 |x::r,[],_,_,h=>by have:=(h x).mp cS;simp at this
 |x::r,y::s,h1,h2,h=>by
  obtain⟨a1,a2⟩:=qc.mp h1;obtain⟨b1,b2⟩:=qc.mp h2;have e:x=y:=by
   rcases bb.mp ((h x).mp cS) with e | hx
   .exact e
   .rcases bb.mp ((h y).mpr cS) with e | hy
    .exact e.symm
    .have:=Pz (a1 y hy) (b1 x hx);rw[KH] at this;cases this
  subst e;have:r=s:=R8 a2 b2 λz=>by
   constructor
   .intro hz
    rcases bb.mp ((h z).mp (bE _ hz)) with e | q
    .subst e;have:=a1 z hz;rw[KH] at this;cases this
    .exact q
   .intro hz
    rcases bb.mp ((h z).mpr (bE _ hz)) with e | q
    .subst e;have:=b1 z hz;rw[KH] at this;cases this
    .exact q
  rw[this]
theorem ss_t{xs:List Str}(h:xs.length<=1000)(h2:(An xs).length<=60):ssD (.tup (xs.map .str))=some (.lst ((An xs).map .str)):=by
 show (Ju (xs.map .str)).bind _=_;rw[Uw];show (if _ then _ else _)=_;rw[if_pos ⟨h,h2⟩]
end PV
namespace PV
open PySem PySem.Spec
theorem Z8:B8 "set_iterator" "__iter__" "set_iterator.__iter__":=
 .of (owner:="set_iterator") (n:="__iter__") (by rw[zk,zl];kernel_rfl) (by decide +kernel) (by decide +kernel) (by decide +kernel) (by first | exact .inl (by decide +kernel) | exact .inr (by decide +kernel)) (by rw[nN];kernel_rfl)
theorem jM:vt table "set_iterator.__iter__"=some d4.«dict_keyiterator.__iter__»:=BD (id':="dict_keyiterator.__iter__") (by kernel_rfl) rfl (by decide +kernel) (by kernel_rfl)
theorem pX(a:ac):argsOk "set_iterator.__iter__" ⟨[a],[]⟩:=by
 unfold argsOk;rw[signature?_of (id:="set_iterator.__iter__") (n:=['_','_','r','e','t','i','_','_']) (o:=['r','o','t','a','r','e','t','i','_','t','e','s']) (by kernel_rfl) gk]
 kernel_rfl
theorem V0:vt table "set.__iter__"=some d4.«frozenset.__iter__»:=BD (id':="frozenset.__iter__") (by kernel_rfl) rfl (by decide +kernel) (by kernel_rfl)
section
variable {A:ax}{I T:Addr}{first:ac}{t:ib}
theorem Iu{α:Type}:∀{l:List α}{i:Nat}(h:i<l.length),(l[i]::l.eraseIdx i).Perm l
 |x::r,0,_=>zm _
 |x::r,i+1,h=>(List.Perm.swap x (r[i]'(by simpa using h)) _).trans (BE x (Iu (by simpa using h)))
theorem jN{src:Source}{Q:Nat->af->Prop}(hn:n≠0)(k:∀i d,i<n->Q i { s with drawn:=d }):ag M A (choose src n) Q E s:=λΓ p _=>by
 show Sem.wp M Γ (.choose src n .pure) _ _ p s;rw[Sem.wp_choose];exact⟨hn,k _ _ (zn _ (Nat.pos_of_ne_zero hn))⟩
theorem Oa{α:Type}{M:Model}:∀(m:Nat) (xs:List α) (s:af) {Q:List α->af->Prop},xs.length=m->(∀ys d,ys.Perm xs->Q ys { s with drawn:=d })->ag M A (drawOrder m xs) Q E s
 |0,xs,s,Q,hl,k=>by
  have:xs=[]:=zf.mp hl;subst this;exact ai (k [] s.drawn (zm _))
 |m+1,[],s,Q,hl,k=>by simp at hl
 |m+1,x::r,s,Q,hl,k=>by
  show ag M A (choose .order (x::r).length >>= _) Q E s;refine ae (jN (by simp) λi d hi=>?_);have hg:(x::r)[i]?=some (x::r)[i]:=by simp
  simp only[hg];refine ae (Oa m ((x::r).eraseIdx i) _ (by rw[EM,if_pos hi];simp at hl ⊢;omega) λys d2 hp=>ai (k _ d2 ?_));exact (BE _ hp).trans (Iu hi)
theorem jO{Q:Bool->af->Prop}(y:Jx s.heap q es ep t)(f:FX w es t ks)(k:Q (!btx w&&decide (1<es.size)) s):ag (ah prog w) A (setDrawn q) Q E s:=by
 obtain⟨o,g,_,d⟩:=y;unfold setDrawn;refine ae (se g d f.fits ?_);refine ae (show ag _ A zo _ E s from ae (sg (ai (ai ?_))));have e:(!btx w&&decide (1<es.size))=(!btx w&&(!t.plain&&decide (es.size > 1))):=by
  by_cases z:es.size=0
  .simp[z]
  .rw[f.plain z];simp
 rw[e] at k;exact k
theorem Jy{α:Type}(f:Nat->Nat)(xs:Array α):(o0 f xs).toList.Perm xs.toList:=by
 have go:∀(m k:Nat) (l:List α) (out:Array α),l.length=m->(BF f m k l out).toList.Perm (out.toList++l):=by
  intro m
  induction m with
  |zero=>intro k l out hl;have:l=[]:=zf.mp hl;subst this;simp[BF]
  |succ m ih=>
   intro k l out hl;have hi:f k%l.length<l.length:=zn _ (by omega);have hg:l[f k%l.length]?=some l[f k%l.length]:=by simp[hi]
   unfold BF;simp only[hg];refine (ih _ _ _ (by rw[EM,if_pos hi];omega)).trans ?_;rw[EE,mE];exact List.Perm.append_left _ (Iu hi)
 have:=go xs.size 0 xs.toList #[] (by simp);simpa [o0] using this
theorem Jx.keep(y:Jx h q es ep t)(e:∀o,h.get? q=some o->h'.get? q=some o):Jx h' q es ep t:=let ⟨o,g,r⟩:=y;⟨o,e o g,r⟩
theorem ItX.keep(x:ItX h I q first j n ep)(e:∀o,h.get? I=some o->h'.get? I=some o):ItX h' I q first j n ep:=let ⟨o,g,r⟩:=x;⟨o,e o g,r⟩
theorem Z9{Q:ac->af->Prop}(x:ItX s.heap I q first j n ep)(k:Q (.ref I) s):ag (ah prog w) A (lI (.ref I)) Q E s:=by
 refine BG x.ty Z8 (hJ Z8 x.ty jM ?_ (pX _));show ag _ _ (ret (.ref I)) _ _ s;exact ai ⟨_,rfl,"set_iterator",_,x.ty,G_.lookup,k⟩
theorem XF{L:List Str}{sl:Nat->Nat}(hne:q≠I)(hf:t.fits es.size=true)(hL:L.length=es.size)(hx:∀(i:Nat) (z:af),Jx z.heap q es ep t->(∃v,(∃u,v=.str (L.getD i eA) u)/\i<es.size/\∀(B:ax) (E2:ac->af->Prop) (R:Option (ac×Nat)->af->Prop),R (some (v,sl (i+1))) z->ag (ah prog w) B (nV q (sl i) i ep) R E2 z)
   ∨ (es.size<=i/\∀(B:ax) (E2:ac->af->Prop) (R:Option (ac×Nat)->af->Prop),R none z->ag (ah prog w) B (nV q (sl i) i ep) R E2 z)):
  ∀A':ax,A'.handled=none->Walks prog w A' I [I,q] [I] L.length (λi v=>∃u,v=.str (L.getD i eA) u) (λi h=>ItX h I q (.int (sl i) 0) i es.size ep/\Jx h q es ep t):=λA' hh=>{
 sub:=λb m=>by simp at m;simp[m]
 frame:=λi h h' st e=>⟨st.1.keep (e I (by simp)),st.2.keep (e q (by simp))⟩
 item:=λi z Q E2 hi st k=>by
  rcases hx i z st.2 with ⟨v,hv,_,nx⟩ | ⟨hle,_⟩
  .refine pO st.1 st.2 hf rfl (λB E3 R y=>by rw[df];exact nx B E3 R y) λh' sb it=>k v h' z.toks hv ⟨it,st.2.keep λo g=>(sb.2 q hne).trans g⟩ λb o nb g=>(sb.2 b λe=>nb (by simp[e])).trans g
  .omega
 done:=λz Q E2 st k=>by
  rcases hx L.length z st.2 with ⟨v,_,hlt,_⟩ | ⟨_,nx⟩
  .omega
  .exact pP hh st.1 st.2 hf rfl (λB E3 R y=>by rw[df];exact nx B E3 R y) λh' kp=>k h' z.toks λb o nb g=>kp b o (λe=>nb (by simp[e])) g
 self:=λi z Q E2 st k=>Z9 st.1 k }
theorem Yx{L:List Str}{ps:List Nat}(hne:q≠I)(hnT:T≠I)(hf:t.fits es.size=true)(hL:L.length=es.size)(hp:ps.length=es.size)(he:∀(i p:Nat),ps[i]?=some p->∃e0 u,es[p]?=some e0/\e0.2=.str (L.getD i eA) u):
  ∀A':ax,A'.handled=none->Walks prog w A' I [I,q,T] [I] L.length (λi v=>∃u,v=.str (L.getD i eA) u) (λi h=>ItX h I q (.ref T) i es.size ep/\Jx h q es ep t/\h.IsTuple T (ps.map λ(i:Nat)=>de i).toArray):=λA' hh=>{
 sub:=λb m=>by simp at m;simp[m]
 frame:=λi h h' st e=>⟨st.1.keep (e I (by simp)),st.2.1.keep (e q (by simp)),st.2.2.at (e T (by simp))⟩
 item:=λi z Q E2 hi st k=>by
  have hi':i<ps.length:=by omega
  have hps:ps[i]?=some ps[i]:=by simp[hi']
  obtain⟨e0,u,g1,g2⟩:=he i _ hps;refine pQ (p:=ps[i]) (u:=0) st.1 st.2.1 hf rfl st.2.2 (by simp[hi',de]) g1 λh' sb it=>k e0.2 h' z.toks ⟨u,g2⟩ ⟨it,st.2.1.keep λo g=>(sb.2 q hne).trans g,st.2.2.at λo g=>(sb.2 T hnT).trans g⟩ λb o nb g=>(sb.2 b λe=>nb (by simp[e])).trans g
 done:=λz Q E2 st k=>pR hh st.1 st.2.1 hf rfl st.2.2 .(17) λh' kp=>k h' z.toks λb o nb g=>kp b o (λe=>nb (by simp[e])) g
 self:=λi z Q E2 st k=>Z9 st.1 k }
end
section
variable {A:ax}{I T:Addr}{first:ac}{t:ib}
def ItOk(prog:cE)(w:br)(s:af)(q:Addr)(ks:List Str)(I:Addr)(h':Heap):Prop:=∃(L:List Str) (fp:List Addr) (Sx:Nat->Heap->Prop),L.Perm ks/\s.heap.objs.size<=I/\(∀b∈fp,b=q∨s.heap.objs.size<=b)/\.(13) ∧
 (∀A':ax,A'.handled=none->Walks prog w A' I fp [I] L.length (λi v=>∃u,v=.str (L.getD i eA) u) Sx)/\Sx 0 h'
theorem jP(f:FX w es t ks){l:List (Int×ac)}(hp:l.Perm es.toList){i:Nat}{e0:Int×ac}(h:l[i]?=some e0):∃u,e0.2=.str ((l.map keyOf).getD i eA) u:=by
 have m:e0∈es.toList:=hp.mem_iff.mp (fN h);obtain⟨_,u,g⟩:=f.ent e0 m;refine⟨u,?_⟩;rw[g];simp[h]
theorem jQ{Q:ac->af->Prop}(x:SetX w s.heap q ks)(k:∀I h' d',ItOk prog w s q ks I h'->Q (.ref I) { s with heap:=h',drawn:=d' }):ag (ah prog w) A (lI (.ref q)) Q E s:=by
  have ty:=x.typeIs;obtain⟨es,t,⟨o,ep,g,ex,d⟩,f⟩:=x;have y:Jx s.heap q es ep t:=⟨o,g,ex,d⟩;have lq:q<s.heap.objs.size:=aT g;have hlen:=f.len;refine BG ty EN (hJ EN ty V0 ?_ (F.args_set_iter_1 _));unfold d4.«frozenset.__iter__»;refine ae (show ag _ _ (pure q) _ _ s from ai ?_);refine ae (show ag _ _ (setEntries q >>= λr=>pure r.size) _ _ s from ae (vS g d f.fits (ai ?_)));have fin:∀(fst:ac) (h1:Heap) (d1:Drawn),(∀b o,s.heap.get? b=some o->h1.get? b=some o)->s.heap.objs.size<=h1.objs.size ->
      (∀h',h'=h1.push { cls:=.type "set_iterator",data:=.fields #[fst,.int 0 0,.ref q,.int es.size 0,.int ep 0] }->ItX h' h1.objs.size q fst 0 es.size ep->Jx h' q es ep t->ItOk prog w s q ks h1.objs.size h') ->
      ag (ah prog w) A.in1 (do ret (<-newFields "set_iterator" [fst,de 0,.ref q,de es.size,de (<-setEpoch q)])) (λfin z=>∃v,fin=.done (.ret v)/\∃T' r,z.TypeIs v T'/\yA (.type T') "__next__"=pure (some r)/\Q v z) E { s with heap:=h1,drawn:=d1 }:=λfst h1 d1 kp le w1=>by
    refine ae (wpAny_setEpoch_of (kp q o g) d f.fits (ae (kX (ai ⟨_,rfl,"set_iterator",_,⟨_,bn _ rfl,rfl⟩,G_.lookup,k _ _ _ (w1 _ rfl ⟨_,bn _ rfl,rfl,rfl⟩ (y.keep λo' g'=>aS _ (kp q o' g')))⟩))))
  refine ae (jO y f ?_);cases bq:btx w with
  |true=>
    rw[show (!true&&decide (1<es.size))=false from rfl];refine ae (ai (fin _ s.heap s.drawn (λ_ _ z=>z) (aE _) λh' eh it sa=>?_));subst eh;refine⟨(o0 (w.params.setOrder q ep) es).toList.map keyOf,[s.heap.objs.size,q],_,((Jy _ es).map keyOf).trans f.perm,aE _,λb m=>by simp at m;rcases m with m | m;exact .inr (tP m.symm);exact .inl m,λb o z=>aS _ z,XF (sl:=λ_=>0) (es:=es) (t:=t) (ep:=ep) (bg lq) f.fits (by rw[aw,(Jy _ es).length_eq,lh]) ?_,it,sa⟩;intro i z ⟨oz,gz,_,dz⟩;have run:∀(B:ax) (E2:ac->af->Prop) (R:Option (ac×Nat)->af->Prop),R (((o0 (w.params.setOrder q ep) es)[i]?).map λe=>(e.2,0)) z->ag (ah prog w) B (nV q 0 i ep) R E2 z:=λB E2 R y2=>by
      unfold nV setWalk;refine ae (se gz dz f.fits ?_);refine ae (show ag _ B zo _ E2 z from ae (sg (ai ?_)));rw[show (ah prog w).w.params.followText "set-order"=true from bq];dsimp only;rw[if_pos rfl,if_neg (by simp)];refine ae (ae (se gz dz f.fits (ae (show ag _ B zo _ E2 z from ae (sg (ai ?_))))));rw[show (ah prog w).w.params.followText "set-order"=true from bq];dsimp only;rw[if_pos rfl];exact ae (sg (ai (ai y2)))
    by_cases hi:i<es.size
    . have hz:i<(o0 (w.params.setOrder q ep) es).size:=by have:=(Jy (w.params.setOrder q ep) es).length_eq;simp at this;omega
      have hg:(o0 (w.params.setOrder q ep) es)[i]?=some (o0 (w.params.setOrder q ep) es)[i]:=by simp[hz]
      obtain⟨u,hu⟩:=jP f (Jy (w.params.setOrder q ep) es) (i:=i) (e0:=(o0 (w.params.setOrder q ep) es)[i]) (by simp[hz]);refine .inl ⟨_,⟨u,hu⟩,hi,λB E2 R y2=>run B E2 R (by rw[hg];exact y2)⟩
    . refine .inr ⟨by omega,λB E2 R y2=>run B E2 R ?_⟩
      rw[zp (by have:=(Jy (w.params.setOrder q ep) es).length_eq;simp at this;omega)];exact y2
  |false=>
    have hled:t.led=true:=f.led bq
    by_cases h2:1<es.size
    . rw[show (!false&&decide (1<es.size))=true by simp[h2],if_pos rfl]
      refine ae (Oa es.size (av es.size) s (by simp) λps d' hp=>?_);have hpl:ps.length=es.size:=by simpa using hp.length_eq
      refine ae (kX (fin _ _ d' (λb o z=>aS _ z) (by rw[hZ];exact iL _) λh' eh it sa=>?_) (show ((ps.map λ(i:Nat)=>de i)).toArray.size<=sizeLine by rw[bS,aw,hpl];exact oC (f6 f.sz (by decide))));subst eh;have szT:(s.heap.push { cls:=.type "tuple",data:=.seq (ps.map λ(i:Nat)=>de i).toArray }).objs.size=s.heap.objs.size+1:=hZ _ _;have eat:∀(i p:Nat),ps[i]?=some p->p<es.size:=λi p z=>by have:=hp.mem_iff.mp (fN z);simpa using this
      refine⟨ps.map λp=>keyOf (es.getD p (0,.none)),[(s.heap.push { cls:=.type "tuple",data:=.seq (ps.map λ(i:Nat)=>de i).toArray }).objs.size,q,s.heap.objs.size],_,?_,by rw[szT];exact iL _,λb m=>?_,λb o z=>aS _ (aS _ z),
        Yx (es:=es) (t:=t) (ep:=ep) (ps:=ps) (by rw[szT];exact bg (mv lq)) (by rw[szT];exact bg (qE _)) f.fits (by simp[hpl]) hpl ?_,it,sa,?_⟩
      . have e1:(av es.size).map (λp=>keyOf (es.getD p (0,.none)))=es.toList.map keyOf:=by
          apply zq
          . simp
          . intro i h1 h2;simp at h1;simp[h1]
        exact ((hp.map λp=>keyOf (es.getD p (0,.none))).trans (by rw[e1])).trans f.perm
      . simp at m
        rcases m with m | m | m
        . right;rw[m];exact iL _
        . exact .inl m
        . exact .inr (tP m.symm)
      . intro i p z
        have lp:=eat i p z;obtain⟨_,u,gu⟩:=f.ent es[p] (by simp);refine⟨es[p],u,by simp[lp],?_⟩;rw[gu];simp[z,lp]
      . exact⟨_,aS _ (bn _ rfl),rfl,0,rfl⟩
    . rw[show (!false&&decide (1<es.size))=false by simp[h2]]
      refine ae (ai (fin _ s.heap s.drawn (λ_ _ z=>z) (aE _) λh' eh it sa=>?_));subst eh;have hpl:t.place.size=es.size:=by have:=f.fits;simp[SetTable.fits] at this;exact this.1
      refine⟨es.toList.map keyOf,[s.heap.objs.size,q],_,f.perm,aE _,λb m=>by simp at m;rcases m with m | m;exact .inr (tP m.symm);exact .inl m,λb o z=>aS _ z,
        XF (sl:=λi=>if i=0 then 0 else t.place.getD 0 0+1) (es:=es) (t:=t) (ep:=ep) (bg lq) f.fits (by simp) ?_,it,sa⟩
      intro i z ⟨oz,gz,_,dz⟩;have run:∀(sl:Nat) (B:ax) (E2:ac->af->Prop) (R:Option (ac×Nat)->af->Prop),R (match es[si t.place sl]?,t.place[si t.place sl]? with | some (_,x),some j=>some (x,j+1) | _,_=>none) z->ag (ah prog w) B (nV q sl i ep) R E2 z:=λsl B E2 R y2=>by
        unfold nV;refine ae (se gz dz f.fits ?_);refine ae (show ag _ B zo _ E2 z from ae (sg (ai ?_)));rw[show (ah prog w).w.params.followText "set-order"=false from bq];dsimp only;rw[if_neg cy];split
        . rename_i hd
          have hd':(!t.plain&&decide (es.size > 1))=true:=hd;simp[h2] at hd'
        . refine ae (show ag _ B (if (!t.led&&!es.isEmpty)=true then unsupported "set:maker-not-led" else pure ()) _ E2 z from ?_)
          rw[if_neg (by rw[hled];simp)];exact ai (ai y2)
      by_cases h0:es.size=0
      . refine .inr ⟨by omega,λB E2 R y2=>run _ B E2 R ?_⟩
        rw[zp (by omega)];exact y2
      . have h1:es.size=1:=by omega
        obtain⟨p,hp⟩:∃p,t.place=#[p]:=by
          have:t.place.size=1:=by omega
          match q0:t.place,this with
          |⟨[p]⟩,_=>exact⟨p,rfl⟩
        by_cases hi:i=0
        . subst hi
          have b0:si t.place 0=0:=by rw[hp];simp[si,EQ]
          obtain⟨_,u,gu⟩:=f.ent es[0] (by simp);refine .inl ⟨es[0].2,⟨u,by rw[gu];simp[h1]⟩,by omega,λB E2 R y2=>run _ B E2 R ?_⟩;simp only[if_true];rw[b0];have e1:es[0]?=some es[0]:=by simp[h1]
          have e2:t.place[0]?=some p:=by rw[hp];rfl
          rw[e1,e2];simpa [hp] using y2
        . have b1:si t.place (p+1)=1:=by rw[hp];simp[si,EQ]
          refine .inr ⟨by omega,λB E2 R y2=>run _ B E2 R ?_⟩;rw[if_neg hi,show t.place.getD 0 0=p by rw[hp];rfl,b1,zp (by omega)];exact y2
end
section
variable {A:ax}{I T:Addr}
theorem jR{Q:Bool->af->Prop}(ty:s.TypeIs (.ref q) "set")(k:Q false s):ag (ah prog w) A (ER (.ref q)) Q E s:=by
 unfold ER;refine ae (oe ty F.slot_set_len.lookup ?_);generalize nm:("set.__len__":String)=sid
 wp_delta
 rw[show splitId sid=some ("set","__len__") by subst nm;decide +kernel];subst nm;refine ae (oi (T:="set") (b:=true) ty (by rw[nN];kernel_rfl) ?_);refine wpAny_ite_split (λz=>absurd z (by decide)) λ_=>wpAny_ite_split (λ_=>ae (uS ty (ai k))) λz=>absurd (by decide +kernel) z
theorem XH{Q:List ac->af->Prop}(hh:A.handled=none)(x:SetX w s.heap q ks)(hz:ks.length<=4000)(k:∀(vs:List ac) (L:List Str) (h':Heap) (tk:Nat) (d':Drawn),L.Perm ks->vs.length=L.length->(∀(i:Nat) (v:ac),vs[i]?=some v->∃u,v=kK (L.getD i eA) u)->s.heap.objs.size<=h'.objs.size->.(13)->Q vs { s with heap:=h',toks:=tk,drawn:=d' }):
  ag (ah prog w) A (wa (.ref q)) Q E s:=by
 obtain⟨lq⟩:Nonempty (q<s.heap.objs.size):=let ⟨_,_,⟨_,_,g,_⟩,_⟩:=x;⟨aT g⟩;unfold wa;refine ae (B7 (lc ES (show ag _ _ (do again (.builtin "list.__iadd__" ⟨[<-newList [],.ref q],[]⟩)) _ _ s from ?_)));refine ae (BH (ai ⟨EH _ (by decide +kernel),lc ET (show ag _ _ (BI (.ref s.heap.objs.size) (.ref q) (.ref s.heap.objs.size)) _ _ _ from ?_)⟩));have x1:SetX w (s.heap.push { cls:=.type "list",data:=.seq ([]:List ac).toArray }) q ks:=x.keep λo g=>aS _ g;unfold BI;refine ae (uS (T:="set") (x1.typeIs (s:={ s with heap:=s.heap.push { cls:=.type "list",data:=.seq ([]:List ac).toArray } })) ?_);have nr:EU (.ref s.heap.objs.size) (.ref q)=false:=by simp[EU,nc lq]
 rw[if_neg (by rw[nr];decide)];refine ae (jQ (s:={ s with heap:=s.heap.push { cls:=.type "list",data:=.seq ([]:List ac).toArray } }) x1 λI h' d' ⟨L,fp,Sx,hL,leI,hfp,kp,W,st⟩=>?_);have x2:SetX w h' q ks:=x1.keep λo g=>kp q o g;refine ae (wpAny_holding (jR (s:={ s with heap:=h',drawn:=d' }) (x2.typeIs (s:={ s with heap:=h',drawn:=d' })) ?_));have gS:h'.get? s.heap.objs.size=some { cls:=.type "list",dict:=none,data:=.seq #[] 0,slots:=#[] }:=kp _ _ (bn _ rfl);have szL:(s.heap.push { cls:=.type "list",data:=.seq ([]:List ac).toArray }).objs.size=s.heap.objs.size+1:=hZ _ _;have nS:s.heap.objs.size∉fp:=λm=>by
  rcases hfp _ m with z | z
  .exact absurd z (nc lq)
  .have z':(s.heap.push { cls:=.type "list",data:=.seq ([]:List ac).toArray }).objs.size<=s.heap.objs.size:=z;rw[szL] at z';exact absurd z' (Nat.not_succ_le_self _)
 have leI':s.heap.objs.size+1<=I:=by rw[<-szL];exact leI
 rw[if_pos (by decide +kernel)];refine ae (og (ae (show ag _ _ (updateSeq s.heap.objs.size (·.push .none) >>= λ_=>updateSeq s.heap.objs.size (·.pop)) _ _ _ from ae (zj gS rfl ?_))));have g1:=pE (ku (·.push jp)) gS rfl;refine zj (hz:=by seq_fits) g1 rfl ?_;have g2:=pE (ku (·.pop)) g1 rfl;have oth:∀b o,b≠s.heap.objs.size->h'.get? b=some o->((h'.update s.heap.objs.size (ku (·.push jp))).update s.heap.objs.size (ku (·.pop))).get? b=some o:=λb o nb g=>(nE _ _ (cp nb)).trans ((nE _ _ (cp nb)).trans g);have st2:=(W A hh).frame 0 _ _ st λb m o g=>oth b o (λz=>nS (z▸m)) g;refine ai ⟨nL PySem.F.plain_extend_loop _,codeAny_extend_loopS (W _ (by simp[hh])).toS (ck (by rw[hL.length_eq];exact hz) (by decide)) s.heap.objs.size nS _ L.length 0 { s with heap:=(h'.update s.heap.objs.size (ku (·.push jp))).update s.heap.objs.size (ku (·.pop)),drawn:=d' } #[] _ rfl (dQ _) st2 g2 (ItemsOf.nil _) λs' acc c' hm gS' ha=>?_⟩;rw[Moved.eq_with hm];show ag _ A (load s.heap.objs.size >>= _) _ _ _;refine ae (xL gS' (ai (k acc.toList L s'.heap s'.toks d' hL (by rw[lh];exact ha.1) (λi v z=>ha.2 i v (by rw[<-AN];exact z)) (oC (aT gS')) λb o g=>?_)));have lb:b<s.heap.objs.size:=aT g;refine hm.heap b o (λm=>?_) (oth b o (bg lb) (kp b o (aS _ g)))
 rcases bb.mp m with z | z
 .exact absurd z (bg lb)
 .exact absurd (gL.mp z) (bg (f6 lb (Nat.le_of_succ_le leI')))
end
theorem XJ:∀{vs:List ac}{L:List Str},vs.length=L.length->(∀(i:Nat) (v:ac),vs[i]?=some v->∃u,v=kK (L.getD i eA) u)->qf vs L
 |[],[],_,_=>.nil
 |[],_::_,h,_=>by simp at h
 |_::_,[],h,_=>by simp at h
 |v::vs,x::L,h,k=>by
  obtain⟨u,e⟩:=k 0 v rfl;have e':v=kK x u:=e;subst e';exact .cons x u (XJ (by simpa using h) λi y z=>by have:=k (i+1) y (by simpa using z);simpa using this)
theorem Ob:∀{r:List Str}{p:Str},EV p r=true->(p::r).Nodup->Up (p::r)
 |[],p,_,_=>by simp[Up]
 |x::r,p,h,nd=>by
  unfold EV at h;rw[gd] at h;obtain⟨h1,h2⟩:=h;obtain⟨n1,n2⟩:=i6.mp nd;have u:=Ob h2 n2;have lt:ltS p x=true:=Z6 (by unfold ltS;simpa [PyProof.Rows.ltCps_eq] using h1) (λe=>n1 (by rw[<-e];exact cS));refine qc.mpr ⟨λy m=>?_,u⟩
  rcases bb.mp m with e | m
  .rw[e];exact lt
  .exact Pz lt ((qc.mp u).1 y m)
theorem Oc(h:PyProof.Rows.sortedS l=true)(nd:l.Nodup):Up l:=by
 cases l with
 |nil=>exact AR
 |cons p r=>exact Ob h nd
section
variable {A:ax}
theorem Yy{Q:ac->af->Prop}(hh:A.handled=none)(x:SetX w s.heap q ks)(h60:ks.length<=60)(k:∀(its:List ac) (e:Nat) (l:Addr) (h':Heap) (tk:Nat) (d':Drawn),qf its (An ks)->h'.get? l=some (sj "list" its.toArray e)->s.heap.objs.size<=l->.(13)->Q (.ref l) { s with heap:=h',toks:=tk,drawn:=d' }):
  ag (ah prog w) A (call (.builtin "sorted") [.ref q]) Q E s:=by
 have nd:ks.Nodup:=let ⟨_,_,_,f⟩:=x;f.nd;refine EW EZ F0 F3 (F4 _) ?_;unfold d4.«sorted»;refine ae (m:=checkCount "sorted" 1 1 _) (ai (ae (XH (A:=A.in1) hh x (by omega) λvs L h1 tk d1 hL hl hv le kp=>?_)));have hS:qf vs L:=XJ hl hv;have hlen:vs.length<=60:=by rw[hl,hL.length_eq];exact h60
 refine ae (BH ?_ (ck hlen (by decide)));have gl:(h1.push { cls:=.type "list",data:=.seq vs.toArray }).get? h1.objs.size=some (sj "list" vs.toArray 0):=bn _ rfl;refine ae (wpAny_holding (hJ F5 ⟨_,gl,rfl⟩ F6 (F7 F8 gl hS.keysOf (λa b r e=>F9 (by rw[<-e];exact hS)) (by omega) λst a1 a2=>⟨_,rfl,?_⟩) (Fc _)));obtain⟨ss,o1,o2,o3⟩:=Fh hS a1 a2;have e:ss=An ks:=R8 (Oc o3 ((o2.trans hL).nodup_iff.mpr nd)) (Ej ks) λy=>by rw[Ay,(o2.trans hL).mem_iff]
 subst e;have at':=Fk (out:=(sA st).map (·.2)) gl;obtain⟨c,hc⟩:∃c,(Fm (h1.push { cls:=.type "list",data:=.seq vs.toArray }) h1.objs.size vs ((sA st).map (·.2))).get? h1.objs.size=some (sj "list" ((sA st).map (·.2)).toList.toArray c):=by
  obtain⟨c,hc⟩:=at';exact⟨c,by rw[hc,Fn]⟩
 refine ai ⟨_,rfl,k _ c _ _ tk d1 o1 hc le λb o g=>?_⟩;have lb:=aT (kp b o g);rw[Fs (bg lb) (by rw[hZ];exact mv lb)];exact aS _ (kp b o g)
end
open L2
section
variable {G:Gx}{a:Expr}{fa:FE}
theorem jT(i:Inv X π σ H s)(d:Drawn):Inv X π σ H { s with drawn:=d }:=⟨i.ok,i.os,i.bare,i.base,i.loc,i.cell,i.free,i.freeC,i.pin,i.hok,i.len⟩
theorem P0:∀{xs:List Str}{us:List ac},qf us xs->Vals (xs.map V.str) us
 |_,_,.nil=>.nil
 |_,_,.cons _ u r=>.cons ⟨u,rfl⟩ (P0 r)
theorem XM(r:Vals (zs.map V.str) us)(i:Nat)(v:ac)(h:us[i]?=some v):∃u,v=kK (zs.getD i eA) u:=by
 have hl:=r.length;rw[aw] at hl;have hi:i<us.length:=(d6.mp h).1;obtain⟨v',h1,u,e⟩:=r.get (i:=i) (x:=V.str (zs[i]'(by omega))) (by rw[be,cf (by omega)];rfl);rw[h] at h1;cases h1;exact⟨u,by rw[e];simp[show i<zs.length by omega]⟩
def dedK(zs:List Str):List Str:=zs.foldl addK []
theorem jU(zs:List Str):metX (λi=>zs.getD i eA) zs.length=dedK zs:=by
 unfold metX dedK;congr 1;apply zq
 .simp
 .intro i h1 h2;simp[h2]
theorem pZ:y∈zs.foldl addK ks↔y∈ks∨y∈zs:=by
 induction zs generalizing ks with
 |nil=>simp
 |cons z r ih=>
  rw[List.foldl_cons,ih];unfold addK;split
  .rename_i hz;constructor
   .rintro (m | m)
    .exact .inl m
    .exact .inr (bE _ m)
   .rintro (m | m)
    .exact .inl m
    .rcases bb.mp m with e | m
     .exact .inl (e▸hz)
     .exact .inr m
  .simp only[eD,bb,mB,or_false,or_assoc]
abbrev SetO (w:br) (q:Addr) (ks:List Str):HO:=.ext λh=>SetX w h q ks
theorem vP(i:Inv X π σ H s)(h:SqL X.K H p (zs.map V.str)):TextsAt X.prog X.w "list" p zs.length (λi=>zs.getD i eA) s.heap:=by
 obtain⟨its,r,pl,_⟩:=i.list h;obtain⟨o,g,c,m,d⟩:=pl.isList;have hl:=r.length;rw[aw] at hl;refine⟨λz e=>⟨o,e o g,c⟩,by rw[nN];kernel_rfl,by rw[nN];kernel_rfl,by decide,aT g,λA E z Q hh e lt k=>?_⟩;have il:z.heap.IsList p its.toArray:=⟨o,e o g,c,m,d⟩;refine tj il (k _ (λi h=>h.IsListIter z.heap.objs.size p i/\h.IsList p its.toArray) (λi v=>its.toArray[i]?=some v) (λA' h'=>by rw[hl,<-bS];exact Fu h' _ p (bg lt) its.toArray) ⟨⟨_,bn _ rfl,rfl,rfl⟩,il.push _⟩ λi v q=>XM r i v (by simpa using q))
theorem vQ(i:Inv X π σ H s)(h:SqT X.K H p (zs.map V.str)):TextsAt X.prog X.w "tuple" p zs.length (λi=>zs.getD i eA) s.heap:=by
 obtain⟨its,r,pl,_⟩:=i.tuple h;obtain⟨o,g,c,m,d⟩:=(show s.heap.IsTuple p its.toArray from pl);have hl:=r.length;rw[aw] at hl;refine⟨λz e=>⟨o,e o g,c⟩,by rw[nN];kernel_rfl,by rw[nN];kernel_rfl,by decide,aT g,λA E z Q hh e lt k=>?_⟩;have il:z.heap.IsTuple p its.toArray:=⟨o,e o g,c,m,d⟩;refine D7 il (k _ (λi h=>h.IsTupleIter z.heap.objs.size p i/\h.IsTuple p its.toArray) (λi v=>its.toArray[i]?=some v) (λA' h'=>by rw[hl,<-bS];exact Walks.tuple h' _ p (bg lt) its.toArray) ⟨⟨_,bn _ rfl,rfl,rfl⟩,il.at λo' g'=>aS _ g'⟩ λi v q=>XM r i v (by simpa using q))
def rSet(X:Cx):List V->Hp->VK->Prop:=λxs H Q=>∃p zs,xs=[.ref p]/\(SqL X.K H p (zs.map V.str)∨SqT X.K H p (zs.map V.str))/\zs.length<=1000/\∀l,H l=none->Q (.ref l) (upd H l (SetO X.w l (dedK zs)))
theorem jV(hc:X.calm=true):Dd X (.type "set") (rSet X):=by
 intro π s σ H xs us Q I r h;obtain⟨p,zs,rfl,hs,hz,k⟩:=h;obtain⟨u,rfl,ru⟩:=vals1 r;cases ru;have go:∀{T:String},TextsAt X.prog X.w T p zs.length (λi=>zs.getD i eA) s.heap->ag .(2) X.A (call (.type "set") [.ref p]) (EP X π σ Q) X.xe s:=λt=>by
  refine vN (I.ok.hd hc) t (rf (DT hz) (by decide)) λh' tk x kp=>?_;rw[jU] at x;refine⟨.ref s.heap.objs.size,_,I.laid (a:=s.heap.objs.size) (o:=SetO X.w s.heap.objs.size (dedK zs)) (t':=tk) kp (aE _) ⟨x,?_,λh1 h2 x1 e=>x1.keep e⟩,rfl,k _ I.fresh⟩;obtain⟨_,_,⟨o,_,g,_⟩,_⟩:=x;exact⟨o,g⟩
 rcases hs with hs | hs
 .exact go (vP I hs)
 .exact go (vQ I hs)
def Z_(X:Cx):List V->Hp->VK->Prop:=λxs H Q=>∃p ks,xs=[.ref p]/\H p=some (SetO X.w p ks)/\ks.length<=60/\∀l,H l=none->Q (.ref l) (upd H l (.lst ((An ks).map V.str)))
theorem XN(hc:X.calm=true):Dd X (.builtin "sorted") (Z_ X):=by
 intro π s σ H xs us Q I r h;obtain⟨p,ks,rfl,hp,hz,k⟩:=h;obtain⟨u,rfl,ru⟩:=vals1 r;cases ru;obtain⟨x,_,_⟩:=(show Bc X.prog X.w H s.heap p (SetO X.w p ks) from I.hok p _ hp);refine Yy (I.ok.hd hc) x hz λits e l h' tk d' hS g le kp=>?_;have hv:=P0 hS;refine⟨.ref l,_,jT (I.laid (a:=l) (o:=.lst ((An ks).map V.str)) (t':=tk) kp le ⟨?_,its,e,hv,g⟩) d',rfl,k l (I.hok.fresh le)⟩;rw[aw];have:=sub_len (La (Ej ks)) (m:=ks) λy m=>(Ay y ks).mp m;exact ck this (ck hz (by decide))
theorem XQ{ds:List D}(r:RepL G H xs ds)(h:Ju ds=some zs):xs=zs.map V.str:=W3 r h
theorem yS{p q:Pos}(hc:X.calm=true)(hG:G.K=X.K)(hg:Gl X x)(hm:X.mg x=none)(hv:cr x=some (.builtin "sorted"))(hg2:Gl X y)(hm2:X.mg y=none)(hv2:cr y=some (.type "set"))(ha:PU X G a fa)(hn:x≠"__name__":=by decide)(hdb:.(12)=false:=by decide)(hn2:y≠"__name__":=by decide)(hdb2:(y==("__debug__":Str))=false:=by decide)(he:ar [a] X.env=[.(16)]:=by rfl)(he2:ar [.Call (.Name y q) [a] [] pos2] X.env=[(false,eval (.Call (.Name y q) [a] [] pos2) X.env)]:=by rfl):
    PF X G (.Call (.Name x p) [.Call (.Name y q) [a] [] pos2] [] pos) (uF ssD fa):=λA=>Bx (Nq (XN hc) hg hm hv (B_ (Ii (jV hc) hg2 hm2 hv2 (B_ (@ha A) Dw he) hn2 hdb2 he rfl) Dw he2) hn hdb he2 rfl) λσ H Q ⟨ρ,d,o,e,k⟩=>by
  obtain⟨dx,e1,e2⟩:=Hu e;have core:∀(ds:List D) (v:V) (H1:Hp) (pp:Addr) (xs:List V),Same H H1->ssL ds=some d->v=.ref pp->(SqL G.K H1 pp xs∨SqT G.K H1 pp xs)->RepL G (hid A H1) xs ds ->
      rSet X [v] H1 λx2 H2=>Z_ X [x2] H2 Q:=λds v H1 pp xs s1 e3 ev hs r=>by
    unfold ssL at e3;cases ez:Ju ds with
    |none=>simp[ez] at e3
    |some zs=>
      rw[ez] at e3;have e4:(if zs.length<=1000/\(An zs).length<=60 then some (D.lst ((An zs).map .str)) else none)=some d:=e3;split at e4
      . rename_i hz
        cases e4;have ex:=XQ r ez;subst ex;have nd:(dedK zs).Nodup/\∀y,y∈dedK zs↔y∈zs:=by
          refine⟨?_,λy=>by unfold dedK;rw[pZ];simp⟩;have:∀(l ks:List Str),ks.Nodup->(l.foldl addK ks).Nodup:=by
            intro l
            induction l with
            |nil=>intro ks h;exact h
            |cons z r ih=>
              intro ks h;refine ih _ ?_;unfold addK;split
              . exact h
              . rename_i nz
                exact dL.mpr ⟨h,by simp,λa ha b hb e=>nz (by cases gL.mp hb;rw[<-e];exact ha)⟩
          exact this zs [] (by simp)
        have es:An (dedK zs)=An zs:=R8 (Ej _) (Ej _) λy=>by rw[Ay,Ay,nd.2]
        have l60:(dedK zs).length<=60:=ck (sub_len nd.1 λy m=>(Ay y zs).mpr ((nd.2 y).mp m)) hz.2;refine⟨pp,zs,by rw[ev],by rw[<-hG];exact hs,hz.1,λl hl=>⟨l,dedK zs,rfl,Ak,l60,λm hm2=>?_⟩⟩;rw[es];have o1:=(o.mono s1);have n1:l≠m:=λz=>by rw[<-z,Ak] at hm2;cases hm2
        have hm1:H1 m=none:=by rw[Aq (cp n1)] at hm2;exact hm2
        have sm:Same H1 (upd (upd H1 l (SetO X.w l (dedK zs))) m (.lst ((An zs).map V.str))):=(Ar hl _).trans (Ar hm2 _);refine k _ _ (s1.trans sm) (.lst (.of (xs:=(An zs).map V.str) ?_) (by simp) λi v d h1 h2=>?_)
        . rw[BL (λz=>(o1.live m z).ne hm1),Ak]
        . rw[be] at h1 h2
          cases q:(An zs)[i]? with
          |none=>rw[q] at h1;cases h1
          |some z=>rw[q] at h1 h2;cases h1;cases h2;exact .str z
      . cases e4
  refine⟨ρ,dx,o,e1,λv H1 s1 r1=>?_⟩;unfold ssD at e2;split at e2
  . obtain⟨pp,xs,ev,hs,r⟩:=r1.lst
    exact core _ v H1 pp xs s1 e2 ev (.inl hs) r
  . obtain⟨pp,xs,ev,hs,r⟩:=r1.tup
    exact core _ v H1 pp xs s1 e2 ev (.inr hs) r
  . cases e2
end
end PV
namespace PV
open PySem L2
end PV
namespace PV
open PySem PySem.Spec L2
open PyProof.Rows hiding St
section
variable {G:Gx}{a b c:Expr}{fa fb fc:FE}{p2 px:Pos}
end
def getK{κ:Type}[DecidableEq κ](k:κ):List (κ×D)->Option D
 |[]=>none
 |p::r=>if p.1=k then some p.2 else getK k r
def repK{κ:Type}[DecidableEq κ](k:κ)(v:D):List (κ×D)->List (κ×D)
 |[]=>[]
 |p::r=>(p.1,if p.1=k then v else p.2)::repK k v r
def putL{κ:Type}[DecidableEq κ](k:κ)(v:D)(kds:List (κ×D)):List (κ×D):=if (getK k kds).isSome then repK k v kds else kds++[(k,v)]
def keyD:D->Option Key
 |.int i=>some (.inl i)
 |.str x=>some (.inr x)
 |_=>none
def Qi:List D->Option (List Key)
 |[]=>some []
 |d::r=>(keyD d).bind λk=>(Qi r).map (k::·)
section
variable {κ:Type} [DecidableEq κ] {G:Gx}
theorem Od{k:κ}:∀{kds:List (κ×D)}{kvs:List (κ×V)},kvs.map (·.1)=kds.map (·.1)->RepL G H (kvs.map (·.2)) (kds.map (·.2))->(∀d,getK k kds=some d->∃v,valV kvs k=some v/\Rep G H v d)/\(valV kvs k).isSome=(getK k kds).isSome
 |[],kvs,e,r=>by
  cases kvs with
  |nil=>exact⟨λd h=>by simp[getK] at h,rfl⟩
  |cons p q=>simp at e
 |p::kds,kvs,e,r=>by
  cases kvs with
  |nil=>simp at e
  |cons q kvs=>
   rw[ba,ba] at e;injection e with e1 e2
   rw[ba,ba] at r;obtain⟨x,ys,e3,r1,r2⟩:=r.uncons;injection e3 with e4 e5
   subst e4 e5;have ih:=Od (k:=k) e2 r2
   by_cases h:p.1=k
   .have h':q.1=k:=e1.trans h;rw[Nx h'];refine⟨λd hd=>?_,?_⟩
    .simp only[getK,if_pos h] at hd;cases hd;exact⟨_,rfl,r1⟩
    .simp[getK,if_pos h]
   .have h':¬ q.1=k:=λz=>h (e1.symm.trans z);rw[Ny h'];simp only[getK,if_neg h];exact ih
theorem aA{k:κ}{v:V}{d:D}(rv:Rep G H v d):∀{kds:List (κ×D)}{kvs:List (κ×V)},kvs.map (·.1)=kds.map (·.1)->RepL G H (kvs.map (·.2)) (kds.map (·.2)) ->
  (kvs.map λkv=>if kv.1=k then (kv.1,v) else kv).map (·.1)=(repK k d kds).map (·.1)/\RepL G H ((kvs.map λkv=>if kv.1=k then (kv.1,v) else kv).map (·.2)) ((repK k d kds).map (·.2))
 |[],kvs,e,r=>by
  cases kvs with
  |nil=>exact⟨rfl,RepL.nil⟩
  |cons p q=>simp at e
 |p::kds,kvs,e,r=>by
  cases kvs with
  |nil=>simp at e
  |cons q kvs=>
   rw[ba,ba] at e;injection e with e1 e2
   rw[ba,ba] at r;obtain⟨x,ys,e3,r1,r2⟩:=r.uncons;injection e3 with e4 e5
   subst e4 e5;have ih:=aA rv (k:=k) e2 r2
   by_cases h:p.1=k
   .have h':q.1=k:=e1.trans h;refine⟨?_,?_⟩
    .simp only[ba,if_pos h',repK];rw[ih.1,e1]
    .simp only[ba,if_pos h',repK,if_pos h];exact .cons rv ih.2
   .have h':¬ q.1=k:=λz=>h (e1.symm.trans z);refine⟨?_,?_⟩
    .simp only[ba,if_neg h',repK];rw[ih.1,e1]
    .simp only[ba,if_neg h',repK,if_neg h];exact .cons r1 ih.2
theorem RG{k:κ}{d:D}(rv:Rep G H v d){kds:List (κ×D)}{kvs:List (κ×V)}(e:kvs.map (·.1)=kds.map (·.1))(r:RepL G H (kvs.map (·.2)) (kds.map (·.2))):
  (putK kvs k v).map (·.1)=(putL k d kds).map (·.1)/\RepL G H ((putK kvs k v).map (·.2)) ((putL k d kds).map (·.2)):=by
 unfold putK putL;rw[Ri,(Od (k:=k) e r).2];split
 .exact aA rv e r
 .rw[dP,dP,dP,dP,e];exact⟨rfl,r.append (.cons rv .nil)⟩
end
theorem XR{G:Gx}{d:D}{k:Key}(r:RepT G A H v d)(h:keyD d=some k):v=kV k:=by
 cases d with
 |int i=>cases h;exact r.int
 |str x=>cases h;exact r.str
 |_=>cases h
theorem Jz{G:Gx}{d:D}{k:Key}(r:Rep G H v d)(h:keyD d=some k):v=kV k:=by
 cases d with
 |int i=>cases h;cases r;rfl
 |str x=>cases h;cases r;rfl
 |_=>cases h
theorem Ux{G:Gx}{H:Hp}:∀{ds:List D}{vs:List V}{ks:List Key},RepL G H vs ds->Qi ds=some ks->vs=ks.map kV
 |[],vs,ks,r,h=>by cases h;exact r.nil_inv
 |d::ds,vs,ks,r,h=>by
  obtain⟨x,ys,rfl,r1,r2⟩:=r.uncons;cases e1:keyD d with
  |none=>simp[Qi,e1] at h
  |some k=>
   cases e2:Qi ds with
   |none=>simp[Qi,e1,e2] at h
   |some ks'=>
    simp[Qi,e1,e2] at h;subst h;rw[Jz r1 e1,Ux r2 e2];rfl
section
variable {G:Gx}{a b c:Expr}{fa fb fc:FE}{p2 px:Pos}{es:List Expr}{fs:FA}
theorem J0:PN X G (.Dict [] [] pos) (kF (.dk [])):=λA=>Bx fQ λσ H Q ⟨ρ,d,o,e,k⟩=>by
 cases e;exact λp hp=>k p _ (Ar hp _) hp ⟨[],Ak,rfl,RepL.nil⟩
theorem yU:PN X G (.Dict [] [] pos) (kF (.dt [])):=λA=>Bx fU λσ H Q ⟨ρ,d,o,e,k⟩=>by
 cases e;exact λp hp=>k p _ (Ar hp _) hp ⟨[],Ak,rfl,RepL.nil⟩
theorem PN.pf(h:PN X G a fa):PF X G a fa:=λA π s σ H Q I ⟨ρ,d,o,e,k⟩=>
 thn (@h A π s σ H (λv H'=>∃p,v=.ref p/\Same H H'/\H p=none/\Top G (p::A) H' p d) I ⟨ρ,d,o,e,λp H' sm hp t=>⟨p,rfl,sm,hp,t⟩⟩) λu s1 ⟨v,H1,I1,r1,p,ev,sm,hp,t⟩=>by
  subst ev;have hpA:p∉A:=λz=>(o.live p z).ne hp;have up:∀ob,Same (hid (p::A) H1) (hid A (upd H1 p ob)):=λob=>by
   rw[<-Bg (A:=p::A) (H:=H1) (o:=ob) (cS ..)];exact Dz λb hb=>bE _ hb
  have sm':∀ob,Same H (upd H1 p ob):=λob b u hb=>by
   rw[Aq (λz:b=p=>by rw[z,hp] at hb;cases hb)];exact sm b u hb
  cases d with
  |lst ds=>
   obtain⟨xs,a1,a2⟩:=t;have q:=a2.mono (Dz (A:=A) (B:=p::A) (H:=H1) λb hb=>bE _ hb);exact⟨_,H1,I1,r1,k _ H1 sm (.lst (.of (by rw[BL hpA];exact a1)) q.1 q.2)⟩
  |dk ds=>
   obtain⟨xs,a1,a2,a3⟩:=t;obtain⟨ob,I2⟩:=Inv.frzK I1 a1;exact⟨_,_,I2,r1,k _ _ (sm' _) (.dk (by rw[BL hpA];exact Ak) a2 (a3.mono (up _)).2)⟩
  |dt ds=>
   obtain⟨xs,a1,a2,a3⟩:=t;obtain⟨ob,I2⟩:=Inv.frzT I1 a1;exact⟨_,_,I2,r1,k _ _ (sm' _) (.dt (by rw[BL hpA];exact Ak) a2 (a3.mono (up _)).2)⟩
  |ob c gs=>
   obtain⟨C,dx,xs,a1,a2,a3⟩:=t;have q:=a3.mono (Dz (A:=A) (B:=p::A) (H:=H1) λb hb=>bE _ hb);exact⟨_,H1,I1,r1,k _ H1 sm (.ob a2.1 (by rw[BL hpA];exact a1) a2.2 q.2)⟩
  |_=>exact t.elim
theorem Uy:PF X G (.Dict [] [] pos) (kF (.dk [])):=PN.pf J0
def rDIn(neg:Bool):R2:=λx y H Q=>∃a kvs k,y=.ref a/\Rd H a (.dK kvs)/\x=kV k/\Q (.bl (if neg then !(valV kvs k).isSome else (valV kvs k).isSome)) H
theorem Yz(hu:X.A.units+1<bi):OpR X (d3 .In) (rDIn false):=by
 intro π s σ H x y v u Q I rx ry h;obtain⟨a,kvs,k,rfl,e,rfl,q⟩:=h;cases ry;exact d_in hu I (.inl ⟨kvs,k,e,rfl,rfl⟩) rx λs' I'=>⟨.bl _,H,I',rfl,q⟩
theorem cV(hu:X.A.units+1<bi):OpR X (d3 .NotIn) (rDIn true):=by
 intro π s σ H x y v u Q I rx ry h;obtain⟨a,kvs,k,rfl,e,rfl,q⟩:=h;cases ry;exact oW hu I (.inl ⟨kvs,k,e,rfl,rfl⟩) rx λs' I'=>⟨.bl _,H,I',rfl,q⟩
def inE(neg:Bool)(x y:D):Option D:=match y with
 |.dk kds=>(keyD x).map λk=>.bl (if neg then !(getK k kds).isSome else (getK k kds).isSome)
 |_=>inD neg x y
theorem ph(neg:Bool):Dm G (λx y H Q=>rInA G.K neg x y H Q∨rDIn neg x y H Q) (inE neg):=by
 intro A H x y dx dy d Q lv rx ry h k;unfold inE at h;split at h
 .rename_i kds;cases e:keyD dx with
  |none=>simp[e] at h
  |some q=>
   obtain⟨p,kvs,rfl,h1,h2,r⟩:=ry.dk;have h3:=(Od (k:=q) h2 r).2;rw[e] at h;cases h;refine .inr ⟨p,kvs,q,rfl,h1,XR rx e,?_⟩;rw[h3];exact k _ H (Same.refl H) (.bl _)
 .exact .inl (vI neg A H x y dx dy d Q lv rx ry h k)
def rDIx:R2:=λx y H Q=>∃a kvs k v,x=.ref a/\Rd H a (.dK kvs)/\y=kV k/\valV kvs k=some v/\Q v H
theorem yV(hu:X.A.units+1<bi):IxR X rDIx:=by
 intro value slice π s σ H x y v u Q I rx ry h hs;obtain⟨a,kvs,k,z,rfl,e,rfl,l,q⟩:=h;cases rx;have g:DGet H a (kV k) (some z):=.inl ⟨kvs,k,e,rfl,l.symm⟩;have hT:=Wq I g;unfold AJ;refine ae ?_;rw[getitemInPython_of_ne hT.not_modules];refine ae (oe hT PySem.F.slot_dict_getitem.lookup ?_);have fin:ag .(2) X.A (AK slice false (.ref a) u) (λr s₃=>ag .(2) X.A (letTemporaryGo value (.ref a) r >>= λ_=>pure r) (EP X π σ Q) X.xe s₃) X.xe s:=by
  rw[hs];exact wpAny_operating (cB hu I g ry λw' s3 I3 rw'=>ae (wpAny_letTemporaryGo (ai ⟨z,H,I3,rw',q⟩)))
 first
  |exact ai (ae fin)
  |exact ae (ai (ae fin))
  |exact ae fin
def ixE(x y:D):Option D:=match x with
 |.dk kds=>(keyD y).bind λk=>getK k kds
 |_=>ixD x y
theorem pq:Dm G (λx y H Q=>rIx G.K x y H Q∨rDIx x y H Q) ixE:=by
 intro A H x y dx dy d Q lv rx ry h k;unfold ixE at h;split at h
 .rename_i kds;cases e:keyD dy with
  |none=>simp[e] at h
  |some q=>
   obtain⟨p,kvs,rfl,h1,h2,r⟩:=rx.dk;simp[e] at h;obtain⟨v,h3,r3⟩:=(Od (k:=q) h2 r).1 d h;exact .inr ⟨p,kvs,q,v,rfl,h1,XR ry e,h3,k v H (Same.refl H) r3⟩
 .exact .inl (gH A H x y dx dy d Q lv rx ry h k)
theorem vR(hu:X.A.units+1<bi)(hG:G.K=X.K)(ha:PU X G a fa)(hb:PU X G b fb)(hs:Nu b):PF X G (.Subscript a b pos) (bF ixE fa fb):=
 λA=>Bx (rW (r:=λx y H Q=>rIx X.K x y H Q∨rDIx x y H Q) (fD.or (yV hu)) (@ha A) (@hb A) hs) λ_ _ _ h=>M5 (by rw[<-hG];exact pq) h
def Cj(x y v:D):Option D:=match x with
 |.dk kds=>(keyD y).bind λk=>if kds.length<sizeLine then some (.dk (putL k v kds)) else none
 |_=>none
def putF(i:Nat)(fk fv:FE):FS:=λρ=>(fv ρ).bind λv=>(fk ρ).bind λy=>(ownO ρ i).bind λx=>(Cj x y v).map λz=>.nx (ρ.set i (.ow z))
theorem cW{ρ:Rho}{o:Out}(h:putF i fa fb ρ=some o):∃v y x z,fb ρ=some v/\fa ρ=some y/\ρ[i]?=some (.ow x)/\Cj x y v=some z/\o=.nx (ρ.set i (.ow z)):=by
 unfold putF at h;cases e1:fb ρ with
 |none=>simp[e1] at h
 |some v=>
  cases e2:fa ρ with
  |none=>simp[e1,e2] at h
  |some y=>
   cases e3:ownO ρ i with
   |none=>simp[e1,e2,e3] at h
   |some x=>
    cases e4:Cj x y v with
    |none=>simp[e1,e2,e3,e4] at h
    |some z=>
     simp[e1,e2,e3,e4] at h;exact⟨v,y,x,z,rfl,rfl,Ij e3,e4,h.symm⟩
theorem Hv(hu:X.A.units+1<bi)(hv:PE X .(15) (tVar i))(ha:PF X G a fa)(hb:PF X G b fb)(hs:eI b (some (.Subscript .(15) a spos)) pos.line X.env=pure false:=by rfl):PSD X G (.Assign [.Subscript .(15) a spos] b pos) (putF i fa fb):=λA0 He π s σ H D I ⟨ρ,o,⟨A,w⟩,e,k⟩=>by
 obtain⟨v,y,x0,z,e1,e2,hi,e3,rfl⟩:=cW e;refine Q9 hu hv (@ha A) (@hb A) hs π s σ H D I ?_;unfold Cj at e3;split at e3
 .rename_i kds;cases e4:keyD y with
  |none=>simp[e4] at e3
  |some q=>
   simp only[e4,dS] at e3;split at e3
   .rename_i hz;cases e3;obtain⟨p,h1,hA,kvs,h2,hk,r⟩:=w.ok.ow i _ hi;refine⟨ρ,v,w.ok,e1,λu H1 s1 r1=>⟨_,h1,ρ,y,(w.mono s1).ok,e2,λyv H2 s2 r2=>?_⟩⟩;have ek:=Jz r2 e4;subst ek;have hl:kvs.length<sizeLine:=by
     have:=congrArg dE hk;rw[aw,aw] at this;omega
    refine⟨p,_,rfl,DPut.k (s2 _ _ (s1 _ _ h2)) hl,?_⟩;have w2:=(w.mono s1).mono s2;have pk:=RG (k:=q) (r1.mono (Az s2)) hk (r.mono (Az (s1.trans s2)));refine k _ _ ⟨A,w2.wr hi h1 ⟨_,Ak,pk.1,?_⟩⟩;rw[Bg hA];exact pk.2
   .cases e3
 .cases e3
def aB:D->Option D
 |.dk kds=>some (.dk kds)
 |_=>none
theorem Y0:Dd X (.type "dict") (λxs H Q=>∃a kvs,xs=[.ref a]/\Rd H a (.dK kvs)/\∀p,H p=none->Q (.ref p) (upd H p (.dK kvs))):=by
 intro π s σ H xs us Q I rs h;obtain⟨a,kvs,rfl,e,q⟩:=h;obtain⟨u,rfl,ru⟩:=rs.one;cases ru;exact fV I e λp s' hp I'=>⟨.ref p,_,I',rfl,q p hp⟩
theorem p6{p:Pos}(hg:Gl X x)(hm:X.mg x=none)(hv:cr x=some (.type "dict"))(ha:PU X G a fa)(hn:x≠"__name__":=by decide)(hdb:.(12)=false:=by decide)(he:ar [a] X.env=[.(16)]:=by rfl):PN X G (.Call (.Name x p) [a] [] pos) (uF aB fa):=
 λA=>Bx (Ii Y0 hg hm hv (B_ (@ha A) Dw he) hn hdb he rfl) λσ H Q ⟨ρ,d,o,e,k⟩=>by
  obtain⟨x0,e1,e2⟩:=Hu e;unfold aB at e2;split at e2
  .cases e2;refine⟨ρ,_,o,e1,λv H1 s1 r1=>?_⟩;obtain⟨q,kvs,rfl,h1,h2,r⟩:=r1.dk;exact⟨q,kvs,rfl,h1,λp hp=>k p _ (s1.trans (Ar hp _)) (s1.free hp) ⟨kvs,Ak,h2,r.mono (Gz (Ar hp _) hp)⟩⟩
  .cases e2
end
theorem Hw{α β:Type}{R:α->β->Prop}:∀{xs:List α}{ys:List β}{i:Nat}{x:α}{y:β},mS R xs ys->xs[i]?=some x->ys[i]?=some y->R x y
 |_,_,i,x,y,.nil,h,_=>by simp at h
 |_,_,0,x,y,.cons r _,h1,h2=>by
  simp at h1 h2;rw[<-h1,<-h2];exact r
 |_,_,i+1,x,y,.cons _ t,h1,h2=>Hw t (by simpa using h1) (by simpa using h2)
def Itd(a:Addr)(o:Obj)(kvs:List (Key×V)):It:=
 ⟨λi H=>H a=some (.frz o (.dK kvs))/\i<kvs.length,λi H x H'=>H'=H/\∃p,kvs[i]?=some p/\x=kV p.1,λi H=>H a=some (.frz o (.dK kvs))/\kvs.length<=i⟩
theorem relK{k:Key}(h:(Av P w).is k u=true):RelV (kV k) u:=by
 rcases CW h with ⟨i,t,rfl,rfl⟩ | ⟨x,t,rfl,rfl⟩
 .exact⟨t,rfl⟩
 .exact⟨t,rfl⟩
theorem P_{kvs:List (Key×V)}{es:Array mi}(I:Inv X π σ H s)(e:H a=some (.frz o (.dK kvs)))(hd:o.data=.dict es ep):
  (a==fq)=false/\∃vs,KV kvs vs/\s.heap.DictAt (Av X.prog X.w) a vs ep:=by
 obtain⟨ho,z,hm,vs,rel,o',es',ep',ho',h1,h2,h3⟩:=(show Bc X.prog X.w H s.heap a (.frz o (.dK kvs)) from I.hok a _ e);rw[ho] at ho';cases ho';rw[hd] at h2;cases h2;exact⟨hm,vs,rel,o,es,ho,h1,hd,h3⟩
theorem cX{K:ay}(a it:Addr){o:Obj}{es:Array mi}{ep:Nat}(hd:o.data=.dict es ep)(kvs:List (Key×V)):Turn P w K tg (Itd a o kvs) [it] it (λi h=>h.IsKeyIter it a i kvs.length ep) where
 mem:=by simp
 obj:=λi h st b hb=>by
  have e:b=it:=by simpa using hb
  subst e;obtain⟨o,e,c,d⟩:=st;exact⟨o,e,λv z=>by rw[d] at z;cases z⟩
 keep:=λi h h' st k=>let ⟨o,e,c,d⟩:=st;⟨o,k it (by simp) o e,c,d⟩
 item:=by
  intro X hP hw hK hc i π s σ H E I hf st hg;subst hP hw hK;obtain⟨he,hi⟩:=hg;obtain⟨hm,vs,rel,dd⟩:=P_ I he hd;have hl:kvs.length=vs.length:=rel.length;obtain⟨f0,f1,f2,f3,f4,f5⟩:=hf it (by simp);have hv:vs[i]?=some (vs[i]'(by omega)):=by simp[show i<vs.length by omega]
  have hk:kvs[i]?=some (kvs[i]'hi):=by simp[hi]
  have hkk:(kvs[i]'hi).1=(vs[i]'(by omega)).1:=(Hw rel hk hv).1;refine wpAny_pyNext_dict_item (knd:=Av X.prog X.w) (kvs:=vs) (k:=(vs[i]'(by omega)).1) (v:=(vs[i]'(by omega)).2) (by rw[<-hl];exact st) dd hv λkey h' hkey st' sb=>?_;rw[<-hl] at st';have I1:Inv X π σ H { s with heap:=h' }:=I.turned (t':=s.toks) (λb o hb e=>(sb.2 b hb).trans e) f0 f1 f3 f4 f5;obtain⟨o1,e1,c1,d1⟩:=id st';exact⟨key,rfl,Ug (s:={ s with heap:=h' }) e1 c1 d1 (by decide) ⟨kV (kvs[i]'hi).1,H,I1,by rw[hkk];exact relK hkey,⟨rfl,_,hk,rfl⟩,st',λb hb=>(hf b hb).1⟩⟩
 done:=by
  intro X hP hw hK hc i π s σ H E I hf st hg;subst hP hw hK;obtain⟨he,hi⟩:=hg;obtain⟨hm,vs,rel,dd⟩:=P_ I he hd;have hl:kvs.length=vs.length:=rel.length;obtain⟨f0,f1,f2,f3,f4,f5⟩:=hf it (by simp);exact wpAny_pyNext_dict_end (I.ok.hd hc) (by rw[<-hl];exact st) dd (by rw[nK];omega) λh' eb=>⟨rfl,I.turned (t':=s.toks) (λb o hb e=>eb b o hb e) f0 f1 f3 f4 f5⟩
 self:=λ_ _ _ _ _ st h=>FB st h
section
variable {G:Gx}{a b c:Expr}{fa fb fc:FE}{p2:Pos}{tl:TE}
def yW(tl:TE):TI:=λσ H R=>tl σ H λx H1=>∃a o kvs,x=.ref a/\H1 a=some (.frz o (.dK kvs))/\R (Itd a o kvs) H1
theorem p7{l:Expr}(hl:PE X l tl):PI X tg l (yW tl):=by
 intro π s σ H R I h;refine thn (hl π s σ H _ I h) λv s1 ⟨x,H1,I1,r1,q1⟩=>?_;obtain⟨a,o,kvs,e,hq,q⟩:=q1;subst e;cases r1;obtain⟨_,_,_,_,_,o',es,ep,ho',h1,h2,_⟩:=(show Bc X.prog X.w H1 s1.heap a (.frz o (.dK kvs)) from I1.hok a _ hq);obtain⟨ho,_⟩:=(show Bc X.prog X.w H1 s1.heap a (.frz o (.dK kvs)) from I1.hok a _ hq);rw[ho] at ho';cases ho';obtain⟨hm,vs,rel,dd⟩:=P_ I1 hq h2;have hl':kvs.length=vs.length:=rel.length;refine wpAny_pyIter_dict hm dd ?_;refine⟨s1.heap.objs.size,[s1.heap.objs.size],_,_,H1,rfl,I1.kept (t':=s1.toks) λb o e=>aS _ e,cX a _ h2 kvs,⟨_,bn _ rfl,rfl,by rw[hl'];rfl⟩,λb hb=>?_,q⟩;have e:b=s1.heap.objs.size:=by simpa using hb
 subst e;exact I1.fpOk (aE _) (I1.hok.fresh (aE _))
def kDt:Key->D
 |.inl i=>.int i
 |.inr x=>.str x
theorem RJ(k:Key):Rep G H (kV k) (kDt k):=by
 cases k with
 |inl i=>exact .int i
 |inr x=>exact .str x
def seqE(f:FE):FI:=λρ=>match f ρ with | some (.lst ds)=>some ds | some (.tup ds)=>some ds | some (.dk kds)=>some (kds.map λp=>kDt p.1) | _=>none
theorem jW{kvs:List (Key×V)}{kds:List (Key×D)}(h:F1 p=some (.frz o (.dK kvs)))(e:kvs.map (·.1)=kds.map (·.1)):Src G (Itd p o kvs) (kds.map λp=>kDt p.1) F1 F2:=by
 have hl:kvs.length=kds.length:=by have:=congrArg dE e;rwa [aw,aw] at this
 refine⟨λi H s hi=>⟨s _ _ h,by rw[hl];rwa [aw] at hi⟩,λi H x H' d s hd y=>?_,λi H s hi=>⟨s _ _ h,by rw[hl];rwa [aw] at hi⟩⟩;obtain⟨y1,q,y2,y3⟩:=y;refine Px ⟨y1,?_⟩;have e1:(kvs.map (·.1))[i]?=some q.1:=by rw[be,y2];rfl
 rw[e,be] at e1;rw[be] at hd;cases e2:kds[i]? with
 |none=>rw[e2] at hd;cases hd
 |some z=>
  rw[e2] at e1 hd;cases hd;injection e1 with e1
  rw[y3,<-e1];exact RJ _
theorem jX(hG:G.K=X.K)(h:PF X G a fa):PFI X G false tg a (seqE fa):=λA=>Rt (piOr (pG hG h (A:=A)) (p7 (@h A))) λσ H R ⟨ρ,ds,o,e,k⟩=>by
 unfold seqE at e;split at e
 .rename_i ds' e1;cases e;exact .inl ⟨ρ,_,o,by unfold seqI;rw[e1],k⟩
 .rename_i ds' e1;cases e;exact .inl ⟨ρ,_,o,by unfold seqI;rw[e1],k⟩
 .rename_i kds e1;cases e;refine .inr ⟨ρ,_,o,e1,λv H1 s1 r1=>?_⟩;cases r1 with
  |dk h l r=>exact⟨_,_,_,rfl,Am _ _ h,k _ H1 s1 (jW h l)⟩
 .cases e
end
section
variable {A:ax}
theorem yX{l:Addr}{its:Array ac}(ne:l≠it):∀(m i:Nat) (s:af) (Q:List ac->af->Prop),s.heap.IsListIter it l i->s.heap.IsList l its->i+m=its.size ->
  (∀h',h'.IsListIter it l its.size->i7 it s.heap h'->Q (its.toList.drop i) { s with heap:=h' })->ag (ah prog w) A (draw (.ref it) m) Q E s:=by
 intro m
 induction m with
 |zero=>
  intro i s Q hi hl hm k;refine ai ?_;have hz:i=its.size:=by omega
  have e:its.toList.drop i=[]:=by rw[List.drop_eq_nil_iff];simp[hz]
  rw[<-e];exact k s.heap (hz▸hi) (EF ..)
 |succ m ih=>
  intro i s Q hi hl hm k;have lt:i<its.size:=by omega
  refine ae (m:=eJ (.ref it)) (D4 hi hl (x:=its[i]) (by simp[lt]) λh1 hi1 sb1=>?_);have hl1:h1.IsList l its:=let ⟨o,e,r⟩:=hl;⟨o,(sb1.2 l ne).trans e,r⟩;refine ae (wpAny_holding (ih (i+1) _ _ hi1 hl1 (by omega) λh2 hi2 sb2=>ai ?_));have e:its.toList.drop i=its[i]::its.toList.drop (i+1):=by simp[rS,lt]
  rw[<-e];exact k h2 hi2 (sb1.trans sb2)
theorem p8{l:Addr}{its:Array ac}{Q:List ac->af->Prop}(hh:A.handled=none)(hl:s.heap.IsList l its)(k:∀h',zr s.heap.objs.size s.heap h'->Q its.toList { s with heap:=h' }):ag (ah prog w) A (unpackItems (.ref l) its.size none) Q E s:=by
 have ne:l≠s.heap.objs.size:=by obtain⟨o,ho,_⟩:=hl;exact bg (aT ho)
 have ty:s.TypeIs (.ref l) "list":=let ⟨o,e,c,_⟩:=hl;⟨o,e,c⟩;unfold unpackItems notIterableAtAll;refine ae (ae (oe ty PySem.F.slot_list_iter.lookup (ai ?_)));simp only[dv,if_false];refine ae (wpAny_holding (tj hl ?_));have hl0:(s.heap.push { cls:=.type "list_iterator",data:=.fields #[.ref l,.int 0 0] }).IsList l its:=let ⟨o,e,r⟩:=hl;⟨o,aS _ e,r⟩;refine ae (wpAny_holding (yX ne its.size 0 _ _ ⟨_,bn _ rfl,rfl,rfl⟩ hl0 (by omega) λh1 hi1 sb1=>?_));rw[E9,if_neg (by simp)];have hl1:h1.IsList l its:=let ⟨o,e,r⟩:=hl0;⟨o,(sb1.2 l ne).trans e,r⟩;refine ae (wpAny_holding (D5 hh hi1 hl1 (by simp) λh2 eb=>?_));simp only[FC,dv,if_false];exact ai (k h2 λb o hb e=>eb b o hb ((sb1.2 b hb).trans (aS _ e)))
end
section
variable {G:Gx}{a b c:Expr}{fa fb fc:FE}{p2:Pos}{es:List Expr}
def gLst(K:ay)(n:Nat)(t:TGs):TG:=λv σ H Q=>∃a xs,v=.ref a/\SqL K H a xs/\xs.length=n/\t xs σ H Q
theorem vV{k:Nat}{t:TGs}(hc:X.calm=true)(h:PGs X es t)(hn:(i9 es X.env).length=n:=by rfl)(hst:(i9 es X.env).findIdx? (·.1)=none:=by rfl):PG X (.Tuple es k pos) (gLst X.K n t):=by
 intro π s σ H v u Q I r hw;obtain⟨a,xs,rfl,hq,hl,hw⟩:=hw;cases r;obtain⟨its,rv,ht,hz⟩:=I.list hq;rw[assign_Tuple];refine ae (AS ?_);unfold unpack;have e:(i9 es X.env).length=its.toArray.size:=by simp[hn,<-hl,rv.length]
 rw[e,hst];refine ae (wpAny_holding (p8 (I.ok.hd hc) ht.isList λh' hx=>?_));have I1:Inv X π σ H { s with heap:=h' }:=I.kept (t':=s.toks) λb o e=>hx b o (bg (aT e)) e;exact h π _ σ H xs _ Q I1 (by simpa using rv) hw
theorem PG.or{t t':TG}(h:PG X tg t)(h':PG X tg t'):PG X tg (λv σ H Q=>t v σ H Q∨t' v σ H Q):=λπ s σ H v u Q I r q=>by
 rcases q with q | q
 .exact h π s σ H v u Q I r q
 .exact h' π s σ H v u Q I r q
abbrev FGs:=List D->Rho->Option Rho
def nilG:FGs:=λds ρ=>match ds with | []=>some ρ | _=>none
def By(i:Nat)(g:FGs):FGs:=λds ρ=>match ds with | d::r=>g r (ρ.set i (.fz d)) | []=>none
def tupG(n:Nat)(g:FGs):FG:=λd ρ=>match d with
 |.tup ds=>if ds.length=n then g ds ρ else none
 |.lst ds=>if ds.length=n then g ds ρ else none
 |_=>none
def tGDs(G:Gx)(A0:List Addr)(He:Hp)(g:FGs):TGs:=λvs σ H Q=>∃A ρ ds ρ',OkW G A0 He A σ H ρ/\RepL G (hid A H) vs ds/\g ds ρ=some ρ'/\∀σ' H',OkS G A0 He σ' H' ρ'->Q σ' H'
def PGDs(X:Cx)(G:Gx)(es:List Expr)(g:FGs):Prop:=∀⦃A0⦄ He,PGs X es (tGDs G A0 He g)
theorem Lb:PGDs X G [] nilG:=λA0 He π s σ H vs us Q I r ⟨A,ρ,ds,ρ',w,rv,e,k⟩=>by
 unfold nilG at e;split at e
 .cases e;exact ZW π s σ H vs us Q I r ⟨rv.nil_inv,k _ _ ⟨A,w⟩⟩
 .cases e
theorem DY{g:FGs}(h1:PG X e (FN i))(h2:PGDs X G es g)(hs:(i9 (e::es) X.env).map (·.2)=ly e X.env::(i9 es X.env).map (·.2):=by rfl):PGDs X G (e::es) (By i g):=λA0 He π s σ H vs us Q I r ⟨A,ρ,ds,ρ',w,rv,e,k⟩=>by
 unfold By at e;split at e
 .rename_i d ds';obtain⟨x,ys,rfl,r1,r2⟩:=rv.uncons;exact Rb h1 (@h2 A0 He) hs π s σ H _ us Q I r ⟨x,ys,rfl,A,_,ds',ρ',w.set r1 i,r2,e,k⟩
 .cases e
theorem Oe{k:Nat}{g:FGs}(hG:G.K=X.K)(hc:X.calm=true)(h:PGDs X G es g)(hn:(i9 es X.env).length=n:=by rfl)(hst:(i9 es X.env).findIdx? (·.1)=none:=by rfl):PGD X G (.Tuple es k pos) (tupG n g):=λA0 He π s σ H v u Q I r ⟨A,ρ,d,ρ',w,rv,e,k⟩=>by
 refine PG.or (d7 hc (@h A0 He) hn hst) (vV hc (@h A0 He) hn hst) π s σ H v u Q I r ?_;unfold tupG at e;split at e
 .rename_i ds;split at e
  .rename_i hl;cases rv with
   |tup h1 l1 r1=>exact .inl ⟨_,_,rfl,by rw[<-hG];exact HS Am h1,by rw[l1];exact hl,A,ρ,ds,ρ',w,⟨l1,r1⟩,e,k⟩
  .cases e
 .rename_i ds;split at e
  .rename_i hl;cases rv with
   |lst h1 l1 r1=>exact .inr ⟨_,_,rfl,by rw[<-hG];exact Am.seq h1,by rw[l1];exact hl,A,ρ,ds,ρ',w,⟨l1,r1⟩,e,k⟩
  .cases e
 .cases e
def asgF(f:FE)(g:FG):FS:=λρ=>(f ρ).bind λd=>(g d ρ).map .nx
theorem p_{g:FG}(hg:PGD X G tg g)(ha:PF X G a fa)(hs:swapsWithSole [tg] a pos.line X.env=pure false:=by rfl)(hw:swappedStores [tg] a X.env=pure none:=by rfl)(h1:(i9 [tg] X.env).map (·.2)=[ly tg X.env]:=by rfl):PSD X G (.Assign [tg] a pos) (asgF fa g):=λA0 He π s σ H D I ⟨ρ,o,⟨A,w⟩,e,k⟩=>by
 unfold asgF at e;cases e1:fa ρ with
 |none=>simp[e1] at e
 |some d=>
  cases e2:g d ρ with
  |none=>simp[e1,e2] at e
  |some ρ'=>
   simp[e1,e2] at e;subst e;exact uf (@ha A) (@hg A0 He) hs hw h1 π s σ H D I ⟨ρ,d,w.ok,e1,λv H1 s1 r1=>⟨A,ρ,d,ρ',w.mono s1,r1,e2,λσ' H' ok=>k σ' H' ok⟩⟩
theorem BX:Dd X (.builtin "len") (λxs H Q=>∃a kvs,xs=[V.ref a]/\Rd H a (.dK kvs)/\Q (.int kvs.length) H):=by
 intro π s σ H xs us Q I rs h;obtain⟨a,kvs,rfl,e,q⟩:=h;obtain⟨u,rfl,ru⟩:=rs.one;cases ru;exact yK I e λt s' I'=>⟨.int kvs.length,H,I',⟨t,rfl⟩,q⟩
def lenE:D->Option D
 |.dk kds=>some (.int kds.length)
 |d=>lenD d
theorem CJ:SndC G (λxs H Q=>(∃x n,xs=[x]/\LenV G.K x H n/\Q (.int n) H)∨∃a kvs,xs=[V.ref a]/\Rd H a (.dK kvs)/\Q (.int kvs.length) H) lenE:=by
 intro A H x dx d Q lv rx h k;unfold lenE at h;split at h
 .cases h;obtain⟨p,kvs,rfl,h1,h2,r⟩:=rx.dk;have hl:=congrArg dE h2;rw[aw,aw] at hl;refine .inr ⟨p,kvs,rfl,h1,?_⟩;rw[hl];exact k _ H (Same.refl H) (.int _)
 .exact .inl (RC A H x dx d Q lv rx h k)
end
def Iti(a:Addr)(o:Obj)(kvs:List (Key×V)):It:=
 ⟨λi H=>H a=some (.frz o (.dK kvs))/\i<kvs.length,λi H x H'=>∃T p,H T=none/\kvs[i]?=some p/\x=.ref T/\H'=upd H T (.tup [kV p.1,p.2]),λi H=>H a=some (.frz o (.dK kvs))/\kvs.length<=i⟩
theorem Y4{K:ay}(a it:Addr){o:Obj}{es:Array mi}{ep:Nat}(hd:o.data=.dict es ep)(kvs:List (Key×V)):
  Turn P w K (.Tuple elts x1 tp) (Iti a o kvs) [it] it (λi h=>∃ok ov,IsItemIter h it a i kvs.length ep ok ov) where
 mem:=by simp
 obj:=λi h st b hb=>by
  have e:b=it:=by simpa using hb
  subst e;obtain⟨ok,ov,e⟩:=st;exact⟨_,e,λv z=>by
   have z':D6 _=Data.cell v:=z;cases z'⟩
 keep:=λi h h' st k=>let ⟨ok,ov,e⟩:=st;⟨ok,ov,k it (by simp) _ e⟩
 item:=by
  intro X hP hw hK hc i π s σ H E I hf st hg;subst hP hw hK;obtain⟨he,hi⟩:=hg;obtain⟨ok,ov,st⟩:=st;obtain⟨hm,vs,rel,dd⟩:=P_ I he hd;have hl:kvs.length=vs.length:=rel.length;obtain⟨f0,f1,f2,f3,f4,f5⟩:=hf it (by simp);have hv:vs[i]?=some (vs[i]'(by omega)):=by simp[show i<vs.length by omega]
  have hk:kvs[i]?=some (kvs[i]'hi):=by simp[hi]
  obtain⟨hkk,hvv⟩:=Hw rel hk hv;have hlt:it<s.heap.objs.size:=aT st;refine wpAny_pyNext_items_item (knd:=Av X.prog X.w) (kvs:=vs) (k:=(vs[i]'(by omega)).1) (v:=(vs[i]'(by omega)).2) (by rw[<-hl];exact st) dd hv λkey h1 hkey out ht hz kk=>?_;refine⟨_,rfl,wpAny_letOwnedTupleGo_items (s:={ s with heap:=h1 }) out λh2 st2 sb=>?_⟩;have hT:H s.heap.objs.size=none:=I.hok.fresh (aE _);have rk:RelV (kV (kvs[i]'hi).1) key:=by rw[hkk];exact relK hkey
  have I1:Inv X π σ (upd H s.heap.objs.size (.tup [kV (kvs[i]'hi).1,(kvs[i]'hi).2])) { s with heap:=s.heap.push { cls:=.type "tuple",data:=.seq #[key,(vs[i]'(by omega)).2] } }:=
   I.laid (a:=s.heap.objs.size) (t':=s.toks) (λb u e=>aS _ e) (aE _) ⟨by show 2<=sizeLine;decide,[key,(vs[i]'(by omega)).2],.cons rk (.cons hvv .nil),_,bn _ rfl,rfl,_,rfl⟩
  have kp:∀b u,b≠it->(s.heap.push { cls:=.type "tuple",data:=.seq #[key,(vs[i]'(by omega)).2] }).get? b=some u->h2.get? b=some u:=λb u hb e=>by
   refine (sb.2 b hb).trans ?_
   rcases Heap.get?_push_cases e with ⟨rfl,rfl⟩ | e'
   .exact ht
   .exact kk b u hb e'
  have I2:=L2.Inv.turned (t':=s.toks) (it:=it) (h':=h2) I1 kp (by rw[Aq (bg hlt)];exact f0) f1 f3 f4 f5;refine⟨.ref s.heap.objs.size,_,I2,rfl,⟨_,_,hT,hk,rfl,rfl⟩,⟨key,(vs[i]'(by omega)).2,by rw[hl];exact st2⟩,λb hb=>?_⟩;have e:b=it:=by simpa using hb
  subst e;rw[Aq (bg hlt)];exact f0
 done:=by
  intro X hP hw hK hc i π s σ H E I hf st hg;subst hP hw hK;obtain⟨he,hi⟩:=hg;obtain⟨ok,ov,st⟩:=st;obtain⟨hm,vs,rel,dd⟩:=P_ I he hd;have hl:kvs.length=vs.length:=rel.length;obtain⟨f0,f1,f2,f3,f4,f5⟩:=hf it (by simp);exact wpAny_pyNext_items_end (I.ok.hd hc) (by rw[<-hl];exact st) dd (by rw[nK];omega) λh' eb=>⟨rfl,I.turned (t':=s.toks) (λb o hb e=>eb b o hb e) f0 f1 f3 f4 f5⟩
 self:=λ_ _ _ _ _ ⟨ok,ov,st⟩ h=>PySem.W.kcp_self st h
section
variable {G:Gx}{a b c:Expr}{fa fb fc:FE}{p2:Pos}{tl:TE}
def vW(tl:TE):TI:=λσ H R=>tl σ H λx H1=>∃a o kvs,x=.ref a/\H1 a=some (.frz o (.dK kvs))/\R (Iti a o kvs) H1
theorem jY{l:Expr}(hl:PE X l tl)(hbase:fw l "items" X.env (eval l X.env)=eval l X.env:=by rfl)(hline:(apos.endLine==cpos.line)=true:=by rfl):
  PI X (.Tuple elts x1 tp) (.Call (.Attribute l "items" apos) [] [] cpos) (vW tl):=by
 intro π s σ H R I h;refine FD (T:="dict") (id:="dict.items") hbase rfl hline FF FH F.type_dict_items (thn (hl π s σ H _ I h) λv s1 ⟨x,H1,I1,r1,q1⟩=>?_);obtain⟨a,o,kvs,e,hq,q⟩:=q1;subst e;cases r1;obtain⟨_,_,_,_,_,o',es,ep,ho',h1,h2,_⟩:=(show Bc X.prog X.w H1 s1.heap a (.frz o (.dK kvs)) from I1.hok a _ hq);obtain⟨ho,_⟩:=(show Bc X.prog X.w H1 s1.heap a (.frz o (.dK kvs)) from I1.hok a _ hq);rw[ho] at ho';cases ho';obtain⟨hm,vs,rel,dd⟩:=P_ I1 hq h2;have hl':kvs.length=vs.length:=rel.length;have hm1:=dd.dictOf;refine⟨hm1.typeIs,hm1.mapOf.noDict,?_⟩;show ag _ _ (kq cpos (.builtin "dict.items") [.ref a] [] []) _ _ s1;refine method_meetsIn FH F.entry_dict_items rfl (FK ⟨rfl,hm1.typeIs,F.args_dict_items_1 _,_,meets_dict_items (Av X.prog X.w) a hm,⟨vs,hm1⟩,?_⟩);have I2:Inv X π σ H1 { s1 with heap:=s1.heap.push { cls:=.type "dict_items",data:=.fields #[.ref a] } }:=I1.kept (t':=s1.toks) λb o e=>aS _ e;refine wpAny_pyIter_items (knd:=Av X.prog X.w) (kvs:=vs) (s:={ s1 with heap:=s1.heap.push { cls:=.type "dict_items",data:=.fields #[.ref a] } }) ⟨_,bn _ rfl,rfl,rfl⟩ (dd.push _) ?_;refine⟨(s1.heap.push { cls:=.type "dict_items",data:=.fields #[.ref a] }).objs.size,[(s1.heap.push { cls:=.type "dict_items",data:=.fields #[.ref a] }).objs.size],_,_,H1,rfl,I2.kept (t':=s1.toks) λb o e=>aS _ e,Y4 a _ h2 kvs,⟨.none,.none,?_⟩,λb hb=>?_,q⟩
 .rw[hl'];exact bn _ rfl
 .have e:b=(s1.heap.push { cls:=.type "dict_items",data:=.fields #[.ref a] }).objs.size:=by simpa using hb
  subst e;exact I2.fpOk (aE _) (I2.hok.fresh (aE _))
def QB(f:FE):FI:=λρ=>match f ρ with | some (.dk kds)=>some (kds.map λp=>.tup [kDt p.1,p.2]) | _=>none
theorem jZ{α β:Type}{f:α->β}{l:List α}{y:β}(h:(l.map f)[i]?=some y):∃x,l[i]?=some x/\f x=y:=by
 rw[be] at h;exact xw.mp h
theorem cY{kvs:List (Key×V)}{kds:List (Key×D)}(h:F1 p=some (.frz o (.dK kvs)))(e:kvs.map (·.1)=kds.map (·.1))(r:RepL G F2 (kvs.map (·.2)) (kds.map (·.2))):
  Src G (Iti p o kvs) (kds.map λp=>.tup [kDt p.1,p.2]) F1 F2:=by
 have hl:kvs.length=kds.length:=by have:=congrArg dE e;rwa [aw,aw] at this
 refine⟨λi H s hi=>⟨s _ _ h,by rw[hl];rwa [aw] at hi⟩,λi H x H' d s hd y=>?_,λi H s hi=>⟨s _ _ h,by rw[hl];rwa [aw] at hi⟩⟩;obtain⟨T,q,hT,y2,rfl,rfl⟩:=y;obtain⟨z,hz,rfl⟩:=jZ hd;have e1:(kvs.map (·.1))[i]?=some q.1:=by rw[be,y2];rfl
 rw[e,be,hz] at e1;injection e1 with e1
 have rz:Rep G F2 q.2 z.2:=r.2 i q.2 z.2 (by rw[be,y2];rfl) (by rw[be,hz];rfl);refine⟨Ar hT _,λB lv sm=>?_⟩;have rr:RepL G (hid B H) [kV q.1,q.2] [kDt z.1,z.2]:=.cons (by rw[<-e1];exact RJ _) (.cons (rz.mono sm) .nil);exact K7 lv hT rr
theorem Uz{top:Bool}(h:PF X G a fa)(hbase:fw a "items" X.env (eval a X.env)=eval a X.env:=by rfl)(hline:(apos.endLine==cpos.line)=true:=by rfl):
  PFI X G false (.Tuple elts x1 tp) (.Call (.Attribute a "items" apos) [] [] cpos) (QB fa):=λA=>Rt (jY (@h A) hbase hline) λσ H R ⟨ρ,ds,o,e,k⟩=>by
 unfold QB at e;split at e
 .rename_i kds e1;cases e;refine⟨ρ,_,o,e1,λv H1 s1 r1=>?_⟩;cases r1 with
  |dk h l r=>exact⟨_,_,_,rfl,Am _ _ h,k _ H1 s1 (cY h l ⟨by have:=congrArg dE l;rwa [aw,aw] at this ⊢,r⟩)⟩
 .cases e
end
section
variable {G:Gx}{a b c:Expr}{fa fb fc:FE}{p2:Pos}{es:List Expr}{fs:FA}
theorem V1{P:cE}{w:br}:∀{kvs:List (Key×V)}{us:List ac},us.length=kvs.length->(∀(j:Nat) u,us[j]?=some u->∃p,kvs[j]?=some p/\(Av P w).is p.1 u=true)->Vals (kvs.map λp=>kV p.1) us
 |[],us,hl,_=>by
  have:us=[]:=wb hl;subst this;exact .nil
 |p::kvs,[],hl,_=>by simp at hl
 |p::kvs,u::us,hl,h=>by
  obtain⟨q,h1,h2⟩:=h 0 u rfl;simp at h1;subst h1;exact .cons (relK h2) (V1 (P:=P) (w:=w) (by simpa using hl) λj v hv=>by simpa using h (j+1) v (by simpa using hv))
theorem Hx(hc:X.calm=true):Dd X (.type "list") (λxs H Q=>∃p kvs,xs=[.ref p]/\Rd H p (.dK kvs)/\∀l,H l=none->Q (.ref l) (upd H l (.lst (kvs.map λq=>kV q.1)))):=by
 intro π s σ H xs us Q I r h;obtain⟨p,kvs,rfl,e,q⟩:=h;obtain⟨u,rfl,ru⟩:=r.one;cases ru;obtain⟨z,hd,vs,rel,dd⟩:=Im I.hok e;obtain⟨ep,dd⟩:=dd.dictAt;have hl:kvs.length=vs.length:=rel.length;refine BM (FL (knd:=Av X.prog X.w) (kvs:=vs) (ep:=ep) hd) (I.ok.hd hc) dd (by omega) λh' tk acc c' kp hn hi=>?_;have va:Vals (kvs.map λq=>kV q.1) acc.toList:=by
  refine V1 (P:=X.prog) (w:=X.w) (by simp[hi.1,hl]) λj u hu=>?_;obtain⟨k,x,h1,h2⟩:=hi.2 j u (by simpa using hu);have hj:j<kvs.length:=by rw[hl];exact (d6.mp h1).1
  refine⟨kvs[j],by simp[hj],?_⟩;rw[(Hw rel (by simp[hj]) h1).1];exact h2
 exact⟨.ref s.heap.objs.size,_,I.laid (t':=tk) kp (aE _) (show Bc X.prog X.w _ h' _ (.lst (kvs.map λq=>kV q.1)) from⟨by rw[aw];exact z,acc.toList,c',va,by simpa using hn⟩),rfl,q _ (I.hok.fresh (aE _))⟩
def listE:D->Option D
 |.dk kds=>some (.lst (kds.map λp=>kDt p.1))
 |d=>gB d
theorem jb{H:Hp}:∀{kvs:List (Key×V)}{kds:List (Key×D)},kvs.map (·.1)=kds.map (·.1)->RepL G H (kvs.map λq=>kV q.1) (kds.map λp=>kDt p.1)
 |[],[],_=>RepL.nil
 |[],_::_,h=>by simp at h
 |_::_,[],h=>by simp at h
 |p::kvs,q::kds,h=>by
  rw[ba,ba] at h;injection h with h1 h2
  exact .cons (by show Rep G H (kV p.1) (kDt q.1);rw[h1];exact RJ _) (jb h2)
theorem cZ:SndC G (λxs H Q=>(∃p ys,xs=[.ref p]/\(SqL G.K H p ys∨SqT G.K H p ys)/\∀l,H l=none->Q (.ref l) (upd H l (.lst ys)))∨∃p kvs,xs=[.ref p]/\Rd H p (.dK kvs)/\∀l,H l=none->Q (.ref l) (upd H l (.lst (kvs.map λq=>kV q.1)))) listE:=by
 intro A H x dx d Q lv rx h k;unfold listE at h;split at h
 .cases h;obtain⟨p,kvs,rfl,h1,h2,r⟩:=rx.dk;exact .inr ⟨p,kvs,rfl,h1,λl hl=>k _ _ (Ar hl _) (Cq lv hl (jb h2))⟩
 .exact .inl (gQ A H x dx d Q lv rx h k)
def Og(x:D)(ds:List D)(v:D):Option D:=match x with
 |.dt kds=>(Qi ds).bind λk=>if kds.length<sizeLine/\ds.length<=sizeLine then some (.dt (putL k v kds)) else none
 |_=>none
def XS(i:Nat)(fk:FA)(fv:FE):FS:=λρ=>(fv ρ).bind λv=>(fk ρ).bind λy=>(ownO ρ i).bind λx=>(Og x y v).map λz=>.nx (ρ.set i (.ow z))
theorem Y5{ρ:Rho}{o:Out}(h:XS i fs fb ρ=some o):∃v y x z,fb ρ=some v/\fs ρ=some y/\ρ[i]?=some (.ow x)/\Og x y v=some z/\o=.nx (ρ.set i (.ow z)):=by
 unfold XS at h;cases e1:fb ρ with
 |none=>simp[e1] at h
 |some v=>
  cases e2:fs ρ with
  |none=>simp[e1,e2] at h
  |some y=>
   cases e3:ownO ρ i with
   |none=>simp[e1,e2,e3] at h
   |some x=>
    cases e4:Og x y v with
    |none=>simp[e1,e2,e3,e4] at h
    |some z=>
     simp[e1,e2,e3,e4] at h;exact⟨v,y,x,z,rfl,rfl,Ij e3,e4,h.symm⟩
theorem jc(hu:X.A.units+1<bi)(hv:PE X .(15) (tVar i))(ha:PFA X G es fs)(hb:PF X G b fb)(hs:eI b (some (.Subscript .(15) (.Tuple es x1 tp) spos)) pos.line X.env=pure false:=by rfl):PSD X G (.Assign [.Subscript .(15) (.Tuple es x1 tp) spos] b pos) (XS i fs fb):=λA0 He π s σ H D I ⟨ρ,o,⟨A,w⟩,e,k⟩=>by
 obtain⟨v,y,x0,z,e1,e2,hi,e3,rfl⟩:=Y5 e;refine Q9 hu hv (eU (@ha A)) (@hb A) hs π s σ H D I ?_;unfold Og at e3;split at e3
 .rename_i kds;cases e4:Qi y with
  |none=>simp[e4] at e3
  |some q=>
   simp only[e4,dS] at e3;split at e3
   .rename_i hz;cases e3;obtain⟨p,h1,hA,kvs,h2,hk,r⟩:=w.ok.ow i _ hi;refine⟨ρ,v,w.ok,e1,λu H1 s1 r1=>⟨_,h1,ρ,y,(w.mono s1).ok,e2,λvs H2 s2 r2=>⟨by rw[r2.1];exact hz.2,λT hT=>?_⟩⟩⟩;have ek:=Ux r2 e4;subst ek;have hl:kvs.length<sizeLine:=by
     have:=congrArg dE hk;rw[aw,aw] at this;omega
    have s3:Same H2 (upd H2 T (.tup (q.map kV))):=Ar hT _;refine⟨p,_,rfl,DPut.t (s3 _ _ (s2 _ _ (s1 _ _ h2))) Ak hl,?_⟩;have w2:=((w.mono s1).mono s2).mono s3;have pk:=RG (k:=q) (r1.mono (Az (s2.trans s3))) hk (r.mono (Az (s1.trans (s2.trans s3))));refine k _ _ ⟨A,w2.wr hi h1 ⟨_,Ak,pk.1,?_⟩⟩;rw[Bg hA];exact pk.2
   .cases e3
 .cases e3
end
section
variable {G:Gx}{a b c:Expr}{fa fb fc:FE}{p2:Pos}{es:List Expr}{fs:FA}{src:FI}
theorem PFI.top(h:PFI X G false tg a src):PFI X G true tg a src:=λA=>Rt (@h A) λσ H R ⟨ρ,ds,o,e,k⟩=>
 ⟨ρ,ds,o,e,λJ H1 s1 sr=>k J H1 s1 ⟨λi H s hi=>sr.go i H (Am.trans s) hi,λi H x H' d s hd y=>sr.yld i H x H' d (Am.trans s) hd y,λi H s hi=>sr.stop i H (Am.trans s) hi⟩⟩
theorem RepT.ob{A:List Addr}{H:Hp}{v:V}{c:Str}{gs:List (Str×D)}(r:RepT G A H v (.ob c gs)):∃a C dx fs,v=.ref a/\G.cl c=some C/\H a=some (.ins C dx fs)/\fs.map (·.1)=gs.map (·.1)/\RepL G (hid A H) (fs.map (·.2)) (gs.map (·.2)):=by
 rcases r with r | ⟨a,e,C,dx,fs,h,k,r⟩
 .cases r with
  |ob hc h l r=>
   have hl:=congrArg dE l;rw[aw,aw] at hl;exact⟨_,_,_,_,rfl,hc,Am _ _ h,l,by rw[aw,aw];exact hl,r⟩
 .exact⟨a,C,dx,fs,e,k.1,h,k.2,r⟩
def fldD(f:Str):D->Option D
 |.ob _ gs=>gs.lookup f
 |_=>none
theorem U0{H:Hp}{f:Str}{d:D}:∀{gs:List (Str×D)}{fs:List (Str×V)},fs.map (·.1)=gs.map (·.1)->RepL G H (fs.map (·.2)) (gs.map (·.2))->gs.lookup f=some d->∃v,fs.lookup f=some v/\Rep G H v d
 |[],fs,e,r,h=>by simp at h
 |p::gs,[],e,r,h=>by simp at e
 |p::gs,q::fs,e,r,h=>by
  rw[ba,ba] at e r;injection e with e1 e2
  obtain⟨x,ys,e3,r1,r2⟩:=r.uncons;injection e3 with e4 e5
  subst e4 e5;obtain⟨p1,p2⟩:=p;obtain⟨q1,q2⟩:=q;simp only at e1 r1;subst e1
  by_cases hf:f=q1
  .subst hf;simp only[ca,beq_self_eq_true,BN] at h ⊢;subst h;exact⟨q2,rfl,r1⟩
  .have hb:(f==q1)=false:=beq_eq_false_iff_ne.mpr hf;simp only[ca,hb] at h ⊢;exact U0 e2 r2 h
theorem Jj{f:Str}(hcl:∀c C,G.cl c=some C->Cls X.K C/\Ed X.K C f)(he:PU X G a fa)(hb:fw a f X.env (eval a X.env)=eval a X.env:=by rfl):PF X G (.Attribute a f pos) (uF (fldD f) fa):=
 λA=>Bx (Yh (@he A) hb) λσ H Q ⟨ρ,d,o,e,k⟩=>by
  obtain⟨x0,e1,e2⟩:=Hu e;unfold fldD at e2;split at e2
  .rename_i cn gs;refine⟨ρ,_,o,e1,λv H1 s1 r1=>?_⟩;obtain⟨p,C,dx,fs,rfl,hc,h,l,r⟩:=r1.ob;obtain⟨v,h1,h2⟩:=U0 (f:=f) (d:=d) l r e2;exact⟨_,_,_,_,v,rfl,h,(hcl _ _ hc).1,(hcl _ _ hc).2,h1,k v H1 s1 h2⟩
  .cases e2
end
def Its(x:Str):It:=⟨λi _=>i<x.cps.size,λi H y H'=>H'=H/\∃c,x.cps[i]?=some c/\y=.str ⟨#[c]⟩,λi _=>x.cps.size<=i⟩
theorem XX{K:ay}(it:Addr)(x:Str)(t:Tok)(ty:String)(W:∀A:ax,A.handled=none->Walks P w A it [it] [it] x.cps.size (SignAt x) (λi h=>h.IsStrIter it ty x t i))(hn:["enumerate","zip","dict_itemiterator","dict_reverseitemiterator","odict_iterator","itertools.zip_longest","itertools.pairwise"].contains ty=false)(fin:∀(A:ax),A.handled=none->∀(i:Nat) (s:af) (Q:Option ac->af->Prop) (E:ac->af->Prop),s.heap.IsStrIter it ty x t i->x.cps[i]?=none->(∀h',zr it s.heap h'->Q none { s with heap:=h' })->ag (ah P w) A (eJ (.ref it)) Q E s)(self:∀(A:ax) (i:Nat) (s:af) (Q:ac->af->Prop) (E:ac->af->Prop),s.heap.IsStrIter it ty x t i->Q (.ref it) s->ag (ah P w) A (lI (.ref it)) Q E s):
  Turn P w K tg (Its x) [it] it (λi h=>h.IsStrIter it ty x t i) where
 mem:=by simp
 obj:=λi h st b hb=>by
  have e:b=it:=by simpa using hb
  subst e;obtain⟨o,e,c,d⟩:=st;exact⟨o,e,λv z=>by rw[d] at z;cases z⟩
 keep:=λi h h' st k=>let ⟨o,e,c,d⟩:=st;⟨o,k it (by simp) o e,c,d⟩
 item:=by
  intro X hP hw hK hc i π s σ H E I hf st hg;subst hP hw hK;obtain⟨f0,f1,f2,f3,f4,f5⟩:=hf it (by simp);refine (W X.A (I.ok.hd hc)).item i s _ _ hg st λv h' tk hv st' kk=>?_;obtain⟨c,u,e1,rfl⟩:=hv;have I1:Inv X π σ H { s with heap:=h',toks:=tk }:=I.turned (λb o hb e=>kk b o (by simpa using hb) e) f0 f1 f3 f4 f5;obtain⟨o1,e2,c1,d1⟩:=id st';exact⟨_,rfl,Ug (s:={ s with heap:=h',toks:=tk }) e2 c1 d1 hn ⟨.str ⟨#[c]⟩,H,I1,⟨u,rfl⟩,⟨rfl,c,e1,rfl⟩,st',λb hb=>(hf b hb).1⟩⟩
 done:=by
  intro X hP hw hK hc i π s σ H E I hf st hg;subst hP hw hK;obtain⟨f0,f1,f2,f3,f4,f5⟩:=hf it (by simp);exact fin X.A (I.ok.hd hc) i s _ _ st (by rw[Array.getElem?_eq_none_iff];exact hg) λh' eb=>⟨rfl,I.turned (t':=s.toks) (λb o hb e=>eb b o hb e) f0 f1 f3 f4 f5⟩
 self:=λA i s Q E st h=>self A i s Q E st h
section
variable {G:Gx}{a b c:Expr}{fa fb fc:FE}{p2:Pos}{tl:TE}
def iStr(tl:TE):TI:=λσ H R=>tl σ H λx H1=>∃y,x=.str y/\R (Its y) H1
theorem vX{l:Expr}(hl:PE X l tl):PI X tg l (iStr tl):=by
 intro π s σ H R I h;refine thn (hl π s σ H _ I h) λv s1 ⟨x,H1,I1,r1,q1⟩=>?_;obtain⟨y,e,q⟩:=q1;subst e;obtain⟨t,e⟩:=(show ∃t,v=kK y t from r1);subst e;have fp:∀b∈[s1.heap.objs.size],FpOk X π H1 b:=λb hb=>by
  have e:b=s1.heap.objs.size:=by simpa using hb
  subst e;exact I1.fpOk (aE _) (I1.hok.fresh (aE _))
 cases ha:y.cps.all (·<128)
 .exact wpAny_pyIter_wide ha ⟨s1.heap.objs.size,[s1.heap.objs.size],_,_,H1,rfl,I1.kept (t':=s1.toks) λb o e=>aS _ e,
   XX _ y t "str_iterator" (λA hA=>Walks.strWide hA _ y t) (by decide) (λ_ hh _ _ _ _ st hx k=>wpAny_pyNext_wide_end hh st hx k) (λ_ _ _ _ _ st h=>wpAny_pyIter_striter_wide st h),⟨_,bn _ rfl,rfl,rfl⟩,fp,q⟩
 .exact FR ha ⟨s1.heap.objs.size,[s1.heap.objs.size],_,_,H1,rfl,I1.kept (t':=s1.toks) λb o e=>aS _ e,
   XX _ y t "str_ascii_iterator" (λA hA=>Walks.strAscii hA _ y t) (by decide) (λ_ hh _ _ _ _ st hx k=>wpAny_pyNext_ascii_end hh st hx k) (λ_ _ _ _ _ st h=>wpAny_pyIter_striter_ascii st h),⟨_,bn _ rfl,rfl,rfl⟩,fp,q⟩
def R9(x:Str):List D:=x.cps.toList.map λc=>.str ⟨#[c]⟩
theorem qC:Src G (Its x) (R9 x) F1 F2:=by
 have hl:(R9 x).length=x.cps.size:=by unfold R9;simp
 refine⟨λi H s hi=>by rw[hl] at hi;exact hi,λi H y H' d s hd q=>?_,λi H s hi=>by rw[hl] at hi;exact hi⟩;obtain⟨q1,c,q2,q3⟩:=q;refine Px ⟨q1,?_⟩;obtain⟨z,hz,rfl⟩:=jZ hd;have e:x.cps[i]?=some z:=by simpa using hz
 rw[e] at q2;cases q2;rw[q3];exact .str _
def seqA(f:FE):FI:=λρ=>match f ρ with | some (.str x)=>some (R9 x) | _=>seqE f ρ
theorem Aw(hG:G.K=X.K)(h:PF X G a fa):PFI X G false tg a (seqA fa):=λA=>Rt (piOr (jX hG h (A:=A)) (vX (@h A))) λσ H R ⟨ρ,ds,o,e,k⟩=>by
 unfold seqA at e;split at e
 .rename_i x e1;cases e;refine .inr ⟨ρ,_,o,e1,λv H1 s1 r1=>?_⟩;cases r1;exact⟨_,rfl,k _ H1 s1 qC⟩
 .exact .inl ⟨ρ,_,o,e,k⟩
def blsD:List D->Option (List Bool)
 |[]=>some []
 |.bl i::r=>(blsD r).map (i::·)
 |_::_=>none
theorem aC{H:Hp}:∀{ds:List D}{xs:List V}{bs:List Bool},RepL G H xs ds->blsD ds=some bs->xs=bs.map V.bl
 |[],xs,bs,r,h=>by cases h;exact r.nil_inv
 |d::ds,xs,bs,r,h=>by
  obtain⟨x,ys,rfl,r1,r2⟩:=r.uncons;cases d with
  |bl i=>
   cases e:blsD ds with
   |none=>simp[blsD,e] at h
   |some bs'=>
    simp[blsD,e] at h;subst h;cases r1;rw[aC r2 e];rfl
  |_=>simp[blsD] at h
theorem cg(hc:X.calm=true):Dd X (.builtin "all") (λxs H Q=>∃(p:Addr) (bs:List Bool),xs=[.ref p]/\SqL X.K H p (bs.map V.bl)/\Q (.bl (bs.all id)) H):=by
 intro π s σ H xs us Q I r h;obtain⟨p,bs,rfl,hs,k⟩:=h;obtain⟨u,rfl,ru⟩:=r.one;cases ru;obtain⟨its,rv,pl,hz⟩:=I.list hs;have hl:=pl.isList;have hlt:p≠s.heap.objs.size:=by obtain⟨o,ho,_⟩:=hl;exact bg (aT ho)
 have hlen:bs.length=its.length:=by have:=rv.length;rwa [aw] at this
 refine call_all_walk (tj hl ?_);refine⟨_,_,_,_,_,_,λi=>bs.getD i true,rfl,Fu (A:=X.A.in1) (I.ok.hd hc) s.heap.objs.size p hlt its.toArray,⟨⟨_,bn _ rfl,rfl,rfl⟩,hl.push _⟩,?_,λh' tk kk=>?_⟩
 .intro i v s' Q' E' hv hq;have hi:its[i]?=some v:=by simpa using hv
  have hlt':i<bs.length:=by rw[hlen];exact (d6.mp hi).1
  obtain⟨u',hu,ru⟩:=rv.get (i:=i) (x:=.bl (bs[i]'hlt')) (by rw[be];simp[hlt']);rw[hi] at hu;cases hu;cases (show v=om (bs[i]'hlt') from ru);have e:bs.getD i true=bs[i]'hlt':=by simp[BO,hlt']
  have hq':Q' (bs.getD i true) s':=hq;rw[e] at hq';exact mP hq'
 .refine⟨.bl (bs.all id),H,I.kept (λb o e=>kk b o ?_ (aS _ e)),?_,k⟩
  .intro hb;have:b=s.heap.objs.size:=by simpa using hb
   exact absurd (aT e) (by rw[this];exact oB _)
  .show om _=om _;congr 1;rw[bS,<-hlen];rw[iA,gg,gg];constructor
   .intro q b hb;obtain⟨i,hi,rfl⟩:=wc hb;have:=q i (bv.mpr hi);simpa [BO,hi] using this
   .intro q i hi;have hi':=bv.mp hi;have:=q (bs[i]'hi') (pS hi');simpa [BO,hi'] using this
def allD:D->Option D
 |.lst ds=>(blsD ds).map λbs=>.bl (bs.all id)
 |_=>none
theorem qD:SndC G (λxs H Q=>∃(p:Addr) (bs:List Bool),xs=[.ref p]/\SqL G.K H p (bs.map V.bl)/\Q (.bl (bs.all id)) H) allD:=by
 intro A H x dx d Q lv rx h k;unfold allD at h;split at h
 .rename_i ds;cases e:blsD ds with
  |none=>simp[e] at h
  |some bs=>
   rw[e] at h;cases h;obtain⟨p,xs,rfl,h1,r⟩:=rx.lst;have e2:=aC r e;subst e2;exact⟨p,bs,rfl,h1,k _ H (Same.refl H) (.bl _)⟩
 .cases h
theorem vY:cr "all"=some (.builtin "all"):=by decide +kernel
end
section
variable {G:Gx}{a b c:Expr}{fa fb fc:FE}{p2:Pos}
def isND(neg:Bool):D->Option D
 |.non=>some (.bl (!neg))
 |_=>some (.bl neg)
theorem qF{d:D}(r:RepT G A H v d):(decide (v=.non))=(match d with | .non=>true | _=>false):=by
 rcases r with r | ⟨p,e,r⟩
 .cases r<;>simp
 .subst e;cases d<;>first | exact r.elim | simp
theorem V2{p':Pos}(ha:PU X G a fa):PFT X G (.Compare a [.Is] [.Constant .none j p'] pos) (blF (uF (isND false) fa)):=λA=>Zi (uW (uV (@ha A))) λσ H Q ⟨ρ,b,o,e,k⟩=>by
 obtain⟨x0,e1,e2⟩:=Hu (Wt e);refine⟨ρ,x0,o,e1,λv H1 s1 r1=>⟨_,rfl,?_⟩⟩;rw[qF r1];cases x0<;>(cases e2;exact k H1 s1)
end
section
variable {G:Gx}{a b c:Expr}{fa fb fc:FE}{p2:Pos}
def eqTo(x d:D):Bool:=match eqK 62 d x with | some b=>b | none=>false
def knows(x d:D):Bool:=(eqK 62 d x).isSome
def rInP(G:Gx)(neg:Bool):R2:=λx y H Q=>∃(A:List Addr) (as ds:List D),RepT G A H x (.tup as)/\RepT G A H y (.lst ds)/\ds.all (knows (.tup as))=true/\Q (.bl (if neg then !ds.any (eqTo (.tup as)) else ds.any (eqTo (.tup as)))) H
open Classical in
theorem aF(hG:G.K=X.K)(hu:X.A.units+64<bi){π:zP}{s:af}{σ:St}{H:Hp}{A:List Addr}{x:V}{u:ac}{as ds:List D}{xs:List V}{its:List ac}(I:Inv X π σ H s)(rx:RepT G A H x (.tup as))(ru:RelV x u)(r:RepL G (hid A H) xs ds)(v:Vals xs its)(hk:ds.all (knows (.tup as))=true):
  ∃e:ac->Bool,(∀y,y∈its.toArray->jS X.A.in1 s y u (e y))/\its.toArray.any e=ds.any (eqTo (.tup as)):=by
 have rx':Rep G H x (.tup as):=by
  rcases rx with q | ⟨p,_,q⟩
  .exact q.mono Am
  .exact q.elim
 have one:∀(i:Nat) y,its[i]?=some y->∃d,ds[i]?=some d/\jS X.A.in1 s y u (eqTo (.tup as) d):=λi y hy=>by
  have hi:i<its.length:=(d6.mp hy).1;have hx:i<xs.length:=by rw[v.length];exact hi
  have hd:i<ds.length:=by rw[<-r.1];exact hx
  obtain⟨y',h1,h2⟩:=v.get (i:=i) (x:=xs[i]) (by simp[hx]);rw[hy] at h1;cases h1;refine⟨ds[i],by simp[hd],?_⟩;have kn:knows (.tup as) ds[i]=true:=gg.mp hk _ (pS hd);unfold knows at kn;obtain⟨b,hb⟩:=ua.mp kn;have eb:eqTo (.tup as) ds[i]=b:=by unfold eqTo;rw[hb]
  rw[eb];exact M7 I hG 62 X.A.in1 (by show X.A.units+1+62<bi;omega) hb ((r.2 i _ _ (by simp[hx]) (by simp[hd])).mono Am) rx' h2 ru
 refine⟨λy=>decide (∃(i:Nat) (d:D),its[i]?=some y/\ds[i]?=some d/\eqTo (.tup as) d=true),λy hy=>?_,?_⟩
 .by_cases h:∃(i:Nat) (d:D),its[i]?=some y/\ds[i]?=some d/\eqTo (.tup as) d=true
  .obtain⟨i,d,h1,h2,h3⟩:=id h;obtain⟨d',h4,h5⟩:=one i y h1;rw[h2] at h4;cases h4;rw[h3] at h5;show jS X.A.in1 s y u (decide (∃(i:Nat) (d:D),its[i]?=some y/\ds[i]?=some d/\eqTo (.tup as) d=true));rw[decide_eq_true h];exact h5
  .obtain⟨i,hi,rfl⟩:=wc (show y∈its by simpa using hy);have hii:its[i]?=some its[i]:=cf hi;obtain⟨d,h4,h5⟩:=one i _ hii;have h6:eqTo (.tup as) d=false:=by
    cases q:eqTo (.tup as) d with
    |false=>rfl
    |true=>exact absurd ⟨i,d,hii,h4,q⟩ h
   rw[h6] at h5;show jS X.A.in1 s its[i] u (decide (∃(j:Nat) (d:D),its[j]?=some its[i]/\ds[j]?=some d/\eqTo (.tup as) d=true));rw[decide_eq_false h];exact h5
 .rw[iA,qh];rw[show its.toArray.any (λy=>decide (∃(i:Nat) (d:D),its[i]?=some y/\ds[i]?=some d/\eqTo (.tup as) d=true))=its.any (λy=>decide (∃(i:Nat) (d:D),its[i]?=some y/\ds[i]?=some d/\eqTo (.tup as) d=true)) by simp,qh];constructor
  .rintro⟨y,hy,h⟩;obtain⟨i,d,h1,h2,h3⟩:=of_decide_eq_true h;exact⟨d,fN h2,h3⟩
  .rintro⟨d,hd,h⟩;obtain⟨i,hi,rfl⟩:=wc hd;have hx:i<its.length:=by rw[<-v.length,r.1];exact hi
   exact⟨its[i],pS hx,decide_eq_true ⟨i,_,cf hx,cf hi,h⟩⟩
theorem jd(hG:G.K=X.K)(hu:X.A.units+64<bi):OpR X (d3 .In) (rInP G false):=by
 intro π s σ H x y v u Q I rx ry h;obtain⟨A,as,ds,r1,r2,hk,k⟩:=h;obtain⟨c,ys,rfl,h2,q2⟩:=r2.lst;cases ry;obtain⟨jts,v2,p2,_⟩:=I.list (by rw[<-hG];exact h2);obtain⟨e,he,ea⟩:=aF hG hu I r1 rx q2 v2 hk;exact DO e p2.isList he ⟨.bl _,H,I,rfl,by rw[ea];exact k⟩
theorem cj(hG:G.K=X.K)(hu:X.A.units+64<bi):OpR X (d3 .NotIn) (rInP G true):=by
 intro π s σ H x y v u Q I rx ry h;obtain⟨A,as,ds,r1,r2,hk,k⟩:=h;obtain⟨c,ys,rfl,h2,q2⟩:=r2.lst;cases ry;obtain⟨jts,v2,p2,_⟩:=I.list (by rw[<-hG];exact h2);obtain⟨e,he,ea⟩:=aF hG hu I r1 rx q2 v2 hk;exact DS e p2.isList he ⟨.bl _,H,I,rfl,by rw[ea];exact k⟩
def inF(neg:Bool)(x y:D):Option D:=match x,y with
 |.tup as,.lst ds=>if ds.all (knows (.tup as))=true then some (.bl (if neg then !ds.any (eqTo (.tup as)) else ds.any (eqTo (.tup as)))) else none
 |x,y=>inE neg x y
theorem V3(neg:Bool):Dm G (λx y H Q=>(rInA G.K neg x y H Q∨rDIn neg x y H Q)∨rInP G neg x y H Q) (inF neg):=by
 intro A H x y dx dy d Q lv rx ry h k;unfold inF at h;split at h
 .split at h
  .rename_i hk;cases h;exact .inr ⟨A,_,_,rx,ry,hk,k _ H (Same.refl H) (.bl _)⟩
  .cases h
 .exact .inl (ph neg A H x y _ _ d Q lv rx ry h k)
end
end PV
namespace PySem
open PySem.Spec
theorem je{A:ax}{Q:ac->af->Prop}(h:∀h' e,.(13)->Bn { s with heap:=h' } (.ref e) "StopIteration"->Q (.ref e) { s with heap:=h' }):ag (ah prog w) A (newExc (.type "StopIteration") []) Q E s:=by
 unfold newExc newTuple
 wp_walk
 exact h _ _ (λb o e=>aS _ (aS _ e)) ⟨_,bn _ rfl,rfl⟩
theorem jf(it d:Addr)(i ep:Nat)(es:Array mi)(od:Obj)(hod:od.data=.dict es ep)(hi:i<es.size):
  Meets (d4.«dict_keyiterator.__next__» ⟨[.ref it],[]⟩) (λ_ R s=>s.heap.get? it=some { cls:=.type "dict_keyiterator",data:=.fields #[.ref d,.int i 0,.int es.size 0,.int ep 0] }/\s.heap.get? d=some od/\R (.ok (.ret (es[i]'hi).key)) { s with heap:=s.heap.update it (pV (·.setIfInBounds 1 (de ((i:Int)+1)))),toks:=s.toks }):=
 .of_wp λprog w A R s h=>by
  obtain⟨hp,g,dr,tk,os⟩:=s;obtain⟨h1,h2,h⟩:=h
  wp_walk using BQ h2 hod,BS h2 hod,sh h1 rfl,vE h1 rfl
  have e0:(if (i:Int)<0 then none else es[(i:Int).toNat]?)=some (es[i]'hi):=by rw[if_neg (by omega),df,BU hi]
  rw[e0];dsimp only
  wp_walk using vE h1 rfl
  .rw[if_neg (show ¬ BY ((C0 "dict_keyiterator").elim "dict_keyiterator" λx=>x.tpName)=true by decide +kernel)];show 1<4;decide
  .rw[if_neg (show ¬ BY ((C0 "dict_keyiterator").elim "dict_keyiterator" λx=>x.tpName)=true by decide +kernel)];rw[if_neg]
   case hnc=>decide +kernel
   rw[kB];have ti:Bn { heap:=hp.update it (pV λx=>x.setIfInBounds 1 (de ((i:Int)+1))),gens:=g,drawn:=dr,toks:=tk,os:=os } (.ref it) "dict_keyiterator":=
    ⟨_,pE _ h1 (B9 (vx rfl _)),Bi ..⟩
   wp_walk using wpAny_isOneOf_keyiter ti
   exact⟨_,rfl,h⟩
theorem Y6{A:ax}{d:Addr}{es:Array mi}{od:Obj}{Q:Option ac->af->Prop}(hod:od.data=.dict es ep)(hi:i<es.size)(h1:s.heap.get? it=some { cls:=.type "dict_keyiterator",data:=.fields #[.ref d,.int i 0,.int es.size 0,.int ep 0] })(h2:s.heap.get? d=some od)(h:Q (some (es[i]'hi).key) { s with heap:=s.heap.update it (pV (·.setIfInBounds 1 (de ((i:Int)+1)))) }):ag (ah prog w) A (eJ (.ref it)) Q E s:=by
 have ti:s.TypeIs (.ref it) "dict_keyiterator":=⟨_,h1,rfl⟩;unfold eJ;refine ae (nX (ma (name:=gi "__next__") ti we ?_));refine re we ti FU (FV _) (jf it d i ep es od hod hi) ⟨h1,h2,?_⟩;exact ai h
theorem T7{A:ax}{d:Addr}{es:Array mi}{od:Obj}{Q:Option ac->af->Prop}(hh:A.handled=none)(hod:od.data=.dict es ep)(hi:es.size<=i)(h1:s.heap.get? it=some { cls:=.type "dict_keyiterator",data:=.fields #[.ref d,.int i 0,.int es.size 0,.int ep 0] })(h2:s.heap.get? d=some od)(h:∀h',zr it s.heap h'->Q none { s with heap:=h' }):ag (ah prog w) A (eJ (.ref it)) Q E s:=by
 have ti:s.TypeIs (.ref it) "dict_keyiterator":=⟨_,h1,rfl⟩;unfold eJ;refine ae (nX (ma (name:=gi "__next__") ti we
  (hJ we ti FU ?_ (FV _))))
 have hh1:A.in1.handled=none:=hh
 wp_walk using BQ h2 hod,BS h2 hod,sh h1 rfl,vE h1 rfl
 have e0:(if (i:Int)<0 then none else es[(i:Int).toNat]?)=none:=by rw[if_neg (by omega),df,zp hi]
 rw[e0];dsimp only
 wp_walk using vE h1 rfl
 .rw[if_neg (show ¬ BY ((C0 "dict_keyiterator").elim "dict_keyiterator" λx=>x.tpName)=true by decide +kernel)];show 0<4;decide
 .refine ae ?_;refine je λh' e kp ty=>wpAny_raiseNew_none hh1 ?_;refine ae (oi ty Bz (ai (h h' λb o hb z=>kp b o ?_)));exact ((vk ..).2 b hb).trans z
theorem Y7{A:ax}{d:Addr}{es:Array mi}{od:Obj}{Q:ac->af->Prop}(hd:(d==fq)=false)(hx:od.ExactDict)(hod:od.data=.dict es ep)(h2:s.heap.get? d=some od)(h:Q (.ref s.heap.objs.size) { s with heap:=s.heap.push { cls:=.type "dict_keyiterator",data:=.fields #[.ref d,.int 0 0,.int es.size 0,.int ep 0] } }):ag (ah prog w) A (lI (.ref d)) Q E s:=by
 have ti:s.TypeIs (.ref d) "dict":=⟨_,h2,hx.1⟩;refine BG ti FY (hJ FY ti F.entry_dict_iter ?_ (F.args_dict_iter_1 _));unfold d4.«dict.__iter__»
 wp_walk using BQ h2 hod,BS h2 hod,G0 ti
 exact⟨_,rfl,"dict_keyiterator",_,⟨_,bn _ rfl,rfl⟩,we.lookup,h⟩
end PySem
namespace PV
open PySem L2
abbrev FZ:=Rho->Option (D×Rho)
abbrev FZA:=Rho->Option (List D×Rho)
end PV
namespace PV
open PySem PySem.Spec L2
open PyProof.Rows hiding St
theorem jg:cr "tuple"=some (.type "tuple"):=by decide +kernel
section
variable {G:Gx}{x:Addr}
theorem Top.sub{d:D}(t:Top G B H a d)(h:∀a∈A,a∈B):Top G A H a d:=by
 cases d with
 |lst ds=>obtain⟨xs,q1,q2⟩:=t;exact⟨xs,q1,q2.mono (Dz h)⟩
 |dk ds=>obtain⟨xs,q1,q2,q3⟩:=t;exact⟨xs,q1,q2,q3.mono (Dz h)⟩
 |dt ds=>obtain⟨xs,q1,q2,q3⟩:=t;exact⟨xs,q1,q2,q3.mono (Dz h)⟩
 |ob c gs=>obtain⟨C,dx,xs,q1,q2,q3⟩:=t;exact⟨C,dx,xs,q1,q2,q3.mono (Dz h)⟩
 |_=>exact t.elim
def Ml(x:Addr)(H H':Hp):Prop:=∀b o,b≠x->H b=some o->H' b=some o
theorem Ik(hx:x∈A)(s:Ml x H H'):Same (hid A H) (hid A H'):=λb o h=>by
 unfold hid at h ⊢;split at h
 .cases h
 .rename_i hb;rw[if_neg hb];exact s b o (λz=>hb (z▸hx)) h
theorem Top.other{d:D}(t:Top G A H q d)(nq:q≠x)(hx:x∈A)(s:Ml x H H'):Top G A H' q d:=by
 have sm:=Ik hx s;cases d with
 |lst ds=>obtain⟨xs,q1,q2⟩:=t;exact⟨xs,s _ _ nq q1,q2.mono sm⟩
 |dk ds=>obtain⟨xs,q1,q2,q3⟩:=t;exact⟨xs,s _ _ nq q1,q2,q3.mono sm⟩
 |dt ds=>obtain⟨xs,q1,q2,q3⟩:=t;exact⟨xs,s _ _ nq q1,q2,q3.mono sm⟩
 |ob c gs=>obtain⟨C,dx,xs,q1,q2,q3⟩:=t;exact⟨C,dx,xs,s _ _ nq q1,q2,q3.mono sm⟩
 |_=>exact t.elim
end
def tX(G:Gx)(A0:List Addr)(He:Hp)(h:FZ):TE:=λσ H Q=>∃ρ d ρ' A,OkW G A0 He A σ H ρ/\h ρ=some (d,ρ')/\∀v H' A',OkW G A0 He A' σ H' ρ'->Same (hid A H) (hid A' H')->Rep G (hid A' H') v d->Q v H'
def PX(X:Cx)(G:Gx)(e:Expr)(h:FZ):Prop:=∀⦃A0⦄ He,PE X e (tX G A0 He h)
section
variable {G:Gx}{a b c:Expr}{fa fb fc:FE}{p2 px rp p:Pos}{es:List Expr}{fs:FA}{h:FZ}{hs:FZA}
end
end PV
namespace PV
open PySem L2
abbrev Ef:=List (Str×Bool×D)
abbrev FEs:=Rho->Ef->Option (Rho×Ef)
abbrev FTE:=Rho->Ef->Option Bool
def noOw(ρ:Rho):Bool:=ρ.all λz=>match z with | .ow _=>false | _=>true
def pureE(g:FS):FEs:=λρ ε=>match g ρ with | some (.nx ρ')=>if noOw ρ'=true then some (ρ',ε) else none | _=>none
def aG(f:Str)(fe:FE):FEs:=λρ ε=>(fe ρ).bind λd=>if (ε.lookup f).isNone=true/\ε.length<1000 then some (ρ,ε++[(f,false,d)]) else none
def Qj(f:Str)(fe:FE):FEs:=λρ ε=>(fe ρ).bind λd=>if (ε.lookup f).isNone=true/\ε.length<1000 then some (ρ,ε++[(f,true,d)]) else none
def repE(f:Str)(d:D):Ef->Ef
 |[]=>[]
 | (g,b,x)::r=>if g=f then (g,b,d)::r else (g,b,x)::repE f d r
def Qk(f:Str)(fk fv:FE):FEs:=λρ ε=>(fv ρ).bind λv=>(fk ρ).bind λk=>match ε.lookup f with | some (true,d)=>(Cj d k v).map λd'=>(ρ,repE f d' ε) | _=>none
def R_(t:FT):FTE:=λρ _=>t ρ
def inTE(f:Str)(fk:FE):FTE:=λρ ε=>(fk ρ).bind λk=>match ε.lookup f with | some (true,.dk kds)=>(keyD k).map λq=>(getK q kds).isSome | _=>none
def orTE(a b:FTE):FTE:=λρ ε=>match a ρ ε with | some true=>some true | some false=>b ρ ε | none=>none
def ifE(t:FTE):FEs:=λρ ε=>match t ρ ε with | some false=>some (ρ,ε) | _=>none
def nilE:FEs:=λρ ε=>some (ρ,ε)
def Iv(g gs:FEs):FEs:=λρ ε=>(g ρ ε).bind λr=>gs r.1 r.2
def JV(tg:FG)(b:FEs):List D->FEs
 |[],ρ,ε=>some (ρ,ε)
 |d::r,ρ,ε=>(tg d ρ).bind λρ1=>if noOw ρ1=true then (b ρ1 ε).bind λq=>JV tg b r q.1 q.2 else none
def forE(src:FI)(tg:FG)(b:FEs):FEs:=λρ ε=>(src ρ).bind λds=>JV tg b ds ρ ε
def V4(n:Nat)(x:Addr)(ds:List D):Rho:=Ck n (.adr x::ds)
def runI(n np:Nat)(b:FEs)(x:Addr)(ds:List D):Option Ef:=if ds.length+1=np then (b (V4 n x ds) []).map (·.2) else none
def finE(c:Str)(ε:Ef):D:=.ob c (ε.map λp=>(p.1,p.2.2))
open Classical in
noncomputable def mkI(c:Str)(g:Addr->List D->Option Ef)(fs:FA):FE:=λρ=>(fs ρ).bind λds=>(g 0 ds).bind λε=>if ∀x,g x ds=some ε then some (finE c ε) else none
end PV
variable {d:PV.D}{G:PV.Gx}{ds:List PV.D}{ρ:PV.Rho}{kds:List (L2.Key×PV.D)}{g:PV.D->PV.D->Option PV.D}{src:PV.FI}{fg:PV.FG}{ga:PV.FT}{fe:PV.FE}{ε:PV.Ef}
namespace PV
open PySem PySem.Spec L2
open PyProof.Rows hiding St
theorem Cv(h:noOw ρ=true)(i:Nat)(d:D):ρ[i]?≠some (.ow d):=λe=>by
 unfold noOw at h;rw[gg] at h;have:=h _ (fN e);cases this
inductive FsOk (G:Gx) (A0 A:List Addr) (H:Hp) (x:Addr):List (Str×V)->Ef->List Addr->Prop
 |nil:FsOk G A0 A H x [] [] []
 |pl {f:Str}{v:V}{d:D}{fs:List (Str×V)}{ε:Ef}{as:List Addr}:Rep G (hid A H) v d->FsOk G A0 A H x fs ε as->FsOk G A0 A H x ((f,v)::fs) ((f,false,d)::ε) as
 |ow {f:Str}{a:Addr}{d:D}{fs:List (Str×V)}{ε:Ef}{as:List Addr}:a∈A->a∉A0->a≠x->a∉as->Top G A H a d->FsOk G A0 A H x fs ε as->FsOk G A0 A H x ((f,.ref a)::fs) ((f,true,d)::ε) (a::as)
section
variable {A':List Addr}{x:Addr}{fs:List (Str×V)}{as:List Addr}
theorem FsOk.mp(h:FsOk G A0 A H x fs ε as)(r:∀v d,Rep G (hid A H) v d->Rep G (hid A' H') v d)(t:∀a∈as,∀d,Top G A H a d->Top G A' H' a d)(s:∀a∈as,a∈A->a∈A'):FsOk G A0 A' H' x fs ε as:=by
 induction h with
 |nil=>exact .nil
 |pl rv _ ih=>exact .pl (r _ _ rv) (ih t s)
 |ow h1 h2 h3 h4 h5 _ ih=>exact .ow (s _ cS h1) h2 h3 h4 (t _ cS _ h5) (ih (λa ha=>t a (bE _ ha)) (λa ha=>s a (bE _ ha)))
theorem FsOk.names(h:FsOk G A0 A H x fs ε as):fs.map (·.1)=ε.map (·.1):=by
 induction h with
 |nil=>rfl
 |pl _ _ ih=>simp[ih]
 |ow _ _ _ _ _ _ ih=>simp[ih]
theorem FsOk.len(h:FsOk G A0 A H x fs ε as):fs.length=ε.length:=by
 have:=congrArg dE h.names;simpa using this
theorem FsOk.ne(h:FsOk G A0 A H x fs ε as):∀a∈as,a∈A/\a∉A0/\a≠x:=by
 induction h with
 |nil=>intro a ha;cases ha
 |pl _ _ ih=>exact ih
 |ow h1 h2 h3 _ _ _ ih=>
  intro a ha
  rcases bb.mp ha with z | z
  .subst z;exact⟨h1,h2,h3⟩
  .exact ih a z
theorem QC{f:Str}{v:V}:∀{fs:List (Str×V)},fs.lookup f=none->L2.putF f v fs=fs++[(f,v)]
 |[],_=>rfl
 | (g,y)::r,h=>by
  by_cases hf:f=g
  .subst hf;simp[ca] at h
  .have hb:(f==g)=false:=beq_eq_false_iff_ne.mpr hf;simp only[ca,hb] at h;show (if g=f then (g,v)::r else (g,y)::L2.putF f v r)=_;rw[if_neg (λz=>hf z.symm),QC h];rfl
theorem FsOk.none{f:Str}(h:FsOk G A0 A H x fs ε as)(e:ε.lookup f=none):fs.lookup f=none:=by
 induction h with
 |nil=>rfl
 | @pl g v d fs ε as _ _ ih=>
  by_cases hf:f=g
  .subst hf;simp[ca] at e
  .have hb:(f==g)=false:=beq_eq_false_iff_ne.mpr hf;simp only[ca,hb] at e ⊢;exact ih e
 | @ow g a d fs ε as _ _ _ _ _ _ ih=>
  by_cases hf:f=g
  .subst hf;simp[ca] at e
  .have hb:(f==g)=false:=beq_eq_false_iff_ne.mpr hf;simp only[ca,hb] at e ⊢;exact ih e
theorem FsOk.snocP{f:Str}(h:FsOk G A0 A H x fs ε as)(r:Rep G (hid A H) v d):FsOk G A0 A H x (fs++[(f,v)]) (ε++[(f,false,d)]) as:=by
 induction h with
 |nil=>exact .pl r .nil
 |pl rv _ ih=>exact .pl rv ih
 |ow h1 h2 h3 h4 h5 _ ih=>exact .ow h1 h2 h3 h4 h5 ih
theorem FsOk.snocO{f:Str}(h:FsOk G A0 A H x fs ε as)(h1:a∈A)(h2:a∉A0)(h3:a≠x)(h4:a∉as)(t:Top G A H a d):FsOk G A0 A H x (fs++[(f,.ref a)]) (ε++[(f,true,d)]) (as++[a]):=by
 induction h with
 |nil=>exact .ow h1 h2 h3 (λz=>nomatch z) t .nil
 |pl rv _ ih=>exact .pl rv (ih h4)
 | @ow g b e fs ε as q1 q2 q3 q4 q5 _ ih=>
  have hb:a≠b:=λz=>h4 (by simp[z]);refine .ow q1 q2 q3 (λz=>?_) q5 (ih λz=>h4 (bE _ z))
  rcases eD.mp z with z | z
  .exact q4 z
  .simp at z;exact hb z.symm
theorem FsOk.get{f:Str}(h:FsOk G A0 A H x fs ε as)(e:ε.lookup f=some (true,d)):∃a,fs.lookup f=some (.ref a)/\a∈as/\a∈A/\a∉A0/\a≠x/\Top G A H a d:=by
 induction h with
 |nil=>cases e
 | @pl g v d' fs ε as _ _ ih=>
  by_cases hf:f=g
  .subst hf;simp[ca] at e
  .have hb:(f==g)=false:=beq_eq_false_iff_ne.mpr hf;simp only[ca,hb] at e ⊢;exact ih e
 | @ow g a d' fs ε as h1 h2 h3 _ h5 _ ih=>
  by_cases hf:f=g
  .subst hf;simp only[ca,beq_self_eq_true,BN,xk,true_and] at e ⊢;subst e;exact⟨a,rfl,cS,h1,h2,h3,h5⟩
  .have hb:(f==g)=false:=beq_eq_false_iff_ne.mpr hf;simp only[ca,hb] at e ⊢;obtain⟨a',q1,q2,q3⟩:=ih e;exact⟨a',q1,bE _ q2,q3⟩
theorem FsOk.wr{f:Str}{d':D}(h:FsOk G A0 A H x fs ε as)(e:ε.lookup f=some (true,d))(ea:fs.lookup f=some (.ref a))(sx:Ml a H H')(hA:a∈A)(t:Top G A H' a d'):FsOk G A0 A H' x fs (repE f d' ε) as:=by
 have sm:=Ik hA sx
 induction h with
 |nil=>cases e
 | @pl g v d2 fs ε as rv hr ih=>
  by_cases hf:f=g
  .subst hf;simp[ca] at e
  .have hb:(f==g)=false:=beq_eq_false_iff_ne.mpr hf;simp only[ca,hb] at e ea;unfold repE;rw[if_neg (λz=>hf z.symm)];exact .pl (rv.mono sm) (ih e ea)
 | @ow g b d2 fs ε as h1 h2 h3 h4 h5 hr ih=>
  by_cases hf:f=g
  .subst hf;simp only[ca,beq_self_eq_true,BN,V.ref.injEq] at ea;subst ea;unfold repE;rw[if_pos rfl];refine .ow h1 h2 h3 h4 t (hr.mp (λv d r=>r.mono sm) (λc hc d t'=>t'.other (λz=>h4 (by rw[<-z];exact hc)) hA sx) λ_ _ z=>z)
  .have hb:(f==g)=false:=beq_eq_false_iff_ne.mpr hf;simp only[ca,hb] at e ea;obtain⟨a',q1,q2,_⟩:=hr.get e;rw[ea] at q1;cases q1;unfold repE;rw[if_neg (λz=>hf z.symm)];exact .ow h1 h2 h3 h4 (h5.other (λz=>h4 (z▸q2)) hA sx) (ih e ea)
end
structure EOk (G:Gx) (c:Str) (A0:List Addr) (He:Hp) (x:Addr) (A:List Addr) (σ:St) (H:Hp) (ρ:Rho) (ε:Ef):Prop where
 w:OkW G A0 He A σ H ρ
 no:noOw ρ=true
 xA:x∈A
 x0:x∉A0
 s0:ρ[0]?=some (.fz (.adr x))
 ob:∃C dx fs as,H x=some (.ins C dx fs)/\G.cl c=some C/\FsOk G A0 A H x fs ε as
def EOkS(G:Gx)(c:Str)(A0:List Addr)(He:Hp)(x:Addr)(σ:St)(H:Hp)(ρ:Rho)(ε:Ef):Prop:=∃A,EOk G c A0 He x A σ H ρ ε
section
variable {c:Str}{x:Addr}
theorem EOk.at0(o:EOk G c A0 He x A σ H ρ ε):σ[0]?=some (some (.ref x)):=by
 obtain⟨v,h1,h2⟩:=o.w.ok.fz 0 _ o.s0;cases h2;exact h1
theorem EOk.mono(o:EOk G c A0 He x A σ H ρ ε)(s:Same H H'):EOk G c A0 He x A σ H' ρ ε:=by
 obtain⟨C,dx,fs,as,h1,h2,h3⟩:=o.ob;exact⟨o.w.mono s,o.no,o.xA,o.x0,o.s0,C,dx,fs,as,s _ _ h1,h2,h3.mp (λv d r=>r.mono (Az s)) (λa ha d t=>t.mono s) λ_ _ z=>z⟩
theorem jh(s:Same H H')(fr:∀a∈B,a∈A∨H a=none):Same (hid A H) (hid B H'):=λb u h=>by
 unfold hid at h;split at h
 .cases h
 .rename_i hb;rw[BL]
  .exact s b u h
  .intro z
   rcases fr b z with q | q
   .exact hb q
   .rw[q] at h;cases h
theorem Top.plain(t:Top G A H a d)(s:Same H H')(p:Same (hid A H) (hid B H')):Top G B H' a d:=by
 cases d with
 |lst ds=>obtain⟨xs,q1,q2⟩:=t;exact⟨xs,s _ _ q1,q2.mono p⟩
 |dk ds=>obtain⟨xs,q1,q2,q3⟩:=t;exact⟨xs,s _ _ q1,q2,q3.mono p⟩
 |dt ds=>obtain⟨xs,q1,q2,q3⟩:=t;exact⟨xs,s _ _ q1,q2,q3.mono p⟩
 |ob c gs=>obtain⟨C,dx,xs,q1,q2,q3⟩:=t;exact⟨C,dx,xs,s _ _ q1,q2,q3.mono p⟩
 |_=>exact t.elim
theorem EOk.frame(o:EOk G c A0 He x A σ H ρ ε):OkS G A H σ H ρ:=⟨A,Same.refl H,λ_ h=>h,λa h=>.inl h,λa ha=>(o.w.ok.live a ha).ne,o.w.ok,λi d a h _=>absurd h (Cv o.no i d),λy d _ h=>absurd h (Cv o.no 0 d)⟩
theorem EOk.unframe{σ':St}{ρ':Rho}(o:EOk G c A0 He x A σ H ρ ε)(w:OkS G A H σ' H' ρ')(no:noOw ρ'=true)(s0:ρ'[0]?=some (.fz (.adr x))):EOkS G c A0 He x σ' H' ρ' ε:=by
 obtain⟨B,w⟩:=w;have pl:Same (hid A H) (hid B H'):=jh w.same w.fr;obtain⟨C,dx,fs,as,h1,h2,h3⟩:=o.ob;refine⟨B,⟨o.w.same.trans w.same,λa ha=>w.sub a (o.w.sub a ha),λa ha=>?_,o.w.l0,w.ok,λi d a h _=>absurd h (Cv no i d),λy d _ h=>absurd h (Cv no 0 d)⟩,no,w.sub x o.xA,o.x0,s0,C,dx,fs,as,w.same _ _ h1,h2,h3.mp (λv d r=>r.mono pl) (λa ha d t=>t.plain w.same pl) λa _ ha=>w.sub a ha⟩
 rcases w.fr a ha with q | q
 .exact o.w.fr a q
 .exact .inr (o.w.same.free q)
theorem EOk.wr{ε':Ef}(o:EOk G c A0 He x A σ H ρ ε)(hp:p∈A)(h0:p∉A0)(sx:Ml p H H')(lv:Nt (H' p))(ob:∃C dx fs as,H' x=some (.ins C dx fs)/\G.cl c=some C/\FsOk G A0 A H' x fs ε' as):EOk G c A0 He x A σ H' ρ ε':=by
 have hep:He p=none:=(o.w.fr p hp).resolve_left h0;have sm:=Ik hp sx;refine⟨⟨λb u h=>sx b u (DG h hep) (o.w.same b u h),o.w.sub,o.w.fr,o.w.l0,⟨o.w.ok.len,λb hb=>?_,λj e h=>?_,λj e h=>absurd h (Cv o.no j e),λi j d e a h _ _ _=>absurd h (Cv o.no i d)⟩,λi d a h _=>absurd h (Cv o.no i d),λy d _ h=>absurd h (Cv o.no 0 d)⟩,o.no,o.xA,o.x0,o.s0,ob⟩
 .by_cases z:b=p
  .rw[z];exact lv
  .exact (o.w.ok.live b hb).mono λu e=>sx b u z e
 .obtain⟨v,q1,q2⟩:=o.w.ok.fz j e h;exact⟨v,q1,q2.mono sm⟩
end
def tE(G:Gx)(c:Str)(A0:List Addr)(He:Hp)(x:Addr)(g:FEs):TS:=λD σ H=>∃ρ ε r,EOkS G c A0 He x σ H ρ ε/\g ρ ε=some r/\∀σ' H',EOkS G c A0 He x σ' H' r.1 r.2->D.nx σ' H'
def PSE(X:Cx)(G:Gx)(c:Str)(st:Stmt)(g:FEs):Prop:=∀⦃A0⦄ He x,PS X st (tE G c A0 He x g)
def PSEs(X:Cx)(G:Gx)(c:Str)(st:List Stmt)(g:FEs):Prop:=∀⦃A0⦄ He x,PSs X st (tE G c A0 He x g)
def tTE(G:Gx)(c:Str)(A0:List Addr)(He:Hp)(x:Addr)(t:FTE):TT:=λσ H Q=>∃A ρ ε b,EOk G c A0 He x A σ H ρ ε/\t ρ ε=some b/\∀H',Same H H'->Q b H'
def PTE(X:Cx)(G:Gx)(c:Str)(e:Expr)(t:FTE):Prop:=∀⦃A0⦄ He x,PT X e (tTE G c A0 He x t)
def PWE(X:Cx)(G:Gx)(c:Str)(e:Expr)(t:FTE):Prop:=∀⦃A0⦄ He x,PW X e (tTE G c A0 He x t)
section
variable {c:Str}{a b k it:Expr}{fa fb fk:FE}{p2 p px:Pos}{rest:List Stmt}{g gs:FEs}{gp:FS}{ta tb:FTE}{tp:FT}
theorem Xa(h1:PSE X G c st g)(h2:PSEs X G c rest gs):PSEs X G c (st::rest) (Iv g gs):=λA0 He x π s σ H D I ⟨ρ,ε,r,o,e,k⟩=>by
 refine Nk (@h1 A0 He x) (@h2 A0 He x) π s σ H D I ?_;unfold Iv at e;cases e1:g ρ ε with
 |none=>simp[e1] at e
 |some q=>
  simp only[e1,dS] at e;exact⟨ρ,ε,q,o,e1,λσ' H' o'=>⟨q.1,q.2,r,o',e,k⟩⟩
theorem aH(h1:PSE X G c st g):PSEs X G c [st] g:=λA0 He x=>Vf (@h1 A0 He x)
theorem SJ(h:PSD X G st gp)(hk:∀ρ ρ',gp ρ=some (.nx ρ')->ρ'[0]?=ρ[0]?):PSE X G c st (pureE gp):=λA0 He x π s σ H D I ⟨ρ,ε,r,⟨A,o⟩,e,k⟩=>by
 unfold pureE at e;split at e
 .rename_i ρ' e1;split at e
  .rename_i no;cases e;refine @h A H π s σ H D I ⟨ρ,_,o.frame,e1,λσ' H' w=>k σ' H' (o.unframe w no (by rw[hk ρ ρ' e1];exact o.s0))⟩
  .cases e
 .cases e
theorem Xb(h:PFT X G e tp):PTE X G c e (R_ tp):=λA0 He x=>λπ s σ H Q I ⟨A,ρ,ε,b,o,e,k⟩=>@h A π s σ H Q I ⟨ρ,b,o.w.ok,e,k⟩
theorem qG(h:PTE X G c a ta):PWE X G c (.BoolOp .Or [a] pos) ta:=λA0 He x=>dh (@h A0 He x)
theorem vZ{rest:List Expr}(ha:PTE X G c a ta)(hb:PWE X G c (.BoolOp .Or (b::rest) pos) tb):PWE X G c (.BoolOp .Or (a::b::rest) pos) (orTE ta tb):=λA0 He x=>gC (rP (@ha A0 He x) (@hb A0 He x)) λσ H Q ⟨A,ρ,ε,d,o,e,k⟩=>by
 unfold orTE at e;split at e
 .rename_i e1;cases e;exact⟨A,ρ,ε,_,o,e1,λH1 s1=>iteT (k H1 s1)⟩
 .rename_i e1;exact⟨A,ρ,ε,_,o,e1,λH1 s1=>iteF ⟨A,ρ,ε,d,o.mono s1,e,λH2 s2=>k H2 (s1.trans s2)⟩⟩
 .cases e
theorem PWE.pt(h:PWE X G c a ta):PTE X G c a ta:=λA0 He x=>(@h A0 He x).pt
theorem vd{f:Str}{ap:Pos}(hu:X.A.units+1<bi)(hcl:∀c C,G.cl c=some C->Cls X.K C/\Ed X.K C f)(hv:PE X (.Name x px) (tVar 0))(ha:PF X G a fa)(hb:fw (.Name x px) f X.env (eval (.Name x px) X.env)=eval (.Name x px) X.env:=by rfl)(hm:io .In (.Attribute (.Name x px) f ap)=false:=by rfl):PTE X G c (.Compare a [.In] [.Attribute (.Name x px) f ap] pos) (inTE f fa):=λA0 He y π s σ H Q I ⟨A,ρ,ε,d,o,e,k⟩=>by
 refine Zb (Yz hu) (@ha A) (Yh hv hb) hm π s σ H Q I ?_;unfold inTE at e;cases e1:fa ρ with
 |none=>simp[e1] at e
 |some kd=>
  simp only[e1,dS] at e;split at e
  .rename_i kds e2;cases e3:keyD kd with
   |none=>simp[e3] at e
   |some q=>
    simp only[e3,eK] at e;cases e;refine⟨ρ,kd,o.w.ok,e1,λv H1 s1 r1=>?_⟩;obtain⟨C,dx,fs,as,h1,h2,h3⟩:=(o.mono s1).ob;obtain⟨p,q1,q2,q3,q4,q5,kvs,t1,t2,t3⟩:=h3.get e2;refine⟨_,o.at0,y,C,dx,fs,_,rfl,h1,(hcl _ _ h2).1,(hcl _ _ h2).2,q1,p,kvs,q,rfl,.of t1,Jz r1 e3,?_⟩;rw[(Od (k:=q) t2 t3).2];exact⟨_,rfl,k H1 s1⟩
  .cases e
theorem ji(ht:PTE X G c e ta)(h1:PSDs X G s1 badF):PSE X G c (.If e s1 [] pos) (ifE ta):=λA0 He x π s σ H D I ⟨ρ,ε,r,⟨A,o⟩,e,k⟩=>by
 refine dw (@ht A0 He x) (@h1 A0 He) Q6 π s σ H D I ?_;unfold ifE at e;split at e
 .rename_i e1;cases e;exact⟨A,ρ,ε,_,o,e1,λH1 s1=>iteF (k σ H1 ⟨A,o.mono s1⟩)⟩
 .cases e
theorem jj{f:Str}(hcl:∀c C,G.cl c=some C->Cls X.K C/\Ed X.K C f)(hv:PE X (.Name x px) (tVar 0))(ha:PF X G a fa)(hsw:eI a (some (.Attribute (.Name x px) f pos')) pos.line X.env=pure false:=by rfl):
  PSE X G c (.Assign [.Attribute (.Name x px) f pos'] a pos) (aG f fa):=λA0 He y π s σ H D I ⟨ρ,ε,r,⟨A,o⟩,e,k⟩=>by
 refine eQ hv (@ha A) hsw π s σ H D I ?_;unfold aG at e;cases e1:fa ρ with
 |none=>simp[e1] at e
 |some d=>
  simp only[e1,dS] at e;split at e
  .rename_i hz;cases e;refine⟨ρ,d,o.w.ok,e1,λu H1 s1 r1=>?_⟩;have o1:=o.mono s1;obtain⟨C,dx,fs,as,h1,h2,h3⟩:=o1.ob;have hn:=h3.none (sB.mp hz.1);refine⟨_,o.at0,y,C,dx,fs,rfl,h1,(hcl _ _ h2).1,(hcl _ _ h2).2,by rw[h3.len];exact hz.2,?_⟩;rw[QC hn];have sx:Ml y H1 (upd H1 y (.ins C dx (fs++[(f,u)]))):=λb w hb hw=>by rw[Aq hb];exact hw
   have sm:=Ik o1.xA sx;refine k _ _ ⟨A,o1.wr o1.xA o1.x0 sx (by rw[Ak];exact Nt.ins) ⟨C,dx,_,as,Ak,h2,?_⟩⟩;exact (h3.mp (λv d r=>r.mono sm) (λp hp d t=>t.other (h3.ne p hp).2.2 o1.xA sx) λ_ _ z=>z).snocP (r1.mono sm)
  .cases e
theorem Xc{f:Str}(hcl:∀c C,G.cl c=some C->Cls X.K C/\Ed X.K C f)(hv:PE X (.Name x px) (tVar 0))(ha:PN X G a fa)(hsw:eI a (some (.Attribute (.Name x px) f pos')) pos.line X.env=pure false:=by rfl):
    PSE X G c (.Assign [.Attribute (.Name x px) f pos'] a pos) (Qj f fa):=λA0 He y π s σ H D I ⟨ρ,ε,r,⟨A,o⟩,e,k⟩=>by
  refine eQ hv (@ha A) hsw π s σ H D I ?_;unfold Qj at e;cases e1:fa ρ with
  |none=>simp[e1] at e
  |some d=>
    simp only[e1,dS] at e;split at e
    . rename_i hz
      cases e;refine⟨ρ,d,o.w.ok,e1,λq H1 s1 hq t=>?_⟩;obtain⟨C,dx,fs,as,h1,h2,h3⟩:=o.ob;have nqA:q∉A:=λz=>(o.w.ok.live q z).ne hq;have pl:Same (hid A H) (hid (q::A) H1):=Gz s1 hq;have hn:=h3.none (sB.mp hz.1);have nq0:q∉A0:=λz=>nqA (o.w.sub q z);have nqy:q≠y:=λz=>nqA (z▸o.xA);have nqs:q∉as:=λz=>nqA (h3.ne q z).1;have o1:EOk G c A0 He y (q::A) σ H1 ρ ε:=⟨⟨o.w.same.trans s1,λa ha=>bE _ (o.w.sub a ha),λa ha=>by
          rcases bb.mp ha with z | z
          . rw[z];exact .inr (o.w.same.free hq)
          . exact o.w.fr a z,o.w.l0,o.w.ok.fill s1 hq t.live,λi d a h _=>absurd h (Cv o.no i d),λy d _ h=>absurd h (Cv o.no 0 d)⟩,o.no,bE _ o.xA,o.x0,o.s0,C,dx,fs,as,s1 _ _ h1,h2,
          h3.mp (λv d r=>r.mono pl) (λp hp d t=>t.plain s1 pl) λp _ hp=>bE _ hp⟩
      have g1:=s1 _ _ h1;have g2:=h2;have g3:FsOk G A0 (q::A) H1 y fs ε as:=h3.mp (λv d r=>r.mono pl) (λp hp d t=>t.plain s1 pl) λp _ hp=>bE _ hp;have hn':=g3.none (sB.mp hz.1);refine⟨_,o.at0,y,C,dx,fs,rfl,g1,(hcl _ _ g2).1,(hcl _ _ g2).2,by rw[g3.len];exact hz.2,?_⟩;rw[QC hn'];have sx:Ml y H1 (upd H1 y (.ins C dx (fs++[(f,.ref q)]))):=λb w hb hw=>by rw[Aq hb];exact hw
      have sm:=Ik o1.xA sx;refine k _ _ ⟨q::A,o1.wr o1.xA o1.x0 sx (by rw[Ak];exact Nt.ins) ⟨C,dx,_,as++[q],Ak,g2,?_⟩⟩;exact (g3.mp (λv d r=>r.mono sm) (λp hp d t=>t.other (g3.ne p hp).2.2 o1.xA sx) λ_ _ z=>z).snocO cS nq0 nqy nqs (t.other nqy o1.xA sx)
    . cases e
theorem Xd{f:Str}{ap:Pos}(hu:X.A.units+1<bi)(hcl:∀c C,G.cl c=some C->Cls X.K C/\Ed X.K C f)(hv:PE X (.Name x px) (tVar 0))(ha:PF X G a fa)(hb:PF X G b fb)(hbase:fw (.Name x px) f X.env (eval (.Name x px) X.env)=eval (.Name x px) X.env:=by rfl)(hs:eI b (some (.Subscript (.Attribute (.Name x px) f ap) a spos)) pos.line X.env=pure false:=by rfl):PSE X G c (.Assign [.Subscript (.Attribute (.Name x px) f ap) a spos] b pos) (Qk f fa fb):=λA0 He y π s σ H D I ⟨ρ,ε,r,⟨A,o⟩,e,k⟩=>by
 refine Q9 hu (Yh hv hbase) (@ha A) (@hb A) hs π s σ H D I ?_;unfold Qk at e;cases e1:fb ρ with
 |none=>simp[e1] at e
 |some v=>
  cases e2:fa ρ with
  |none=>simp[e1,e2] at e
  |some kd=>
   simp only[e1,e2,dS] at e;split at e
   .rename_i d e3;cases e4:Cj d kd v with
    |none=>simp[e4] at e
    |some d'=>
     simp only[e4,eK] at e;cases e;unfold Cj at e4;split at e4
     .rename_i kds;cases e5:keyD kd with
      |none=>simp[e5] at e4
      |some q=>
       simp only[e5,dS] at e4;split at e4
       .rename_i hz;cases e4;refine⟨ρ,v,o.w.ok,e1,λu H1 s1 r1=>?_⟩;have o1:=o.mono s1;obtain⟨C,dx,fs,as,h1,h2,h3⟩:=o1.ob;obtain⟨p,q1,q2,q3,q4,q5,kvs,t1,t2,t3⟩:=h3.get e3;refine⟨_,o.at0,y,C,dx,fs,_,rfl,h1,(hcl _ _ h2).1,(hcl _ _ h2).2,q1,ρ,kd,o1.w.ok,e2,λyv H2 s2 r2=>?_⟩;have ek:=Jz r2 e5;subst ek;have o2:=o1.mono s2;obtain⟨C',dx',fs',as',g1,g2,g3⟩:=o2.ob;rw[s2 _ _ h1] at g1;cases g1;have hl:kvs.length<sizeLine:=by
         have:=congrArg dE t2;rw[aw,aw] at this;omega
        refine⟨p,_,rfl,DPut.k (s2 _ _ t1) hl,?_⟩;have pk:=RG (k:=q) (r1.mono (Az s2)) t2 (t3.mono (Az s2));have sx:Ml p H2 (upd H2 p (.dK (putK kvs q u))):=λb w hb hw=>by rw[Aq hb];exact hw
        refine k _ _ ⟨A,o2.wr q3 q4 sx (by rw[Ak];exact Nt.dK) ⟨C,dx,fs,as',by rw[Aq (cp q5)];exact s2 _ _ h1,g2,?_⟩⟩;refine g3.wr e3 q1 sx q3 ⟨_,Ak,pk.1,?_⟩;rw[Bg q3];exact pk.2
       .cases e4
     .cases e4
   .cases e
theorem EOk.frameW{x:Addr}(o:EOk G c A0 He x A σ H ρ ε):OkW G A H A σ H ρ:=⟨Same.refl H,λ_ h=>h,λa h=>.inl h,λa ha=>(o.w.ok.live a ha).ne,o.w.ok,λi d a h _=>absurd h (Cv o.no i d),λy d _ h=>absurd h (Cv o.no 0 d)⟩
theorem aJ{gb:FEs}(hp:qA .(2) X.A X.env X.xe)(hc:X.calm=true)(hi:PFI X G false tg it src)(hg:PGD X G tg fg)(hk:∀d ρ ρ',fg d ρ=some ρ'->ρ'[0]?=ρ[0]?)(hb:PSEs X G c body gb)(hs:∀x,ip it X.env x=pure x:=by intro _;rfl):PSE X G c (.For tg it body [] pos) (forE src fg gb):=λA0 He x π s σ H D I ⟨ρ,ε,r,⟨A,o⟩,e,k⟩=>by
 cases e1:src ρ with
 |none=>simp[forE,e1] at e
 |some ds=>
  have e':JV fg gb ds ρ ε=some r:=by simpa [forE,e1] using e
  have hb':PSs X body (λD σ H=>∃A0 He x,tE G c A0 He x gb D σ H):=λπ s σ H D I ⟨A0,He,x,q⟩=>@hb A0 He x π s σ H D I q;have hg':PG X tg (λv σ H Q=>∃A0 He,tGD G A0 He fg v σ H Q):=λπ s σ H v u Q I r ⟨A0,He,q⟩=>@hg A0 He π s σ H v u Q I r q;refine Yb hp hc (@hi A) hg' hb' hs π s σ H D I ⟨ρ,ds,o.w.ok,e1,λJ H1 s1 sr=>?_⟩;have o1:=o.mono s1;obtain⟨sHe,w2⟩:=o1.w.here;generalize hHf:hid (A.filter λa=>decide (a∉A0)) H1=Hf at sHe w2;have k2:∀σ' H',EOkS G c A0 Hf x σ' H' r.1 r.2->D.nx σ' H':=λσ' H' ⟨B,q⟩=>k σ' H' ⟨B,q.w.base sHe o.w.l0,q.no,q.xA,q.x0,q.s0,q.ob⟩;refine⟨λi m σ' H'=>m=ds.length-i/\i<=ds.length/\∃ρ' ε',EOkS G c A0 Hf x σ' H' ρ' ε'/\JV fg gb (ds.drop i) ρ' ε'=some r,⟨ds.length,by simp,dQ _,ρ,ε,⟨A,w2,o1.no,o1.xA,o1.x0,o1.s0,o1.ob⟩,by simpa using e'⟩,?_⟩;rintro i m σ3 H3 ⟨rfl,hil,ρ3,ε3,⟨B,o3⟩,e3⟩;have pl:Same (hid A H1) (hid B H3):=by rw[<-hHf] at o3;exact OkW.plain o.w.sub o3.w
  by_cases hlt:i<ds.length
  .right;have hd:ds[i]?=some ds[i]:=by simp[hlt]
   have ed:ds.drop i=ds[i]::ds.drop (i+1):=rS hlt;rw[ed] at e3;unfold JV at e3;refine⟨sr.go i H3 (pl.trans Am) hlt,λσ' H'=>∃ρ' ε',EOkS G c A0 Hf x σ' H' ρ' ε'/\JV fg gb (ds.drop (i+1)) ρ' ε'=some r,λσ' H' q=>⟨ds.length-(i+1),by omega,rfl,hlt,q⟩,λy H' yy=>?_⟩;obtain⟨sy,rx⟩:=sr.yld i H3 y H' _ (pl.trans Am) hd yy;have o4:=o3.mono sy;cases e4:fg ds[i] ρ3 with
   |none=>simp[e4] at e3
   |some ρ4=>
    simp only[e4,dS] at e3;split at e3
    .rename_i no;refine⟨B,H',B,ρ3,ds[i],ρ4,o4.frameW,rx B o3.w.ok.live pl,e4,λσ5 H5 ok5=>?_⟩;cases e5:gb ρ4 ε3 with
     |none=>simp[e5] at e3
     |some q=>
      simp only[e5,dS] at e3;exact⟨A0,Hf,x,ρ4,ε3,q,o4.unframe ok5 no (by rw[hk _ _ _ e4];exact o4.s0),e5,λσ' H' o'=>⟨q.1,q.2,o',e3⟩⟩
    .cases e3
  .left;have ei:i=ds.length:=by omega
   subst ei;rw[zi] at e3;cases e3;exact⟨sr.stop _ H3 (pl.trans Am) (aE _),k2 σ3 H3 ⟨B,o3⟩⟩
end
theorem Oh:b∈A.filter (λb=>decide (b≠p))↔b∈A/\b≠p:=by simp[eC]
theorem aK(I:Inv X π σ H s)(hA:a∈A)(t:Top G A H a d):
  ∃H',Inv X π σ H' s/\(∀b,b≠a->H' b=H b)/\Same (hid A H) (hid (A.filter λb=>decide (b≠a)) H')/\Rep G (hid (A.filter λb=>decide (b≠a)) H') (.ref a) d:=by
 have key:∀H':Hp,(∀b,b≠a->H' b=H b)->Same (hid A H) (hid (A.filter λb=>decide (b≠a)) H'):=λH' hh b u h=>by
  unfold hid at h;split at h
  .cases h
  .rename_i hb;rw[BL (λz=>hb (Oh.mp z).1),hh b (λz=>hb (z▸hA))];exact h
 have at0:∀H':Hp,hid (A.filter λb=>decide (b≠a)) H' a=H' a:=λH'=>BL (λz=>(Oh.mp z).2 rfl);cases d with
 |lst ds=>
  obtain⟨xs,a1,a2⟩:=t;have sm:=key H λ_ _=>rfl;exact⟨H,I,λ_ _=>rfl,sm,.lst (.of (by rw[at0];exact a1)) (a2.mono sm).1 (a2.mono sm).2⟩
 |dk ds=>
  obtain⟨xs,a1,a2,a3⟩:=t;obtain⟨o,I'⟩:=Inv.frzK I a1;have sm:=key _ λb hb=>Aq (o:=.frz o (.dK xs)) hb;exact⟨_,I',λb hb=>Aq hb,sm,.dk (by rw[at0];exact Ak) a2 (a3.mono sm).2⟩
 |dt ds=>
  obtain⟨xs,a1,a2,a3⟩:=t;obtain⟨o,I'⟩:=Inv.frzT I a1;have sm:=key _ λb hb=>Aq (o:=.frz o (.dT xs)) hb;exact⟨_,I',λb hb=>Aq hb,sm,.dt (by rw[at0];exact Ak) a2 (a3.mono sm).2⟩
 |ob c gs=>
  obtain⟨C,dx,xs,a1,a2,a3⟩:=t;have sm:=key H λ_ _=>rfl;exact⟨H,I,λ_ _=>rfl,sm,.ob a2.1 (by rw[at0];exact a1) a2.2 (a3.mono sm).2⟩
 |_=>exact t.elim
theorem FsOk.frz{X:Cx}{G:Gx}{A0 A:List Addr}{π:zP}{s:af}{σ:St}{H:Hp}{x:Addr}{fs:List (Str×V)}{ε:Ef}{as:List Addr}(h:FsOk G A0 A H x fs ε as)(I:Inv X π σ H s):
  ∃H' A',Inv X π σ H' s/\(∀b,b∉as->H' b=H b)/\(∀b,b∈A'↔b∈A/\b∉as)/\Same (hid A H) (hid A' H')/\RepL G (hid A' H') (fs.map (·.2)) (ε.map λp=>p.2.2):=by
 induction h with
 |nil=>exact⟨H,A,I,λ_ _=>rfl,λb=>by simp,Same.refl _,.nil⟩
 |pl rv _ ih=>
  obtain⟨H',A',i1,i2,i3,i4,i5⟩:=ih;exact⟨H',A',i1,i2,i3,i4,.cons (rv.mono i4) i5⟩
 | @ow f a d fs ε as h1 h2 h3 h4 t _ ih=>
  obtain⟨H1,A1,i1,i2,i3,i4,i5⟩:=ih;have ha:a∈A1:=(i3 a).mpr ⟨h1,h4⟩;have e1:H1 a=H a:=i2 a h4;have t1:Top G A1 H1 a d:=by
   cases d with
   |lst ds=>obtain⟨xs,q1,q2⟩:=t;exact⟨xs,by rw[e1];exact q1,q2.mono i4⟩
   |dk ds=>obtain⟨xs,q1,q2,q3⟩:=t;exact⟨xs,by rw[e1];exact q1,q2,q3.mono i4⟩
   |dt ds=>obtain⟨xs,q1,q2,q3⟩:=t;exact⟨xs,by rw[e1];exact q1,q2,q3.mono i4⟩
   |ob c gs=>obtain⟨C,dx,xs,q1,q2,q3⟩:=t;exact⟨C,dx,xs,by rw[e1];exact q1,q2,q3.mono i4⟩
   |_=>exact t.elim
  obtain⟨H2,j1,j2,j3,j4⟩:=aK i1 ha t1;refine⟨H2,A1.filter λb=>decide (b≠a),j1,λb hb=>?_,λb=>?_,i4.trans j3,.cons j4 (i5.mono j3)⟩
  .rw[j2 b (λz=>hb (by simp[z])),i2 b (λz=>hb (bE _ z))]
  .rw[Oh,i3 b];simp only[bb,not_or];exact⟨λ⟨⟨p1,p2⟩,p3⟩=>⟨p1,p3,p2⟩,λ⟨p1,p3,p2⟩=>⟨⟨p1,p2⟩,p3⟩⟩
theorem EOk.whole{c:Str}{x:Addr}(o:EOk G c A0 He x A σ H ρ ε)(I:Inv X π σ H s):
  ∃H',Inv X π σ H' s/\Same He H'/\Rep G (hid A0 H') (.ref x) (finE c ε):=by
 obtain⟨C,dx,fs,as,h1,h2,h3⟩:=o.ob;obtain⟨H',A',i1,i2,i3,i4,i5⟩:=h3.frz I;have nx:x∉as:=λz=>(h3.ne x z).2.2 rfl;refine⟨H',i1,λb u hb=>?_,?_⟩
 .rw[i2 b (λz=>?_)]
  .exact o.w.same b u hb
  .obtain⟨q1,q2,_⟩:=h3.ne b z;rw[(o.w.fr b q1).resolve_left q2] at hb;cases hb
 .have sb:∀a∈A0,a∈A':=λa ha=>(i3 a).mpr ⟨o.w.sub a ha,λz=>(h3.ne a z).2.1 ha⟩;have en:fs.map (·.1)=(ε.map λp=>(p.1,p.2.2)).map (·.1):=by
   rw[h3.names,bX];rfl
  have es:(ε.map λp=>(p.1,p.2.2)).map (·.2)=ε.map λp=>p.2.2:=by rw[bX];rfl
  refine .ob h2 (by rw[BL o.x0,i2 x nx];exact h1) en ?_;rw[es];exact (i5.mono (Dz sb)).2
def tEI(G:Gx)(c:Str)(A0:List Addr)(He:Hp)(x:Addr)(g:FEs):TS:=λD σ H=>∃ρ ε r,EOkS G c A0 He x σ H ρ ε/\g ρ ε=some r/\∀σ' H',Same He H'->Rep G (hid A0 H') (.ref x) (finE c r.2)->D.nx σ' H'
def PSI(X:Cx)(G:Gx)(c:Str)(st:List Stmt)(g:FEs):Prop:=∀⦃A0⦄ He x,PSs X st (tEI G c A0 He x g)
theorem qH{c:Str}:PSI X G c [] nilE:=λA0 He x π s σ H D I ⟨ρ,ε,r,⟨A,o⟩,e,k⟩=>by
 cases e;obtain⟨H',I',q1,q2⟩:=o.whole I;exact Q6 π s σ H' D I' (k σ H' q1 q2)
theorem HX{c:Str}{rest:List Stmt}{g gs:FEs}(h1:PSE X G c st g)(h2:PSI X G c rest gs):PSI X G c (st::rest) (Iv g gs):=λA0 He x π s σ H D I ⟨ρ,ε,r,o,e,k⟩=>by
 refine Nk (@h1 A0 He x) (@h2 A0 He x) π s σ H D I ?_;unfold Iv at e;cases e1:g ρ ε with
 |none=>simp[e1] at e
 |some q=>
  simp only[e1,dS] at e;exact⟨ρ,ε,q,o,e1,λσ' H' o'=>⟨q.1,q.2,r,o',e,k⟩⟩
def spI(G:Gx)(c:Str)(g:Addr->List D->Option Ef):Sp:=λvs H Q _=>∃A x vs' ds ε C dx,vs=.ref x::vs'/\(∀a∈A,Nt (H a))/\x∉A/\H x=some (.ins C dx [])/\G.cl c=some C/\RepL G (hid (x::A) H) vs' ds/\g x ds=some ε ∧
 ∀H',Ml x H H'->Rep G (hid A H') (.ref x) (finE c ε)->Q .non H'
theorem M_(n:Nat)(ds:List D):noOw (Ck n ds)=true:=by
 unfold noOw Ck;rw[gg];intro z hz
 rcases eD.mp hz with q | q
 .obtain⟨d,_,rfl⟩:=aI.mp q;rfl
 .rw[(List.mem_replicate.mp q).2]
theorem fn_I{base:Heap}{c:Str}{k:Nat}{b:FEs}(F:Fun G.K x qual st f fd)(S:FnScope N ps (Ad st))(hl:ps.length<=N.length)(hb:∀(cdv:ac) (A:ax) (outer:List Env) (s:af) (H:Hp) (E:XK),Room k (A.deeper (fI qual (Ad st) s.heap.objs.size f cdv))->PSI (cxOf CX0 P w G.K mg base N qual (Ad st) f cdv A outer s H E).nox G c (Bj st) b):
  FnOk P w G.K mg base CX0 (k+1) f fd ps (spI G c (runI N.length ps.length b)):=by
 refine F.ok S (λvs H Q E h=>?_) (λcdv A outer s H vs Q E hr h=>?_)
 .obtain⟨A,x,vs',ds,ε,C,dx,rfl,lv,hx,hH,hc,r,e,_⟩:=h;unfold runI at e;split at e
  .rename_i hz;rw[eR,r.1];exact hz
  .cases e
 .obtain⟨A1,x,vs',ds,ε,C,dx,rfl,lv,hx,hH,hc,r,e,k⟩:=h;unfold runI at e;split at e
  .rename_i hz;have lv':∀a∈x::A1,Nt (H a):=λa ha=>by
    rcases bb.mp ha with z | z
    .rw[z,hH];exact Nt.ins
    .exact lv a z
   have r':RepL G (hid (x::A1) H) (.ref x::vs') (.adr x::ds):=.cons (.adr x) r;obtain⟨B,w⟩:=N5 (N:=N) lv' r' (by rw[eR,r.1];omega);cases e1:b (V4 N.length x ds) [] with
   |none=>simp[e1] at e
   |some q=>
    simp only[e1,eK] at e;cases e;have hzz:=hb cdv A outer s H E hr;refine⟨_,@hzz A1 (hid [x] H) x,V4 N.length x ds,[],q,?_,e1,λσ' H' s' rv=>k H' (λb o hb ho=>s' b o (by rw[BL (by simpa using hb)];exact ho)) rv⟩;refine⟨B,⟨Am,λa ha=>w.sub a (bE _ ha),λa ha=>?_,λa ha=>?_,w.ok,λi d a h _=>absurd h (Cv (M_ _ _) i d),λy d _ h=>absurd h (Cv (M_ _ _) 0 d)⟩,M_ _ _,w.sub x cS,hx,rfl,C,dx,[],[],hH,hc,.nil⟩
    .rcases w.fr a ha with z | z
     .rcases bb.mp z with z | z
      .right;unfold hid;rw[if_pos (by simp[z])]
      .exact .inl z
     .right;unfold hid;split
      .rfl
      .exact z
    .rw[BL (λz=>hx (by simp at z;rw[<-z];exact ha))];exact (lv a ha).ne
  .cases e
section
variable {a b:Expr}{fa fb:FE}{p2 p:Pos}{es:List Expr}{fs:FA}
theorem jk{k:Nat}{g:Addr->List D->Option Ef}(hcl:G.cl cn=some C)(M:Mk X.K C f)(F:FnOk X.prog X.w X.K X.mg X.base CX0 k f fd ps (spI G cn g))(hr:Room (k+1) X.A)(hg:Gl X x)(hm:X.mg x=some (.ref C))(hb:Binds X.K fd ps [])(ha:PFA X G (a::es) fs)(hdb:.(12)=false:=by decide)(he:ar (a::es) X.env=.(16)::ar es X.env:=by rfl)(hpl:(bP pos (ar es X.env)).any (·.1)=false:=by rfl):
  PF X G (.Call (.Name x p) (a::es) [] pos) (mkI cn g fs):=λA=>Bx (oJ M F hr hg hm hb .nil Ws (@ha A) hdb he hpl) λσ H Q ⟨ρ,d,o,e,k⟩=>by
 unfold mkI at e;cases e1:fs ρ with
 |none=>simp[e1] at e
 |some ds=>
  cases e3:g 0 ds with
  |none=>simp[e1,e3] at e
  |some ε=>
   simp only[e1,e3,dS] at e;split at e
   .rename_i hall;cases e;refine⟨ρ,ds,o,e1,λvs H1 s1 rv=>λy dx hy hdx hne=>?_⟩;have sm:Same H1 (upd (upd H1 dx (.own y)) y (.ins C dx [])):=(Ar hdx _).trans (Ar (by rw[Aq (cp hne)];exact hy) _);have lv1:=(o.mono s1).live;refine⟨A,y,vs,ds,ε,C,dx,by rw[eL],λb hb=>?_,λz=>(lv1 y z).ne hy,Ak,hcl,rv.mono (Gz sm hy),hall y,λH' sx rv'=>?_⟩
    .exact (lv1 b hb).mono λu e=>sm _ _ e
    .refine⟨rfl,k _ H' (λb u hb=>sx b u (λz=>?_) (sm _ _ (s1 _ _ hb))) rv'⟩;have:=s1 _ _ hb;rw[z,hy] at this;cases this
   .cases e
end
theorem V5{f:FE}(ρ ρ':Rho)(h:HR f ρ=some (.nx ρ')):ρ'[0]?=ρ[0]?:=by
 unfold HR at h;cases e:f ρ with
 |none=>simp[e] at h
 |some d=>simp[e] at h;rw[h]
def K0s(g:FGs):Prop:=∀ds ρ ρ',g ds ρ=some ρ'->ρ'[0]?=ρ[0]?
theorem jl:K0s nilG:=λds ρ ρ' h=>by
 unfold nilG at h;split at h
 .cases h;rfl
 .cases h
theorem RK{g:FGs}(hi:i≠0)(hg:K0s g):K0s (By i g):=λds ρ ρ' h=>by
 unfold By at h;split at h
 .rw[hg _ _ _ h,gE hi]
 .cases h
theorem jm{g:FGs}(hg:K0s g)(d:D)(ρ ρ':Rho)(h:tupG n g d ρ=some ρ'):ρ'[0]?=ρ[0]?:=by
 unfold tupG at h;split at h
 .split at h
  .exact hg _ _ _ h
  .cases h
 .split at h
  .exact hg _ _ _ h
  .cases h
 .cases h
end PV
namespace PV
open PySem PySem.W PySem.Calls PyProof.Rows L2
end PV
namespace PySem
open PySem.Spec
section
variable {A:ax}{I d:Addr}{es:Array mi}{od:Obj}
def yZ(h:Heap)(I d:Addr)(i n ep:Nat)(od:Obj):Prop:=h.get? I=some { cls:=.type "dict_keyiterator",data:=.fields #[.ref d,.int i 0,.int n 0,.int ep 0] }/\h.get? d=some od
theorem Walks.raw(hh:A.handled=none)(hne:d≠I)(hod:od.data=.dict es ep):Walks prog w A I [I,d] [I] es.size (λi v=>∃hi:i<es.size,v=(es[i]'hi).key) (λi h=>yZ h I d i es.size ep od) where
 sub:=λb hb=>by simp at hb;simp[hb]
 frame:=λ_ _ _ st hk=>⟨hk I (by simp) _ st.1,hk d (by simp) _ st.2⟩
 item:=λi s Q E hi st hQ=>by
  refine Y6 hod hi st.1 st.2 ?_;have e1:(s.heap.update I (pV (·.setIfInBounds 1 (de ((i:Int)+1))))).get? I=some { cls:=.type "dict_keyiterator",data:=.fields #[.ref d,.int ((i+1:Nat):Int) 0,.int es.size 0,.int ep 0] }:=pE _ st.1 rfl;exact hQ _ _ s.toks ⟨hi,rfl⟩ ⟨e1,(nE _ _ (cp hne)).trans st.2⟩ λb o hb e=>(nE _ _ (λz=>hb (by simp[<-z]))).trans e
 done:=λs Q E st hQ=>T7 hh hod (aE _) st.1 st.2 λh' he=>hQ h' s.toks λb o hb e=>he b o (λz=>hb (by simp[z])) e
 self:=λ_ _ _ _ st hQ=>FB ⟨_,st.1,rfl,rfl⟩ hQ
theorem qI(hd:(d==fq)=false)(hx:od.ExactDict)(hod:od.data=.dict es ep):G1 prog w "dict" d d es.size (λi v=>∃hi:i<es.size,v=(es[i]'hi).key) (λh=>h.get? d=some od) where
 type:=λ_ hm=>⟨_,hm,hx.1⟩
 there:=λ_ hm=>⟨aT hm,aT hm⟩
 keep:=λ_ _ hm hk=>hk d (.inl rfl) _ hm
 notList:=by decide
 notTuple:=by decide
 hint:=λ_ _ _ _ hm hq=>PySem.W.kdl_hint_dict ⟨_,hm,hx.1⟩ hq
 iter:=λA s hh hm=>⟨_,_,λE Q hq=>Y7 hd hx hod hm hq,Walks.raw hh (bg (aT hm)) hod,bn _ rfl,aS _ hm⟩
end
end PySem
namespace PV
open PySem PySem.Spec L2
open PyProof.Rows hiding St
section
theorem Hy(hc:X.calm=true):Dd X (.type "list") (λxs H Q=>∃p kvs,xs=[.ref p]/\Rd H p (.dT kvs)/\∀l (cs:List Addr),H l=none->cs.length=kvs.length->(∀(i:Nat) (c:Addr) (q:List Key×V),cs[i]?=some c->kvs[i]?=some q->H c=some (.tup (q.1.map kV)))->Q (.ref l) (upd H l (.lst (cs.map V.ref)))):=by
 intro π s σ H xs us Q I r h;obtain⟨p,kvs,rfl,e,q⟩:=h;obtain⟨u,rfl,ru⟩:=r.one;cases ru;obtain⟨z,hd,ys,rel,o,es,ep,ho,hx,hod,hes,nd⟩:=(show Bc X.prog X.w H s.heap p (.dT kvs) from fL I.hok e);have hl:kvs.length=ys.length:=rel.length;have hn:es.size=ys.length:=by rw[<-lh,hes,aw]
 refine BM (PySem.qI hd hx hod) (I.ok.hd hc) ho (by omega) λh' tk acc c' kp hnew hi=>?_;have va:Vals ((ys.map (·.2.1)).map V.ref) acc.toList:=by
  have hla:acc.toList.length=ys.length:=by rw[lh,hi.1,hn]
  have g:∀(j:Nat) u,acc.toList[j]?=some u->∃y,ys[j]?=some y/\u=.ref y.2.1:=λj u hu=>by
   obtain⟨h1,h2⟩:=hi.2 j u (by simpa using hu);have hj:j<ys.length:=by omega
   refine⟨ys[j],by simp[hj],?_⟩;have e1:es[j]=xD (oy (Av X.prog X.w)) ys[j]:=by
    have:es.toList[j]?=some (xD (oy (Av X.prog X.w)) ys[j]):=by rw[hes];simp[hj]
    have h3:es.toList[j]?=some es[j]:=by simp[h1]
    rw[h3] at this;exact cq this
   rw[h2,e1];rfl
  have build:∀{ys:List (List Key×Addr×ac)}{us:List ac},us.length=ys.length->(∀(j:Nat) u,us[j]?=some u->∃y,ys[j]?=some y/\u=.ref y.2.1)->Vals ((ys.map (·.2.1)).map V.ref) us:=by
   intro ys
   induction ys with
   |nil=>intro us h1 _;rw[wb h1];exact .nil
   |cons y r ih=>
    intro us h1 h2;cases us with
    |nil=>simp at h1
    |cons u us=>
     obtain⟨y',a1,a2⟩:=h2 0 u rfl;simp at a1;subst a1;exact .cons a2 (ih (by simpa using h1) λj v hv=>by simpa using h2 (j+1) v (by simpa using hv))
  exact build hla g
 refine⟨.ref s.heap.objs.size,_,I.laid (t':=tk) kp (aE _) (show Bc X.prog X.w _ h' _ (.lst ((ys.map (·.2.1)).map V.ref)) from⟨by rw[aw,aw];omega,acc.toList,c',va,by simpa using hnew⟩),rfl,q _ _ (I.hok.fresh (aE _)) (by rw[aw];exact hl.symm) λi c qq h1 h2=>?_⟩;rw[be] at h1;cases e3:ys[i]? with
 |none=>rw[e3] at h1;cases h1
 |some y=>
  rw[e3] at h1;cases h1;exact (Hw rel h2 e3).2.1
def Ld:D->Option D
 |.dt kds=>some (.lst (kds.map λp=>.tup (p.1.map kDt)))
 |d=>listE d
theorem Xe{H:Hp}:∀(k:List Key),RepL G H (k.map kV) (k.map kDt)
 |[]=>.nil
 |k::r=>.cons (RJ k) (Xe r)
theorem RepT.dt{A:List Addr}{H:Hp}{v:V}{kds:List (List Key×D)}(r:RepT G A H v (.dt kds)):∃a kvs,v=.ref a/\Rd H a (.dT kvs)/\kvs.map (·.1)=kds.map (·.1)/\RepL G (hid A H) (kvs.map (·.2)) (kds.map (·.2)):=by
 rcases r with r | ⟨a,e,kvs,h,k,r⟩
 .cases r with
  |dt h k r=>
   refine⟨_,_,rfl,.inr ⟨_,Am _ _ h⟩,k,?_,r⟩;have:=congrArg dE k;rw[aw,aw] at this ⊢;exact this
 .exact⟨a,kvs,e,.of h,k,r⟩
theorem MN:SndC G (λxs H Q=>((∃p ys,xs=[.ref p]/\(SqL G.K H p ys∨SqT G.K H p ys)/\∀l,H l=none->Q (.ref l) (upd H l (.lst ys)))∨∃p kvs,xs=[.ref p]/\Rd H p (.dK kvs)/\∀l,H l=none->Q (.ref l) (upd H l (.lst (kvs.map λq=>kV q.1)))) ∨
  ∃p kvs,xs=[.ref p]/\Rd H p (.dT kvs)/\∀l (cs:List Addr),H l=none->cs.length=kvs.length->(∀(i:Nat) (c:Addr) (q:List Key×V),cs[i]?=some c->kvs[i]?=some q->H c=some (.tup (q.1.map kV)))->Q (.ref l) (upd H l (.lst (cs.map V.ref)))) Ld:=by
 intro A H x dx d Q lv rx h k;unfold Ld at h;split at h
 .rename_i kds;cases h;obtain⟨p,kvs,rfl,h1,h2,r⟩:=rx.dt;have hl:kvs.length=kds.length:=by have:=congrArg dE h2;rwa [aw,aw] at this
  refine .inr ⟨p,kvs,rfl,h1,λl cs hfree hcs hc=>k _ _ (Ar hfree _) (Cq lv hfree ⟨by rw[aw,aw];omega,λi v dd e1 e2=>?_⟩)⟩;rw[be] at e1 e2;cases g1:cs[i]? with
  |none=>rw[g1] at e1;cases e1
  |some c=>
   cases g2:kds[i]? with
   |none=>rw[g2] at e2;cases e2
   |some qd=>
    rw[g1] at e1;rw[g2] at e2;cases e1;cases e2;have hi:i<kvs.length:=by rw[hl];exact (d6.mp g2).1
    have g3:kvs[i]?=some kvs[i]:=by simp[hi]
    have ek:(kvs[i]).1=qd.1:=by
     have a1:(kvs.map (·.1))[i]?=some (kvs[i]).1:=by rw[be,g3];rfl
     rw[h2,be,g2] at a1;exact (cq a1).symm
    have ht:=hc i c _ g1 g3;rw[ek] at ht;have nA:c∉A:=λz=>(lv c z).tup _ ht;have kr:=Xe (G:=G) (H:=hid A H) qd.1;exact .tup (.of (by rw[BL nA];exact ht)) kr.1 kr.2
 .exact .inl (cZ A H x dx d Q lv rx h k)
end
section
def dkEq(a b:List (Key×D)):Option Bool:=if a.length≠b.length then some false else if a.map (·.1)=b.map (·.1) then allO flD (a.map (·.2)) (b.map (·.2)) else none
theorem aL{A:ax}{s:af}{kb:List (Key×ac)}:∀{ka:List (Key×ac)}{ds es:List D}{b:Bool},ka.length=ds.length ->
  (∀(j:Nat) (k:Key) (v:ac) (d e:D) (c:Bool),ka[j]?=some (k,v)->ds[j]?=some d->es[j]?=some e->flD d e=some c->∃y,nI kb k=some y/\jS A s v y c)->allO flD ds es=some b->Gc A s kb ka b
 |[],ds,es,b,hl,_,h=>by
  cases ds with
  |nil=>
   cases es with
   |nil=>cases h;exact .nil
   |cons e r=>cases h
  |cons d r=>simp at hl
 | (k,v)::ka,[],es,b,hl,_,h=>by simp at hl
 | (k,v)::ka,d::ds,[],b,hl,_,h=>by cases h
 | (k,v)::ka,d::ds,e::es,b,hl,g,h=>by
  unfold allO at h;cases e1:flD d e with
  |none=>rw[e1] at h;cases h
  |some c=>
   cases e2:allO flD ds es with
   |none=>rw[e1,e2] at h;cases h
   |some b'=>
    rw[e1,e2] at h;cases h;obtain⟨y,h1,h2⟩:=g 0 k v d e c rfl rfl rfl e1;exact .hit h1 h2 (aL (by simpa using hl) (λj k v d e c a1 a2 a3 a4=>g (j+1) k v d e c (by simpa using a1) (by simpa using a2) (by simpa using a3) a4) e2)
def jq(G:Gx)(neg:Bool):R2:=λx y H Q=>∃(A:List Addr) (a b:List (Key×D)) (c:Bool),RepT G A H x (.dk a)/\RepT G A H y (.dk b)/\dkEq a b=some c/\Q (.bl (if neg then !c else c)) H
theorem U3(hG:G.K=X.K)(hu:X.A.units+64<bi)(I:Inv X π σ H s){A:List Addr}{a b:List (Key×D)}{c:Bool}{x y:V}(rx:RepT G A H x (.dk a))(ry:RepT G A H y (.dk b))(e:dkEq a b=some c):
  ∃p q ka kb,x=.ref p/\y=.ref q/\(p==fq)=false/\(q==fq)=false/\s.heap.DictOf (Av X.prog X.w) p ka/\s.heap.DictOf (Av X.prog X.w) q kb/\∃c',(ka.length=kb.length->Gc X.A.in1 s kb ka c')/\((ka.length==kb.length)&&c')=c:=by
 obtain⟨p,kvs,rfl,h1,h2,r1⟩:=rx.dk;obtain⟨q,kws,rfl,h3,h4,r2⟩:=ry.dk;unfold dkEq at e;split at e
 .rename_i hlen;cases e;obtain⟨z1,hd1,va,rela,da⟩:=Im I.hok h1;obtain⟨z2,hd2,vb,relb,db⟩:=Im I.hok h3;have la:kvs.length=va.length:=rela.length;have lb:kws.length=vb.length:=relb.length;have l1:kvs.length=a.length:=by have:=congrArg dE h2;simpa using this
  have l2:kws.length=b.length:=by have:=congrArg dE h4;simpa using this
  exact⟨p,q,va,vb,rfl,rfl,hd1,hd2,da,db,true,λz=>absurd z (by omega),by rw[rL];exact beq_eq_false_iff_ne.mpr (by omega)⟩
 split at e
 .rename_i hk;obtain⟨z1,hd1,va,rela,da⟩:=Im I.hok h1;obtain⟨z2,hd2,vb,relb,db⟩:=Im I.hok h3;have la:kvs.length=va.length:=rela.length;have lb:kws.length=vb.length:=relb.length;have l1:kvs.length=a.length:=by have:=congrArg dE h2;simpa using this
  have l2:kws.length=b.length:=by have:=congrArg dE h4;simpa using this
  have l3:a.length=b.length:=by have:=congrArg dE hk;simpa using this
  have nd:(vb.map (·.1)).Nodup:=by obtain⟨_,_,_,_,_,_,_,_,nd⟩:=db;exact nd
  refine⟨p,q,va,vb,rfl,rfl,hd1,hd2,da,db,c,λ_=>aL (ds:=a.map (·.2)) (es:=b.map (·.2)) (by rw[aw];omega) (λj k v d e' c' g1 g2 g3 g4=>?_) e,by rw[beq_iff_eq.mpr (show va.length=vb.length by omega),wf]⟩;have hj:j<va.length:=(d6.mp g1).1;have kj:kvs[j]?=some kvs[j]:=by simp[show j<kvs.length by omega]
  have wj:kws[j]?=some kws[j]:=by simp[show j<kws.length by omega]
  have bj:vb[j]?=some vb[j]:=by simp[show j<vb.length by omega]
  have p1:=Hw rela kj g1;have p2:=Hw relb wj bj;have ek:(kvs[j]).1=(kws[j]).1:=by
   have a1:(kvs.map (·.1))[j]?=some (kvs[j]).1:=by rw[be,kj];rfl
   have a2:(kws.map (·.1))[j]?=some (kws[j]).1:=by rw[be,wj];rfl
   rw[h2,hk,<-h4,a2] at a1;exact (cq a1).symm
  have key:k=(vb[j]).1:=by rw[<-p2.1,<-ek];exact p1.1.symm
  refine⟨(vb[j]).2,valueAt_of_get nd (i:=j) (by rw[bj,key]),?_⟩;have rv1:Rep G (hid A H) (kvs[j]).2 d:=r1.2 j _ d (by rw[be,kj];rfl) g2;have rv2:Rep G (hid A H) (kws[j]).2 e':=r2.2 j _ e' (by rw[be,wj];rfl) g3;exact M7 I hG 0 X.A.in1 (by show X.A.units+1+0<bi;omega) (show eqK 0 d e'=some c' from g4) (rv1.mono Am) (rv2.mono Am) p1.2 p2.2
 .cases e
theorem qJ(hG:G.K=X.K)(hu:X.A.units+64<bi):OpR X (d3 .Eq) (jq G false):=by
 intro π s σ H x y v u Q I rx ry h;obtain⟨A,a,b,c,r1,r2,e,k⟩:=h;obtain⟨p,q,ka,kb,rfl,rfl,m1,m2,da,db,c',hits,rfl⟩:=U3 hG hu I r1 r2 e;cases rx;cases ry;exact PySem.W.keq_eq m1 m2 da db (by omega) hits ⟨.bl _,H,I,rfl,k⟩
theorem qK(hG:G.K=X.K)(hu:X.A.units+64<bi):OpR X (d3 .NotEq) (jq G true):=by
 intro π s σ H x y v u Q I rx ry h;obtain⟨A,a,b,c,r1,r2,e,k⟩:=h;obtain⟨p,q,ka,kb,rfl,rfl,m1,m2,da,db,c',hits,rfl⟩:=U3 hG hu I r1 r2 e;cases rx;cases ry;exact PySem.W.keq_ne m1 m2 da db (by omega) hits ⟨.bl _,H,I,rfl,k⟩
def eqF(neg:Bool)(x y:D):Option D:=match x,y with
 |.dk a,.dk b=>(dkEq a b).map λc=>.bl (if neg then !c else c)
 |x,y=>eqD neg x y
theorem aM(neg:Bool):Dm G (λx y H Q=>rEqA G neg x y H Q∨jq G neg x y H Q) (eqF neg):=by
 intro A H x y dx dy d Q lv rx ry h k;unfold eqF at h;split at h
 .rename_i a b;cases e:dkEq a b with
  |none=>simp[e] at h
  |some c=>
   simp only[e,eK] at h;cases h;exact .inr ⟨A,a,b,c,rx,ry,e,k _ H (Same.refl H) (.bl _)⟩
 .exact .inl (Vq neg A H x y _ _ d Q lv rx ry h k)
end
structure FunD (K:ay) (x qual:Str) (st:Stmt) (f:Addr) (fd:kR):Prop where
 ex:∃(oc:ac) (od:Option Addr) (dV kV doc pm:ac) (an:Option Addr) (cdv ct:ac) (osl:Array (Option ac)),
  fd=fR x qual (Df st) (Bj st) (Ad st) dV kV doc pm an cdv ct/\K.lookup f=some ⟨oc,od,.func fd,osl⟩/\lS K cdv qual=true
 kp:hU K (.ref f)=true
theorem aN{K:ay}{dV kV:ac}(l:K.lookup f=some ⟨oc,od,.func (fR x qual (Df st) (Bj st) (Ad st) dV kV doc pm an cdv ct),osl⟩)(c:lS K cdv qual=true)(k:hU K (.ref f)=true):FunD K x qual st f (fR x qual (Df st) (Bj st) (Ad st) dV kV doc pm an cdv ct):=⟨⟨oc,od,dV,kV,doc,pm,an,cdv,ct,osl,rfl,l,c⟩,k⟩
theorem yc{base:Heap}{k:Nat}{b:FS}(F:FunD G.K x qual st f fd)(S:FnScope N ps (Ad st))(hl:ps.length<=N.length)(hb:∀(cdv:ac) (A:ax) (outer:List Env) (s:af) (H:Hp) (E:XK),Room k (A.deeper (fI qual (Ad st) s.heap.objs.size f cdv))->PSDs (cxOf CX0 P w G.K mg base N qual (Ad st) f cdv A outer s H E).nox G (Bj st) b):
  FnOk P w G.K mg base CX0 (k+1) f fd ps (spD G (runF N.length ps.length b)):=by
 obtain⟨oc,od,dV,kV,doc,pm,an,cdv,ct,osl,rfl,lk,hcd⟩:=F.ex;refine e_ lk hcd S (λvs H Q E h=>?_) (λA outer s H vs Q E hr h=>?_)
 .obtain⟨A,ds,d,lv,r,e,_⟩:=h;unfold runF at e;split at e
  .rename_i hz;rw[r.1];exact hz
  .cases e
 .obtain⟨A0,ds,d,lv,r,e,k⟩:=h;unfold runF at e;split at e
  .rename_i hz;have hzz:=hb cdv A outer s H E hr;refine⟨_,(@hzz A0 H).nox,Ck N.length ds,?_⟩;cases e1:b (Ck N.length ds) with
   |none=>simp[e1] at e
   |some o=>
    refine⟨o,N5 lv r (by rw[r.1,hz];exact hl),rfl,?_⟩;cases o with
    |nx ρ=>
     simp only[e1] at e;cases e;exact λσ H' ⟨A,w⟩=>k _ H' w.same .non
    |rt d' ρ'=>
     simp only[e1] at e;cases e;exact λv σ H' A w r'=>k v H' w.same (r'.mono (Dz w.sub))
    |bk ρ=>simp[e1] at e
    |ct ρ=>simp[e1] at e
  .cases e
end PV
namespace PV
open PySem L2
theorem NB(l:List D)(y:D):ixE (.lst l) y=ixD (.lst l) y:=zE_ _
theorem Fv(l:List D)(y:D):ixE (.tup l) y=ixD (.tup l) y:=zE_ _
theorem vf(l:Str)(y:D):ixE (.str l) y=ixD (.str l) y:=zE_ _
theorem GP(k:List (Key×D))(x:Str):ixE (.dk k) (.str x)=getK (.inr x) k:=zE_ _
theorem RL(l:List D):lenE (.lst l)=some (.int l.length):=zE_ _
theorem qL(l:List (Key×D)):lenE (.dk l)=some (.int l.length):=zE_ _
theorem qM(neg:Bool)(x:Str)(k:List (Key×D)):inF neg (.str x) (.dk k)=some (.bl (if neg then !(getK (.inr x) k).isSome else (getK (.inr x) k).isSome)):=zE_ _
def Oi(o:Option D):Option (List D):=match o with | some (.str x)=>some (R9 x) | some (.lst ds)=>some ds | some (.tup ds)=>some ds | some (.dk kds)=>some (kds.map λp=>kDt p.1) | _=>none
theorem DN(f:FE)(ρ:Rho):seqA f ρ=Oi (f ρ):=by
 unfold seqA seqE Oi;cases f ρ with
 |none=>rfl
 |some d=>cases d<;>rfl
theorem GQ(l:List D):Oi (some (.lst l))=some l:=zE_ _
theorem Oj(l:List D):Oi (some (.tup l))=some l:=zE_ _
theorem RM(l:List (Key×D)):Oi (some (.dk l))=some (l.map λp=>kDt p.1):=zE_ _
def putO(i:Nat)(ρ:Rho)(x y v:Option D):Option Out:=v.bind λv=>y.bind λy=>x.bind λx=>(Cj x y v).map λz=>.nx (ρ.set i (.ow z))
theorem SM(i:Nat)(fk fv:FE)(ρ:Rho):putF i fk fv ρ=putO i ρ (getW ρ[i]?) (fk ρ) (fv ρ):=zE_ _
theorem NK(i:Nat)(ρ:Rho)(x y v:D):putO i ρ (some x) (some y) (some v)=(Cj x y v).map λz=>.nx (ρ.set i (.ow z)):=zE_ _
def tV(i:Nat)(ρ:Rho)(x:Option D)(y:Option (List D))(v:Option D):Option Out:=v.bind λv=>y.bind λy=>x.bind λx=>(Og x y v).map λz=>.nx (ρ.set i (.ow z))
theorem vg(i:Nat)(fk:FA)(fv:FE)(ρ:Rho):XS i fk fv ρ=tV i ρ (getW ρ[i]?) (fk ρ) (fv ρ):=zE_ _
theorem qN(i:Nat)(ρ:Rho)(x:D)(y:List D)(v:D):tV i ρ (some x) (some y) (some v)=(Og x y v).map λz=>.nx (ρ.set i (.ow z)):=zE_ _
def frzO(ρ:Rho)(i:Nat)(o:Option Slot):Rho:=match o with | some (.ow d)=>ρ.set i (.fz d) | _=>ρ
theorem Ql(g:FS)(ρ:Rho):fzS [] g ρ=g ρ:=zE_ _
theorem Qm(i:Nat)(is:List Nat)(g:FS)(ρ:Rho):fzS (i::is) g ρ=fzS is g (frzO ρ i ρ[i]?):=zE_ _
theorem Le(ρ:Rho)(i:Nat)(d:D):frzO ρ i (some (.ow d))=ρ.set i (.fz d):=zE_ _
theorem Ol(i j:Nat)(a b:D)(ρ:Rho):tupG 2 (By i (By j nilG)) (.tup [a,b]) ρ=some ((ρ.set i (.fz a)).set j (.fz b)):=zE_ _
theorem SN(x:Str):kDt (.inr x)=.str x:=zE_ _
theorem QD{κ:Type}[DecidableEq κ]{k:κ}:∀{l:List (κ×D)},k∉l.map (·.1)->getK k l=none
 |[],_=>rfl
 |p::r,h=>by
  unfold getK;rw[ba,bb,not_or] at h;rw[if_neg (λz=>h.1 z.symm)];exact QD h.2
theorem Om{κ:Type}[DecidableEq κ]{k:κ}{d:D}:∀{l:List (κ×D)},(l.map (·.1)).Nodup->(k,d)∈l->getK k l=some d
 |[],_,h=>by cases h
 |p::r,nd,h=>by
  unfold getK;rw[ba,i6] at nd
  rcases bb.mp h with q | q
  .subst q;rw[if_pos rfl]
  .rw[if_neg (λz=>nd.1 (by rw[z];exact aI.mpr ⟨(k,d),q,rfl⟩))];exact Om nd.2 q
theorem putL_new{κ:Type}[DecidableEq κ]{k:κ}{v:D}{l:List (κ×D)}(h:k∉l.map (·.1)):putL k v l=l++[(k,v)]:=by
 unfold putL;rw[QD h];rfl
theorem KJ(k:List (Key×D))(x:Str)(v:D)(hl:k.length<=1000000):Cj (.dk k) (.str x) v=some (.dk (putL (.inr x) v k)):=by
 show (if k.length<sizeLine then some (D.dk (putL (.inr x) v k)) else none)=_;rw[if_pos (rf hl (by decide))]
theorem vh(k:List (Key×D))(x:Int)(v:D)(hl:k.length<=1000000):Cj (.dk k) (.int x) v=some (.dk (putL (.inl x) v k)):=by
 show (if k.length<sizeLine then some (D.dk (putL (.inl x) v k)) else none)=_;rw[if_pos (rf hl (by decide))]
theorem vm(k:List (List Key×D))(x y:Int)(v:D)(hl:k.length<=1000000):Og (.dt k) [.int x,.int y] v=some (.dt (putL [.inl x,.inl y] v k)):=by
 show (if k.length<sizeLine/\2<=sizeLine then some (D.dt (putL [.inl x,.inl y] v k)) else none)=_;rw[if_pos ⟨rf hl (by decide),by decide⟩]
theorem V6{g:FS}{ρ':Rho}(h:g ρ=some (.nx ρ'))(hn:noOw ρ'=true):pureE g ρ ε=some (ρ',ε):=by
 unfold pureE;rw[h];show (if noOw ρ'=true then some (ρ',ε) else none)=_;rw[if_pos hn]
def tW(r:Option (Rho×Ef))(gs:FEs):Option (Rho×Ef):=r.bind λr=>gs r.1 r.2
theorem Jk(g gs:FEs)(ρ:Rho)(ε:Ef):Iv g gs ρ ε=tW (g ρ ε) gs:=zE_ _
theorem HB(gs:FEs)(ρ:Rho)(ε:Ef):tW (some (ρ,ε)) gs=gs ρ ε:=zE_ _
theorem vo(ρ:Rho)(ε:Ef):nilE ρ ε=some (ρ,ε):=zE_ _
theorem jr{tg:FG}{b:FEs}(h:src ρ=some ds):forE src tg b ρ ε=JV tg b ds ρ ε:=by
 unfold forE;rw[h];rfl
end PV
namespace PV
open PySem PySem.Spec L2
open PyProof.Rows hiding St
section
variable {a b c:Expr}{fa fb fc:FE}{p2:Pos}{es:List Expr}{fs:FA}
theorem vr(i:Nat){x:Str}(hN:X.N[i]?=some x:=by rfl)(hv:Vis X.env.scope x:=by first | exact fm rfl | exact eB (fm rfl) | exact eB (eB rfl))(hd:.(12)=false:=by decide)(hcd:(x==("__classdict__":Str))=false:=by decide):PF X G (.Name x pos) (vF i):=u6 i (pv i hN hv hd hcd)
theorem vp(i:Nat){x:Str}(hN:X.N[i]?=some x:=by rfl)(hv:Vis X.env.scope x:=by first | exact fm rfl | exact eB (fm rfl) | exact eB (eB rfl))(hd:.(12)=false:=by decide)(hcd:(x==("__classdict__":Str))=false:=by decide):PU X G (.Name x pos) (vF i):=PF.pu (vr i hN hv hd hcd)
theorem vq(i:Nat){x:Str}(hN:X.N[i]?=some x:=by rfl)(hv:Vis X.env.scope x:=by first | exact fm rfl | exact eB (fm rfl) | exact eB (eB rfl))(hd:.(12)=false:=by decide)(hcd:(x==("__classdict__":Str))=false:=by decide):PU X G (.Name x pos) (vU i):=u9 i (pv i hN hv hd hcd)
theorem pU{f:FE}(h:PF X G e f):PU X G e f:=PF.pu h
theorem iP{i j}:PU X G (.Constant (.int i) j pos) (kF (.int i)):=PF.pu Pn
theorem sP{x j}:PU X G (.Constant (.str x) j pos) (kF (.str x)):=PF.pu Rp
theorem iX{k:Nat}(hr:Room k X.A)(ha:PU X G a fa)(hb:PU X G b fb)(hG:G.K=X.K:=by rfl)(hs:Nu b:=by exact λ_ _=>rfl):PF X G (.Subscript a b pos) (bF ixE fa fb):=vR (GC hr) hG ha hb hs
theorem iD(ha:PU X G a fa)(hb:PU X G b fb)(hG:G.K=X.K:=by rfl)(hs:Nu b:=by exact λ_ _=>rfl):PF X G (.Subscript a b pos) (bF ixD fa fb):=yN hG ha hb hs
theorem bAdd(ha:PU X G a fa)(hb:PU X G b fb)(hG:G.K=X.K:=by rfl):PF X G (.BinOp a .Add b pos) (bF addD fa fb):=K9 pA (by rw[<-hG];exact pB) ha hb
theorem bSub(ha:PU X G a fa)(hb:PU X G b fb):PF X G (.BinOp a .Sub b pos) (bF subD fa fb):=K9 um oh ha hb
theorem bMul(ha:PU X G a fa)(hb:PU X G b fb):PF X G (.BinOp a .Mult b pos) (bF mulD fa fb):=K9 ou o7 ha hb
theorem bDiv(ha:PU X G a fa)(hb:PU X G b fb):PF X G (.BinOp a .FloorDiv b pos) (bF Dy fa fb):=K9 n_ gF ha hb
theorem bMod(ha:PU X G a fa)(hb:PU X G b fb):PF X G (.BinOp a .Mod b pos) (bF modD fa fb):=K9 uo o8 ha hb
theorem cEq{k:Nat}(hr:Room k X.A)(ha:PU X G a fa)(hb:PU X G b fb)(hG:G.K=X.K:=by rfl):PF X G (.Compare a [.Eq] [b] pos) (bF (eqD false) fa fb):=gD (Yr hG hr.unitsW) (Vq false) ha hb (J9 _)
theorem tEq{k:Nat}(hr:Room k X.A)(ha:PU X G a fa)(hb:PU X G b fb)(hG:G.K=X.K:=by rfl):PFT X G (.Compare a [.Eq] [b] pos) (blF (bF (eqD false) fa fb)):=FP (Yr hG hr.unitsW) (Vq false) ha hb (J9 _)
theorem tNe{k:Nat}(hr:Room k X.A)(ha:PU X G a fa)(hb:PU X G b fb)(hG:G.K=X.K:=by rfl):PFT X G (.Compare a [.NotEq] [b] pos) (blF (bF (eqD true) fa fb)):=FP (gM hG hr.unitsW) (Vq true) ha hb (J9 _)
theorem tEqF{k:Nat}(hr:Room k X.A)(ha:PU X G a fa)(hb:PU X G b fb)(hG:G.K=X.K:=by rfl):PFT X G (.Compare a [.Eq] [b] pos) (blF (bF (eqF false) fa fb)):=FP ((Yr hG hr.unitsW).or (qJ hG hr.units)) (aM false) ha hb (J9 _)
theorem tNeF{k:Nat}(hr:Room k X.A)(ha:PU X G a fa)(hb:PU X G b fb)(hG:G.K=X.K:=by rfl):PFT X G (.Compare a [.NotEq] [b] pos) (blF (bF (eqF true) fa fb)):=FP ((gM hG hr.unitsW).or (qK hG hr.units)) (aM true) ha hb (J9 _)
theorem cIn{k:Nat}(hr:Room k X.A)(ha:PU X G a fa)(hb:PU X G b fb)(hG:G.K=X.K:=by rfl)(hm:io .In b=false:=by with_unfolding_all rfl):PF X G (.Compare a [.In] [b] pos) (bF (inF false) fa fb):=gD ((gJ.or (Yz (GC hr))).or (jd hG hr.units)) (by rw[<-hG];exact V3 false) ha hb hm
theorem tIn{k:Nat}(hr:Room k X.A)(ha:PU X G a fa)(hb:PU X G b fb)(hG:G.K=X.K:=by rfl)(hm:io .In b=false:=by with_unfolding_all rfl):PFT X G (.Compare a [.In] [b] pos) (blF (bF (inF false) fa fb)):=FP ((gJ.or (Yz (GC hr))).or (jd hG hr.units)) (by rw[<-hG];exact V3 false) ha hb hm
theorem tNi{k:Nat}(hr:Room k X.A)(ha:PU X G a fa)(hb:PU X G b fb)(hG:G.K=X.K:=by rfl)(hm:io .NotIn b=false:=by with_unfolding_all rfl):PFT X G (.Compare a [.NotIn] [b] pos) (blF (bF (inF true) fa fb)):=FP ((cH.or (cV (GC hr))).or (cj hG hr.units)) (by rw[<-hG];exact V3 true) ha hb hm
theorem tLt(ha:PU X G a fa)(hb:PU X G b fb):PFT X G (.Compare a [.Lt] [b] pos) (blF (bF ltD fa fb)):=FP x_ u_ ha hb (J9 _)
theorem tGt(ha:PU X G a fa)(hb:PU X G b fb):PFT X G (.Compare a [.Gt] [b] pos) (blF (bF gtD fa fb)):=FP yD vB ha hb (J9 _)
theorem tGe(ha:PU X G a fa)(hb:PU X G b fb):PFT X G (.Compare a [.GtE] [b] pos) (blF (bF geD fa fb)):=FP yE vC ha hb (J9 _)
theorem tLe(ha:PU X G a fa)(hb:PU X G b fb):PFT X G (.Compare a [.LtE] [b] pos) (blF (bF leD fa fb)):=FP yC vA ha hb (J9 _)
theorem sF(hN:X.N.Nodup)(i:Nat){x:Str}{p:Pos}(ha:PF X G a fa)(hi:X.N[i]?=some x:=by rfl)(hx:Loc X.env.scope x:=by first | exact fm rfl | exact eB rfl)(hs:eI a (some (.Name x p)) pos.line X.env=pure false:=by rfl)(hf:X.fn x=true∨X.env.scope.names.lookup x=some .local :=by first | exact .inl rfl | exact .inr rfl | assumption):PSD X G (.Assign [.Name x p] a pos) (setF i fa):=pI (λ_ h=>YW hN hi hx h hs hf) ha
theorem sW(hN:X.N.Nodup)(i:Nat){x:Str}{p:Pos}(ha:PN X G a fa)(hi:X.N[i]?=some x:=by rfl)(hx:Loc X.env.scope x:=by first | exact fm rfl | exact eB rfl)(hs:eI a (some (.Name x p)) pos.line X.env=pure false:=by rfl)(hf:X.fn x=true∨X.env.scope.names.lookup x=some .local :=by first | exact .inl rfl | exact .inr rfl | assumption)(hi0:i≠0:=by decide):PSD X G (.Assign [.Name x p] a pos) (setW i fa):=gf (λ_ h=>YW hN hi hx h hs hf) ha hi0
theorem gN(hN:X.N.Nodup)(i:Nat){x:Str}(hi:X.N[i]?=some x:=by rfl)(hx:Loc X.env.scope x:=by first | exact fm rfl | exact eB rfl)(hf:X.fn x=true∨X.env.scope.names.lookup x=some .local :=by first | exact .inl rfl | exact .inr rfl | assumption):PG X (.Name x pos) (FN i):=n6 hN hi hx hf
theorem cO{t:Str}(hN:X.N=N)(hs:X.env.scope=sc)(h:Zo N sc scope t=true:=by decide +kernel):K6 X scope t:=cM hN hs h
abbrev nT (N:List Str) (t:Str):List Str:=N++[t]
structure Dx (K:ay) (mg:Str->Option ac) (x:Str) (st:Stmt) (ps:List Str) where
 f:Addr
 fd:kR
 F:FunD K x x st f fd
 B:Binds K fd ps []
 m:mg x=some (.ref f)
abbrev DOk (P:cE) (w:br) (base:Heap) {K:ay}{mg:Str->Option ac}{x:Str}{st:Stmt}{ps:List Str}(d:Dx K mg x st ps) (k:Nat) (sp:Sp):Prop:=FnOk P w K mg base CX0 k d.f d.fd ps sp
theorem fX{k:Nat}{p:Pos}{d:Dx X.K X.mg x st ps}{g:List D->Option D}(F:FnOk X.prog X.w X.K X.mg X.base CX0 k d.f d.fd ps (spD G g))(hr:Room k' X.A)(ha:PFA X G (a::es) fs)(hle:k<=k':=by omega)(hg:Gl X x:=by rfl)(hdb:.(12)=false:=by decide)(he:ar (a::es) X.env=.(16)::ar es X.env:=by rfl)(hpl:(bP pos (ar es X.env)).any (·.1)=false:=by rfl):PF X G (.Call (.Name x p) (a::es) [] pos) (Ai g fs):=yO F (hr.mono hle) hg d.m d.F.kp d.B ha hdb he hpl
end
section
variable {K:ay}{dV kV:ac}
theorem fnX{base:Heap}{k:Nat}{b:FS}(d:Dx G.K mg x st ps)(S:FnScope N ps (Ad st))(hb:∀(cdv:ac) (A:ax) (outer:List Env) (s:af) (H:Hp) (E:XK),Room k (A.deeper (fI x (Ad st) s.heap.objs.size d.f cdv))->PSDs (cxOf CX0 P w G.K mg base N x (Ad st) d.f cdv A outer s H E).nox G (Bj st) b)(hl:ps.length<=N.length:=by decide):
  FnOk P w G.K mg base CX0 (k+1) d.f d.fd ps (spD G (runF N.length ps.length b)):=yc d.F S hl hb
def dx(X:K.In h)(N:h.Ns eS mg)(a:wl K eS x=some (some (.ref f)))(l:K.lookup f=some ⟨oc,od,.func (fR x x (Df st) (Bj st) (Ad st) .none kV doc pm an cdv ct),osl⟩)(c:lS K cdv x=true)(k:hU K (.ref f)=true)(b:∀(kV doc pm:ac) (an:Option Addr) (cdv ct:ac) (us:List ac),us.length=ps.length->u4 (fR x x (Df st) (Bj st) (Ad st) .none kV doc pm an cdv ct) ⟨us,[]⟩=pure (ps.zip us)):Dx K mg x st ps:=⟨f,_,aN l c k,(Rk l c k).binds b,sC X N a⟩
def dxD(X:K.In h)(N:h.Ns eS mg)(a:wl K eS x=some (some (.ref f)))(l:K.lookup f=some ⟨oc,od,.func (fR x x (Df st) (Bj st) (Ad st) dV kV doc pm an cdv ct),osl⟩)(c:lS K cdv x=true)(k:hU K (.ref f)=true)(b:Binds K (fR x x (Df st) (Bj st) (Ad st) dV kV doc pm an cdv ct) ps []):Dx K mg x st ps:=⟨f,_,aN l c k,b,sC X N a⟩
structure Ix (K:ay) (C:Addr) (qual:Str) (st:Stmt) (ps:List Str) where
 f:Addr
 fd:kR
 F:Fun K "__init__" qual st f fd
 B:Binds K fd ps []
 mM:Mk K C f
def ix(X:K.In h)(m:AA K C=true)(kc:hU K (.ref C)=true)(a:ff K (.ref C) "__init__"=some (some (.ref f)))(i:qB K (.ref f)=true)(l:K.lookup f=some ⟨oc,od,.func (fR "__init__" qual (Df st) (Bj st) (Ad st) .none kV doc pm an cdv ct),osl⟩)(c:lS K cdv qual=true)(k:hU K (.ref f)=true)(b:∀(kV doc pm:ac) (an:Option Addr) (cdv ct:ac) (us:List ac),us.length=ps.length->u4 (fR "__init__" qual (Df st) (Bj st) (Ad st) .none kV doc pm an cdv ct) ⟨us,[]⟩=pure (ps.zip us)):Ix K C qual st ps:=⟨f,_,Rk l c k,(Rk l c k).binds b,m,a,i,kc⟩
structure Sx (mg:Str->Option ac) (x:Str) (f:Tok->ac) where
 t:Tok
 m:mg x=some (f t)
structure Kx (G:Gx) (mg:Str->Option ac) (x:Str) (c:D) where
 a:Addr
 m:mg x=some (.ref a)
 r:Rep G (λ_=>none) (.ref a) c
def sx{t:Tok}{f:Tok->ac}(X:K.In h)(N:h.Ns eS mg)(a:wl K eS x=some (some (f t))):Sx mg x f:=⟨t,sC X N a⟩
def gx1(K:ay)(cn:Str)(C:Addr):Gx:={ K:=K,cl:=λc=>if c=cn then some C else none }
theorem vy:(gx1 K cn C).cl cn=some C:=if_pos rfl
theorem cls(X:K.In h)(pg:tJ K C eA=true)(hd:y0 K C=true)(po:As K C=true)(sa:ff K (.ref C) "__setattr__"=some (some (.builtin "object.__setattr__"))):Cls K C:=⟨pg,hd,po,sa⟩
theorem rtx{g:Addr}{its:Array ac}{xs:List Str}(X:K.In h)(l:K.lookup g=some ⟨.type "tuple",od,.seq its n,osl⟩)(hz:its.size<=sizeLine)(r:Vals (xs.map V.str) its.toList):Rep (gx1 K cn C) (λ_=>none) (.ref g) (.tup (xs.map .str)):=cP l hz r
def kx{cn:Str}{g:Addr}{n:Nat}{its:Array ac}{xs:List Str}(X:K.In h)(N:h.Ns eS mg)(a:wl K eS x=some (some (.ref g)))(l:K.lookup g=some ⟨.type "tuple",od,.seq its n,osl⟩)(hz:its.size<=sizeLine)(r:Vals (xs.map V.str) its.toList):Kx (gx1 K cn C) mg x (.tup (xs.map .str)):=⟨g,sC X N a,rtx X l hz r⟩
theorem Y8(X:K.In h)(cl:Cls K C)(n:ff K (.ref C) x=some none):∀c C',(gx1 K cn C).cl c=some C'->Cls K C'/\Ed K C' x:=λc C' h=>by
 unfold gx1 at h;simp only at h;split at h
 .cases h;exact⟨cl,n⟩
 .cases h
end
end PV
namespace PV
open PySem L2
def anyD:D->Option D
 |.lst ds=>(blsD ds).map λbs=>.bl (bs.any id)
 |_=>none
def SQ:D->Option D
 |.int i=>if 0<=i/\i<=1000000 then some (.lst (rngD i.toNat)) else none
 |_=>none
theorem aO{α:Type}(f:α->Bool):∀l:List α,blsD (l.map λx=>.bl (f x))=some (l.map f)
 |[]=>rfl
 |x::r=>by rw[ba,blsD,aO f r];rfl
theorem Y9{α:Type}(f:α->Bool)(l:List α):anyD (.lst (l.map λx=>.bl (f x)))=some (.bl (l.any f)):=by
 unfold anyD;simp only[];rw[aO,eK,qa];rfl
end PV
namespace PV
open PySem PySem.Spec L2
open PyProof.Rows hiding St
section
variable {a:Expr}{fa:FE}{es:List Expr}{fs:FA}
theorem cu:Dd X (.type "range") (λxs H Q=>∃i:Int,xs=[.int i]/\∀l,H l=none->Q (.ref l) (upd H l (.rng 0 i))):=by
 intro π s σ H xs us Q I r h;obtain⟨i,rfl,q⟩:=h;obtain⟨u,rfl,ru⟩:=r.one;obtain⟨t,rfl⟩:=ru;refine call_range_1 ?_;exact⟨.ref s.heap.objs.size,_,I.laid (λb o e=>aS _ e) (aE _) (show Bc X.prog X.w _ _ _ (.rng 0 i) from⟨_,_,_,bn _ rfl⟩),rfl,q _ (I.hok.fresh (aE _))⟩
theorem aP:∀{xs:List V}{us:List ac},us.length=xs.length->(∀(j:Nat) x u,xs[j]?=some x->us[j]?=some u->RelV x u)->Vals xs us
 |[],us,hl,_=>by
  rw[wb hl];exact .nil
 |x::r,[],hl,_=>by simp at hl
 |x::r,u::us,hl,h=>.cons (h 0 x u rfl rfl) (aP (by simpa using hl) λj y v a b=>h (j+1) y v (by simpa using a) (by simpa using b))
theorem T8(hc:X.calm=true):Dd X (.type "list") (λxs H Q=>∃(p:Addr) (n:Nat),xs=[.ref p]/\H p=some (.rng 0 n)/\n<=1000000/\∀l,H l=none->Q (.ref l) (upd H l (.lst ((av n).map λ(k:Nat)=>V.int k)))):=by
 intro π s σ H xs us Q I r h;obtain⟨p,n,rfl,e,hn,q⟩:=h;obtain⟨u,rfl,ru⟩:=r.one;cases ru;obtain⟨t,u,v,hr⟩:=(show Bc X.prog X.w H s.heap p (.rng 0 n) from I.hok p _ e);have rs:D8 0 n 1=(n:Int):=by rw[rangeSize_one];split<;>omega
 refine call_list_range (I.ok.hd hc) hr (small_one (by decide) (by decide) (by omega) (by omega)) rs (by omega) λh' tk acc c' kp hnew hi=>?_;have va:Vals ((av n).map λ(k:Nat)=>V.int k) acc.toList:=by
  refine aP (by simp[hi.1]) λj x u hx hu=>?_;obtain⟨tk,rfl⟩:=hi.2 j u (by simpa using hu);have hj:j<n:=by
   have:=(d6.mp hu).1;rw[lh,hi.1] at this;exact this
  rw[be,C1 hj] at hx;cases hx;exact⟨tk,by simp⟩
 exact⟨.ref s.heap.objs.size,_,I.laid (t':=tk) kp (aE _) (show Bc X.prog X.w _ h' _ (.lst _) from⟨by rw[aw,eW];exact ck hn (by decide),acc.toList,c',va,by simpa using hnew⟩),rfl,q _ (I.hok.fresh (aE _))⟩
theorem jt:cr "range"=some (.type "range"):=by decide +kernel
theorem aQ{p q:Pos}(hg:Gl X "list")(hm:X.mg "list"=none)(hg2:Gl X "range")(hm2:X.mg "range"=none)(ha:PU X G a fa)(hc:X.calm=true:=by rfl)(he:ar [a] X.env=[.(16)]:=by rfl)(he2:ar [.Call (.Name "range" q) [a] [] pos2] X.env=[(false,eval (.Call (.Name "range" q) [a] [] pos2) X.env)]:=by rfl):
  PN X G (.Call (.Name "list" p) [.Call (.Name "range" q) [a] [] pos2] [] pos) (uF SQ fa):=λA=>Bx (Ii (T8 hc) hg hm MF (B_ (Ii cu hg2 hm2 jt (B_ (@ha A) Dw he) (by decide) (by decide) he rfl) Dw he2) (by decide) (by decide) he2 rfl) λσ H Q ⟨ρ,d,o,e,k⟩=>by
 obtain⟨dx,e1,e2⟩:=Hu e;refine⟨ρ,dx,o,e1,λv H1 s1 r1=>?_⟩;unfold SQ at e2;split at e2
 .rename_i i;split at e2
  .rename_i hi;cases e2;rw[r1.int];refine⟨i,rfl,λl hl=>⟨l,i.toNat,rfl,by rw[Ak,GA hi.1],by omega,λm hm2=>?_⟩⟩;have o1:=(o.mono s1);have n1:l≠m:=λz=>by rw[<-z,Ak] at hm2;cases hm2
   have hm1:H1 m=none:=by rw[Aq (cp n1)] at hm2;exact hm2
   refine k m _ (s1.trans ((Ar hl _).trans (Ar hm2 _))) (s1.free hm1) ⟨(av i.toNat).map λ(k:Nat)=>V.int k,Ak,by simp[rngD],λj x d h1 h2=>?_⟩;unfold rngD at h2;rw[be] at h1 h2;cases q:(av i.toNat)[j]? with
   |none=>rw[q] at h1;cases h1
   |some z=>rw[q] at h1 h2;cases h1;cases h2;exact .int z
  .cases e2
 .cases e2
theorem qO{p q:Pos}(hg:Gl X "list")(hm:X.mg "list"=none)(hg2:Gl X "range")(hm2:X.mg "range"=none)(ha:PU X G a fa)(hc:X.calm=true:=by rfl)(he:ar [a] X.env=[.(16)]:=by rfl)(he2:ar [.Call (.Name "range" q) [a] [] pos2] X.env=[(false,eval (.Call (.Name "range" q) [a] [] pos2) X.env)]:=by rfl):
  PF X G (.Call (.Name "list" p) [.Call (.Name "range" q) [a] [] pos2] [] pos) (uF SQ fa):=PN.pf (aQ hg hm hg2 hm2 ha hc he he2)
end
end PV
namespace PV
open PySem L2
end PV
namespace PV
open PySem PySem.Spec L2
open PyProof.Rows hiding St
section
variable {a b c:Expr}{fa fb fc:FE}{p2:Pos}
end
end PV
namespace PV
open PySem PySem.Spec
section
variable {A:ax}{T:String}{r d:Addr}{P:Nat->ac->Prop}{OK:Heap->Prop}
theorem Xf{R:List ac->af->Prop}(K:G1 prog w T r d n P OK)(hh:A.handled=none)(hok:OK s.heap)(hn:n<=sizeLine)(h:∀(h':Heap) (tk:Nat) (acc:Array ac),.(13)->s.heap.objs.size<=h'.objs.size->ItemsOf P acc n->R acc.toList { s with heap:=h',toks:=tk }):
  ag (ah prog w) A (wa (.ref r)) R E s:=by
 obtain⟨hr,hd⟩:=K.there _ hok;have gS:(s.heap.push { cls:=.type "list",data:=.seq ([]:List ac).toArray }).get? s.heap.objs.size=some { cls:=.type "list",data:=.seq #[] }:=bn _ rfl;unfold wa;refine ae (B7 (lc ES ?_));rw[pT PySem.F.plain_proto_collect _];show ag _ A.in1 (newList [] >>= λl=>again (.builtin "list.__iadd__" ⟨[l,.ref r],[]⟩)) _ _ s;refine ae (kX (ai ⟨nL GB _,lc ET ?_⟩));rw[pT GB _];show ag _ A.in1 (BI (.ref s.heap.objs.size) (.ref r) (.ref s.heap.objs.size)) _ _ _;have key:=PySem.W.kdl_extend (A:=A) (s:={ s with heap:=s.heap.push { cls:=.type "list",data:=.seq ([]:List ac).toArray } }) K
  (R:=λq s'=>∃(h':Heap) (tk:Nat) (acc':Array ac) (c':Nat),q=.ok (.ret (.ref s.heap.objs.size))/\s'={ s with heap:=h',toks:=tk }/\.(13)/\h'.get? s.heap.objs.size=some { cls:=.type "list",dict:=none,data:=.seq acc' c',slots:=#[] }/\ItemsOf P acc' n)
  hh (K.keep _ _ hok λb _ o e=>aS _ e) s.heap.objs.size (nc hr) (nc hd) (.ref s.heap.objs.size) 0 gS
  (λh' tk acc' c' hk hS' hi=>⟨h',tk,acc',c',rfl,rfl,λb o e=>hk b o (bg (aT e)) (aS _ e),hS',hi⟩) hn
 refine i8 key (λfin s' x=>?_) λe s' x=>?_
 .cases fin with
  |done f=>
   obtain⟨h',tk,acc',c',e,rfl,hk,hS',hi⟩:=x;cases e;show ag _ A (load s.heap.objs.size >>= _) _ _ _;exact ae (xL hS' (ai (h h' tk acc' hk (oC (aT hS')) hi)))
  |again c=>
   refine⟨x.1,nn x.2 λr2 s2 y=>?_⟩;obtain⟨h',tk,acc',c',e,rfl,hk,hS',hi⟩:=y;cases e;show ag _ A (load s.heap.objs.size >>= _) _ _ _;exact ae (xL hS' (ai (h h' tk acc' hk (oC (aT hS')) hi)))
 .obtain⟨h',tk,acc',c',e,_⟩:=x;cases e
end
section
variable {A:ax}
theorem cz{v:ac}{Q:ac->af->Prop}(nd:ks.Nodup)(h60:ks.length<=60)(hc:∀(R:List ac->af->Prop) (E':ac->af->Prop),(∀(vs:List ac) (h':Heap) (tk:Nat),qf vs ks->s.heap.objs.size<=h'.objs.size->.(13)->R vs { s with heap:=h',toks:=tk })->ag (ah prog w) A.in1 (wa v) R E' s)(k:∀(its:List ac) (e:Nat) (l:Addr) (h':Heap) (tk:Nat),qf its (An ks)->h'.get? l=some (sj "list" its.toArray e)->s.heap.objs.size<=l->.(13)->Q (.ref l) { s with heap:=h',toks:=tk }):
  ag (ah prog w) A (call (.builtin "sorted") [v]) Q E s:=by
 refine EW EZ F0 F3 (F4 _) ?_;unfold d4.«sorted»;refine ae (m:=checkCount "sorted" 1 1 _) (ai (ae (hc _ _ λvs h1 tk hS le kp=>?_)));have hlen:vs.length<=60:=by rw[hS.length];exact h60
 refine ae (BH ?_ (ck hlen (by decide)));have gl:(h1.push { cls:=.type "list",data:=.seq vs.toArray }).get? h1.objs.size=some (sj "list" vs.toArray 0):=bn _ rfl;refine ae (wpAny_holding (hJ F5 ⟨_,gl,rfl⟩ F6 (F7 F8 gl hS.keysOf (λa b r e=>F9 (by rw[<-e];exact hS)) (by omega) λst a1 a2=>⟨_,rfl,?_⟩) (Fc _)));obtain⟨ss,o1,o2,o3⟩:=Fh hS a1 a2;have e:ss=An ks:=R8 (Oc o3 (o2.nodup_iff.mpr nd)) (Ej ks) λy=>by rw[Ay,o2.mem_iff]
 subst e;obtain⟨c,hc⟩:∃c,(Fm (h1.push { cls:=.type "list",data:=.seq vs.toArray }) h1.objs.size vs ((sA st).map (·.2))).get? h1.objs.size=some (sj "list" ((sA st).map (·.2)).toList.toArray c):=by
  obtain⟨c,hc⟩:=Fk (out:=(sA st).map (·.2)) gl;exact⟨c,by rw[hc,Fn]⟩
 refine ai ⟨_,rfl,k _ c _ _ tk o1 hc le λb o g=>?_⟩;have lb:=aT (kp b o g);rw[Fs (bg lb) (by rw[hZ];exact mv lb)];exact aS _ (kp b o g)
end
open L2
section
variable {a:Expr}{fa:FE}{p:Pos}
theorem Oo:∀{zs:List Str}{us:List ac},Vals (zs.map V.str) us->qf us zs
 |[],_,.nil=>.nil
 |_::_,_,.cons r t=>by obtain⟨u,rfl⟩:=r;exact .cons _ _ (Oo t)
theorem HD(hc:X.calm=true):Dd X (.builtin "sorted") (λxs H Q=>∃p kvs zs,xs=[.ref p]/\Rd H p (.dK kvs)/\kvs.map (λq=>kV q.1)=zs.map V.str/\zs.Nodup/\zs.length<=60/\∀l,H l=none->Q (.ref l) (upd H l (.lst ((An zs).map V.str)))):=by
 intro π s σ H xs us Q I r h;obtain⟨p,kvs,zs,rfl,e,ez,nd,hz,k⟩:=h;obtain⟨u,rfl,ru⟩:=r.one;cases ru;obtain⟨z,hd,vs,rel,dd⟩:=Im I.hok e;obtain⟨ep,dd⟩:=dd.dictAt;have hl:kvs.length=vs.length:=rel.length;refine cz (ks:=zs) nd hz (λR E' hR=>Xf (FL (knd:=Av X.prog X.w) (kvs:=vs) (ep:=ep) hd) (I.ok.hd hc) dd (by omega) λh' tk acc kp le hi=>hR _ h' tk ?_ le kp) λits e2 l h' tk hS g le kp=>?_
 .have va:Vals (kvs.map λq=>kV q.1) acc.toList:=by
   refine V1 (P:=X.prog) (w:=X.w) (by simp[hi.1,hl]) λj u hu=>?_;obtain⟨k,x,h1,h2⟩:=hi.2 j u (by simpa using hu);have hj:j<kvs.length:=by rw[hl];exact (d6.mp h1).1
   refine⟨kvs[j],by simp[hj],?_⟩;rw[(Hw rel (by simp[hj]) h1).1];exact h2
  rw[ez] at va;exact Oo va
 .have hv:=P0 hS;refine⟨.ref l,_,I.laid (a:=l) (o:=.lst ((An zs).map V.str)) (t':=tk) kp le ⟨?_,its,e2,hv,g⟩,rfl,k l (I.hok.fresh le)⟩;rw[aw];have:=sub_len (La (Ej zs)) (m:=zs) λy m=>(Ay y zs).mp m;exact ck this (ck hz (by decide))
def sdkL(kds:List (Key×D)):Option D:=(Ju (kds.map λp=>kDt p.1)).bind λzs=>if zs.Nodup/\zs.length<=60 then some (.lst ((An zs).map .str)) else none
def sdkD:D->Option D
 |.dk kds=>sdkL kds
 |_=>none
theorem RN:SndC G (λxs H Q=>∃p kvs zs,xs=[.ref p]/\Rd H p (.dK kvs)/\kvs.map (λq=>kV q.1)=zs.map V.str/\zs.Nodup/\zs.length<=60/\∀l,H l=none->Q (.ref l) (upd H l (.lst ((An zs).map V.str)))) sdkD:=by
 intro A H x dx d Q lv r e k;cases dx with
 |dk kds=>
  have e:sdkL kds=some d:=e;obtain⟨p,kvs,rfl,h1,h2,h3⟩:=r.dk;unfold sdkL at e;cases ez:Ju (kds.map λp=>kDt p.1) with
  |none=>rw[ez] at e;cases e
  |some zs=>
   rw[ez] at e;have e':(if zs.Nodup/\zs.length<=60 then some (D.lst ((An zs).map .str)) else none)=some d:=e;split at e'
   .rename_i hz;cases e';refine⟨p,kvs,zs,rfl,h1,XQ (G:=G) (H:=hid A H) (jb h2) ez,hz.1,hz.2,λl hl=>k _ _ (Ar hl _) (Cq lv hl ⟨by simp,λi v d h1 h2=>?_⟩)⟩;rw[be] at h1 h2;cases q:(An zs)[i]? with
    |none=>rw[q] at h1;cases h1
    |some z=>rw[q] at h1 h2;cases h1;cases h2;exact .str z
   .cases e'
 |_=>cases e
end
end PV
namespace PV
open PySem PySem.Spec L2 EX
open PyProof.Rows hiding St
def CX1(P:cE)(w:br):CXT:=λouter H s E v s'=>∃(e:Addr) (H':Hp),v=.ref e/\s'.os=s.os/\kL s'.gens/\Un (frs outer) [] H H' s.heap s'.heap/\HOk P w H' s'.heap/\E v none H'
structure Exc (G:Gx) (He H:Hp) (e:Addr) (tb:Option Addr) (c:Str) (gs:List (Str×D)):Prop where
 ex:∃C od fs,G.xcl c=some C/\H e=some (excO e C od tb)/\XdA H od fs/\FsV fs gs/\∀dx,od=some dx->He dx=none
 same:Same He H
 new:He e=none
 tbk:∀T,tb=some T->H T=some (tbO T .none)/\He T=none
section
variable {e:Addr}{tb:Option Addr}{c:Str}{gs:List (Str×D)}
end
def Rz(X:Cx)(G:Gx)(A0:List Addr)(He:Hp)(c:Str)(gs:List (Str×D))(ρ:Rho):Prop:=∀π σ H1 H s e tb,Inv X π σ H s->OkS G A0 He σ H1 ρ->Exc G H1 H e tb c gs->X.xe (.ref e) s
def excOf:D->Option (Str×List (Str×D))
 |.exc c gs=>some (c,gs)
 |_=>none
def RzO(X:Cx)(G:Gx)(A0:List Addr)(He:Hp)(d:D)(ρ:Rho):Prop:=∀c gs,excOf d=some (c,gs)->Rz X G A0 He c gs ρ
def tFZ(X:Cx)(G:Gx)(A0:List Addr)(He:Hp)(f:FE):TE:=λσ H Q=>∃ρ d A,OkW G A0 He A σ H ρ/\f ρ=some d/\(∀v H',Same H H'->Rep G (hid A H') v d->Q v H')/\RzO X G A0 He d ρ
def PFZ(X:Cx)(G:Gx)(e:Expr)(f:FE):Prop:=∀⦃A0⦄ He,PE X e (tFZ X G A0 He f)
section
variable {a b c:Expr}{fa fb fc:FE}{p2:Pos}{rest:List Stmt}{g gs gb:FS}
end
def ju(X:Cx)(σ:St):XK:=λv _ H'=>∀π s',Inv X π σ H' s'->X.xe v s'
def XW(G:Gx)(He:Hp)(d:D)(E:XK):Prop:=∀c gs,excOf d=some (c,gs)->∀e T H',Exc G He H' e (some T) c gs->E (.ref e) none H'
def spZ(G:Gx)(g:List D->Option D):Sp:=λvs H Q E=>∃A ds d,(∀a∈A,Nt (H a))/\RepL G (hid A H) vs ds/\g ds=some d/\(∀v H',Same H H'->Rep G (hid A H') v d->Q v H')/\XW G H d E
section
variable {k:Nat}{sp:Sp}{p:Pos}{o:Expr}{es:List Expr}{ta:TE}{t:TA}
theorem qP{Q:VK}(F:FnOk X.prog X.w X.K X.mg X.base (CX1 X.prog X.w) k f fd ps sp)(hr:Room k X.A)(hb:Binds X.K fd ps [])(I:Inv X π σ H s)(r:Vals vs us)(h:sp vs H Q (ju X σ)):ag .(2) X.A (call (.ref f) us) (EP X π σ Q) X.xe s:=by
 have hl:us.length=ps.length:=by rw[<-r.length];exact F.len _ _ _ _ h
 have hb':=hb s us I.kIn (by rw[eL];exact hl);rw[eL] at hb';refine y7 (nn (F.run X.A X.stack s H ⟨us,[]⟩ us vs Q _ hr I.env0 hb' r h) λr s' hq=>?_);cases r with
 |error v=>
  obtain⟨e,H',rfl,q1,q2,q3,q4,q5⟩:=hq;exact q5 π s' (I.call' q1 q3 q4 q2 λ_ z=>nomatch z)
 |ok fl=>
  cases fl with
  |ret u=>exact I.after hq
  |next=>exact gI hq
  |brk=>exact gI hq
  |cont=>exact gI hq
def v4(X:Cx)(C:Addr)(m:Str)(sp:Sp)(ta:TE)(t:TA):TE:=λσ H Q=>ta σ H λx H1=>∃a dx fs,x=.ref a/\H1 a=some (.ins C dx fs)/\fs.lookup m=none/\t σ H1 λvs H2=>sp (x::vs) H2 Q (ju X σ)
theorem jw{pl:Sem Bool}(he:PE X o ta)(c:Cls X.K C)(hm:Meth X.K C m f)(F:FnOk X.prog X.w X.K X.mg X.base (CX1 X.prog X.w) k f fd ps sp)(hr:Room k X.A)(hb:Binds X.K fd ps [])(ha:PA X (e::es) t)(hst:ar (e::es) X.env=(false,eval e X.env)::ar es X.env:=by rfl)(hpl:(bP pos (ar es X.env)).any (·.1)=false:=by rfl)(ht:eval (.Call (.Attribute o m apos) (e::es) [] pos) X.env=(do
   let ov <-eval o X.env
   kP apos.atName
   let (f,first) <-ko [ov] (kQ ov m pl)
   kq pos f first (bP pos (ar (e::es) X.env)) (fA pos (fE [] X.env))):=by rfl):
  PE X (.Call (.Attribute o m apos) (e::es) [] pos) (v4 X C m sp ta t):=by
 intro π s σ H Q I h;refine y6 (pl:=pl) (thn (he π s σ H _ I h) λu s1 ⟨x,H1,I1,rx,a,dx,fs,ex,ea,l,q⟩=>?_) ht;subst ex;obtain rfl:u=cw a:=rx;refine J_ I1 ea c hm l ?_;refine ya (first:=[.ref a]) (h₀:=X.base) I.ok.mod.kin hm.kp (thn (ha pos π s1 σ H1 _ I1 q) λus s2 ⟨vs,H2,I2,r,q2⟩=>⟨I2.kIn,?_⟩) hst hpl;exact qP (us:=.ref a::us) (vs:=.ref a::vs) F hr hb I2 (.cons rfl r) q2
end
section
variable {a ob:Expr}{es:List Expr}{fs:FA}{fo:FE}{p:Pos}
theorem ye(w:OkW G A0 He A σ H1 ρ)(kx:RzO X G A0 He d ρ):XW G H1 d (ju X σ):=λc gs z e T H' x π s' I=>kx c gs z π σ H1 H' s' e (some T) I ⟨A,w⟩ x
def Iw(c m:Str):D->Bool
 |.ob c' gs=>c'==c&&(gs.lookup m).isNone
 |_=>false
def J1(c m:Str)(g:List D->Option D)(fo:FE)(fs:FA):FE:=λρ=>(fo ρ).bind λo=>if Iw c m o=true then (fs ρ).bind λds=>g (o::ds) else none
theorem QF{fs:List (Str×V)}{gs:List (Str×D)}(h:fs.map (·.1)=gs.map (·.1))(n:gs.lookup m=none):fs.lookup m=none:=by
 induction fs generalizing gs with
 |nil=>rfl
 |cons p r ih=>
  cases gs with
  |nil=>cases h
  |cons q t=>
   obtain⟨a,b⟩:=p;obtain⟨a',b'⟩:=q;simp only[ba,xi] at h;obtain⟨rfl,h2⟩:=h;simp only[dA] at n ⊢;split at n
   .cases n
   .exact ih h2 n
theorem jz{k:Nat}{g:List D->Option D}{c:Str}{pl:Sem Bool}(ho:PF X G ob fo)(hc:G.cl c=some C)(cl:Cls X.K C)(hm:Meth X.K C m f)(F:FnOk X.prog X.w X.K X.mg X.base (CX1 X.prog X.w) k f fd ps (spZ G g))(hr:Room k X.A)(hb:Binds X.K fd ps [])(ha:PFA X G (a::es) fs)(hst:ar (a::es) X.env=.(16)::ar es X.env:=by rfl)(hpl:(bP pos (ar es X.env)).any (·.1)=false:=by rfl)(ht:eval (.Call (.Attribute ob m apos) (a::es) [] pos) X.env=(do
   let ov <-eval ob X.env
   kP apos.atName
   let (f,first) <-ko [ov] (kQ ov m pl)
   kq pos f first (bP pos (ar (a::es) X.env)) (fA pos (fE [] X.env))):=by rfl):
  PFZ X G (.Call (.Attribute ob m apos) (a::es) [] pos) (J1 c m g fo fs):=λA0 He π s σ H Q I ⟨ρ,d,A,w,e,k,kx⟩=>by
 refine jw (@ho A) cl hm F hr hb (@ha A) hst hpl ht π s σ H Q I ?_;unfold J1 at e;cases e0:fo ρ with
 |none=>simp[e0] at e
 |some o=>
  rw[e0] at e;have e':(if Iw c m o=true then (fs ρ).bind λds=>g (o::ds) else none)=some d:=e;split at e'
  .rename_i hob;cases e1:fs ρ with
   |none=>simp[e1] at e'
   |some ds=>
    have e2:g (o::ds)=some d:=by simpa [e1] using e'
    refine⟨ρ,o,w.ok,e0,λv H1 s1 r1=>?_⟩;cases o with
    |ob c' gs=>
     simp only[Iw,gd,beq_iff_eq,sB] at hob;obtain⟨rfl,hn⟩:=hob;cases r1 with
     |ob hC h1 l1 r2=>
      rw[hc] at hC;cases hC;refine⟨_,_,_,rfl,Am _ _ h1,QF l1 hn,ρ,ds,(w.mono s1).ok,e1,λvs H2 s2 r3=>?_⟩;refine⟨A,.ob c' gs::ds,d,((w.mono s1).mono s2).ok.live,.cons (Rep.mono (.ob hc h1 l1 r2) (Az s2)) r3,e2,λv H3 s3 r4=>k v H3 ((s1.trans s2).trans s3) r4,ye ((w.mono s1).mono s2) kx⟩
    |_=>simp[Iw] at hob
  .cases e'
end
end PV
namespace EX
open PySem PySem.W PyProof.Rows PySem.Calls
section
variable {A:ax}{g:Array GenState}{d:Drawn}{t:Nat}{os:OsState}{R:nl->af->Prop}
variable {nm q:Str}{N:Addr}{bs bm bmB:List ac}{hdct:Bool}{sn:List Str}{sub:List ac}{ab:Bool}{col:Option Bool}{dd:Option Addr}{k0 k1 k2 k3 k5:Option ac}{B newId initId:String}
end
end EX
namespace EX
open PySem PySem.W PySem.Spec PyProof.Rows PySem.Calls
section
variable {A:ax}{K:Frag}{x:Addr}{ox:Obj}{od:Option Obj}{name:Str}{v:ac}
open Builtin Builtin.ObjectAttr in
end
end EX
namespace EX
open PySem PySem.Spec L2
open PyProof.Rows hiding St
abbrev bmV:List ac:=[.type "ValueError",.type "Exception",.type "BaseException",.type "object"]
def excX(K:ay)(C:Addr):Bool:=match K.lookup C with
 |some ⟨.type "type",_,.cls cd,sl⟩=>(match cd.mro,sl.toList with
  |.ref C'::bm,[_,_,_,_,some (.builtin n),_]=>C'==C&&n=="ValueError.__new__"&&!cd.hasDel&&PySem.W.tailIn K bmV bm
  |_,_=>false)
 |_=>false
structure XC (K:ay) (C R:Addr):Prop where
 obj:excX K C=true
 sa:ff K (.ref C) "__setattr__"=some (some (.builtin "object.__setattr__"))
 ga:ff K (.ref C) "__getattribute__"=some (some (.builtin "BaseException.__getattribute__"))
 gt:ff K (.ref C) "__getattr__"=some none
 cd:(PySem.W.clsIn K C).any (λcd=>cd.mro==[.ref C,.ref R,.type "ValueError",.type "Exception",.type "BaseException",.type "object"]&&cd.hasDict)=true
section
variable {e R dx:Addr}{tb:Option Addr}{A:ax}{f:Str}
end
section
variable {a b:Expr}{es:List Expr}{t:TA}{p:Pos}{R:Addr}
end
section
variable {o value:Expr}{ta tv:TE}{f:Str}
end
section
variable {R fi:Addr}{k:Nat}{f:Str}{c:V->Prop}
end
section
variable {A:ax}{K:ay}
end
end EX
namespace PV
open PySem PySem.Spec L2 EX
open PyProof.Rows hiding St
section
variable {a:Expr}{fa:FE}{np:Pos}{R fi:Addr}{k:Nat}{f cx:Str}{c:V->Prop}{ok:D->Bool}
end
end PV
namespace EX
open PySem PySem.Spec L2
open PyProof.Rows hiding St
abbrev Cx.mk2 (X:Cx) (e:Addr):Cx:={ X with A:=X.A.mark (some (.ref e)),calm:=false,xe:=λ_ _=>False }
section
variable {e R:Addr}{K:ay}
abbrev Cx.tr (X:Cx) (E:ac->af->Prop) (pn:zP):Cx:={ X with xe:=E,pn:=pn }
end
end EX
namespace PV
open PySem PySem.Spec L2 EX
open PyProof.Rows hiding St
section
end
end PV
namespace EX
open PySem PySem.W PySem.Spec PyProof.Rows PySem.Calls
section
variable {A:ax}{K:Frag}{x:Addr}{ox:Obj}{od:Option Obj}
end
end EX
namespace PV
open PySem PySem.Spec L2 EX
open PyProof.Rows hiding St
section
variable {a sp:Expr}{es:List Expr}{fa:FE}{p:Pos}{cs ns:List Str}{cv:List ac}{R:Addr}{Cs:List Addr}
end
structure Mx (K:ay) (C:Addr) (m qual:Str) (st:Stmt) (ps:List Str) where
 f:Addr
 fd:kR
 F:Fun K m qual st f fd
 B:Binds K fd ps []
 me:Meth K C m f
structure Rx (K:ay) (mg:Str->Option ac) (rn:Str) where
 R:Addr
 m:mg rn=some (.ref R)
 x:excX K R=true
 h1:AB K (.ref R) "__getattribute__"=some (some (.builtin "type.__getattribute__"))
 h2:GE K R (.type "type")=true
 h3:GG K (.ref R) (.type "type") "__init__"=some (.val (.builtin "ValueError.__init__"))
section
variable {a ob:Expr}{es:List Expr}{fs:FA}{fa fo:FE}{p np:Pos}
theorem mZ{k:Nat}{c:Str}{d:Mx X.K C m qual st ps}{g:List D->Option D}{pl:Sem Bool}(hc:G.cl c=some C)(cl:Cls X.K C)(F:FnOk X.prog X.w X.K X.mg X.base (CX1 X.prog X.w) k d.f d.fd ps (spZ G g))(hr:Room k' X.A)(ho:PF X G ob fo)(ha:PFA X G (a::es) fs)(hle:k<=k':=by omega)(hst:ar (a::es) X.env=.(16)::ar es X.env:=by rfl)(hpl:(bP pos (ar es X.env)).any (·.1)=false:=by rfl)(ht:eval (.Call (.Attribute ob m apos) (a::es) [] pos) X.env=(do
   let ov <-eval ob X.env
   kP apos.atName
   let (f,first) <-ko [ov] (kQ ov m pl)
   kq pos f first (bP pos (ar (a::es) X.env)) (fA pos (fE [] X.env))):=by rfl):
  PFZ X G (.Call (.Attribute ob m apos) (a::es) [] pos) (J1 c m g fo fs):=jz ho hc cl d.me F (hr.mono hle) d.B ha hst hpl ht
theorem mO{k:Nat}{c:Str}{d:Mx X.K C m qual st ps}{g:List D->Option D}{pl:Sem Bool}(hc:G.cl c=some C)(cl:Cls X.K C)(F:FnOk X.prog X.w X.K X.mg X.base CX0 k d.f d.fd ps (spD G g))(hr:Room k' X.A)(ho:PF X G ob fo)(hle:k<=k':=by omega)(ht:eval (.Call (.Attribute ob m apos) [] [] pos) X.env=(do
   let ov <-eval ob X.env
   kP apos.atName
   let (f,first) <-ko [ov] (kQ ov m pl)
   kq pos f first (bP pos (ar [] X.env)) (fA pos (fE [] X.env))):=by rfl):
  PF X G (.Call (.Attribute ob m apos) [] [] pos) (J1 c m g fo nilA):=λA=>Bx (eY (@ho A) cl d.me F (hr.mono hle) d.B .nil Ws ht) λσ H Q ⟨ρ,dd,o,e,k⟩=>by
 unfold J1 at e;cases e0:fo ρ with
 |none=>simp[e0] at e
 |some oo=>
  rw[e0] at e;have e':(if Iw c m oo=true then (nilA ρ).bind λds=>g (oo::ds) else none)=some dd:=e;split at e'
  .rename_i hob;have e2:g [oo]=some dd:=e';refine⟨ρ,oo,o,e0,λv H1 s1 r1=>?_⟩;cases oo with
   |ob c' gs=>
    simp only[Iw,gd,beq_iff_eq,sB] at hob;obtain⟨rfl,hn⟩:=hob;cases r1 with
    |ob hC h1 l1 r2=>
     rw[hc] at hC;cases hC;exact⟨_,_,_,rfl,Am _ _ h1,QF l1 hn,A,[.ob c' gs],dd,(o.mono s1).live,.cons (.ob hc h1 l1 r2) .nil,e2,λv H3 s3 r4=>k v H3 (s1.trans s3) r4⟩
   |_=>simp[Iw] at hob
  .cases e'
end
section
variable {base:Heap}{k:Nat}{b:FS}
end
section
variable {K:ay}{R:Addr}{dV kV:ac}{l:List (Str×Addr)}
def mx(X:K.In h)(a:ff K (.ref C) m=some (some (.ref f)))(i:qB K (.ref f)=true)(lk:K.lookup f=some ⟨oc,od,.func (fR m qual (Df st) (Bj st) (Ad st) .none kV doc pm an cdv ct),osl⟩)(c:lS K cdv qual=true)(k:hU K (.ref f)=true)(b:∀(kV doc pm:ac) (an:Option Addr) (cdv ct:ac) (us:List ac),us.length=ps.length->u4 (fR m qual (Df st) (Bj st) (Ad st) .none kV doc pm an cdv ct) ⟨us,[]⟩=pure (ps.zip us)):Mx K C m qual st ps:=⟨f,_,Rk lk c k,(Rk lk c k).binds b,a,i,k⟩
def rx(X:K.In h)(N:h.Ns eS mg)(a:wl K eS x=some (some (.ref R)))(e:excX K R=true)(h1:AB K (.ref R) "__getattribute__"=some (some (.builtin "type.__getattribute__")))(h2:GE K R (.type "type")=true)(h3:GG K (.ref R) (.type "type") "__init__"=some (.val (.builtin "ValueError.__init__"))):Rx K mg x:=⟨R,sC X N a,e,h1,h2,h3⟩
end
end PV
namespace PV
open PySem PySem.Spec L2
open PyProof.Rows hiding St
section
variable {b:Expr}{fb:FE}{p1:Pos}{es:List Expr}{fs:FA}
end
end PV
namespace PV
open PySem PySem.Spec L2 EX
open PyProof.Rows hiding St
section
variable {a b c:Expr}{fa fb fc:FE}{p2 px rp p:Pos}{es:List Expr}{fs:FA}{h:FZ}{hs:FZA}
end
section
variable {k:Nat}{sp:Sp}{o:Expr}{ta:TE}
end
section
variable {b:Expr}{rp p:Pos}{es:List Expr}{fs:FA}
end
section
variable {K:ay}{base:Heap}{k:Nat}{sp sp':Sp}
end
section
variable {a b:Expr}{es:List Expr}{fs:FA}{rp p:Pos}{h:FZ}
end
end PV
namespace PV
open PySem PySem.Spec L2
open PyProof.Rows hiding St
end PV
namespace L2
end L2
namespace PV
open PySem PySem.Spec L2
section
variable {es l1 l2:List Expr}{a b c:Expr}
theorem Qn{k j}:ar (.Constant k j pos::es) env=(false,eval (.Constant k j pos) env)::ar es env:=rfl
theorem RP{x}:ar (.Name x pos::es) env=(false,eval (.Name x pos) env)::ar es env:=rfl
theorem Be{o}:ar (.BinOp a o b pos::es) env=(false,eval (.BinOp a o b pos) env)::ar es env:=rfl
theorem NP{o}:ar (.Compare a o l1 pos::es) env=(false,eval (.Compare a o l1 pos) env)::ar es env:=rfl
theorem Ah:ar (.Subscript a b pos::es) env=(false,eval (.Subscript a b pos) env)::ar es env:=rfl
theorem V7{x}:ar (.Attribute a x pos::es) env=(false,eval (.Attribute a x pos) env)::ar es env:=rfl
theorem Xg{x}:ar (.Tuple l1 x pos::es) env=(false,eval (.Tuple l1 x pos) env)::ar es env:=rfl
theorem aR:ar (.List l1 pos::es) env=(false,eval (.List l1 pos) env)::ar es env:=rfl
theorem CG{k}:ar (.Call a l1 k pos::es) env=(false,eval (.Call a l1 k pos) env)::ar es env:=rfl
theorem Xh{g sc}:ar (.ListComp a g sc pos::es) env=(false,eval (.ListComp a g sc pos) env)::ar es env:=rfl
theorem V8{k}:ar (.Dict k l1 pos::es) env=(false,eval (.Dict k l1 pos) env)::ar es env:=rfl
end
section
variable {es:List Expr}{fs:FA}
theorem iS{i j}(h:PFA X G es fs):PFA X G (.Constant (.str i) j pos::es) (Aa (kF (.str i)) fs):=Af Rp h Qn
theorem iI{i j}(h:PFA X G es fs):PFA X G (.Constant (.int i) j pos::es) (Aa (kF (.int i)) fs):=Af Pn h Qn
end
section
variable {cs:List Str}{R:Addr}{f:Str}
end
open PyProof.Rows hiding St
section
variable {a b:Expr}{fs:FA}{px pt:Pos}
end
end PV
namespace PV
open PySem PySem.Spec L2 EX
open PyProof.Rows hiding St
section
variable {a:Expr}{fa:FE}{np p:Pos}{gb:FS}{es:List Expr}{fs:FA}
end
end PV
namespace EX
open PySem PySem.W PySem.Spec PyProof.Rows PySem.Calls
section
variable {A:ax}{K:Frag}{x:Addr}{ox:Obj}{name:Str}{v:ac}
open Builtin Builtin.ObjectAttr in
end
end EX
namespace EX
open PySem PySem.Spec L2
open PyProof.Rows hiding St
section
variable {e R dx:Addr}{tb:Option Addr}{A:ax}{f:Str}
end
section
variable {o value:Expr}{ta tv:TE}{f:Str}
end
section
variable {R fi:Addr}{k:Nat}{f g:Str}{c:V->V->Prop}
end
end EX
namespace PV
open PySem PySem.Spec L2 EX
open PyProof.Rows hiding St
structure Xx2 (G:Gx) (mg:Str->Option ac) (R:Addr) (cn f g qual:Str) (st:Stmt) (ps:List Str) where
 C:Addr
 fi:Addr
 fd:kR
 gc:G.xcl cn=some C
 xc:XC G.K C R
 hi:ff G.K (.ref C) "__init__"=some (some (.ref fi))
 hf:qB G.K (.ref fi)=true
 kp:hU G.K (.ref C)=true
 na:Ed G.K C f
 nb:Ed G.K C g
 m:mg cn=some (.ref C)
 F:Fun G.K "__init__" qual st fi fd
 B:Binds G.K fd ps []
section
variable {a b:Expr}{fs:FA}{np:Pos}{R:Addr}{f g:Str}{x:Xx2 G X.mg R cn f g qual st ps}{k:Nat}
end
end PV
namespace EX
open PySem PySem.Spec L2
open PyProof.Rows hiding St
section
variable {R:Addr}
end
end EX
namespace PV
open PySem PySem.Spec L2 EX
open PyProof.Rows hiding St
section
variable {a:Expr}{fa:FE}{np:Pos}{R:Addr}
end
section
variable {K:ay}{R:Addr}{kV:ac}{l:List (Str×Addr)}
end
theorem scO{P:List Str}(a:sc.kind=.function:=by rfl)(b:sc.isCoroutine=false:=by rfl)(c:sc.isGenerator=false:=by rfl)(d:N.Nodup:=by decide +kernel)(e:N.take P.length=P:=by rfl)(f:∀x∈P,sc.names.lookup x=some .local ∨sc.names.lookup x=some .cell :=by decide +kernel)(g:∀y∈sc.names,y.2≠.free :=by decide +kernel):FnScope N P sc:=⟨a,b,c,d,e,f,g⟩
theorem pav{es:List Expr}{fs:FA}{px:Pos}(i:Nat)(h:PFA X G es fs)(hN:X.N[i]?=some x:=by rfl)(hv:Vis X.env.scope x:=by first | exact fm rfl | exact eB (fm rfl) | exact eB (eB rfl))(hd:.(12)=false:=by decide)(hcd:(x==("__classdict__":Str))=false:=by decide):PFA X G (.Name x px::es) (Aa (vF i) fs):=Af (vr i hN hv hd hcd) h RP
section
variable {K:ay}{R:Addr}{l:List (Str×Addr)}{cs ns:List Str}{cv:List ac}
end
theorem tY{α:Type}{us:List α}(h:us.length=1):∃a,us=[a]:=by
 cases us with
 |nil=>cases h
 |cons a r=>exact⟨a,by rw[wb (zt h)]⟩
theorem tZ{α:Type}{us:List α}(h:us.length=2):∃a b,us=[a,b]:=by
 cases us with
 |nil=>cases h
 |cons z r=>
  obtain⟨a,rfl⟩:=tY (zt h);exact⟨z,a,rfl⟩
theorem j5{α:Type}{us:List α}(h:us.length=3):∃a b c,us=[a,b,c]:=by
 cases us with
 |nil=>cases h
 |cons z r=>
  obtain⟨a,b,rfl⟩:=tZ (zt h);exact⟨z,a,b,rfl⟩
theorem yf{α:Type}{us:List α}(h:us.length=4):∃a b c d,us=[a,b,c,d]:=by
 cases us with
 |nil=>cases h
 |cons z r=>
  obtain⟨a,b,c,rfl⟩:=j5 (zt h);exact⟨z,a,b,c,rfl⟩
abbrev EO:=Sum (Rho×Ef) (D×Rho)
abbrev FEz:=Rho->Ef->Option EO
open Classical in
section
variable {c:Str}{a b k it:Expr}{fa fb fk:FE}{p2 p px:Pos}{rest:List Stmt}{g gs:FEz}{gp:FS}{ta tb:FTE}{tp:FT}
end
section
variable {k:Nat}{sp:Sp}{p:Pos}{o:Expr}{es:List Expr}{ta:TE}{t:TA}
end
section
variable {a b:Expr}{fa fb:FE}{p2 p:Pos}{es:List Expr}{fs:FA}
end
section
open PySem PySem.Spec L2
end
open PySem PySem.Spec L2 EX
open PyProof.Rows hiding St
section
variable {a sp k v:Expr}{es:List Expr}{fa fk fv:FE}{p:Pos}{cv:List ac}{c:Str}{b:Bool}
end
section
variable {a ob:Expr}{es:List Expr}{fs:FA}{fo:FE}{p:Pos}
theorem mA{k:Nat}{c:Str}{d:Mx X.K C m qual st ps}{g:List D->Option D}{pl:Sem Bool}(hc:G.cl c=some C)(cl:Cls X.K C)(F:FnOk X.prog X.w X.K X.mg X.base CX0 k d.f d.fd ps (spD G g))(hr:Room k' X.A)(ho:PF X G ob fo)(ha:PFA X G (a::es) fs)(hle:k<=k':=by omega)(hst:ar (a::es) X.env=.(16)::ar es X.env:=by rfl)(hpl:(bP pos (ar es X.env)).any (·.1)=false:=by rfl)(ht:eval (.Call (.Attribute ob m apos) (a::es) [] pos) X.env=(do
   let ov <-eval ob X.env
   kP apos.atName
   let (f,first) <-ko [ov] (kQ ov m pl)
   kq pos f first (bP pos (ar (a::es) X.env)) (fA pos (fE [] X.env))):=by rfl):
  PF X G (.Call (.Attribute ob m apos) (a::es) [] pos) (J1 c m g fo fs):=λA=>Bx (oH (@ho A) cl d.me F (hr.mono hle) d.B .nil Ws (@ha A) hst hpl ht) λσ H Q ⟨ρ,dd,o,e,k⟩=>by
 unfold J1 at e;cases e0:fo ρ with
 |none=>simp[e0] at e
 |some oo=>
  rw[e0] at e;have e':(if Iw c m oo=true then (fs ρ).bind λds=>g (oo::ds) else none)=some dd:=e;split at e'
  .rename_i hob;cases e1:fs ρ with
   |none=>simp[e1] at e'
   |some ds=>
    have e2:g (oo::ds)=some dd:=by simpa [e1] using e'
    refine⟨ρ,oo,o,e0,λv H1 s1 r1=>?_⟩;cases oo with
    |ob c' gs=>
     simp only[Iw,gd,beq_iff_eq,sB] at hob;obtain⟨rfl,hn⟩:=hob;cases r1 with
     |ob hC h1 l1 r2=>
      rw[hc] at hC;cases hC;refine⟨_,_,_,rfl,Am _ _ h1,QF l1 hn,ρ,ds,o.mono s1,e1,λvs H2 s2 r3=>?_⟩;refine⟨A,.ob c' gs::ds,dd,((o.mono s1).mono s2).live,?_,e2,λv H3 s3 r4=>k v H3 ((s1.trans s2).trans s3) r4⟩;rw[eL];exact .cons (Rep.mono (.ob hc h1 l1 r2) (Az s2)) r3
    |_=>simp[Iw] at hob
  .cases e'
end
abbrev Mu:=List (Addr×D)
def ksM(μ:Mu):List Addr:=μ.map (·.1)
abbrev KM:=Out->Mu->Prop
abbrev FM:=Rho->Mu->KM->Prop
structure OkM (G:Gx) (A0:List Addr) (He Hb:Hp) (A:List Addr) (σ:St) (H:Hp) (ρ:Rho) (μ:Mu):Prop where
 w:OkW G (ksM μ++A0) Hb A σ H ρ
 sb:Same He Hb
 l0:∀a∈A0,He a≠none
 nf:∀a∈ksM μ,He a=none
 nd:(ksM μ).Nodup
 top:∀p∈μ,Top G A H p.1 p.2
def OkMS(G:Gx)(A0:List Addr)(He:Hp)(σ:St)(H:Hp)(ρ:Rho)(μ:Mu):Prop:=∃A Hb,OkM G A0 He Hb A σ H ρ μ
theorem Top.keep{A':List Addr}(t:Top G A H a d)(e:H' a=H a)(s:Same (hid A H) (hid A' H')):Top G A' H' a d:=by
 cases d with
 |lst ds=>obtain⟨xs,a1,a2⟩:=t;exact⟨xs,by rw[e];exact a1,a2.mono s⟩
 |dk ds=>obtain⟨xs,a1,a2,a3⟩:=t;exact⟨xs,by rw[e];exact a1,a2,a3.mono s⟩
 |dt ds=>obtain⟨xs,a1,a2,a3⟩:=t;exact⟨xs,by rw[e];exact a1,a2,a3.mono s⟩
 |ob c gs=>obtain⟨C,dx,xs,a1,a2,a3⟩:=t;exact⟨C,dx,xs,by rw[e];exact a1,a2,a3.mono s⟩
 |_=>exact t.elim
theorem Jl{μ:Mu}{p:Addr×D}(h:p∈μ):p.1∈ksM μ:=aI.mpr ⟨p,h,rfl⟩
theorem t6{μ:Mu}(h:a∈ksM μ):∃d,(a,d)∈μ:=by
 obtain⟨p,h1,h2⟩:=aI.mp h;exact⟨p.2,by rw[<-h2];exact h1⟩
theorem lookup_mem{μ:Mu}(h:μ.lookup a=some d):(a,d)∈μ:=by
 induction μ with
 |nil=>cases h
 |cons p r ih=>
  rw[ca] at h;cases q:(a==p.1) with
  |true=>
   rw[q] at h;cases h;rw[eq_of_beq q];exact cS
  |false=>
   rw[q] at h;exact bE _ (ih h)
def putA(a:Addr)(c:D)(μ:Mu):Mu:=μ.map λp=>if p.1=a then (a,c) else p
theorem Y_(a:Addr)(c:D)(μ:Mu):ksM (putA a c μ)=ksM μ:=by
 unfold ksM putA;rw[bX];refine pd λp _=>?_;show (if p.1=a then (a,c) else p).1=p.1;split
 .rename_i h;exact h.symm
 .rfl
section
variable {Hb:Hp}{μ:Mu}
theorem OkM.mono(o:OkM G A0 He Hb A σ H ρ μ)(s:Same H H'):OkM G A0 He Hb A σ H' ρ μ:=
 ⟨o.w.mono s,o.sb,o.l0,o.nf,o.nd,λp h=>(o.top p h).mono s⟩
theorem OkM.set{v:V}{d:D}(o:OkM G A0 He Hb A σ H ρ μ)(r:Rep G (hid A H) v d)(i:Nat):OkM G A0 He Hb A (σ.set i (some v)) H (ρ.set i (.fz d)) μ:=
 ⟨o.w.set r i,o.sb,o.l0,o.nf,o.nd,o.top⟩
theorem OkM.inA(o:OkM G A0 He Hb A σ H ρ μ){a:Addr}(h:a∈ksM μ):a∈A:=o.w.sub a (gy _ h)
theorem OkM.n0(o:OkM G A0 He Hb A σ H ρ μ){a:Addr}(h:a∈ksM μ):a∉A0:=λz=>o.l0 a z (o.nf a h)
theorem OkM.same(o:OkM G A0 He Hb A σ H ρ μ):Same He H:=o.sb.trans o.w.same
theorem OkM.fr(o:OkM G A0 He Hb A σ H ρ μ){a:Addr}(h:a∈A):a∈A0∨He a=none:=by
 rcases o.w.fr a h with z | z
 .rcases eD.mp z with z | z
  .exact .inr (o.nf a z)
  .exact .inl z
 .exact .inr (o.sb.free z)
theorem OkM.lift(o:OkM G A0 He Hb A σ H ρ μ):∃Hf,OkW G (ksM μ++A0) Hf A σ H ρ/\∀A' σ' H' ρ',OkW G (ksM μ++A0) Hf A' σ' H' ρ'->OkM G A0 He Hf A' σ' H' ρ' μ:=by
 obtain⟨s1,w2⟩:=o.w.here;refine⟨_,w2,λA' σ' H' ρ' w'=>⟨w',o.sb.trans s1,o.l0,o.nf,o.nd,λp hp=>?_⟩⟩;have t:=o.top p hp;refine t.keep ?_ (OkW.plain o.w.sub w');cases e:H p.1 with
 |none=>exact absurd e t.live.ne
 |some u=>
  refine w'.same p.1 u ?_;rw[BL (λz=>by
   have:=(eC.mp z).2;exact (of_decide_eq_true this) (gy _ (Jl hp)))]
  exact e
theorem OkM.new{c:D}(o:OkM G A0 He Hb A σ H ρ μ)(s:Same H H')(hp:H p=none)(t:Top G (p::A) H' p c):OkMS G A0 He σ H' ρ ((p,c)::μ)/\p∉ksM μ/\OkM G A0 He (λb=>if b=p then H' b else Hb b) (p::A) σ H' ρ ((p,c)::μ):=by
 have npA:p∉A:=λz=>(o.w.ok.live p z).ne hp;have npk:p∉ksM μ:=λz=>npA (o.inA z);have m:OkM G A0 He (λb=>if b=p then H' b else Hb b) (p::A) σ H' ρ ((p,c)::μ):=by
  refine⟨⟨λb u h=>?_,λa ha=>?_,λa ha=>?_,λa ha=>?_,o.w.ok.fill s hp t.live,λi d a h1 h2=>?_,o.w.lt⟩,λb u h=>?_,o.l0,λa ha=>?_,?_,λq hq=>?_⟩
  .by_cases q:b=p
   .simp only[q,if_true] at h ⊢;exact h
   .simp only[q,if_false] at h;exact s b u (o.w.same b u h)
  .rcases bb.mp ha with z | z
   .rw[z];exact cS
   .exact bE _ (o.w.sub a z)
  .rcases bb.mp ha with z | z
   .rw[z];exact .inl cS
   .rcases o.w.fr a z with q | q
    .exact .inl (bE _ q)
    .right;have:a≠p:=λe=>npA (e▸z);simp only[this,if_false];exact q
  .rcases bb.mp ha with z | z
   .have z':a=p:=z;simp only[z',if_true];exact t.live.ne
   .have:a≠p:=λe=>npA (e▸o.w.sub a z);simp only[this,if_false];exact o.w.l0 a z
  .intro z
   rcases bb.mp z with z | z
   .obtain⟨q,q1,q2,_⟩:=o.w.ok.ow i d h1;rw[h2] at q1;cases q1;exact npA ((show a=p from z)▸q2)
   .exact o.w.ow0 i d a h1 h2 z
  .have h':=o.sb b u h;have:b≠p:=λe=>by
    rw[e] at h';rw[o.w.same p u h'] at hp;cases hp
   simp only[this,if_false];exact h'
  .rcases bb.mp ha with z | z
   .rw[z];exact o.same.free hp
   .exact o.nf a z
  .exact i6.mpr ⟨npk,o.nd⟩
  .rcases bb.mp hq with z | z
   .rw[z];exact t
   .exact (o.top q z).fill s hp
 exact⟨⟨_,_,m⟩,npk,m⟩
theorem OkM.wr{c:D}(o:OkM G A0 He Hb A σ H ρ μ)(hq:q∈ksM μ)(sx:Ml q H H')(t:Top G A H' q c):OkM G A0 He (λb=>if b=q then H' b else Hb b) A σ H' ρ (putA q c μ):=by
 have hA:=o.inA hq;have sm:=Ik hA sx;have own:∀(i:Nat) (d:D) (a:Addr),ρ[i]?=some (.ow d)->σ[i]?=some (some (.ref a))->a≠q:=λi d a h1 h2 z=>o.w.ow0 i d a h1 h2 (z▸gy _ hq);have key:OkW G (ksM μ++A0) (λb=>if b=q then H' b else Hb b) A σ H' ρ:=by
  refine⟨λb u h=>?_,o.w.sub,λa ha=>?_,λa ha=>?_,⟨o.w.ok.len,λb hb=>?_,λj e h=>?_,λj e h=>?_,o.w.ok.inj⟩,o.w.ow0,o.w.lt⟩
  .by_cases z:b=q
   .simp only[z,if_true] at h ⊢;exact h
   .simp only[z,if_false] at h;exact sx b u z (o.w.same b u h)
  .by_cases z:a=q
   .exact .inl (z▸gy _ hq)
   .rcases o.w.fr a ha with y | y
    .exact .inl y
    .right;simp only[z,if_false];exact y
  .by_cases z:a=q
   .simp only[z,if_true];exact t.live.ne
   .simp only[z,if_false];exact o.w.l0 a ha
  .by_cases z:b=q
   .rw[z];exact t.live
   .exact (o.w.ok.live b hb).mono λu e=>sx b u z e
  .obtain⟨v,q1,q2⟩:=o.w.ok.fz j e h;exact⟨v,q1,q2.mono sm⟩
  .obtain⟨a,q1,q2,q3⟩:=o.w.ok.ow j e h;exact⟨a,q1,q2,q3.other (own j e a h q1) hA sx⟩
 refine⟨by rw[Y_];exact key,λb u h=>?_,o.l0,by rw[Y_];exact o.nf,by rw[Y_];exact o.nd,λp hp=>?_⟩
 .have:b≠q:=λe=>by
   rw[e,o.nf q hq] at h;cases h
  simp only[this,if_false];exact o.sb b u h
 .obtain⟨p0,h0,e0⟩:=aI.mp hp;split at e0
  .rw[<-e0];exact t
  .rename_i z;rw[<-e0];exact (o.top p0 h0).other z hA sx
theorem OkM.at(o:OkM G A0 He Hb A σ H ρ μ){i:Nat}{a:Addr}(h:ρ[i]?=some (.fz (.adr a))):σ[i]?=some (some (.ref a)):=by
 obtain⟨v,q1,q2⟩:=o.w.ok.fz i _ h;cases q2;exact q1
end
def KN(μ:Mu):List Nat->List Addr->Rho->Option Rho
 |[],_,ρ=>some ρ
 |j::js,seen,ρ=>match ρ[j]? with
  |some (.fz (.adr a))=>if a∈seen then none else (μ.lookup a).bind λc=>KN μ js (a::seen) (ρ.set j (.ow c))
  |_=>none
theorem U4{G:Gx}{A:List Addr}{σ:St}{H:Hp}{μ:Mu}(inA:∀p∈μ,p.1∈A)(top:∀p∈μ,Top G A H p.1 p.2):∀(js:List Nat) (seen:List Addr) (ρ ρ':Rho),Okp G A σ H ρ->(∀(i:Nat) (d:D) (a:Addr),ρ[i]?=some (.ow d)->σ[i]?=some (some (.ref a))->a∉ksM μ∨a∈seen)->KN μ js seen ρ=some ρ'->Okp G A σ H ρ'
 |[],_,ρ,ρ',o,_,e=>by cases e;exact o
 |j::js,seen,ρ,ρ',o,hs,e=>by
  unfold KN at e;split at e
  .rename_i a ej;split at e
   .cases e
   .rename_i na;cases el:μ.lookup a with
    |none=>rw[el] at e;cases e
    |some c=>
     rw[el] at e;have hm:=lookup_mem el;obtain⟨v,q1,q2⟩:=o.fz j _ ej;cases q2;have ne:∀(i:Nat) (d:D) (b:Addr),ρ[i]?=some (.ow d)->σ[i]?=some (some (.ref b))->b≠a:=λi d b h1 h2 z=>by
      rcases hs i d b h1 h2 with y | y
      .exact y (z▸Jl hm)
      .exact na (z▸y)
     refine U4 inA top js (a::seen) _ ρ' ⟨by rw[pr];exact o.len,o.live,λi d h=>?_,λi d h=>?_,λi k d f b h1 h2 h3 h4=>?_⟩ (λi d b h1 h2=>?_) e
     .rcases Bt h with ⟨_,hz,_⟩ | ⟨_,hz⟩
      .cases hz
      .exact o.fz i d hz
     .rcases Bt h with ⟨hj,hz,_⟩ | ⟨_,hz⟩
      .cases hz;subst hj;exact⟨a,q1,inA _ hm,top _ hm⟩
      .exact o.ow i d hz
     .rcases Bt h1 with ⟨hi,_,_⟩ | ⟨hi,z1⟩<;>rcases Bt h2 with ⟨hk,_,_⟩ | ⟨hk,z2⟩
      .rw[hi,hk]
      .subst hi;rw[q1] at h3;cases h3;exact absurd rfl (ne k f _ z2 h4)
      .subst hk;rw[q1] at h4;cases h4;exact absurd rfl (ne i d _ z1 h3)
      .exact o.inj i k d f b z1 z2 h3 h4
     .rcases Bt h1 with ⟨hi,_,_⟩ | ⟨hi,z1⟩
      .subst hi;rw[q1] at h2;cases h2;exact .inr cS
      .exact (hs i d b z1 h2).imp id λy=>bE _ y
  .cases e
theorem OkM.view{Hb:Hp}{μ:Mu}(o:OkM G A0 He Hb A σ H ρ μ){js:List Nat}{ρ':Rho}(e:KN μ js [] ρ=some ρ'):Okp G A σ H ρ':=
 U4 (λp h=>o.inA (Jl h)) o.top js [] ρ ρ' o.w.ok (λi d a h1 h2=>.inl λz=>o.w.ow0 i d a h1 h2 (gy _ z)) e
abbrev FXM:=Rho->Mu->(D->Mu->Prop)->Prop
def puM(g:FS):FM:=λρ μ K=>∃o,g ρ=some o/\K o μ
def thM(gs:FM)(K:KM):KM:=λo μ=>match o with | .nx ρ=>gs ρ μ K | o=>K o μ
def seqM(g gs:FM):FM:=λρ μ K=>g ρ μ (thM gs K)
def nxM:FM:=λρ μ K=>K (.nx ρ) μ
def vwM{α:Type}(js:List Nat)(f:Rho->Option α)(ρ:Rho)(μ:Mu):Option α:=(KN μ js [] ρ).bind f
def ifM(js:List Nat)(t:FT)(g gs:FM):FM:=λρ μ K=>match vwM js t ρ μ with | some true=>g ρ μ K | some false=>gs ρ μ K | none=>False
def bdM(go:FM)(K:KM):KM:=λo μ=>match o with | .nx ρ=>go ρ μ K | .ct ρ=>go ρ μ K | .bk ρ=>K (.nx ρ) μ | .rt e ρ=>K (.rt e ρ) μ
def Mm(tg:FG)(b:FM):List D->FM
 |[],ρ,μ,K=>K (.nx ρ) μ
 |d::r,ρ,μ,K=>∃ρ1,tg d ρ=some ρ1/\b ρ1 μ (bdM (Mm tg b r) K)
def forM(src:FI)(tg:FG)(b:FM):FM:=λρ μ K=>∃ds,src ρ=some ds/\Mm tg b ds ρ μ K
def newX(f:FE):FXM:=λρ μ K=>∃c,f ρ=some c/\∀p,p∉ksM μ->K (.adr p) ((p,c)::μ)
abbrev GM:=List D->Mu->(D->Mu->Prop)->Prop
def calX(g:GM)(fs:FA):FXM:=λρ μ K=>∃ds,fs ρ=some ds/\g ds μ K
def j6(i:Nat)(h:FXM):FM:=λρ μ K=>h ρ μ λd μ'=>K (.nx (ρ.set i (.fz d))) μ'
def U5(h:FXM):FM:=λρ μ K=>h ρ μ λ_ μ'=>K (.nx ρ) μ'
def Xi(i:Nat)(fk:FE)(h:FXM):FM:=λρ μ K=>h ρ μ λv μ'=>∃y x z,fk ρ=some y/\ρ[i]?=some (.ow x)/\Cj x y v=some z/\K (.nx (ρ.set i (.ow z))) μ'
def mutX(i:Nat)(js:List Nat)(g:D->List D->Option (D×D))(fs:FA):FXM:=λρ μ K=>∃ds a c v c',vwM js fs ρ μ=some ds/\ρ[i]?=some (.fz (.adr a))/\μ.lookup a=some c/\g c ds=some (v,c')/\K v (putA a c' μ)
def der:Nat->Mu->D->D
 |0,_,d=>d
 |n+1,μ,.adr a=>match μ.lookup a with | some c=>der n μ c | none=>.adr a
 |n+1,μ,.lst ds=>.lst (ds.map (der n μ))
 |n+1,μ,.tup ds=>.tup (ds.map (der n μ))
 |n+1,μ,.dk kds=>.dk (kds.map λp=>(p.1,der n μ p.2))
 |_+1,_,d=>d
def derS(n:Nat)(μ:Mu):Slot->Slot
 |.fz d=>.fz (der n μ d)
 |z=>z
def frzM(n:Nat)(g:FM):FM:=λρ μ K=>g (ρ.map (derS n μ)) [] K
def finM(K:D->Mu->Prop):KM:=λo μ=>match o with | .rt d _=>K d μ | .nx _=>K .non μ | _=>False
def runM(n np:Nat)(b:FM):GM:=λds μ K=>ds.length=np/\b (Ck n ds) μ (finM K)
def QG(G:Gx)(A0:List Addr)(He:Hp)(D:Ends):Out->Mu->Prop
 |.nx ρ,μ=>∀σ H,OkMS G A0 He σ H ρ μ->D.nx σ H
 |.rt d ρ,μ=>∀v σ H A Hb,OkM G A0 He Hb A σ H ρ μ->Rep G (hid A H) v d->D.rt v H
 |.bk ρ,μ=>∀σ H,OkMS G A0 He σ H ρ μ->D.bk σ H
 |.ct ρ,μ=>∀σ H,OkMS G A0 He σ H ρ μ->D.ct σ H
def tM(G:Gx)(A0:List Addr)(He:Hp)(g:FM):TS:=λD σ H=>∃ρ μ K,OkMS G A0 He σ H ρ μ/\g ρ μ K/\∀o μ',K o μ'->QG G A0 He D o μ'
def PSM(X:Cx)(G:Gx)(st:Stmt)(g:FM):Prop:=∀⦃A0⦄ He,PS X st (tM G A0 He g)
def PSMs(X:Cx)(G:Gx)(st:List Stmt)(g:FM):Prop:=∀⦃A0⦄ He,PSs X st (tM G A0 He g)
def tMX(G:Gx)(A0:List Addr)(He:Hp)(h:FXM):TE:=λσ H Q=>∃ρ μ K,OkMS G A0 He σ H ρ μ/\h ρ μ K/\∀v H' d μ' A Hb,K d μ'->OkM G A0 He Hb A σ H' ρ μ'->Rep G (hid A H') v d->Q v H'
def PMX(X:Cx)(G:Gx)(e:Expr)(h:FXM):Prop:=∀⦃A0⦄ He,PE X e (tMX G A0 He h)
section
variable {Hb:Hp}{μ:Mu}
theorem OkM.base(o:OkM G A0 Hf Hb A σ H ρ μ)(s:Same He Hf)(l0:∀a∈A0,He a≠none):OkM G A0 He Hb A σ H ρ μ:=
 ⟨o.w,s.trans o.sb,l0,λa h=>s.free (o.nf a h),o.nd,o.top⟩
theorem OkM.here(o:OkM G A0 He Hb A σ H ρ μ):Same He (hid (A.filter λa=>decide (a∉A0)) H)/\∃Hc,OkM G A0 (hid (A.filter λa=>decide (a∉A0)) H) Hc A σ H ρ μ:=by
 have hb:∀b,b∈(A.filter λa=>decide (a∉A0))↔b∈A/\b∉A0:=λb=>by simp[eC]
 have s1:Same He (hid (A.filter λa=>decide (a∉A0)) H):=λb u h=>by
  rw[BL]
  .exact o.same b u h
  .intro z;obtain⟨z1,z2⟩:=(hb b).mp z
   rcases o.fr z1 with q | q
   .exact z2 q
   .rw[q] at h;cases h
 obtain⟨s2,w2⟩:=o.w.here;refine⟨s1,_,w2,λb u h=>?_,λa ha h=>?_,λa ha=>?_,o.nd,o.top⟩
 .unfold hid at h ⊢;split at h
  .cases h
  .rename_i nb;rw[if_neg]
   .exact h
   .intro z;have z':=eC.mp z;refine nb ((hb b).mpr ⟨z'.1,λy=>?_⟩);exact (of_decide_eq_true z'.2) (eP _ y)
 .rw[BL (λz=>((hb a).mp z).2 ha)] at h;exact (o.w.ok.live a (o.w.sub a (eP _ ha))).ne h
 .unfold hid;rw[if_pos ((hb a).mpr ⟨o.inA ha,o.n0 ha⟩)]
theorem OkM.plain(sub:∀a∈A0,a∈B)(o:OkM G A0 (hid (B.filter λa=>decide (a∉A0)) H1) Hb A σ H ρ μ):Same (hid B H1) (hid A H):=λb u h=>by
 unfold hid at h;split at h
 .cases h
 .rename_i hb;have e:hid (B.filter λa=>decide (a∉A0)) H1 b=some u:=by
   rw[BL (λz=>hb (eC.mp z).1)];exact h
  rw[BL]
  .exact o.same b u e
  .intro z
   rcases o.fr z with q | q
   .exact hb (sub b q)
   .rw[q] at e;cases e
theorem QG.base{Hf:Hp}{D:Ends}{o:Out}(k:QG G A0 He D o μ)(s:Same He Hf)(l0:∀a∈A0,He a≠none):QG G A0 Hf D o μ:=by
 cases o with
 |nx ρ=>exact λσ H ⟨A,Hb,w⟩=>k σ H ⟨A,Hb,w.base s l0⟩
 |rt d ρ=>exact λv σ H A Hb w r=>k v σ H A Hb (w.base s l0) r
 |bk ρ=>exact λσ H ⟨A,Hb,w⟩=>k σ H ⟨A,Hb,w.base s l0⟩
 |ct ρ=>exact λσ H ⟨A,Hb,w⟩=>k σ H ⟨A,Hb,w.base s l0⟩
theorem OkM.subA0(o:OkM G A0 He Hb A σ H ρ μ):∀a∈A0,a∈A:=λa h=>o.w.sub a (eP _ h)
theorem OkM.ends{D:Ends}(up:∀A' σ' H' ρ',OkW G (ksM μ++A0) Hf A' σ' H' ρ'->OkM G A0 He Hf A' σ' H' ρ' μ){o:Out}(k:QG G A0 He D o μ):Ru G (ksM μ++A0) Hf D o:=by
 cases o with
 |nx ρ=>exact λσ H ⟨A,w⟩=>k σ H ⟨A,Hf,up _ _ _ _ w⟩
 |rt d ρ=>exact λv σ H A w r=>k v σ H A Hf (up _ _ _ _ w) r
 |bk ρ=>exact λσ H ⟨A,w⟩=>k σ H ⟨A,Hf,up _ _ _ _ w⟩
 |ct ρ=>exact λσ H ⟨A,w⟩=>k σ H ⟨A,Hf,up _ _ _ _ w⟩
theorem OkM.wrO{d0:D}{u:HO}(o:OkM G A0 He Hb A σ H ρ μ)(hi:ρ[i]?=some (.ow d0))(hs:σ[i]?=some (some (.ref p)))(t:Top G A (upd H p u) p d):OkM G A0 He Hb A σ (upd H p u) (ρ.set i (.ow d)) μ:=by
 have n:=o.w.ow0 i d0 p hi hs;obtain⟨q,q1,q2,_⟩:=o.w.ok.ow i d0 hi;rw[hs] at q1;cases q1;exact⟨o.w.wr hi hs t,o.sb,o.l0,o.nf,o.nd,λc hc=>(o.top c hc).other (λz:c.1=p=>n (by rw[<-z];exact gy _ (Jl hc))) q2 (λb x nb hb=>by rw[Aq nb];exact hb)⟩
end
section
variable {a b c:Expr}{fa fb fc:FE}{p2:Pos}{rest:List Stmt}{gp:FS}{g gs gb:FM}{h:FXM}
theorem qQ:PSMs X G [] nxM:=λA0 He π s σ H D I ⟨ρ,μ,K,ok,e,k⟩=>Q6 π s σ H D I (k _ _ e σ H ok)
theorem Do(h1:PSM X G st g)(h2:PSMs X G rest gs):PSMs X G (st::rest) (seqM g gs):=λA0 He π s σ H D I ⟨ρ,μ,K,ok,e,k⟩=>by
 refine Nk (@h1 A0 He) (@h2 A0 He) π s σ H D I ⟨ρ,μ,_,ok,e,λo μ' q=>?_⟩;cases o with
 |nx ρ'=>exact λσ' H' ok'=>⟨ρ',μ',K,ok',q,k⟩
 |rt d ρ'=>exact k _ _ q
 |bk ρ'=>exact k _ _ q
 |ct ρ'=>exact k _ _ q
theorem JW(h1:PSM X G st g):PSMs X G [st] g:=λA0 He=>Vf (@h1 A0 He)
theorem FW(h:PSD X G st gp):PSM X G st (puM gp):=λA0 He π s σ H D I ⟨ρ,μ,K,⟨A,Hb,w⟩,⟨o,e,q⟩,k⟩=>by
 obtain⟨Hf,w1,up⟩:=w.lift;exact @h (ksM μ++A0) Hf π s σ H D I ⟨ρ,o,⟨A,w1⟩,e,OkM.ends up (k _ _ q)⟩
theorem SX{α:Type}{js:List Nat}{f:Rho->Option α}{μ:Mu}{d:α}(e:vwM js f ρ μ=some d):∃ρ',KN μ js [] ρ=some ρ'/\f ρ'=some d:=by
 unfold vwM at e;cases e1:KN μ js [] ρ with
 |none=>rw[e1] at e;cases e
 |some ρ'=>rw[e1] at e;exact⟨ρ',rfl,e⟩
theorem j7{s2:List Stmt}(js:List Nat)(ht:PFT X G c ga)(h1:PSMs X G s1 g)(h2:PSMs X G s2 gs):PSM X G (.If c s1 s2 pos) (ifM js ga g gs):=λA0 He π s σ H D I ⟨ρ,μ,K,⟨A,Hb,w⟩,e,k⟩=>by
 refine dw (@ht A) (@h1 A0 He) (@h2 A0 He) π s σ H D I ?_;unfold ifM at e;split at e
 .rename_i e1;obtain⟨ρ',e2,e3⟩:=SX e1;exact⟨ρ',_,w.view e2,e3,λH1 s1=>iteT ⟨ρ,μ,K,⟨A,Hb,w.mono s1⟩,e,k⟩⟩
 .rename_i e1;obtain⟨ρ',e2,e3⟩:=SX e1;exact⟨ρ',_,w.view e2,e3,λH1 s1=>iteF ⟨ρ,μ,K,⟨A,Hb,w.mono s1⟩,e,k⟩⟩
 .exact e.elim
theorem aU{it:Expr}(hp:qA .(2) X.A X.env X.xe)(hc:X.calm=true)(hi:PFI X G false tg it src)(hg:PGD X G tg fg)(hb:PSMs X G body gb)(hs:∀x,ip it X.env x=pure x:=by intro _;rfl):PSM X G (.For tg it body [] pos) (forM src fg gb):=λA0 He π s σ H D I ⟨ρ,μ,K,⟨A,Hb,w⟩,⟨ds,e1,e⟩,k⟩=>by
 have hb':PSs X body (λD σ H=>∃A0 He,tM G A0 He gb D σ H):=λπ s σ H D I ⟨A0,He,q⟩=>@hb A0 He π s σ H D I q;have hg':PG X tg (λv σ H Q=>∃A0 He,tGD G A0 He fg v σ H Q):=λπ s σ H v u Q I r ⟨A0,He,q⟩=>@hg A0 He π s σ H v u Q I r q;refine Yb hp hc (@hi A) hg' hb' hs π s σ H D I ⟨ρ,ds,w.w.ok,e1,λJ H1 s1 sr=>?_⟩;obtain⟨sHe,Hc,w2⟩:=(w.mono s1).here;have k2:∀o μ',K o μ'->QG G A0 _ D o μ':=λo μ' q=>(k o μ' q).base sHe w.l0;generalize hHf:hid (A.filter λa=>decide (a∉A0)) H1=Hf at sHe w2 k2;refine⟨λi m σ' H'=>m=ds.length-i/\i<=ds.length/\∃ρ' μ',OkMS G A0 Hf σ' H' ρ' μ'/\Mm fg gb (ds.drop i) ρ' μ' K,⟨ds.length,by simp,dQ _,ρ,μ,⟨A,Hc,w2⟩,by simpa using e⟩,?_⟩;rintro i m σ3 H3 ⟨rfl,hil,ρ3,μ3,⟨B,Hd,w3⟩,e3⟩;have pl:Same (hid A H1) (hid B H3):=by rw[<-hHf] at w3;exact OkM.plain w.subA0 w3
 by_cases hlt:i<ds.length
 .right;have hd:ds[i]?=some ds[i]:=by simp[hlt]
  have ed:ds.drop i=ds[i]::ds.drop (i+1):=rS hlt;rw[ed] at e3;obtain⟨ρ4,e4,e5⟩:=e3;refine⟨sr.go i H3 (pl.trans Am) hlt,λσ' H'=>∃ρ' μ',OkMS G A0 Hf σ' H' ρ' μ'/\Mm fg gb (ds.drop (i+1)) ρ' μ' K,λσ' H' q=>⟨ds.length-(i+1),by omega,rfl,hlt,q⟩,λx H' y=>?_⟩;obtain⟨sy,rx⟩:=sr.yld i H3 x H' _ (pl.trans Am) hd y;obtain⟨Hg,w4,up⟩:=(w3.mono sy).lift;refine⟨ksM μ3++A0,Hg,B,ρ3,ds[i],ρ4,w4,rx B w3.w.ok.live pl,e4,λσ5 H5 ⟨A5,ok5⟩=>⟨A0,Hf,ρ4,μ3,_,⟨A5,Hg,up _ _ _ _ ok5⟩,e5,λo5 μ5 q5=>?_⟩⟩;cases o5 with
  |nx ρ5=>exact λσ' H' ok'=>⟨ρ5,μ5,ok',q5⟩
  |ct ρ5=>exact λσ' H' ok'=>⟨ρ5,μ5,ok',q5⟩
  |bk ρ5=>exact λσ' H' ok'=>k2 _ _ q5 σ' H' ok'
  |rt d5 ρ5=>exact k2 _ _ q5
 .left;have ei:i=ds.length:=by omega
  subst ei;rw[zi] at e3;exact⟨sr.stop _ H3 (pl.trans Am) (aE _),k2 _ _ e3 σ3 H3 ⟨B,Hd,w3⟩⟩
theorem aV(ha:PN X G a fa):PMX X G a (newX fa):=λA0 He π s σ H Q I ⟨ρ,μ,K,⟨A,Hb,w⟩,⟨c,e,q⟩,k⟩=>
 @ha A π s σ H Q I ⟨ρ,c,w.w.ok,e,λp H' sm hp t=>by
  obtain⟨_,np,m⟩:=w.new sm hp t;exact k _ H' _ _ _ _ (q p np) m (.adr p)⟩
theorem j8{p:Pos}(hp:∀te,PE X a te->PS X (.Assign [.Name x p] a pos) (tAsg te (FN i)))(ha:PMX X G a h):PSM X G (.Assign [.Name x p] a pos) (j6 i h):=λA0 He π s σ H D I ⟨ρ,μ,K,ok,e,k⟩=>
 hp _ (@ha A0 He) π s σ H D I ⟨ρ,μ,_,ok,e,λv H' d μ' A Hb q w r=>k _ _ q _ _ ⟨A,Hb,w.set r i⟩⟩
theorem Sd(ha:PMX X G a h)(hs:eI a none pos.line X.env=pure false:=by rfl):PSM X G (.Expr a pos) (U5 h):=λA0 He π s σ H D I ⟨ρ,μ,K,ok,e,k⟩=>
 Np (@ha A0 He) hs π s σ H D I ⟨ρ,μ,_,ok,e,λv H' d μ' A Hb q w r=>k _ _ q _ _ ⟨A,Hb,w⟩⟩
theorem j9{x y v z:D}{vv yv:V}(t:Top G A H p x)(hA:p∈A)(e3:Cj x y v=some z)(ry:Rep G (hid A H) yv y)(rv:Rep G (hid A H) vv v):∃u,DPut H p yv vv (upd H p u)/\Top G A (upd H p u) p z:=by
 unfold Cj at e3;split at e3
 .rename_i kds;cases e4:keyD y with
  |none=>simp[e4] at e3
  |some q=>
   simp only[e4,dS] at e3;split at e3
   .rename_i hz;cases e3;obtain⟨kvs,h2,hk,r⟩:=t;have ek:=Jz ry e4;subst ek;have hl:kvs.length<sizeLine:=by
     have:=congrArg dE hk;rw[aw,aw] at this;omega
    have pk:=RG (k:=q) rv hk r;refine⟨_,DPut.k h2 hl,_,Ak,pk.1,?_⟩;rw[Bg hA];exact pk.2
   .cases e3
 .cases e3
theorem Xj(hu:X.A.units+1<bi)(hv:PE X .(15) (tVar i))(ha:PF X G a fa)(hb:PMX X G b h)(hs:eI b (some (.Subscript .(15) a spos)) pos.line X.env=pure false:=by rfl):PSM X G (.Assign [.Subscript .(15) a spos] b pos) (Xi i fa h):=λA0 He π s σ H D I ⟨ρ,μ,K,ok,e,k⟩=>by
 have ha':PE X a (λσ H Q=>∃A,tF G A fa σ H Q):=λπ s σ H Q I ⟨A,q⟩=>@ha A π s σ H Q I q;refine Q9 hu hv ha' (@hb A0 He) hs π s σ H D I ⟨ρ,μ,_,ok,e,λv H' d μ' A Hb ⟨y,x0,z,e2,hi,e3,q⟩ w r=>?_⟩;obtain⟨p,h1,hA,t⟩:=w.w.ok.ow i _ hi;refine⟨_,h1,A,ρ,y,w.w.ok,e2,λyv H2 s2 r2=>?_⟩;have w2:=w.mono s2;obtain⟨u,q1,q2⟩:=j9 (t.mono s2) hA e3 r2 (r.mono (Az s2));exact⟨p,_,rfl,q1,k _ _ q _ _ ⟨A,Hb,w2.wrO hi h1 q2⟩⟩
def SndM(G:Gx)(r:V->List V->Hp->VK->Prop)(g:D->List D->Option (D×D)):Prop:=∀(A:List Addr) (H:Hp) (l:Addr) (vs:List V) (c:D) (ds:List D) (v c':D) (Q:VK),(∀a∈A,Nt (H a))->l∈A->Top G A H l c->RepL G (hid A H) vs ds->g c ds=some (v,c')->(∀vv H',Ml l H H'->Top G A H' l c'->Rep G (hid A H') vv v->Q vv H')->r (.ref l) vs H Q
theorem aW{name:Str}{T id:String}{r:V->List V->Hp->VK->Prop}{gm:D->List D->Option (D×D)}{es:List Expr}{fs:FA}(js:List Nat)(pa:PlainAttrs T)(slot:B8 T name id)(hty:typeOf (.builtin id)=pure (.type "method_descriptor"))(hm:MtM X id r)(sn:SndM G r gm)(tv:∀(A:List Addr) (H:Hp) (l:Addr) (c:D) (ds:List D) (vc:D×D),gm c ds=some vc->Top G A H l c->tyV X.K T (.ref l) H)(hv:PE X .(15) (tVar i))(ha:PFA X G (e::es) fs)(hbase:fw .(15) name X.env (eval .(15) X.env)=eval .(15) X.env:=by rfl)(hfew:((bP pos (ar (e::es) X.env)).all (λx=>!x.1)&&(fA pos (fE [] X.env)).all (λx=>x.1.isSome)&&decide ((e::es).length+([]:List fF).length+(if ([]:List fF).isEmpty then 0 else 1)<30))=true:=by rfl)(hline:(apos.endLine==pos.line)=true:=by rfl)(hs:ar (e::es) X.env=(false,eval e X.env)::ar es X.env:=by rfl)(hpl:(bP pos (ar es X.env)).any (·.1)=false:=by rfl):
  PMX X G (.Call (.Attribute .(15) name apos) (e::es) [] pos) (mutX i js gm fs):=λA0 He π s σ H Q I ⟨ρ,μ,K,⟨A,Hb,w⟩,⟨ds,l,c,v,c',e1,hi,hl,e2,q⟩,k⟩=>by
 obtain⟨ρ',e3,e4⟩:=SX e1;have hm':=lookup_mem hl;refine Wn pa slot hty hm hv (@ha A) hbase hfew hline hs hpl π s σ H Q I ⟨_,w.at hi,tv _ _ _ _ _ _ e2 (w.top _ hm'),ρ',ds,w.view e3,e4,λvs H1 s1 r1=>?_⟩;have w1:=w.mono s1;exact sn A H1 l vs c ds v c' Q w1.w.ok.live (w.inA (Jl hm')) (w1.top _ hm') r1 e2 λvv H' sx t rv=>k vv H' v _ A _ q (w1.wr (Jl hm') sx t) rv
end
def spM(G:Gx)(g:GM):Sp:=λvs H Q _=>∃A ds μ K,(∀a∈A,Nt (H a))/\(ksM μ).Nodup/\(∀p∈μ,p.1∈A/\Top G A H p.1 p.2)/\RepL G (hid A H) vs ds/\g ds μ K ∧
 ∀v H' A' μ' d,K d μ'->(∀b u,b∉ksM μ->H b=some u->H' b=some u)->(∀a∈A,a∉ksM μ->a∈A')->(∀a∈A',Nt (H' a))->(ksM μ').Nodup->(∀p∈μ',p.1∈A'/\Top G A' H' p.1 p.2)->(∀a∈ksM μ',a∈ksM μ∨H a=none)->Rep G (hid A' H') v d->Q v H'
theorem dB{μ:Mu}(live:∀a∈A,Nt (H a))(nd:(ksM μ).Nodup)(ct:∀p∈μ,p.1∈A/\Top G A H p.1 p.2)(r:RepL G (hid A H) vs ds)(hn:vs.length<=N.length):OkM G (A.filter λa=>decide (a∉ksM μ)) (hid (ksM μ) H) H A (start N vs) H (Ck N.length ds) μ:=by
 have inA:∀a∈ksM μ,a∈A:=λa h=>by obtain⟨d,hd⟩:=t6 h;exact (ct _ hd).1
 have hm:∀a,a∈(A.filter λa=>decide (a∉ksM μ))↔a∈A/\a∉ksM μ:=λa=>by simp[eC]
 obtain⟨A1,w⟩:=N5 (N:=N) live r hn;have key:∀a,a∈ksM μ++(A.filter λa=>decide (a∉ksM μ))↔a∈A:=λa=>by
  rw[eD,hm];constructor
  .rintro (h | h)
   .exact inA a h
   .exact h.1
  .intro h
   by_cases z:a∈ksM μ
   .exact .inl z
   .exact .inr ⟨h,z⟩
 have no:∀(i:Nat) (d:D),(Ck N.length ds)[i]?≠some (.ow d):=λi d h=>by
  unfold Ck at h
  by_cases hi:i<ds.length
  .rw[jI (by simpa using hi),be] at h;cases e:ds[i]? with
   |none=>rw[e] at h;cases h
   |some d=>rw[e] at h;cases h
  .rw[jv (by simpa using kA.mp hi),yb] at h;split at h<;>cases h
 have okp:Okp G A (start N vs) H (Ck N.length ds):=by
  refine⟨w.ok.len,live,λi d h=>?_,λi d h=>absurd h (no i d),λi j d e a h _ _ _=>absurd h (no i d)⟩;obtain⟨v,q1,q2⟩:=w.ok.fz i d h;exact⟨v,q1,q2.mono (Dz w.sub)⟩
 refine⟨⟨Same.refl H,λa ha=>(key a).mp ha,λa ha=>.inl ((key a).mpr ha),λa ha=>(live a ((key a).mp ha)).ne,okp,λi d a h _=>absurd h (no i d),λx d _ h=>absurd h (no 0 d)⟩,Am,λa ha=>?_,λa ha=>?_,nd,λp hp=>(ct p hp).2⟩
 .rw[BL ((hm a).mp ha).2];exact (live a ((hm a).mp ha).1).ne
 .unfold hid;rw[if_pos ha]
theorem fn_M{base:Heap}{k:Nat}{b:FM}(F:FunD G.K x qual st f fd)(S:FnScope N ps (Ad st))(hl:ps.length<=N.length)(hb:∀(cdv:ac) (A:ax) (outer:List Env) (s:af) (H:Hp) (E:XK),Room k (A.deeper (fI qual (Ad st) s.heap.objs.size f cdv))->PSMs (cxOf CX0 P w G.K mg base N qual (Ad st) f cdv A outer s H E).nox G (Bj st) b):
  FnOk P w G.K mg base CX0 (k+1) f fd ps (spM G (runM N.length ps.length b)):=by
 obtain⟨oc,od,dV,kV,doc,pm,an,cdv,ct,osl,rfl,lk,hcd⟩:=F.ex;refine e_ lk hcd S (λvs H Q E h=>?_) (λA outer s H vs Q E hr h=>?_)
 .obtain⟨A,ds,μ,K,lv,nd,ct,r,e,_⟩:=h;rw[r.1];exact e.1
 .obtain⟨A1,ds,μ,K,lv,nd,ct,r,e,k⟩:=h;have hzz:=hb cdv A outer s H E hr;have fin:∀(σ':St) (H':Hp) (A2:List Addr) (Hb:Hp) (ρ:Rho) (μ':Mu) (v:V) (d:D),OkM G (A1.filter λa=>decide (a∉ksM μ)) (hid (ksM μ) H) Hb A2 σ' H' ρ μ'->Rep G (hid A2 H') v d->K d μ'->Q v H':=λσ' H' A2 Hb ρ μ' v d w rv kd=>by
   refine k v H' A2 μ' d kd (λb u nb hb=>w.same b u (by rw[BL nb];exact hb)) (λa ha na=>w.subA0 a (by simp[eC,ha,na])) w.w.ok.live w.nd (λp hp=>⟨w.inA (Jl hp),w.top p hp⟩) (λa ha=>?_) rv;have:=w.nf a ha
   by_cases z:a∈ksM μ
   .exact .inl z
   .rw[BL z] at this;exact .inr this
  refine⟨_,(@hzz (A1.filter λa=>decide (a∉ksM μ)) (hid (ksM μ) H)).nox,Ck N.length ds,μ,_,⟨A1,H,dB lv nd ct r (by rw[r.1,e.1];exact hl)⟩,e.2,λo μ' q=>?_⟩;cases o with
  |nx ρ=>exact λσ H' ⟨A,Hb,w⟩=>fin σ H' A Hb ρ μ' .non .non w .non q
  |rt d' ρ'=>exact λv σ H' A Hb w r'=>fin σ H' A Hb ρ' μ' v d' w r' q
  |bk ρ=>exact q.elim
  |ct ρ=>exact q.elim
theorem yg{base:Heap}{k:Nat}{b:FM}{g:List D->Option D}(F:FunD G.K x qual st f fd)(S:FnScope N ps (Ad st))(hl:ps.length<=N.length)(hb:∀(cdv:ac) (A:ax) (outer:List Env) (s:af) (H:Hp) (E:XK),Room k (A.deeper (fI qual (Ad st) s.heap.objs.size f cdv))->PSMs (cxOf CX0 P w G.K mg base N qual (Ad st) f cdv A outer s H E).nox G (Bj st) b)(hg:∀ds d,g ds=some d->runM N.length ps.length b ds [] λd' _=>d'=d):
  FnOk P w G.K mg base CX0 (k+1) f fd ps (spD G g):=
 (fn_M F S hl hb).imp λvs H Q E ⟨A,ds,d,lv,r,e,q⟩=>⟨A,ds,[],_,lv,zb,λp hp=>(nomatch hp),r,hg ds d e,λv H' A' μ' d' e' sm sb lv' nd' ct' fr' rv=>by
  subst e';exact q v H' (λb u hb=>sm b u (λz=>nomatch z) hb) (rv.mono (Dz λa ha=>sb a ha (λz=>nomatch z)))⟩
section
variable {a b c:Expr}{fa fb fc:FE}{p2 p:Pos}{es:List Expr}{fs:FA}{g:FM}
theorem v6{Hb:Hp}{μ:Mu}{gm:GM}{K:D->Mu->Prop}{Q:VK}{E:XK}(w1:OkM G A0 He Hb A σ H1 ρ μ)(r1:RepL G (hid A H1) vs ds)(e2:gm ds μ K)(k:∀v H' d μ' A Hb,K d μ'->OkM G A0 He Hb A σ H' ρ μ'->Rep G (hid A H') v d->Q v H'):spM G gm vs H1 Q E:=by
 refine⟨A,ds,μ,K,w1.w.ok.live,w1.nd,λp hp=>⟨w1.inA (Jl hp),w1.top p hp⟩,r1,e2,λv H' A' μ' d kd sm sb lv nd ct fr rv=>?_⟩;have hA:∀z,z∈(A.filter λa=>decide (a∉ksM μ))++ksM μ'↔(z∈A/\z∉ksM μ)∨z∈ksM μ':=λz=>by simp[eC]
 generalize hA2:(A.filter λa=>decide (a∉ksM μ))++ksM μ'=A2 at hA;have sub:∀z∈A2,z∈A':=λz hz=>by
  rcases (hA z).mp hz with h | h
  .exact sb z h.1 h.2
  .obtain⟨d,hd⟩:=t6 h;exact (ct _ hd).1
 have pl:Same (hid A H1) (hid A2 H'):=λb u hb=>by
  unfold hid at hb;split at hb
  .cases hb
  .rename_i nb;rw[BL]
   .exact sm b u (λz=>nb (w1.inA z)) hb
   .intro z
    rcases (hA b).mp z with h | h
    .exact nb h.1
    .rcases fr b h with y | y
     .exact nb (w1.inA y)
     .rw[y] at hb;cases hb
 have own:∀(i:Nat) (e:D) (q:Addr),ρ[i]?=some (.ow e)->σ[i]?=some (some (.ref q))->q∈A->q∉ksM μ/\q∉ksM μ'/\q∉A0:=λi e q h1 h2 h3=>by
  have n:=w1.w.ow0 i e q h1 h2;have n1:q∉ksM μ:=λz=>n (gy _ z);refine⟨n1,λz=>?_,λz=>n (eP _ z)⟩
  rcases fr q z with y | y
  .exact n1 y
  .exact (w1.w.ok.live q h3).ne y
 have keepB:∀z,z∈A->z∉ksM μ->H' z=H1 z:=λz hz nz=>by
  cases e:H1 z with
  |none=>exact absurd e (w1.w.ok.live z hz).ne
  |some u=>exact sm z u nz e
 have okp:Okp G A2 σ H' ρ:=by
  refine⟨w1.w.ok.len,λz hz=>lv z (sub z hz),λi e h=>?_,λi e h=>?_,w1.w.ok.inj⟩
  .obtain⟨v,q1,q2⟩:=w1.w.ok.fz i e h;exact⟨v,q1,q2.mono pl⟩
  .obtain⟨q,q1,q2,q3⟩:=w1.w.ok.ow i e h;have n:=own i e q h q1 q2;exact⟨q,q1,(hA q).mpr (.inl ⟨q2,n.1⟩),q3.keep (keepB q q2 n.1) pl⟩
 have hb2:∀z,z∈(A2.filter λa=>decide (a∉ksM μ'++A0))↔z∈A2/\z∉ksM μ'++A0:=λz=>by simp[eC]
 have sub2:∀z∈ksM μ'++A0,z∈A2:=λz hz=>by
  rcases eD.mp hz with h | h
  .exact (hA z).mpr (.inr h)
  .exact (hA z).mpr (.inl ⟨w1.subA0 z h,λy=>w1.n0 y h⟩)
 refine k v H' d μ' A2 (hid (A2.filter λa=>decide (a∉ksM μ'++A0)) H') kd ⟨⟨Am,sub2,λz hz=>?_,λz hz h=>?_,okp,λi e q h1 h2 z=>?_,w1.w.lt⟩,λb u hb=>?_,w1.l0,λz hz=>?_,nd,λq hq=>((ct q hq).2).sub sub⟩ (rv.mono (Dz sub))
 .by_cases y:z∈ksM μ'++A0
  .exact .inl y
  .right;unfold hid;rw[if_pos ((hb2 z).mpr ⟨hz,y⟩)]
 .rw[BL (λy=>((hb2 z).mp y).2 hz)] at h;exact (lv z (sub z (sub2 z hz))).ne h
 .obtain⟨q',q1,q2,_⟩:=w1.w.ok.ow i e h1;rw[h2] at q1;cases q1;have n:=own i e q h1 h2 q2
  rcases eD.mp z with y | y
  .exact n.2.1 y
  .exact n.2.2 y
 .have h1:=w1.same b u hb;have nb:b∉ksM μ:=λz=>by rw[w1.nf b z] at hb;cases hb
  rw[BL]
  .exact sm b u nb h1
  .intro z;obtain⟨z1,z2⟩:=(hb2 b).mp z
   rcases (hA b).mp z1 with y | y
   .rcases w1.fr y.1 with x | x
    .exact z2 (eP _ x)
    .rw[x] at hb;cases hb
   .exact z2 (gy _ y)
 .rcases fr z hz with y | y
  .exact w1.nf z y
  .exact w1.same.free y
theorem j_{k:Nat}{gm:GM}(F:FnOk X.prog X.w X.K X.mg X.base CX0 k f fd ps (spM G gm))(hr:Room k X.A)(hg:Gl X x)(hm:X.mg x=some (.ref f))(hk:hU X.K (.ref f)=true)(hb:Binds X.K fd ps [])(ha:PFA X G (a::es) fs)(hdb:.(12)=false:=by decide)(he:ar (a::es) X.env=.(16)::ar es X.env:=by rfl)(hpl:(bP pos (ar es X.env)).any (·.1)=false:=by rfl):
  PMX X G (.Call (.Name x p) (a::es) [] pos) (calX gm fs):=λA0 He π s σ H Q I ⟨ρ,μ,K,⟨A,Hb,w⟩,⟨ds,e1,e2⟩,k⟩=>by
 refine Zd F hr hg hm hk hb .nil Ws (@ha A) hdb he hpl π s σ H Q I ⟨ρ,ds,w.w.ok,e1,λvs H1 s1 r1=>?_⟩;have w1:=w.mono s1;show spM G gm (vs++[]) H1 Q E0;rw[eL];exact v6 w1 r1 e2 k
theorem Oq{F:Hp}{μ:Mu}(hc:∀p∈μ,Rep G F (.ref p.1) p.2):∀(n:Nat) {v:V}{d:D},Rep G F v d->Rep G F v (der n μ d)
 |0,v,d,r=>r
 |n+1,v,d,r=>by
  have getm:∀{ds:List D}{i:Nat}{e:D},(ds.map (der n μ))[i]?=some e->∃e0,ds[i]?=some e0/\e=der n μ e0:=λ{ds i e} h=>by
   rw[be] at h;cases q:ds[i]? with
   |none=>rw[q] at h;cases h
   |some e0=>rw[q] at h;exact⟨e0,rfl,(cq h).symm⟩
  cases r with
  |non=>exact .non
  |bl b=>exact .bl b
  |int i=>exact .int i
  |str x=>exact .str x
  |tup h l k=>
   refine .tup h (by rw[aw];exact l) λi x e h1 h2=>?_;obtain⟨e0,q1,rfl⟩:=getm h2;exact Oq hc n (k i x e0 h1 q1)
  |lst h l k=>
   refine .lst h (by rw[aw];exact l) λi x e h1 h2=>?_;obtain⟨e0,q1,rfl⟩:=getm h2;exact Oq hc n (k i x e0 h1 q1)
  |dk h l k=>
   refine .dk h (by rw[bX];exact l) λi x e h1 h2=>?_;rw[bX,be] at h2;rename_i kds;cases q:kds[i]? with
   |none=>rw[q] at h2;cases h2
   |some e0=>
    rw[q] at h2;cases h2;exact Oq hc n (k i x e0.2 h1 (by rw[be,q];rfl))
  |dt h l k=>exact .dt h l k
  |adr a=>
   show Rep G F _ (match μ.lookup a with | some c=>der n μ c | none=>.adr a);cases e:μ.lookup a with
   |none=>exact .adr a
   |some c=>exact Oq hc n (hc _ (lookup_mem e))
  |ob c h l k=>exact .ob c h l k
  |err c h q f=>exact .err c h q f
  |mem h=>exact .mem h
theorem U6{A:List Addr}{π:zP}{s:af}{σ:St}:∀{μ:Mu}{H:Hp},Inv X π σ H s->(ksM μ).Nodup->(∀p∈μ,p.1∈A/\Top G A H p.1 p.2) ->
  ∃H' A',Inv X π σ H' s/\(∀b,b∉ksM μ->H' b=H b)/\(∀b,b∈A'↔b∈A/\b∉ksM μ)/\Same (hid A H) (hid A' H')/\∀p∈μ,Rep G (hid A' H') (.ref p.1) p.2
 |[],H,I,_,_=>⟨H,A,I,λ_ _=>rfl,λb=>by simp[ksM],Same.refl _,λp hp=>(nomatch hp)⟩
 | (a,d)::μ,H,I,nd,ct=>by
  obtain⟨na,nd'⟩:=i6.mp nd;obtain⟨H1,A1,i1,i2,i3,i4,i5⟩:=U6 (μ:=μ) I nd' λp hp=>ct p (bE _ hp);obtain⟨hA,t⟩:=ct (a,d) cS;have ha:a∈A1:=(i3 a).mpr ⟨hA,na⟩;obtain⟨H2,j1,j2,j3,j4⟩:=aK i1 ha (t.keep (i2 a na) i4);refine⟨H2,A1.filter λb=>decide (b≠a),j1,λb hb=>?_,λb=>?_,i4.trans j3,λp hp=>?_⟩
  .have hb':b≠a/\b∉ksM μ:=⟨λz=>hb (by rw[z];exact cS),λz=>hb (bE _ z)⟩;rw[j2 b hb'.1,i2 b hb'.2]
  .rw[Oh,i3 b];show _↔b∈A/\b∉a::ksM μ;simp only[bb,not_or];exact⟨λ⟨⟨p1,p2⟩,p3⟩=>⟨p1,p3,p2⟩,λ⟨p1,p3,p2⟩=>⟨⟨p1,p2⟩,p3⟩⟩
  .rcases bb.mp hp with z | z
   .rw[z];exact j4
   .exact (i5 p z).mono j3
theorem qR(n:Nat)(h:PSM X G st g):PSM X G st (frzM n g):=λA0 He π s σ H Ds I ⟨ρ,μ,K,⟨A,Hb,w⟩,q,k⟩=>by
 obtain⟨H',A',i1,i2,i3,i4,i5⟩:=U6 (A:=A) I w.nd λp hp=>⟨w.inA (Jl hp),w.top p hp⟩;have getm:∀{i:Nat}{z:Slot},(ρ.map (derS n μ))[i]?=some z->(∃d,ρ[i]?=some (.fz d)/\z=.fz (der n μ d))∨(ρ[i]?=some z/\∀d,z≠.fz d):=λ{i z} hz=>by
  rw[be] at hz;cases q:ρ[i]? with
  |none=>rw[q] at hz;cases hz
  |some y=>
   rw[q] at hz;cases y with
   |fz d=>exact .inl ⟨d,rfl,(cq hz).symm⟩
   |ow d=>cases hz;exact .inr ⟨rfl,λd=>nofun⟩
   |un=>cases hz;exact .inr ⟨rfl,λd=>nofun⟩
 have getO:∀{i:Nat}{d:D},(ρ.map (derS n μ))[i]?=some (.ow d)->ρ[i]?=some (.ow d):=λ{i d} hz=>by
  rcases getm hz with ⟨_,_,e⟩ | ⟨e,_⟩
  .cases e
  .exact e
 have sub0:∀a∈A0,a∈A':=λa ha=>(i3 a).mpr ⟨w.subA0 a ha,λz=>w.n0 z ha⟩;have lv:∀a∈A',Nt (H' a):=λa ha=>by
  obtain⟨h1,h2⟩:=(i3 a).mp ha;rw[i2 a h2];exact w.w.ok.live a h1
 have okp:Okp G A' σ H' (ρ.map (derS n μ)):=by
  refine⟨by rw[aw];exact w.w.ok.len,lv,λi d hz=>?_,λi d hz=>?_,λi j d e a h1 h2 h3 h4=>w.w.ok.inj i j d e a (getO h1) (getO h2) h3 h4⟩
  .rcases getm hz with ⟨d0,e0,e1⟩ | ⟨_,e⟩
   .cases e1;obtain⟨v,q1,q2⟩:=w.w.ok.fz i d0 e0;exact⟨v,q1,Oq i5 n (q2.mono i4)⟩
   .exact absurd rfl (e d)
  .obtain⟨a,q1,q2,q3⟩:=w.w.ok.ow i d (getO hz);have na:a∉ksM μ:=λz=>w.w.ow0 i d a (getO hz) q1 (gy _ z);exact⟨a,q1,(i3 a).mpr ⟨q2,na⟩,q3.keep (i2 a na) i4⟩
 have hm:∀z,z∈(A'.filter λa=>decide (a∉A0))↔z∈A'/\z∉A0:=λz=>by simp[eC]
 refine @h A0 He π s σ H' Ds i1 ⟨_,[],K,⟨A',hid (A'.filter λa=>decide (a∉A0)) H',⟨Am,sub0,λa ha=>?_,λa ha hz=>?_,okp,λi d a h1 h2 z=>?_,λx d hx h0=>w.w.lt x d hx (getO h0)⟩,λb u hb=>?_,w.l0,λa ha=>(nomatch ha),zb,λp hp=>(nomatch hp)⟩,q,k⟩
 .by_cases y:a∈A0
  .exact .inl y
  .right;unfold hid;rw[if_pos ((hm a).mpr ⟨ha,y⟩)]
 .rw[BL (λy=>((hm a).mp y).2 ha)] at hz;exact (lv a (sub0 a ha)).ne hz
 .exact w.w.ow0 i d a (getO h1) h2 (eP _ z)
 .have nb:b∉ksM μ:=λz=>by rw[w.nf b z] at hb;cases hb
  rw[BL]
  .rw[i2 b nb];exact w.same b u hb
  .intro z;obtain⟨z1,z2⟩:=(hm b).mp z
   rcases w.fr ((i3 b).mp z1).1 with x | x
   .exact z2 x
   .rw[x] at hb;cases hb
end
def Itv(K:ay)(a:Addr)(n:Nat):It:=
 ⟨λi H=>(∃xs,SqL K H a xs/\xs.length=n)/\i<n,λi H x H'=>H'=H/\∀xs,SqL K H a xs->xs[n-1-i]?=some x,λi H=>n<=i⟩
theorem kE{K:ay}(a it:Addr)(n:Nat):Turn P w K tg (Itv K a n) [it] it (λi h=>i<=n/\h.IsRevIter it a ((n:Int)-1-(i:Nat))) where
 mem:=by simp
 obj:=λi h st b hb=>by
  have e:b=it:=by simpa using hb
  subst e;obtain⟨_,o,e,c,d⟩:=st;exact⟨o,e,λv z=>by rw[d] at z;cases z⟩
 keep:=λi h h' st k=>⟨st.1,st.2.at λo e=>k it (by simp) o e⟩
 item:=by
  intro X hP hw hK hc i π s σ H E I hf st hg;subst hP hw hK;obtain⟨⟨xs,hq,hn⟩,hi⟩:=hg;obtain⟨its,rv,p,hz⟩:=I.list hq;have hx:xs[n-1-i]?=some (xs[n-1-i]'(by omega)):=by simp[show n-1-i<xs.length by omega]
  obtain⟨u,hu,ru⟩:=rv.get hx;obtain⟨f0,f1,f2,f3,f4,f5⟩:=hf it (by simp);have e1:(n:Int)-1-(i:Nat)=((n-1-i:Nat):Int):=by omega
  have e2:((n-1-i:Nat):Int)-1=(n:Int)-1-((i+1:Nat):Int):=by omega
  replace st:=st.2;rw[e1] at st;refine wpAny_pyNext_rev_item st p.isList (x:=u) (by simpa using hu) λh' st' sb=>?_;rw[e2] at st';have I1:Inv X π σ H { s with heap:=h' }:=I.turned (t':=s.toks) (λb o hb e=>(sb.2 b hb).trans e) f0 f1 f3 f4 f5;obtain⟨o,e,c,d⟩:=id st';exact⟨u,rfl,Ug (s:={ s with heap:=h' }) e c d (by decide) ⟨_,H,I1,ru,⟨rfl,λys hy=>by rw[I.list_inj hy hq];exact hx⟩,⟨hi,st'⟩,λb hb=>(hf b hb).1⟩⟩
 done:=by
  intro X hP hw hK hc i π s σ H E I hf st hg;subst hP hw hK;obtain⟨f0,f1,f2,f3,f4,f5⟩:=hf it (by simp);have e1:(n:Int)-1-(i:Nat) = -1:=by have:n<=i:=hg;have:=st.1;omega
  replace st:=st.2;rw[e1] at st;exact wpAny_pyNext_rev_end (I.ok.hd hc) st λh' eb=>⟨rfl,I.turned (t':=s.toks) (λb o hb e=>eb b o hb e) f0 f1 f3 f4 f5⟩
 self:=λ_ _ _ _ _ st h=>GH st.2 h
theorem boot_reversed:cr "reversed"=some (.type "reversed"):=by decide +kernel
section
variable {a:Expr}{fa:FE}{p:Pos}{ta:TA}
def iRev(K:ay)(ta:TA):TI:=λσ H R=>ta σ H λvs H1=>∃a xs,vs=[.ref a]/\SqL K H1 a xs/\R (Itv K a xs.length) H1
theorem v7(hg:Gl X "reversed")(hm:X.mg "reversed"=none)(ha:PA X [a] ta)(hs:ar [a] X.env=[.(16)]:=by rfl):PI X tg (.Call (.Name "reversed" p) [a] [] pos) (iRev X.K ta):=by
 intro π s σ H R I h;refine Call_ (M3 I hg hm boot_reversed (tm (thn (ha pos π s σ H _ I h) λus s1 ⟨vs,H1,I1,r1,q1⟩=>?_) hs rfl));obtain⟨l,xs,e,hq,q⟩:=q1;subst e;cases r1 with
 |cons r rr=>
  cases rr;cases r;obtain⟨its,rv,p,hz⟩:=I1.list hq;refine call_reversed_list p.isList ?_;have hl:=rv.length;have e1:((its.toArray.size:Nat):Int)-1=(xs.length:Int)-1-((0:Nat):Int):=by simp[hl]
  rw[e1];refine GH ⟨_,bn _ rfl,rfl,rfl⟩ ?_;refine⟨s1.heap.objs.size,[s1.heap.objs.size],_,_,H1,rfl,I1.kept (t':=s1.toks) λb o e=>aS _ e,kE l _ xs.length,⟨dQ _,_,bn _ rfl,rfl,rfl⟩,λb hb=>?_,q⟩;have e:b=s1.heap.objs.size:=by simpa using hb
  subst e;exact I1.fpOk (aE _) (I1.hok.fresh (aE _))
def revI(f:FE):FI:=λρ=>match f ρ with | some (.lst ds)=>some ds.reverse | _=>none
theorem qT{p:Addr}(h:SqL G.K F1 p xs)(r:RepL G F2 xs ds):Src G (Itv G.K p xs.length) ds.reverse F1 F2 where
 go:=λi H s hi=>⟨⟨xs,s.seq h,rfl⟩,by rw[C2,<-r.1] at hi;exact hi⟩
 yld:=λi H x H' d s hd y=>Px ⟨y.1,by
  have hi:i<ds.length:=by have:=(d6.mp hd).1;rwa [C2] at this
  rw[List.getElem?_reverse hi,<-r.1] at hd;exact r.2 _ x d (y.2 xs (s.seq h)) hd⟩
 stop:=λi H s hi=>by rw[C2,<-r.1] at hi;exact hi
theorem aX(hG:G.K=X.K)(hg:Gl X "reversed")(hm:X.mg "reversed"=none)(h:PF X G a fa)(hs:ar [a] X.env=[.(16)]:=by rfl):PFI X G false tg (.Call (.Name "reversed" p) [a] [] pos) (revI fa):=λA=>Rt (v7 hg hm (B_ (@h A) Dw hs) hs) λσ H R ⟨ρ,ds,o,e,k⟩=>by
 unfold revI at e;split at e
 .rename_i ds' e1;cases e;refine⟨ρ,_,o,e1,λv H1 s1 r1=>?_⟩;cases r1 with
  |lst h l r=>
   rename_i b xs;refine⟨b,xs,rfl,by rw[<-hG];exact Am.seq h,?_⟩;rw[<-hG];exact k _ H1 s1 (qT h ⟨l,r⟩)
 .cases e
end
section
open PySem.MeetsSeq PySem.SeqAt
theorem v8(q:Addr)(vs:Array ac)(c:Nat)(u:ac)(f:Nat->Bool)(j:Nat)(lj:j<vs.size)(yes:f j=true)(sz:vs.size<=sizeLine):∀k i:Nat,j-i=k->i<=j->(∀m,i<=m->m<j->f m=false) ->
  Meets (d4.«list.remove.loop» ⟨[.ref q,u,de i],[]⟩) (λA R s=>s.heap.get? q=some { cls:=.type "list",dict:=none,data:=.seq vs c,slots:=#[] }/\(∀m (hm:m<vs.size),EqAt A.in1 s vs[m] u (f m)) ∧
   R (.ok (.ret .none)) { s with heap:=s.heap.update q (ku λxs=>xs.eraseIdxIfInBounds j) }):=by
 intro k
 induction k with
 |zero=>
  intro i h1 h2 h3 prog w A R s hs;obtain⟨hp,gn,dr,tk,os⟩:=s;obtain⟨hl,he,go⟩:=hs;obtain rfl:i=j:=by omega
  wp_walk using rV hl
  rw[show vs[((i:Nat):Int).toNat]?=some vs[i] by simp[lj]];refine ae (he i lj prog w _ _ ?_);rw[yes];have le:(vs.eraseIdxIfInBounds i).size<=sizeLine+1:=ck (size_erased vs _) (vj sz)
  wp_walk using (zj hl rfl (hz:=sz) (_hz':=le)),rV hl
  simpa using go
 |succ k ih=>
  intro i h1 h2 h3 prog w A R s hs;obtain⟨hp,gn,dr,tk,os⟩:=s;obtain⟨hl,he,go⟩:=hs;have li:i<vs.size:=by omega
  wp_walk using rV hl
  rw[show vs[((i:Nat):Int).toNat]?=some vs[i] by simp[li]];refine ae (he i li prog w _ _ ?_);rw[h3 i (aE _) (by omega)]
  wp_walk
  rw[show ((i:Int)+1)=((i+1:Nat):Int) by push_cast;rfl];exact⟨nL plain_remove_loop _,lc entry_remove_loop (by
   rw[pT plain_remove_loop _];exact ih (i+1) (by omega) (by omega) (λm a b=>h3 m (by omega) b) prog w A R _ ⟨hl,he,go⟩)⟩
theorem dC(q:Addr)(vs:Array ac)(c:Nat)(u:ac)(f:Nat->Bool)(j:Nat)(lj:j<vs.size)(yes:f j=true)(no:∀m,m<j->f m=false)(sz:vs.size<=sizeLine):
  Meets (d4.«list.remove» ⟨[.ref q,u],[]⟩) (λA R s=>s.heap.get? q=some { cls:=.type "list",dict:=none,data:=.seq vs c,slots:=#[] }/\(∀m (hm:m<vs.size),EqAt A.in1 s vs[m] u (f m)) ∧
   R (.ok (.ret .none)) { s with heap:=s.heap.update q (ku λxs=>xs.eraseIdxIfInBounds j) }):=by
 intro prog w A R s hs;obtain⟨hp,gn,dr,tk,os⟩:=s;obtain⟨hl,he,go⟩:=hs
 wp_walk using rV hl
 exact⟨nL plain_remove_loop _,lc entry_remove_loop (by
  rw[pT plain_remove_loop _];exact v8 q vs c u f j lj yes sz _ 0 rfl (dQ _) (λm _ b=>no m b) prog w A R _ ⟨hl,he,go⟩)⟩
end
def remL(x:D):List D->Option (List D)
 |[]=>none
 |d::r=>match eqK 62 d x with | some true=>some r | some false=>(remL x r).map (d::·) | none=>none
theorem U7{x:D}:∀{ds es:List D},remL x ds=some es->∃j dj,ds[j]?=some dj/\eqK 62 dj x=some true/\(∀m dm,m<j->ds[m]?=some dm->eqK 62 dm x=some false)/\es=ds.eraseIdx j
 |[],es,h=>by cases h
 |d::r,es,h=>by
  unfold remL at h;split at h
  .rename_i e;cases h;exact⟨0,d,rfl,e,λm dm z=>by omega,rfl⟩
  .rename_i e;cases q:remL x r with
   |none=>rw[q] at h;cases h
   |some fs=>
    rw[q] at h;cases h;obtain⟨j,dj,h1,h2,h3,rfl⟩:=U7 q;refine⟨j+1,dj,h1,h2,λm dm hm hd=>?_,rfl⟩;cases m with
    |zero=>cases hd;exact e
    |succ m=>exact h3 m dm (by omega) hd
  .cases h
def rRem(G:Gx):V->List V->Hp->VK->Prop:=λv vs H Q=>∃A l xs x ds dx j dj,v=.ref l/\vs=[x]/\H l=some (.lst xs)/\RepL G (hid A H) xs ds/\Rep G (hid A H) x dx/\ds[j]?=some dj/\eqK 62 dj dx=some true/\(∀m dm,m<j->ds[m]?=some dm->eqK 62 dm dx=some false)/\(∀d∈ds,(eqK 62 d dx).isSome=true)/\Q .non (upd H l (.lst (xs.eraseIdx j)))
section
theorem RepL.erase(r:RepL G H xs ds)(j:Nat):RepL G H (xs.eraseIdx j) (ds.eraseIdx j):=by
 rw[wm,wm];exact (r.take j).append (r.drop (j+1))
theorem v9(hG:G.K=X.K)(hu:X.A.units+64<bi):MtM X "list.remove" (rRem G):=by
 intro π s σ H x vs v us Q I rx rv h;obtain⟨A,l,xs,y,ds,dx,j,dj,rfl,rfl,hH,r,ry,hj,hy,hn,hk,q⟩:=h;cases rx;obtain⟨u,rfl,ru⟩:=rv.one;obtain⟨z,its,n,rr,hl,e⟩:=I.lstM hH;have lj:j<its.toArray.size:=by
  have:=(d6.mp hj).1;rw[bS,<-hl,r.1];exact this
 have eq1:∀m (hm:m<its.toArray.size),jS X.A.in1 s its.toArray[m] u (((ds[m]?).bind λd=>eqK 62 d dx).getD false):=λm hm=>by
  have hm':m<its.length:=by simpa using hm
  have hx:m<xs.length:=by rw[hl];exact hm'
  have hd:m<ds.length:=by rw[<-r.1];exact hx
  obtain⟨y',h1,h2⟩:=rr.get (i:=m) (x:=xs[m]) (by simp[hx]);have ey:y'=its[m]:=by rw[cf hm'] at h1;exact (cq h1).symm
  subst ey;obtain⟨b,hb⟩:=ua.mp (hk ds[m] (pS hd));have:(((ds[m]?).bind λd=>eqK 62 d dx).getD false)=b:=by rw[cf hd];show (eqK 62 ds[m] dx).getD false=b;rw[hb];rfl
  rw[this];exact M7 I hG 62 X.A.in1 (by show X.A.units+1+62<bi;omega) hb ((r.2 m _ _ (by simp[hx]) (by simp[hd])).mono Am) (ry.mono Am) h2 ru
 refine re F.slot_list_remove ⟨_,e,rfl⟩ F.entry_list_remove (F.args_list_remove_2 _ _) (dC l its.toArray n u (λm=>((ds[m]?).bind λd=>eqK 62 d dx).getD false) j lj (by show ((ds[j]?).bind λd=>eqK 62 d dx).getD false=true;rw[hj];show (eqK 62 dj dx).getD false=true;rw[hy];rfl) (λm hm=>?_) (by rw[bS];omega)) ⟨e,eq1,?_⟩
 .have hd:m<ds.length:=by have:=(d6.mp hj).1;omega
  show ((ds[m]?).bind λd=>eqK 62 d dx).getD false=false;rw[cf hd];show (eqK 62 ds[m] dx).getD false=false;rw[hn m _ hm (cf hd)];rfl
 .refine⟨.non,_,I.lset (its':=its.eraseIdx j) hH e ?_ (rr.eraseIdx j) ?_,rfl,q⟩
  .show its.toArray.eraseIdxIfInBounds j=(its.eraseIdx j).toArray;rw[DU]
  .have:=Pj xs j;omega
def remM:D->List D->Option (D×D)
 |.lst ds,[x]=>if ds.all (λd=>(eqK 62 d x).isSome)=true then (remL x ds).map λes=>(.non,.lst es) else none
 |_,_=>none
theorem kI:SndM G (rRem G) remM:=λA H l vs c ds v c' Q lv hA t r e k=>by
 unfold remM at e;split at e
 .rename_i zs x;split at e
  .rename_i hk;cases q:remL x zs with
   |none=>rw[q] at e;cases e
   |some es=>
    rw[q] at e;cases e;obtain⟨xs,h1,h2⟩:=t;obtain⟨y,ys,rfl,r1,r2⟩:=r.uncons;have e0:=r2.nil_inv;subst e0;obtain⟨j,dj,a1,a2,a3,rfl⟩:=U7 q;refine⟨A,l,xs,y,zs,x,j,dj,rfl,rfl,h1,h2,r1,a1,a2,a3,λd hd=>gg.mp hk d hd,k _ _ (λb o nb hb=>by rw[Aq nb];exact hb) ⟨_,Ak,?_⟩ .non⟩;rw[Bg hA];exact h2.erase j
  .cases e
 .cases e
def appM:D->List D->Option (D×D)
 |.lst ds,[x]=>if ds.length<sizeLine then some (.non,.lst (ds++[x])) else none
 |_,_=>none
theorem kJ:SndM G Zf appM:=λA H l vs c ds v c' Q lv hA t r e k=>by
 unfold appM at e;split at e
 .rename_i zs x;split at e
  .rename_i hz;cases e;obtain⟨xs,h1,h2⟩:=t;obtain⟨y,ys,rfl,r1,r2⟩:=r.uncons;have e0:=r2.nil_inv;subst e0;refine⟨l,xs,y,rfl,rfl,h1,by rw[h2.1];exact hz,k _ _ (λb o nb hb=>by rw[Aq nb];exact hb) ⟨_,Ak,?_⟩ .non⟩;rw[Bg hA];exact h2.append (.cons r1 .nil)
  .cases e
 .cases e
theorem kO{l:Addr}(t:Top G A H l (.lst ds)):tyV X.K "list" (.ref l) H:=by
 obtain⟨xs,h,_⟩:=t;exact .inl ⟨rfl,xs,.of h⟩
theorem v_(A:List Addr)(H:Hp)(l:Addr)(c:D)(ds:List D)(vc:D×D)(e:remM c ds=some vc)(t:Top G A H l c):tyV X.K "list" (.ref l) H:=by
 unfold remM at e;split at e
 .exact kO t
 .cases e
theorem wA(A:List Addr)(H:Hp)(l:Addr)(c:D)(ds:List D)(vc:D×D)(e:appM c ds=some vc)(t:Top G A H l c):tyV X.K "list" (.ref l) H:=by
 unfold appM at e;split at e
 .exact kO t
 .cases e
end
def popD(x k:D):Option (D×D):=match x,k with
 |.lst ds,.int i=>if 0<=i/\i<ds.length then (ds[i.toNat]?).map λd=>(d,.lst (ds.eraseIdx i.toNat)) else none
 |_,_=>none
def popX(j:Nat)(f:FE):FZ:=λρ=>(f ρ).bind λk=>(ownO ρ j).bind λx=>(popD x k).map λr=>(r.1,ρ.set j (.ow r.2))
def lstQ:D->Option Unit
 |.lst _=>some ()
 |_=>none
def appX(i:Nat)(h:FZ):FS:=λρ=>(h ρ).bind λr=>((ownO ρ i).bind lstQ).bind λ_=>(ownO r.2 i).bind λx=>(appL x r.1).map λy=>.nx (r.2.set i (.ow y))
section
variable {a:Expr}{fa:FE}{p2 px rp p:Pos}{h:FZ}
theorem kW(hv:PE X .(15) (tVar j))(ha:PF X G a fa)(hbase:fw .(15) "pop" X.env (eval .(15) X.env)=eval .(15) X.env:=by rfl)(hfew:.(0)=true:=by rfl)(hline:(apos.endLine==pos.line)=true:=by rfl)(hs:ar [a] X.env=[.(16)]:=by rfl):
  PX X G (.Call (.Attribute .(15) "pop" apos) [a] [] pos) (popX j fa):=λA0 He π s σ H Q I ⟨ρ,d,ρ',A,w,e,k⟩=>by
 unfold popX at e;cases e1:fa ρ with
 |none=>simp[e1] at e
 |some v=>
  cases e2:ownO ρ j with
  |none=>simp[e1,e2] at e
  |some x0=>
   cases e3:popD x0 v with
   |none=>simp[e1,e2,e3] at e
   |some r=>
    simp only[e1,e2,e3,dS,eK] at e;cases e;have hi:=Ij e2;refine Wn rX PySem.F.slot_list_pop PySem.F.type_list_pop fK hv (B_ (@ha A) Dw hs) hbase hfew hline hs rfl π s σ H Q I ?_;unfold popD at e3;split at e3
    .rename_i ds i;split at e3
     .rename_i hz;obtain⟨q,h1,hA,xs,h2,rr⟩:=w.ok.ow j _ hi;refine⟨_,h1,.inl ⟨rfl,xs,.of h2⟩,ρ,_,w.ok,e1,λu H1 s1 r1=>?_⟩;cases r1;cases e4:ds[i.toNat]? with
      |none=>rw[e4] at e3;cases e3
      |some d0=>
       rw[e4] at e3;cases e3;obtain⟨y,y1,y2⟩:=rr.get e4;have hn:i.toNat<xs.length:=(d6.mp y1).1;have hlz:ds.length<2^62:=by
        have:=rr.1;obtain⟨z,_⟩:=I.lstM h2;have hsl:sizeLine<2^62:=by decide
        omega
       have w1:=w.mono s1;have r2:=rr.mono (Az s1);refine⟨q,xs,i,i.toNat,y,rfl,rfl,s1 _ _ h2,by omega,by omega,?_,y1,?_⟩
       .unfold yB;simp only[show ¬ i<0 by omega,if_false];rw[if_pos (by have:=rr.1;simp;omega)]
       .refine k y _ A (w1.wr hi h1 ⟨_,Ak,?_⟩) ?_ ?_
        .rw[Bg hA];exact r2.erase _
        .rw[Bg hA];exact Az s1
        .rw[Bg hA];exact y2.mono (Az s1)
     .cases e3
    .cases e3
theorem qU(hv:PE X .(15) (tVar i))(ha:PX X G a h)(hbase:fw .(15) "append" X.env (eval .(15) X.env)=eval .(15) X.env:=by rfl)(hfew:.(0)=true:=by rfl)(hline:(apos.endLine==pos.line)=true:=by rfl)(hs:ar [a] X.env=[.(16)]:=by rfl)(hsw:eI (.Call (.Attribute .(15) "append" apos) [a] [] pos) none p2.line X.env=pure false:=by rfl):
  PSD X G (.Expr (.Call (.Attribute .(15) "append" apos) [a] [] pos) p2) (appX i h):=λA0 He π s σ H D I ⟨ρ,o,⟨A,w⟩,e,k⟩=>by
 unfold appX at e;cases e1:h ρ with
 |none=>simp[e1] at e
 |some r=>
  cases e2:ownO ρ i with
  |none=>simp[e1,e2] at e
  |some x0=>
   cases e5:lstQ x0 with
   |none=>simp[e1,e2,e5] at e
   |some uu=>
   cases e3:ownO r.2 i with
   |none=>simp[e1,e2,e3,e5] at e
   |some x1=>
    cases e4:appL x1 r.1 with
    |none=>simp[e1,e2,e3,e4,e5] at e
    |some y=>
     simp only[e1,e2,e3,e4,e5,dS,eK] at e;cases e;have hi:=Ij e2;have hi':=Ij e3;refine Np (Wn rX B3 B4 Lz hv (B_ (@ha A0 He) Dw hs) hbase hfew hline hs rfl) hsw π s σ H D I ?_;obtain⟨q,h1,hA,t0⟩:=w.ok.ow i _ hi;unfold appL at e4;split at e4
     .rename_i ds;split at e4
      .rename_i hz;cases e4;have ty:tyV X.K "list" (.ref q) H:=by
        cases x0 with
        |lst z=>obtain⟨xs,hh,_⟩:=t0;exact .inl ⟨rfl,xs,.of hh⟩
        |_=>cases e5
       refine⟨_,h1,ty,ρ,r.1,r.2,A,w,e1,λu H1 A1 w1 sm r1=>?_⟩;obtain⟨q',g1,gA,xs,g2,rr⟩:=w1.ok.ow i _ hi';rw[h1] at g1;cases g1;refine⟨q,xs,u,rfl,rfl,g2,by rw[rr.1];exact hz,k _ _ ⟨A1,w1.wr hi' h1 ⟨xs++[u],Ak,?_⟩⟩⟩;rw[Bg gA];exact rr.append (.cons r1 .nil)
      .cases e4
     .cases e4
def yh(te:TE):TE:=λσ H Q=>te σ H λx H1=>∃d kvs,x=.ref d/\Rd H1 d (.dK kvs)/\∀r,H1 r=none->Q (.ref r) (upd H1 r (.ext λh=>h.IsValuesView r d))
theorem dD(ha:PE X a te)(hbase:fw a "values" X.env (eval a X.env)=eval a X.env:=by rfl)(hline:(apos.endLine==cpos.line)=true:=by rfl):
  PE X (.Call (.Attribute a "values" apos) [] [] cpos) (yh te):=by
 intro π s σ H R I h;refine FD (T:="dict") (id:="dict.values") hbase rfl hline FF GI F.type_dict_values (thn (ha π s σ H _ I h) λv s1 ⟨x,H1,I1,r1,q1⟩=>?_);obtain⟨d,kvs,e,hq,q⟩:=q1;subst e;cases r1;obtain⟨z,hd,vs,rel,dd⟩:=Im I1.hok hq;refine⟨dd.typeIs,dd.mapOf.noDict,?_⟩;show ag _ _ (kq cpos (.builtin "dict.values") [.ref d] [] []) _ _ s1;refine method_meetsIn GI F.entry_dict_values rfl (FK ⟨rfl,dd.typeIs,F.args_dict_values_1 _,_,meets_dict_values (Av X.prog X.w) d hd,⟨vs,dd⟩,?_⟩);have hn:(s1.heap.push { cls:=.type "dict_values",data:=.fields #[.ref d] }).get? s1.heap.objs.size=some { cls:=.type "dict_values",data:=.fields #[.ref d] }:=bn _ rfl;exact⟨.ref s1.heap.objs.size,_,I1.laid (a:=s1.heap.objs.size) (t':=s1.toks) (λb o e=>aS _ e) (aE _) (show Bc X.prog X.w _ _ s1.heap.objs.size (.ext λh=>h.IsValuesView s1.heap.objs.size d) from⟨⟨_,hn,rfl,rfl⟩,⟨_,hn⟩,λh1 h2 ⟨o,e1,e2,e3⟩ kk=>⟨o,kk _ e1,e2,e3⟩⟩),rfl,q _ (I1.hok.fresh (aE _))⟩
theorem Xk:∀{xs:List V}{us:List ac},us.length=xs.length->(∀(j:Nat) u,us[j]?=some u->∃x,xs[j]?=some x/\RelV x u)->Vals xs us
 |[],[],_,_=>.nil
 |[],_::_,h,_=>by simp at h
 |_::_,[],h,_=>by simp at h
 |x::xs,u::us,h,k=>by
  obtain⟨y,h1,h2⟩:=k 0 u rfl;cases h1;exact .cons h2 (Xk (by simpa using h) λj u hu=>by simpa using k (j+1) u (by simpa using hu))
theorem Sg(hc:X.calm=true):Dd X (.type "list") (λxs H Q=>∃r p kvs,xs=[.ref r]/\H r=some (.ext λh=>h.IsValuesView r p)/\Rd H p (.dK kvs)/\∀l,H l=none->Q (.ref l) (upd H l (.lst (kvs.map λq=>q.2)))):=by
 intro π s σ H xs us Q I rs h;obtain⟨r,p,kvs,rfl,er,e,q⟩:=h;obtain⟨u,rfl,ru⟩:=rs.one;cases ru;obtain⟨z,hd,vs,rel,dd⟩:=Im I.hok e;obtain⟨ep,dd⟩:=dd.dictAt;have hl:kvs.length=vs.length:=rel.length;obtain⟨vw,_,_⟩:=(show Bc X.prog X.w H s.heap r (.ext λh=>h.IsValuesView r p) from I.hok r _ er);refine BM (PySem.W.kdl_values (knd:=Av X.prog X.w) (kvs:=vs) (ep:=ep)) (I.ok.hd hc) ⟨vw,dd⟩ (by omega) λh' tk acc c' kp hn hi=>?_;have va:Vals (kvs.map λq=>q.2) acc.toList:=by
  refine Xk (by rw[aw,hl,lh];exact hi.1) λj u hu=>?_;obtain⟨k,h1⟩:=hi.2 j u (by rw[<-AN];exact hu);have hj:j<kvs.length:=by rw[hl];exact (d6.mp h1).1
  exact⟨kvs[j].2,by rw[be,cf hj];rfl,(Hw rel (cf hj) h1).2⟩
 exact⟨.ref s.heap.objs.size,_,I.laid (t':=tk) kp (aE _) (show Bc X.prog X.w _ h' _ (.lst (kvs.map λq=>q.2)) from⟨by rw[aw];exact z,acc.toList,c',va,by simpa using hn⟩),rfl,q _ (I.hok.fresh (aE _))⟩
def U8:D->Option D
 |.dk kds=>some (.lst (kds.map (·.2)))
 |_=>none
theorem aZ(hc:X.calm=true)(hg:Gl X "list")(hm:X.mg "list"=none)(ha:PF X G a fa)(hbase:fw a "values" X.env (eval a X.env)=eval a X.env:=by rfl)(hline:(apos.endLine==cpos.line)=true:=by rfl)(he:ar [Expr.Call (.Attribute a "values" apos) [] [] cpos] X.env=[(false,eval (.Call (.Attribute a "values" apos) [] [] cpos) X.env)]:=by rfl):
  PF X G (.Call (.Name "list" p) [.Call (.Attribute a "values" apos) [] [] cpos] [] pos) (uF U8 fa):=λA=>Bx (Ii (Sg hc) hg hm MF (B_ (dD (@ha A) hbase hline) Dw he) (by decide) (by decide) he rfl) λσ H Q ⟨ρ,d,o,e,k⟩=>by
 obtain⟨x,e1,e2⟩:=Hu e;unfold U8 at e2;split at e2
 .rename_i kds;cases e2;refine⟨ρ,_,o,e1,λv H1 s1 r1=>?_⟩;cases r1 with
  |dk h l r=>
   rename_i b ob kvs;refine⟨b,kvs,rfl,.inr ⟨_,Am _ _ h⟩,λw hw=>⟨w,b,kvs,rfl,Ak,.inr ⟨ob,?_⟩,λc hc'=>?_⟩⟩
   .rw[Aq (DG (Am _ _ h) hw)];exact Am _ _ h
   .have s2:Same H1 (upd H1 w (.ext λh=>h.IsValuesView w b)):=Ar hw _;have rl:RepL G (hid A H1) (kvs.map (·.2)) (kds.map (·.2)):=⟨by have:=congrArg dE l;rwa [aw,aw] at this ⊢,r⟩;exact k _ _ (s1.trans (s2.trans (Ar hc' _))) (Cq ((o.mono s1).mono s2).live hc' (rl.mono (Az s2)))
 .cases e2
end
def bd2:D->Option (List D)
 |.tup [a,b]=>some [a,b]
 |_=>none
def Xl(src:FI)(ga:FT)(fe:FE):FE:=Ip bd2 src ga fe
section
variable {t u:Str}{elt iter:Expr}{ifs:List Expr}{p1 p2 pt:Pos}{k1:Nat}
theorem bnd2{N:Nat}:Bnd G N 2 bd2 (gTup G.K 2 (Wk (FN N) (Wk (FN (N+1)) gNil))):=λA σ os H x d es Q hl ho e r k=>by
 unfold bd2 at e;split at e
 .rename_i a b;cases e;cases r with
  |tup h l q=>
   rename_i c xs;obtain⟨x,ys,rfl,r1,r2⟩:=(show RepL G (hid A H) xs [a,b] from⟨l,q⟩).uncons;obtain⟨y,zs,rfl,r3,r4⟩:=r2.uncons;have e0:=r4.nil_inv;subst e0
   match os,ho with
   |[o1,o2],_=>
   refine⟨c,[x,y],rfl,HS Am h,rfl,x,[y],rfl,?_⟩;refine⟨y,[],rfl,rfl,?_⟩;have z:((σ++[o1,o2]).set N (some x)).set (N+1) (some y)=σ++[some x,some y]:=by
    rw[<-hl,B0 _ _ (aE _),vi];show (σ++[some x,o2]).set (σ.length+1) (some y)=_;rw[B0 _ _ (iL _),show σ.length+1-σ.length=1 by omega];rfl
   show Q (((σ++[o1,o2]).set N (some x)).set (N+1) (some y)) H;rw[z];exact k [x,y] rfl (.cons r1 (.cons r3 .nil))
 .cases e
theorem gTwo{N':List Str}(hG:G.K=X.K)(eN:Bu [t,u] X.N++[t,u]=N')(c:CompOkL X scope [t,u])(hc:X.calm=true)(s2:af)(H2:Hp)(fp:List Addr):PG (Bl X scope N' s2 H2 fp) (.Tuple [.Name t p1,.Name u p2] k1 pt) (gTup G.K 2 (Wk (FN X.N.length) (Wk (FN (X.N.length+1)) gNil))):=by
 subst eN;rw[hG];have at0:(Bu [t,u] X.N++[t,u])[X.N.length]?=some t:=by unfold Bu;rw[jv (by rw[aw];exact aE _),aw,vi];rfl
 have at1:(Bu [t,u] X.N++[t,u])[X.N.length+1]?=some u:=by unfold Bu;rw[jv (by rw[aw];exact iL _),aw,Nat.add_sub_cancel_left];rfl
 have lt:=zd (env:=X.env) (c.tl t (by simp));have lu:=zd (env:=X.env) (c.tl u (by simp));exact d7 hc (Rb (Ro (c.nd t (by simp)) at0 (.inl lt) (.inr lt)) (Rb (Ro (c.nd u (by simp)) at1 (.inl lu) (.inr lu)) ZW rfl) rfl) rfl rfl
theorem kZ(N':List Str)(eN:Bu [t,u] X.N++[t,u]=N')(c:CompOkL X scope [t,u])(hc:X.calm=true)(hG:G.K=X.K)(hi:PFI X G true (.Tuple [.Name t p1,.Name u p2] k1 pt) iter src)(hI:∀s2 H2 fp,PFTs (Bl X scope N' s2 H2 fp) G ifs ga)(hE:∀s2 H2 fp,PF (Bl X scope N' s2 H2 fp) G elt fe)(hs:∀x,ip iter X.env x=pure x:=by intro _;rfl):PN X G (.ListComp elt [⟨.Tuple [.Name t p1,.Name u p2] k1 pt,iter,ifs,0⟩] scope pos) (Xl src ga fe):=
 λA=>Rv N' eN c hc hi (gTwo hG eN c hc) bnd2 hI hE hs A
theorem qW(N':List Str)(eN:De t X.N++[t]=N')(c:K6 X scope t)(hc:X.calm=true)(hi:PFI X G true (.Name t p1) iter src)(hI:∀s2 H2 fp,PFTs { KC X scope t s2 H2 fp with N:=N' } G ifs ga)(hE:∀s2 H2 fp,PF { KC X scope t s2 H2 fp with N:=N' } G elt fe)(hs:∀x,ip iter X.env x=pure x:=by intro _;rfl):PN X G (.ListComp elt [⟨.Name t p1,iter,ifs,0⟩] scope pos) (BV src ga fe):=λA=>by
 rw[N6];exact Rv N' eN c hc hi (Zm eN c) bnd1 hI hE hs A
theorem cO2{t u:Str}(hN:X.N=N)(hs:X.env.scope=sc)(h:N7 N sc scope [t,u]=true:=by decide +kernel):CompOkL X scope [t,u]:=R1 hN hs h
def catD(x y:D):Option D:=match x,y with
 |.lst i,.lst j=>if i.length+j.length<=sizeLine then some (.lst (i++j)) else none
 |_,_=>none
theorem wB{a b:Expr}{fa fb:FE}(ha:PU X G a fa)(hb:PU X G b fb)(hG:G.K=X.K:=by rfl):PN X G (.BinOp a .Add b pos) (bF catD fa fb):=λA=>Bx (rQ Zj (@ha A) (@hb A)) λσ H Q ⟨ρ,d,o,e,k⟩=>by
 obtain⟨x,y,e1,e2,e3⟩:=Q_ e;refine⟨ρ,x,o,e1,λv H1 s1 r1=>⟨ρ,y,o.mono s1,e2,λu H2 s2 r2=>?_⟩⟩;unfold catD at e3;split at e3
 .rename_i is js;split at e3
  .rename_i hz;cases e3;obtain⟨l,xs,rfl,h1,q1⟩:=(r1.mono s2).lst;obtain⟨l',zs,rfl,h2,q2⟩:=r2.lst;refine⟨l,l',xs,zs,rfl,rfl,by rw[<-hG];exact h1,by rw[<-hG];exact h2,by rw[q1.1,q2.1];exact hz,λp hp=>k p _ (s1.trans (s2.trans (Ar hp _))) (s1.free (s2.free hp)) ⟨_,Ak,?_⟩⟩;exact (q1.append q2).mono (Gz (Ar hp _) hp)
  .cases e3
 .cases e3
end
open Classical in
noncomputable def theD(g:GM)(P:List D->D->Prop):List D->Option D:=λds=>if h:∃d,g ds [] (λd' _=>d'=d)/\P ds d then some (choose h) else none
theorem qX{g:GM}{P:List D->D->Prop}(h:theD g P ds=some d):g ds [] (λd' _=>d'=d):=by
 unfold theD at h;split at h
 .rename_i q;cases h;exact (GL q).1
 .cases h
theorem qY{g:GM}{P:List D->D->Prop}(h:g ds [] λd' _=>d'=d)(p:P ds d):∃e,theD g P ds=some e/\P ds e:=by
 have q:∃d,g ds [] (λd' _=>d'=d)/\P ds d:=⟨d,h,p⟩;exact⟨Classical.choose q,dif_pos q,(GL q).2⟩
section
variable {a b c:Expr}{fa fb fc:FE}{p2:Pos}{es:List Expr}{fs:FA}{h:FXM}
theorem fM{k:Nat}{p:Pos}{d:Dx X.K X.mg x st ps}{g:GM}(F:FnOk X.prog X.w X.K X.mg X.base CX0 k d.f d.fd ps (spM G g))(hr:Room k' X.A)(ha:PFA X G (a::es) fs)(hle:k<=k':=by omega)(hg:Gl X x:=by rfl)(hdb:.(12)=false:=by decide)(he:ar (a::es) X.env=.(16)::ar es X.env:=by rfl)(hpl:(bP pos (ar es X.env)).any (·.1)=false:=by rfl):PMX X G (.Call (.Name x p) (a::es) [] pos) (calX g fs):=j_ F (hr.mono hle) hg d.m d.F.kp d.B ha hdb he hpl
theorem sXM(hN:X.N.Nodup)(i:Nat){x:Str}{p:Pos}(ha:PMX X G a h)(hi:X.N[i]?=some x:=by rfl)(hx:Loc X.env.scope x:=by first | exact fm rfl | exact eB rfl)(hs:eI a (some (.Name x p)) pos.line X.env=pure false:=by rfl)(hf:X.fn x=true∨X.env.scope.names.lookup x=some .local :=by first | exact .inl rfl | exact .inr rfl | assumption):PSM X G (.Assign [.Name x p] a pos) (j6 i h):=j8 (λ_ h=>YW hN hi hx h hs hf) ha
theorem mRem{k:Nat}(js:List Nat)(hr:Room k X.A)(hv:PE X .(15) (tVar i))(ha:PFA X G [a] fs)(hG:G.K=X.K:=by rfl)(hbase:fw .(15) "remove" X.env (eval .(15) X.env)=eval .(15) X.env:=by rfl)(hfew:.(0)=true:=by rfl)(hline:(apos.endLine==pos.line)=true:=by rfl)(hs:ar [a] X.env=[.(16)]:=by rfl):PMX X G (.Call (.Attribute .(15) "remove" apos) [a] [] pos) (mutX i js remM fs):=
 aW js rX PySem.F.slot_list_remove PySem.F.type_list_remove (v9 hG hr.units) kI v_ hv ha hbase hfew hline hs rfl
theorem mApp(js:List Nat)(hv:PE X .(15) (tVar i))(ha:PFA X G [a] fs)(hbase:fw .(15) "append" X.env (eval .(15) X.env)=eval .(15) X.env:=by rfl)(hfew:.(0)=true:=by rfl)(hline:(apos.endLine==pos.line)=true:=by rfl)(hs:ar [a] X.env=[.(16)]:=by rfl):PMX X G (.Call (.Attribute .(15) "append" apos) [a] [] pos) (mutX i js appM fs):=
 aW js rX B3 B4 Lz kJ wA hv ha hbase hfew hline hs rfl
end
theorem fnM{base:Heap}{k:Nat}{b:FM}(d:Dx G.K mg x st ps)(S:FnScope N ps (Ad st))(hb:∀(cdv:ac) (A:ax) (outer:List Env) (s:af) (H:Hp) (E:XK),Room k (A.deeper (fI x (Ad st) s.heap.objs.size d.f cdv))->PSMs (cxOf CX0 P w G.K mg base N x (Ad st) d.f cdv A outer s H E).nox G (Bj st) b)(hl:ps.length<=N.length:=by decide):
  FnOk P w G.K mg base CX0 (k+1) d.f d.fd ps (spM G (runM N.length ps.length b)):=fn_M d.F S hl hb
theorem fnDM{base:Heap}{k:Nat}{b:FM}{Pr:List D->D->Prop}(d:Dx G.K mg x st ps)(S:FnScope N ps (Ad st))(hb:∀(cdv:ac) (A:ax) (outer:List Env) (s:af) (H:Hp) (E:XK),Room k (A.deeper (fI x (Ad st) s.heap.objs.size d.f cdv))->PSMs (cxOf CX0 P w G.K mg base N x (Ad st) d.f cdv A outer s H E).nox G (Bj st) b)(hl:ps.length<=N.length:=by decide):
  FnOk P w G.K mg base CX0 (k+1) d.f d.fd ps (spD G (theD (runM N.length ps.length b) Pr)):=yg d.F S hl hb λds d' h=>qX h
end PV
namespace PV
open PySem PySem.Spec PySem.Calls L2 EX
open PyProof.Rows hiding St
section
variable {A:ax}{r l:Addr}{items:Array ac}
end
section
variable {a:Expr}{fa:FE}{p p2:Pos}
end
end PV
namespace PV
open PySem PySem.Spec L2 EX
open PyProof.Rows hiding St
section
variable {a b c:Expr}{fa fb fc:FE}{p2 p:Pos}{es:List Expr}{fs:FA}{g gs gb:FM}{h:FXM}
end
section
variable {a b:Expr}{fs:FA}{es:List Expr}
end
end PV
namespace PV
open PySem
theorem Q3:yA (.type "zip") "__getattr__"=pure none:=by rw[zk,zl];kernel_rfl
theorem qZ:yA (.type "zip") "keys"=pure none:=by rw[zk,zl];kernel_rfl
theorem kh:vt table "zip.__getattribute__"=some d4.«object.__getattribute__»:=
 BD (id':="object.__getattribute__") (by kernel_rfl) (by decide +kernel) (by decide +kernel) (by kernel_rfl)
theorem km(a:Addr)(fs:Array ac)(u:Tok):
  Meets (d4.«object.__getattribute__» ⟨[.ref a,.str "keys" u],[]⟩) (λA R s=>s.heap.get? a=some { cls:=.type "zip",dict:=none,data:=.fields fs,slots:=#[] }/\raisesAttr (.ref a) "keys" A R s):=
 Meets.of_wp λprog w A R s hs=>by
  obtain⟨hp,g,d,tk,os⟩:=s;obtain⟨hx,hs⟩:=hs;have hT:(⟨hp,g,d,tk,os⟩:af).TypeIs (.ref a) "zip":=⟨_,hx,rfl⟩;have hm:=qZ;unfold d4.«object.__getattribute__»
  repeat (any_goals (first | assumption | wp_step))
  exact wpAny_raiseAttrError hs.1 hs.2 (attrMsg_fits (by decide +kernel) (by decide +kernel))
theorem dF{A:ax}{fs:Array ac}{Q:Option ac->af->Prop}(hx:s.heap.get? a=some { cls:=.type "zip",dict:=none,data:=.fields fs,slots:=#[] })(hA:A.handled=none)(h:∀h' tk,.(13)->Q none { s with heap:=h',toks:=tk }):
  ag (ah prog w) A (getAttr? (.ref a) "keys") Q E s:=by
 obtain⟨hp,g,d,tk,os⟩:=s;have hT:∀tk',(⟨hp,g,d,tk',os⟩:af).TypeIs (.ref a) "zip":=λ_=>⟨_,hx,rfl⟩;have f1:=sub_AttributeError;have f3:=C3.lookup;have f4:=C3.bind (.ref a);have f5:=Q3;unfold getAttr? getAttrBy? getAttrBy
 repeat (any_goals (first | assumption | exact hT _ | ((with_reducible show ag _ _ (call (CF "zip.__getattribute__") _ _) _ _ _);refine re C3 (hT _) kh (F.args_zip_getattribute_2 _ _) (km a fs _) ⟨hx,hA,λh' tk' e hx'=>?_⟩) | wp_step))
 obtain⟨t',u',he⟩:=hx'.there;have kp:=hx'.keeps;show ag _ _ (GN _ _ _ _ _ _ _) _ _ _;unfold GN
 repeat (any_goals (first | assumption | wp_step))
 exact h _ _ kp
theorem sbk{a:Nat}(x:i7 a h h'){b:Nat}{o:Obj}(hb:b≠a)(g:h.get? b=some o):h'.get? b=some o:=(x.2 b hb).trans g
theorem ekb{a:Nat}(x:zr a h h'){b:Nat}{o:Obj}(hb:b≠a)(g:h.get? b=some o):h'.get? b=some o:=x b o hb g
section
variable {A:ax}{l p:Nat}{t:Tok}{its:Array ac}
abbrev ZipO (h:Heap) (n:Nat) (f0 f1:ac):Prop:=h.get? (n+4)=some { cls:=.type "zip",dict:=none,data:=.fields #[f0,f1,.bool false,.ref (n+2),.ref (n+3)],slots:=#[] }
structure ZS (h:Heap) (n l p:Nat) (x:Str) (t:Tok) (its:Array ac) (i:Nat):Prop where
 hz:(i=0/\ZipO h n .none (.bool false))∨∃(T:Nat) (o:Obj) (b:Bool),n+4<T/\T≠p/\h.get? T=some o/\ZipO h n (de T) (.bool b)
 ti:mN h (n+2) (.ref n) (.ref (n+1))
 to:∃a b,mN h (n+3) a b
 i1:h.IsStrIter n "str_ascii_iterator" x t i
 i2:h.IsListIter (n+1) l i
 ll:h.IsList l its
 lt:l<n
theorem ZS.keep(Z:ZS h n l p x t its i)(e:∀b o,b≠p->h.get? b=some o->h'.get? b=some o)(hp:n+4<p):ZS h' n l p x t its i:=by
 obtain⟨hz,ti,⟨a,b,to⟩,⟨o1,g1,r1⟩,⟨o2,g2,r2⟩,⟨o3,g3,r3⟩,lt⟩:=Z;refine⟨?_,e _ _ (by omega) ti,⟨a,b,e _ _ (by omega) to⟩,⟨o1,e _ _ (by omega) g1,r1⟩,⟨o2,e _ _ (by omega) g2,r2⟩,⟨o3,e _ _ (by omega) g3,r3⟩,lt⟩
 rcases hz with ⟨h0,z⟩ | ⟨T,o,b,h1,h2,h3,z⟩
 .exact .inl ⟨h0,e _ _ (by omega) z⟩
 .exact .inr ⟨T,o,b,h1,h2,e _ _ h2 h3,e _ _ (by omega) z⟩
theorem k_{a:Nat}{Q:Option Obj->af->Prop}(h:s.heap.get? a=some o)(q:Q (some o) s):ag (ah prog w) A (C4 a) Q E s:=λΓ p hΓ=>by
 rw[show C4 a=.loadIfAlive a .pure from rfl,Sem.wp_loadIfAlive,h];exact ai q Γ p hΓ
theorem aa{T:Nat}{b:Bool}{Q:Bool->af->Prop}(h3:s.heap.get? T=some o)(hz:ZipO s.heap n (de T) (.bool b))(k:∀h',ZipO h' n (de T) (.bool true)->i7 (n+4) s.heap h'->Q false { s with heap:=h' }):
  ag (ah prog w) A (sD (.ref (n+4))) Q E s:=by
 unfold sD;refine ae (iO hz rfl (x:=de T) rfl ?_);show ag _ _ (C4 ((T:Int).toNat) >>= _) _ _ _;refine ae (k_ (by rw[df];exact h3) ?_);simp only[Option.isNone_some,dv,if_false];refine ae (iO hz rfl (x:=.bool b) rfl ?_);cases b with
 |false=>
  rw[if_pos (by decide)];exact ae (zu hz (by simp) λh' hz' hs'=>ai (k h' hz' hs'))
 |true=>
  rw[if_neg (by decide)];exact ai (k _ hz ⟨rfl,λ_ _=>rfl⟩)
theorem qb{y:ac}{Q:ac->af->Prop}(Z:ZS s.heap n l p x t its i)(hp:p<s.heap.objs.size)(hp':n+4<p)(hx:x.cps[i]?=some c)(hy:its[i]?=some y)(hQ:∀h' tk T u,ZS h' n l p x t its (i+1)->mN h' T (.str ⟨#[c]⟩ u) y->(∀b o,b<n∨n+4<b->s.heap.get? b=some o->h'.get? b=some o)->Q (.ref T) { s with heap:=h',toks:=tk }):
  ag (ah prog w) A (d4.«zip.__next__» ⟨[.ref (n+4)],[]⟩) (λfin s'=>∃v,fin=.done (.ret v)/\Q v s') E s:=by
 obtain⟨hz,ti,⟨a,b,to⟩,i1,i2,ll,lt⟩:=Z
 rcases hz with ⟨rfl,hz⟩ | ⟨T,o,b',h1,h2,h3,hz⟩
 .show ag _ _ (field (.ref (n+4)) 2 >>= _) _ _ _;refine ae (iO hz rfl (x:=.bool false) rfl ?_);show ag _ _ (field (.ref (n+4)) 3 >>= _) _ _ _;refine ae (iO hz rfl (x:=.ref (n+2)) rfl (ae (kg ti rfl ?_)));show ag _ _ (sD (.ref (n+4)) >>= _) _ _ _;refine ae ?_;unfold sD;refine ae (iO hz rfl (x:=.none) rfl (ai ?_));simp only[if_true];refine ae (og (ae (iO hz rfl (x:=.ref (n+3)) rfl (ae (zu hz (by simp) λh₁ hz₁ hs₁=>?_)))));replace hz₁:ZipO h₁ n .ellipsis (.bool false):=hz₁;refine ae ?_;simp only[List.zipIdx_cons,List.zipIdx_nil,zc,C5];refine ae (ae (wpAny_onRaise ?_));show ag _ _ (sK (.ref n) >>= _) _ _ _;have k1:∀b o,b≠n+4->s.heap.get? b=some o->h₁.get? b=some o:=λb o hb g=>sbk hs₁ hb g;obtain⟨o1,g1,r1⟩:=i1;refine ae (C6 (s:={ s with heap:=h₁ }) ⟨o1,k1 _ _ (by omega) g1,r1⟩ hx λh₂ h1₂ hs₂=>ai ?_);have k2:∀b o,b≠n+4->b≠n->s.heap.get? b=some o->h₂.get? b=some o:=λb o hb hn g=>sbk hs₂ hn (k1 b o hb g);have to₂:mN h₂ (n+3) a b:=k2 _ _ (by omega) (by omega) to;refine ae (kg to₂ rfl (ae (GO to₂ λh₃ to₃ hs₃=>?_)));replace to₃:mN h₃ (n+3) (.str ⟨#[c]⟩ s.toks) b:=to₃;refine ae (wpAny_letGo (ai ?_));refine ae (ae (wpAny_onRaise ?_));show ag _ _ (sK (.ref (n+1)) >>= _) _ _ _;have k3:∀b o,b≠n+4->b≠n->b≠n+3->s.heap.get? b=some o->h₃.get? b=some o:=λb o hb hn h3 g=>sbk hs₃ h3 (k2 b o hb hn g);obtain⟨o2,g2,r2⟩:=i2;obtain⟨o3,g3,r3⟩:=ll;refine ae (GS (s:={ s with heap:=h₃,toks:=s.toks+1 }) ⟨o2,k3 _ _ (by omega) (by omega) (by omega) g2,r2⟩ ⟨o3,k3 _ _ (by omega) (by omega) (by omega) g3,r3⟩ hy λh₄ h2₄ hs₄=>ai ?_);have to₄:mN h₄ (n+3) (.str ⟨#[c]⟩ s.toks) b:=sbk hs₄ (by omega) to₃;refine ae (kg to₄ rfl (ae (GO to₄ λh₅ to₅ hs₅=>?_)));replace to₅:mN h₅ (n+3) (.str ⟨#[c]⟩ s.toks) y:=to₅;refine ae (wpAny_letGo (ai (ai ?_)));refine ae (kg to₅ rfl (ae (wpAny_newTuple ?_)));have sz:h₅.objs.size=s.heap.objs.size:=by rw[hs₅.1,hs₄.1,hs₃.1,hs₂.1,hs₁.1]
  have zlt:=aT hz;have k5:∀b o,b≠n+4->b≠n->b≠n+3->b≠n+1->s.heap.get? b=some o->h₅.get? b=some o:=λb o hb hn h3 h1 g=>sbk hs₅ h3 (sbk hs₄ h1 (k3 b o hb hn h3 g));have hz₅:ZipO h₅ n .ellipsis (.bool false):=sbk hs₅ (by omega) (sbk hs₄ (by omega) (sbk hs₃ (by omega) (sbk hs₂ (by omega) hz₁)));show ag _ _ (GT (.ref (n+4)) (.ref h₅.objs.size) >>= _) _ _ _;refine ae ?_;unfold GT;have hz₆:ZipO (h₅.push { cls:=.type "tuple",data:=.seq #[.str ⟨#[c]⟩ s.toks,y] }) n .ellipsis (.bool false):=aS _ hz₅;refine ae (zu hz₆ (by simp) λh₇ hz₇ hs₇=>?_);replace hz₇:ZipO h₇ n (de h₅.objs.size) (.bool false):=hz₇;refine zu hz₇ (by simp) λh₈ hz₈ hs₈=>?_;replace hz₈:ZipO h₈ n (de h₅.objs.size) (.bool false):=hz₈;have up:∀b o,b≠n+4->h₅.get? b=some o->h₈.get? b=some o:=λb o hb g=>sbk hs₈ hb (sbk hs₇ hb (aS _ g));have hT:mN h₈ h₅.objs.size (.str ⟨#[c]⟩ s.toks) y:=sbk hs₈ (by omega) (sbk hs₇ (by omega) (bn _ rfl));obtain⟨o1',g1',r1'⟩:=h1₂;obtain⟨o2',g2',r2'⟩:=h2₄;refine ai ⟨_,rfl,hQ h₈ _ _ _ ⟨.inr ⟨h₅.objs.size,_,false,by omega,by omega,hT,hz₈⟩,up _ _ (by omega) (k5 _ _ (by omega) (by omega) (by omega) (by omega) ti),⟨_,_,up _ _ (by omega) to₅⟩,⟨o1',up _ _ (by omega) (sbk hs₅ (by omega) (sbk hs₄ (by omega) (sbk hs₃ (by omega) g1'))),r1'⟩,⟨o2',up _ _ (by omega) (sbk hs₅ (by omega) g2'),r2'⟩,⟨o3,up _ _ (by omega) (k5 _ _ (by omega) (by omega) (by omega) (by omega) g3),r3⟩,lt⟩ hT λb o hb g=>up b o (by omega) (k5 b o (by omega) (by omega) (by omega) (by omega) g)⟩
 .show ag _ _ (field (.ref (n+4)) 2 >>= _) _ _ _;refine ae (iO hz rfl (x:=.bool false) rfl ?_);show ag _ _ (field (.ref (n+4)) 3 >>= _) _ _ _;refine ae (iO hz rfl (x:=.ref (n+2)) rfl (ae (kg ti rfl ?_)));show ag _ _ (sD (.ref (n+4)) >>= _) _ _ _;refine ae (aa h3 hz λh₁ hz₁ hs₁=>?_);simp only[dv,if_false];rw[<-t4];simp only[zc,C5];refine ae (ae (ae (wpAny_holding ?_)));show ag _ _ (sK (.ref n) >>= _) _ _ _;obtain⟨o1,g1,r1⟩:=i1;refine ae (C6 (s:={ s with heap:=h₁ }) ⟨o1,sbk hs₁ (by omega) g1,r1⟩ hx λh₂ h1₂ hs₂=>ai ?_);refine ai (ae (ae (wpAny_holding ?_)));show ag _ _ (sK (.ref (n+1)) >>= _) _ _ _;obtain⟨o2,g2,r2⟩:=i2;obtain⟨o3,g3,r3⟩:=ll;refine ae (GS (s:={ s with heap:=h₂,toks:=s.toks+1 }) ⟨o2,sbk hs₂ (by omega) (sbk hs₁ (by omega) g2),r2⟩ ⟨o3,sbk hs₂ (by omega) (sbk hs₁ (by omega) g3),r3⟩ hy λh₄ h2₄ hs₄=>ai ?_);refine ai (ai ?_);refine ae (wpAny_newTuple ?_ (by show 2<=sizeLine;decide));have k4:∀b o,b≠n+4->b≠n->b≠n+1->s.heap.get? b=some o->h₄.get? b=some o:=λb o hb hn h1 g=>sbk hs₄ h1 (sbk hs₂ hn (sbk hs₁ hb g));have sz:h₄.objs.size=s.heap.objs.size:=by rw[hs₄.1,hs₂.1,hs₁.1]
  have zlt:=aT hz;obtain⟨o1',g1',r1'⟩:=h1₂;obtain⟨o2',g2',r2'⟩:=h2₄;have up:∀{b:Nat}{o:Obj}{ob:Obj},h₄.get? b=some o->(h₄.push ob).get? b=some o:=λg=>aS _ g;refine ai ⟨_,rfl,hQ _ _ _ _ ⟨.inr ⟨T,o,true,h1,h2,up (k4 _ _ (by omega) (by omega) (by omega) h3),up (sbk hs₄ (by omega) (sbk hs₂ (by omega) hz₁))⟩,up (k4 _ _ (by omega) (by omega) (by omega) ti),⟨_,_,up (k4 _ _ (by omega) (by omega) (by omega) to)⟩,⟨o1',up (sbk hs₄ (by omega) g1'),r1'⟩,⟨o2',up g2',r2'⟩,⟨o3,up (k4 _ _ (by omega) (by omega) (by omega) g3),r3⟩,lt⟩ (bn _ rfl) λb o hb g=>up (k4 b o (by omega) (by omega) (by omega) g)⟩
theorem wC{Q:Fin->af->Prop}(hh:A.handled=none)(Z:ZS s.heap n l p x t its i)(hi:i≠0)(hx:x.cps[i]?=some c)(hy:its[i]?=none)(hE:∀h' tk e,(∀b o,b<n∨n+4<b->s.heap.get? b=some o->h'.get? b=some o)->(∃o,h'.get? e=some o/\o.cls=.type "StopIteration")->E (.ref e) { s with heap:=h',toks:=tk }):
  ag (ah prog w) A (d4.«zip.__next__» ⟨[.ref (n+4)],[]⟩) Q E s:=by
 obtain⟨hz,ti,⟨a,b,to⟩,i1,i2,ll,lt⟩:=Z
 rcases hz with ⟨e,hz⟩ | ⟨T,o,b',h1,h2,h3,hz⟩
 .exact absurd e hi
 .show ag _ _ (field (.ref (n+4)) 2 >>= _) _ _ _;refine ae (iO hz rfl (x:=.bool false) rfl ?_);show ag _ _ (field (.ref (n+4)) 3 >>= _) _ _ _;refine ae (iO hz rfl (x:=.ref (n+2)) rfl (ae (kg ti rfl ?_)));show ag _ _ (sD (.ref (n+4)) >>= _) _ _ _;refine ae (aa h3 hz λh₁ hz₁ hs₁=>?_);simp only[dv,if_false];rw[<-t4];simp only[zc,C5];refine ae (ae (ae (wpAny_holding ?_)));show ag _ _ (sK (.ref n) >>= _) _ _ _;obtain⟨o1,g1,r1⟩:=i1;refine ae (C6 (s:={ s with heap:=h₁ }) ⟨o1,sbk hs₁ (by omega) g1,r1⟩ hx λh₂ h1₂ hs₂=>ai ?_);refine ai (ae (ae (wpAny_holding ?_)));show ag _ _ (sK (.ref (n+1)) >>= _) _ _ _;obtain⟨o2,g2,r2⟩:=i2;obtain⟨o3,g3,r3⟩:=ll;refine ae (wpAny_nextOf_list_end hh (s:={ s with heap:=h₂,toks:=s.toks+1 }) ⟨o2,sbk hs₂ (by omega) (sbk hs₁ (by omega) g2),r2⟩ ⟨o3,sbk hs₂ (by omega) (sbk hs₁ (by omega) g3),r3⟩ hy λh₄ e hs₄ he=>?_);exact hE h₄ _ e (λb o hb g=>ekb hs₄ (by omega) (sbk hs₂ (by omega) (sbk hs₁ (by omega) g))) he
theorem lA{y:ac}{Q:Option ac->af->Prop}(Z:ZS s.heap n l p x t its i)(hp:p<s.heap.objs.size)(hp':n+4<p)(hx:x.cps[i]?=some c)(hy:its[i]?=some y)(hQ:∀h' tk T u,ZS h' n l p x t its (i+1)->mN h' T (.str ⟨#[c]⟩ u) y->(∀b o,b<n∨n+4<b->s.heap.get? b=some o->h'.get? b=some o)->Q (some (.ref T)) { s with heap:=h',toks:=tk }):
  ag (ah prog w) A (eJ (.ref (n+4))) Q E s:=by
 have hT:s.TypeIs (.ref (n+4)) "zip":=by
  rcases Z.hz with ⟨_,z⟩ | ⟨_,_,_,_,_,_,z⟩<;>exact⟨_,z,rfl⟩
 unfold eJ;exact ae (nX (ma (name:=gi "__next__") hT zv (hJ zv hT GU (qb Z hp hp' hx hy λh' tk T u a1 a2 a3=>ai (hQ h' tk T u a1 a2 a3)) (GV _))))
theorem lB{Q:Option ac->af->Prop}(hh:A.handled=none)(Z:ZS s.heap n l p x t its i)(hi:i≠0)(hx:x.cps[i]?=some c)(hy:its[i]?=none)(hQ:∀h' tk,(∀b o,b<n∨n+4<b->s.heap.get? b=some o->h'.get? b=some o)->Q none { s with heap:=h',toks:=tk }):ag (ah prog w) A (eJ (.ref (n+4))) Q E s:=by
 have hT:s.TypeIs (.ref (n+4)) "zip":=by
  rcases Z.hz with ⟨_,z⟩ | ⟨_,_,_,_,_,_,z⟩<;>exact⟨_,z,rfl⟩
 unfold eJ;refine ae (nX (ma (name:=gi "__next__") hT zv (hJ zv hT GU (wC hh Z hi hx hy λh' tk e hk he=>?_) (GV _))));obtain⟨o,ho,hc⟩:=he;exact ae (oi (T:="StopIteration") (b:=true) ⟨o,ho,hc⟩ Bz (ai (hQ _ _ hk)))
end
end PV
namespace PV
open PySem PySem.Spec L2
theorem dG:vt table "dict.update.loop"=some d4.«dict.update.loop»:=EJ (by kernel_rfl)
theorem QH:plainId "dict.update.loop"=true:=by decide +kernel
section
variable {A:ax}{l p:Nat}{t:Tok}{its:Array ac}{R:nl->af->Prop}
def chS(x:Str)(j:Nat):Str:=⟨#[x.cps.getD j 0]⟩
def vz(x:Str)(its:Array ac)(i:Nat):List (Key×ac):=(av i).map λj=>((.inr (chS x j):Key),its.getD j .none)
theorem qe(nd:x.cps.toList.Nodup)(hi:i<x.cps.size):stored (vz x its i) (.inr (chS x i)) (its.getD i .none)=vz x its (i+1):=by
 unfold stored;rw[if_neg]
 .simp[vz,ro]
 .intro h;obtain⟨kv,hk,e⟩:=qh.mp h;obtain⟨j,hj,rfl⟩:=aI.mp hk;have hj:=bv.mp hj;have e:=of_decide_eq_true e;have e:chS x j=chS x i:=by injection e
  have e:x.cps.getD j 0=x.cps.getD i 0:=by
   unfold chS at e;injection e with e
   simpa using e
  have lj:j<x.cps.size:=by omega
  rw[C7,C7,BU lj,BU hi] at e;have:=(A4 nd (i:=j) (j:=i) (h₀:=by simpa using lj) (h₁:=by simpa using hi)).mp (by simpa using e);omega
theorem qg(hh:A.handled=none)(nd:x.cps.toList.Nodup)(hp':n+4<p)(hk:its.size<x.cps.size)(hz:its.size<=100):∀(m i:Nat) (s:af),i+m=its.size->(m=0->i≠0)->ZS s.heap n l p x t its i->s.heap.DictOf (Av prog w) p (vz x its i) ->
      (∀h' tk,h'.DictOf (Av prog w) p (vz x its its.size)->(∀b o,b<n->s.heap.get? b=some o->h'.get? b=some o)->R (.ok (.ret .none)) { s with heap:=h',toks:=tk }) ->
      fh (ah prog w) A (.builtin "dict.update.loop" ⟨[.ref p,.ref (n+4),de i,.none],[]⟩) R s:=by
  have turn:∀{s:af}{i:Nat},ag (ah prog w) A.in1 (d4.«dict.update.loop» ⟨[.ref p,.ref (n+4),de i,.none],[]⟩)
      (λfin s'=>match fin with | .done f=>R (.ok f) s' | .again c'=>c'.quiet=true/\fh (ah prog w) A c' R s') (λe s'=>R (.error e) s') s->fh (ah prog w) A (.builtin "dict.update.loop" ⟨[.ref p,.ref (n+4),de i,.none],[]⟩) R s:=λq=>by
    refine lc dG ?_;rw[pT QH _];exact q
  intro m
  induction m with
  |zero=>
    intro i s e m0 Z dd k;have ei:i=its.size:=by omega
    subst ei;refine turn (ae (lB (by simp[hh]) Z (m0 rfl) (c:=x.cps[its.size]) (by simp[hk]) (by simp) λh' tk kp=>?_));refine ae (ai (ai (k h' tk ?_ λb o hb g=>kp b o (.inl hb) g)));obtain⟨o,es,ep,g,r⟩:=dd;exact⟨o,es,ep,kp p o (.inr hp') g,r⟩
  |succ m ih=>
    intro i s e _ Z dd k;have li:i<its.size:=by omega
    have lx:i<x.cps.size:=by omega
    have lp:p<s.heap.objs.size:=by obtain⟨o,es,ep,g,r⟩:=dd;exact aT g
    refine turn (ae (lA Z lp hp' (c:=x.cps[i]) (y:=its[i]) (by simp[lx]) (by simp[li]) λh' tk T u Z' hT kp=>?_));have dd':h'.DictOf (Av prog w) p (vz x its i):=by
      obtain⟨o,es,ep,g,r⟩:=dd;exact⟨o,es,ep,kp p o (.inr hp') g,r⟩
    refine ae (wpAny_holding (ae (wpAny_tryCatch ?_)));unfold Builtin.Dict.pairItems;refine ae (uS (T:="tuple") ⟨_,hT,rfl⟩ ?_);rw[if_pos (by decide)];refine ae (kg hT rfl (ai ?_));have ex:x.cps.getD i 0=x.cps[i]:=by simp[lx]
    have ey:its.getD i .none=its[i]:=by simp[li]
    refine wpAny_holding (wpAny_dictSet_pairs (s:={ s with heap:=h',toks:=tk }) (knd:=Av prog w) (k:=.inr (chS x i)) (Um (k:=.inr (chS x i)) ?_) dd' (λh2 dd2 hs2=>?_) (by unfold vz;rw[aw,eW,nh];omega))
    . rw[show chS x i=⟨#[x.cps[i]]⟩ by unfold chS;rw[ex]]
      exact⟨_,rfl⟩
    . rw[<-ey,qe nd lx] at dd2
      refine ai ⟨nL QH _,?_⟩;refine ih (i+1) _ (by omega) (λ_=>by omega) (Z'.keep (λb o hb g=>sbk hs2 hb g) hp') dd2 λh3 tk3 dd3 kp3=>?_;exact k h3 tk3 dd3 λb o hb g=>kp3 b o hb (sbk hs2 (by have:=Z.lt;omega) (kp b o (.inl hb) g))
end
abbrev zA (h:Heap) (x:Str) (t:Tok):Heap:=h.push { cls:=.type "str_ascii_iterator",data:=.fields #[.str x t,.int 0 0] }
abbrev zB (h:Heap) (x:Str) (t:Tok) (l:Addr):Heap:=(zA h x t).push { cls:=.type "list_iterator",data:=.fields #[.ref l,.int 0 0] }
abbrev zC (h:Heap) (x:Str) (t:Tok) (l:Addr):Heap:=(zB h x t l).push { cls:=.type "tuple",data:=.seq #[.ref h.objs.size,.ref (zA h x t).objs.size] }
abbrev zD (h:Heap) (x:Str) (t:Tok) (l:Addr):Heap:=(zC h x t l).push { cls:=.type "tuple",data:=.seq #[.none,.none] }
abbrev zE (h:Heap) (x:Str) (t:Tok) (l:Addr):Heap:=(zD h x t l).push { cls:=.type "zip",data:=.fields #[.none,.bool false,.bool false,.ref (zB h x t l).objs.size,.ref (zC h x t l).objs.size] }
theorem wD(x:Str)(t:Tok)(l:Addr)(its:Array ac)(ha:x.cps.all (·<128)=true):
  Meets (d4.«zip.__new__» ⟨[.type "zip",.str x t,.ref l],[]⟩) (λ_ R s=>s.heap.IsList l its/\R (.ok (.ret (.ref (zD s.heap x t l).objs.size))) { s with heap:=zE s.heap x t l }):=
 .of_wp λprog w A R s h=>by
  obtain⟨hp,g,d,tk,os⟩:=s;obtain⟨hl,h⟩:=h;have hsub:=sub_zip;have hL:Heap.IsList (Shared.heap ⟨hp.push { cls:=.type "str_ascii_iterator",data:=.fields #[.str x t,.int 0 0] },g,d,tk,os⟩) l its:=Heap.IsList.push hl _
  wp_walk using FR ha,tj hL
  exact⟨_,rfl,h⟩
section
variable {A:ax}{l:Nat}{t:Tok}{its:Array ac}
theorem wF{Q:ac->af->Prop}(ha:x.cps.all (·<128)=true)(hl:s.heap.IsList l its)(h:∀h',(∀p,ZS h' s.heap.objs.size l p x t its 0)->h'.objs.size=s.heap.objs.size+5->.(13)->Q (.ref (s.heap.objs.size+4)) { s with heap:=h' }):
  ag (ah prog w) A (call (.type "zip") [.str x t,.ref l]) Q E s:=by
 refine callType_new F.called_zip (by decide) (F.typeCall_zip_2 _ _) (F.newCall_zip_2 _ _) (λobj=>F.args_object_init_3 obj _ _) F.entry_zip_new (wD x t l its ha) ⟨hl,?_⟩;have z1:(zA s.heap x t).objs.size=s.heap.objs.size+1:=hZ ..;have z2:(zB s.heap x t l).objs.size=s.heap.objs.size+2:=by rw[hZ,z1]
 have z3:(zC s.heap x t l).objs.size=s.heap.objs.size+3:=by rw[hZ,z2]
 have z4:(zD s.heap x t l).objs.size=s.heap.objs.size+4:=by rw[hZ,z3]
 have z5:(zE s.heap x t l).objs.size=s.heap.objs.size+5:=by rw[hZ,z4]
 have p1:∀{g:Heap}{b:Nat}{o ob:Obj},g.get? b=some o->(g.push ob).get? b=some o:=λg=>aS _ g;have g5:(zE s.heap x t l).get? (zD s.heap x t l).objs.size=some _:=bn _ rfl;have g4:(zE s.heap x t l).get? (zC s.heap x t l).objs.size=some _:=p1 (bn _ rfl);have g3:(zE s.heap x t l).get? (zB s.heap x t l).objs.size=some _:=p1 (p1 (bn _ rfl));have g2:(zE s.heap x t l).get? (zA s.heap x t).objs.size=some _:=p1 (p1 (p1 (bn _ rfl)));have g1:(zE s.heap x t l).get? s.heap.objs.size=some _:=p1 (p1 (p1 (p1 (bn _ rfl))));have up:∀{b:Nat}{o:Obj},s.heap.get? b=some o->(zE s.heap x t l).get? b=some o:=λg=>p1 (p1 (p1 (p1 (p1 g))));show _/\_;rw[z2,z3,z4] at g5;rw[z1,z2] at g3;rw[z3] at g4;rw[z1] at g2;rw[z4];obtain⟨o,g,r⟩:=hl;exact⟨⟨_,g5,rfl⟩,h _ (λp=>⟨.inl ⟨rfl,g5⟩,g3,⟨_,_,g4⟩,⟨_,g1,rfl,rfl⟩,⟨_,g2,rfl,rfl⟩,⟨o,up g,r⟩,aT g⟩) z5 λb o g=>up g⟩
theorem qj{Q:ac->af->Prop}(hh:A.handled=none)(nd:x.cps.toList.Nodup)(hk:its.size<x.cps.size)(hz:its.size<=100)(h0:its.size≠0)(Z:∀p,ZS s.heap n l p x t its 0)(hn:s.heap.objs.size=n+5)(k:∀h' tk,h'.DictOf (Av prog w) (n+5) (vz x its its.size)->(∀b o,b<n->s.heap.get? b=some o->h'.get? b=some o)->Q (.ref (n+5)) { s with heap:=h',toks:=tk }):
  ag (ah prog w) A (call (.type "dict") [.ref (n+4)]) Q E s:=by
 refine callType_codes (Q₁:=λobj s₁=>obj=.ref s.heap.objs.size/\s₁={ s with heap:=s.heap.push { cls:=.type "dict",data:=.dict #[] } }) F.kt_called_dict (F.kt_typeCall_dict_1 _) F.entry_dict_init (kt_code_dict_new _ ⟨rfl,rfl⟩) ?_;rintro obj s₁ ⟨rfl,rfl⟩;have hnew:(s.heap.push { cls:=.type "dict",data:=.dict #[] }).DictOf (Av prog w) s.heap.objs.size []:=E1 s.heap;refine⟨hnew.typeIs,F.args_dict_init_2 _ _,?_⟩;rw[hn] at hnew ⊢;have Z1:ZS (s.heap.push { cls:=.type "dict",data:=.dict #[] }) n l (n+5) x t its 0:=(Z (n+5)).keep (λb o _ g=>aS _ g) (by omega);obtain⟨_,z1⟩:0=0/\ZipO (s.heap.push { cls:=.type "dict",data:=.dict #[] }) n .none (.bool false):=by
  rcases (Z (n+5)).hz with ⟨e,z⟩ | ⟨T,o,b,h1,h2,h3,z⟩
  .exact⟨rfl,aS _ z⟩
  .have q:T<n+5:=hn▸aT h3;exact absurd q (by omega)
 unfold d4.«dict.__init__»;refine ae ?_;unfold Builtin.Dict.selfAndRest;refine ae (G0 hnew.typeIs ?_);show ag _ _ (pure (n+5,[cw (n+4)])) _ _ _;refine ai ?_;show ag _ _ (GW "dict.__init__" (n+5) (.ref (n+4)) [] .none) _ _ _;unfold GW;refine ae (uS (T:="zip") ⟨_,z1,rfl⟩ ?_);rw[if_pos (by decide)];refine ae (dF z1 (by simp[hh]) λh1 tk kp=>?_);simp only[Option.isNone_none,if_true];refine ae (og (ae (wpAny_pyIter_zip (z:=n+4) (TI:=n+2) (TO:=n+3) (f0:=.none) (kp _ _ z1) ?_)));refine ai ⟨nL QH _,?_⟩;have dd:h1.DictOf (Av prog w) (n+5) (vz x its 0):=by
  obtain⟨o,es,ep,g,r⟩:=hnew;exact⟨o,es,ep,kp _ _ g,r⟩
 refine qg (by simp[hh]) nd (by omega) hk hz its.size 0 _ (by omega) (λe=>absurd e h0) (Z1.keep (λb o _ g=>kp b o g) (by omega)) dd λh2 tk2 dd2 kp2=>?_;exact⟨rfl,k h2 tk2 dd2 λb o hb g=>kp2 b o hb (kp b o (aS _ g))⟩
end
open PyProof.Rows hiding St
theorem wG:cr "zip"=some (.type "zip"):=by decide +kernel
def okZ(x:Str)(m:Nat):Prop:=m≠0/\m<x.cps.size/\m<=100/\x.cps.toList.Nodup/\x.cps.all (·<128)=true
instance (x:Str) (m:Nat):Decidable (okZ x m):=by unfold okZ;infer_instance
def kz{α:Type}(x:Str)(z:α)(ys:List α):List (Key×α):=(av ys.length).map λj=>((.inr (chS x j):Key),ys.getD j z)
def dzD:D->D->Option D
 |.str x,.lst ds=>if okZ x ds.length then some (.dk (kz x .non ds)) else none
 |_,_=>none
theorem yj(r:Vals ys its):KV (kz x .non ys) (vz x its.toArray its.length):=by
 have hl:=r.length;unfold kz vz;rw[hl];have go:∀l:List Nat,(∀j∈l,j<its.length)->KV (l.map λj=>((.inr (chS x j):Key),ys.getD j .non)) (l.map λj=>((.inr (chS x j):Key),its.toArray.getD j .none)):=by
  intro l
  induction l with
  |nil=>intro _;exact .nil
  |cons j l ih=>
   intro h;refine .cons ⟨rfl,?_⟩ (ih λi hi=>h i (by simp[hi]));have hj:=h j (by simp);obtain⟨u,h1,h2⟩:=r.get (i:=j) (x:=ys[j]'(by omega)) (by simp);show RelV (ys.getD j .non) (its.toArray.getD j .none);rw[gT,cf (by omega)];simp only[C7,List.getElem?_toArray,h1];exact h2
 exact go _ λj hj=>bv.mp hj
def rDz(X:Cx):List V->Hp->VK->Prop:=λvs H Q=>∃x l ys,vs=[.str x,.ref l]/\SqL X.K H l ys/\okZ x ys.length/\∀p,H p=none->Q (.ref p) (upd H p (.dK (kz x .non ys)))
section
variable {a b:Expr}{fa fb:FE}{p q:Pos}{es:List Expr}{t:TA}
theorem yl(hc:X.calm=true)(hg:Gl X x)(hm:X.mg x=none)(hv:cr x=some (.type "dict"))(hg1:Gl X y)(hm1:X.mg y=none)(hv1:cr y=some (.type "zip"))(ha:PA X (e::es) t)(hn:x≠"__name__":=by decide)(hdb:.(12)=false:=by decide)(hn1:y≠"__name__":=by decide)(hdb1:(y==("__debug__":Str))=false:=by decide)(he:ar (e::es) X.env=(false,eval e X.env)::ar es X.env:=by rfl)(hpl:(bP pos2 (ar es X.env)).any (·.1)=false:=by rfl)(he1:ar [.Call (.Name y q) (e::es) [] pos2] X.env=[(false,eval (.Call (.Name y q) (e::es) [] pos2) X.env)]:=by rfl):
  PE X (.Call (.Name x p) [.Call (.Name y q) (e::es) [] pos2] [] pos) (λσ H Q=>t σ H λvs H1=>rDz X vs H1 Q):=by
 intro π s σ H Q I h;refine qV (M3 I hg hm hv ?_ hn hdb);refine tm (rest:=[]) ?_ he1 rfl;refine DD (qV (M3 I hg1 hm1 hv1 ?_ hn1 hdb1));refine tm (thn (ha pos2 π s σ H _ I h) λus s1 ⟨vs,H1,I1,r1,q1⟩=>?_) he hpl;obtain⟨x,l,ys,rfl,sq,⟨o1,o2,o3,o4,o5⟩,k⟩:=q1;obtain⟨its,rv,pl,_⟩:=I1.list sq;have hl:=rv.length;cases r1 with
 |cons ra rr=>
  cases rr with
  |cons rb rn=>
   cases rn;obtain⟨tk,rfl⟩:=ra;cases rb;refine wF o5 pl.isList λh2 Z sz kp=>ai ?_;refine qj (I1.ok.hd hc) o4 (by simpa [<-hl] using o2) (by simpa [<-hl] using o3) (by simpa [<-hl] using o1) Z sz λh3 tk3 dd kp3=>?_;refine⟨.ref (s1.heap.objs.size+5),upd H1 (s1.heap.objs.size+5) (.dK (kz x .non ys)),I1.laid (a:=s1.heap.objs.size+5) (t':=tk3) (λb o g=>kp3 b o (aT g) (kp b o g)) (by omega) (Yn ?_ ?_ (yj rv) (by simpa using dd)),rfl,k _ (I1.hok.fresh (by omega))⟩
   .unfold kz;rw[aw,eW,nh];omega
   .exact beq_eq_false_iff_ne.mpr (nc (Nat.lt_add_right 5 I1.big))
theorem lC(r:RepL G H xs ds):(kz x .non xs).map (·.1)=(kz x .non ds).map (·.1)/\RepL G H ((kz x .non xs).map (·.2)) ((kz x .non ds).map (·.2)):=by
 have go:∀{α:Type}(z:α) (l:List α),(kz x z l).map (·.1)=(av l.length).map (λj=>.inr (chS x j))/\(kz x z l).map (·.2)=l:=λz l=>by
  unfold kz;refine⟨by rw[bX];rfl,zq (by simp) λi h1 h2=>?_⟩;simp[h2]
 rw[(go _ xs).1,(go _ ds).1,(go _ xs).2,(go _ ds).2,r.1];exact⟨rfl,r⟩
theorem ym(hc:X.calm=true)(hG:G.K=X.K)(hg:Gl X x)(hm:X.mg x=none)(hv:cr x=some (.type "dict"))(hg1:Gl X y)(hm1:X.mg y=none)(hv1:cr y=some (.type "zip"))(ha:PU X G a fa)(hb:PU X G b fb)(hn:x≠"__name__":=by decide)(hdb:.(12)=false:=by decide)(hn1:y≠"__name__":=by decide)(hdb1:(y==("__debug__":Str))=false:=by decide)(he:ar [a,b] X.env=.(16)::ar [b] X.env:=by rfl)(he2:ar [b] X.env=[(false,eval b X.env)]:=by rfl)(hpl:(bP pos2 (ar [b] X.env)).any (·.1)=false:=by rfl)(he1:ar [.Call (.Name y q) [a,b] [] pos2] X.env=[(false,eval (.Call (.Name y q) [a,b] [] pos2) X.env)]:=by rfl):
  PN X G (.Call (.Name x p) [.Call (.Name y q) [a,b] [] pos2] [] pos) (bF dzD fa fb):=
 λA=>Bx (yl hc hg hm hv hg1 hm1 hv1 (B_ (@ha A) (B_ (@hb A) Dw he2) he) hn hdb hn1 hdb1 he hpl he1) λσ H Q ⟨ρ,d,o,e,k⟩=>by
  obtain⟨dx,dy,e1,e2,e3⟩:=Q_ e;unfold dzD at e3;split at e3
  .rename_i z ds;split at e3
   .rename_i hz;cases e3;refine⟨ρ,_,o,e1,λv H1 s1 r1=>⟨ρ,_,o.mono s1,e2,λu H2 s2 r2=>?_⟩⟩;have ev:v=.str z:=by
     rcases r1 with r | ⟨_,_,t⟩
     .cases r;rfl
     .exact t.elim
    subst ev;obtain⟨l,ys,rfl,sq,rr⟩:=r2.lst;rw[hG] at sq;refine⟨z,l,ys,rfl,sq,by rw[rr.1];exact hz,λp hp=>k p _ ((s1.trans s2).trans (Ar hp _)) ((s1.trans s2).free hp) ⟨_,Ak,(lC rr).1,(lC rr).2.mono (Gz (Ar hp _) hp)⟩⟩
   .cases e3
  .cases e3
end
end PV
namespace K52
open PySem L2 PV
abbrev cs (x:Str):List Nat:=x.cps.toList
def LET:Str:="abcdefghijklmnopqrstuvwxyz"
def IsL(x:Str):Prop:=∀c∈cs x,c∈cs LET
def KEPT:List Str:=["not","and","or","some","all"]
structure Wd (x:Str):Prop where
 lo:1<=x.length
 hi:x.length<=8
 isL:IsL x
 kept:x∉KEPT
structure Wl where
 n:Nat
 ms:List (Str×List Nat)
 ts:List (Str×List (Nat×Nat))
abbrev iN (t:Nat):D:=.int (t:Int)
abbrev pN (q:Nat×Nat):D:=.tup [.int (q.1:Int),.int (q.2:Int)]
def lM(l:List Nat):D:=.lst (l.map iN)
def lT(l:List (Nat×Nat)):D:=.lst (l.map pN)
def eM(ms:List (Str×List Nat)):List (Key×D):=ms.map λp=>(.inr p.1,lM p.2)
def eT(ts:List (Str×List (Nat×Nat))):List (Key×D):=ts.map λp=>(.inr p.1,lT p.2)
def kM(l:List Nat):D:=.dk (l.map λ(t:Nat)=>((.inl (t:Int):Key),.bl true))
def kT(l:List (Nat×Nat)):D:=.dt (l.map λq=>([(.inl (q.1:Int):Key),.inl (q.2:Int)],.bl true))
def oM(ms:List (Str×List Nat)):List (Key×D):=ms.map λp=>(.inr p.1,kM p.2)
def oT(ts:List (Str×List (Nat×Nat))):List (Key×D):=ts.map λp=>(.inr p.1,kT p.2)
def wob(W:Wl):D:=.ob "World" [("size",.int W.n),("marked",.dk (oM W.ms)),("tied",.dk (oT W.ts))]
structure WOk (W:Wl):Prop where
 n5:W.n<=5
 m3:W.ms.length<=3
 t3:W.ts.length<=3
 mw:∀p∈W.ms,Wd p.1
 tw:∀p∈W.ts,Wd p.1
 nd:(W.ms.map (·.1)++W.ts.map (·.1)).Nodup
 ml:∀p∈W.ms,p.2.Nodup/\p.2.length<=100/\∀t∈p.2,t<W.n
 tl:∀p∈W.ts,p.2.Nodup/\p.2.length<=100/\∀q∈p.2,q.1<W.n/\q.2<W.n
def wd(W:Wl):D:=.lst [.int (W.n:Int),.dk (eM W.ms),.dk (eT W.ts)]
def lN(os:List Nat):D:=.lst (os.map iN)
def mvd(os:List Nat)(W:Wl):Wl:=⟨W.n,(W.ms.map λp=>(p.1,p.2.map λt=>os.getD t 0)).reverse,(W.ts.map λp=>(p.1,p.2.map λq=>(os.getD q.1 0,os.getD q.2 0))).reverse⟩
structure Two (c8:Int) (m:Nat) (W V:Wl) (os:List Nat):Prop where
 w:WOk W
 v:WOk V
 wn:W.n<=m
 vn:V.n<=m
 mm:(V.ms.map (·.1)).Perm (W.ms.map (·.1))
 tt:(V.ts.map (·.1)).Perm (W.ts.map (·.1))
 pm:os.Perm (av W.n)
 al:c8%4=1∨c8%4=2->V=mvd os W
def Good(ds:List D)(d:D):Prop:=∃(ns:List Int) (m:Nat) (W V:Wl) (os:List Nat),ds=[.lst .(9),.int (m:Int)]/\d=.lst [wd W,wd V,lN os]/\Two (ns.getD 8 0) m W V os
end K52
namespace K52
open PySem PySem.Spec L2 PV EX
open PyProof.Rows hiding St
noncomputable section
def c_KEPT_TEXTS:D:=(.tup ((["not","and","or","some","all"]:List Str).map .str))
def c_FACTS:D:=(.tup ((["mark","tie","same"]:List Str).map .str))
def QJ:FT:=blF (bF ltD (vF 5) (vF 1))
def QK:FE:=vF 5
def QL:FS:=putF 2 (vF 4) (BV (seqA (bF ixE (bF ixE (vF 0) .(5)) (vF 4))) (QJ) (QK))
def QM:FT:=andT (blF (bF ltD (bF ixE (vF 5) .(10)) (vF 1))) (blF (bF ltD (bF ixE (vF 5) .(5)) (vF 1)))
def QQ:FE:=vF 5
def QR:FS:=putF 3 (vF 4) (BV (seqA (bF ixE (bF ixE (vF 0) .(18)) (vF 4))) (QM) (QQ))
def Iz:FS:=seqF (ifS (blF (bF leD (bF ixE (vF 0) .(10)) (vF 1))) (retF (vF 0)) (nxF)) (seqF (setW 2 (kF (.dk []))) (seqF (setW 3 (kF (.dk []))) (seqF (forS (seqA (bF ixE (vF 0) .(5))) (BK 4) (QL)) (seqF (forS (seqA (bF ixE (vF 0) .(18))) (BK 4) (QR)) (fzS [2,3] (retF (lstF (Aa (vF 1) (Aa (vF 2) (Aa (vF 3) (nilA)))))))))))
def Ek:List D->Option D:=runF 5 2 Iz
def JX:FS:=seqF (ifS (blF (bF ltD (vF 1) (uF lenD (vF 0)))) (retF (bF ixD (vF 0) (vF 1))) (nxF)) (retF .(10))
def Ao:List D->Option D:=runF 2 2 JX
def Bo:FT:=blF (bF (eqD true) (vU 2) (lstF (nilA)))
def CK:FS:=seqF (appX 3 (popX 2 (bF modD (vF 0) (uF lenD (vU 2))))) (setF 0 (bF Dy (vF 0) (bF addD (uF lenD (vU 2)) .(5))))
def KQ:FS:=seqF (setW 2 (uF SQ (vF 1))) (seqF (setW 3 (lstF (nilA))) (seqF (Gy (Bo) (CK) 60) (fzS [3] (retF (vF 3)))))
def Hz:List D->Option D:=runF 4 2 KQ
def Fi:FE:=bF ixE (vF 1) (vF 5)
def Fj:FM:=Xi 2 (vF 4) (newX (BV (seqA (bF ixE (bF ixE (vF 0) .(5)) (vF 4))) (allT) (Fi)))
def Fl:FE:=tupF (Aa (bF ixE (vF 1) (vF 5)) (Aa (bF ixE (vF 1) (vF 6)) (nilA)))
def Fo:FM:=Xi 3 (vF 4) (newX (Xl (seqA (bF ixE (bF ixE (vF 0) .(18)) (vF 4))) (allT) (Fl)))
def HF:FM:=seqM (puM (setW 2 (kF (.dk [])))) (seqM (puM (setW 3 (kF (.dk [])))) (seqM (forM (revI (uF Ld (bF ixE (vF 0) .(5)))) (BK 4) (Fj)) (seqM (forM (revI (uF Ld (bF ixE (vF 0) .(18)))) (BK 4) (Fo)) (puM (fzS [2,3] (retF (lstF (Aa (bF ixE (vF 0) .(10)) (Aa (vF 2) (Aa (vF 3) (nilA)))))))))))
def Jm:GM:=runM 5 2 HF
def El:FS:=seqF (setF 10 (bF addD (bF addD (bF Dy (vF 3) (bF addD (vF 9) (kF (.int 3)))) (bF mulD (vF 9) (vF 9))) (bF mulD (uF intD (bF (eqD false) (vF 9) (vF 5))) (vF 7)))) (setF 8 (bF addD (vF 8) (bF ixE (vF 2) (bF modD (vF 10) (kF (.int 26))))))
def Em:FS:=seqF (setF 8 (kF (.str ""))) (seqF (forS (rngI (vF 4)) (BK 9) (El)) (seqF (ifS (blF (bF (inF false) (vF 8) (lstF (Aa (kF (.str "not")) (Aa (kF (.str "and")) (Aa (kF (.str "or")) (Aa (kF (.str "some")) (Aa (kF (.str "all")) (nilA))))))))) (setF 8 (bF addD (vF 8) (kF (.str "x")))) (nxF)) (mutF appL 6 (vF 8))))
def KR:FS:=seqF (setF 2 (kF .(6))) (seqF (setF 3 (bF modD (vF 0) (kF (.int 2147483629)))) (seqF (setF 4 (bF addD .(5) (bF modD (vF 3) (kF (.int 8))))) (seqF (setF 5 (bF modD (bF Dy (vF 3) (kF (.int 8))) (vF 4))) (seqF (setW 6 (lstF (nilA))) (seqF (forS (rngI (vF 1)) (BK 7) (Em)) (fzS [6] (retF (vF 6))))))))
def H_:List D->Option D:=runF 11 2 KR
def Du:FS:=ifS (blF (bF (eqD false) (bF modD (vF 0) (kF (.int 3))) .(10))) (mutF appL 2 (bF (eqD false) (bF modD (bF Dy (bF Dy (vF 0) (kF (.int 3))) (bF shlD .(5) (vF 4))) .(18)) .(5))) (seqF (setF 3 (bF modD (bF addD (bF addD (bF addD (bF mulD (vF 3) (vF 3)) (bF mulD (kF (.int 48271)) (vF 3))) (vF 4)) .(5)) (kF (.int 2147483629)))) (mutF appL 2 (bF (eqD false) (bF modD (bF Dy (vF 3) (kF (.int 7))) (bF mulD .(18) (bF modD (vF 0) (kF (.int 3))))) .(10))))
def Lf:FS:=seqF (setW 2 (lstF (nilA))) (seqF (setF 3 (bF modD (bF Dy (vF 0) (kF (.int 3))) (kF (.int 2147483629)))) (seqF (forS (rngI (vF 1)) (BK 4) (Du)) (fzS [2] (retF (vF 2)))))
def En:List D->Option D:=runF 5 2 Lf
def I_:FT:=trF (bF ixE (vF 9) (vF 10))
def Lg:FE:=vF 10
def JB:FT:=trF (bF ixE (vF 9) (vF 10))
def JC:FE:=tupF (Aa (bF Dy (vF 10) (vF 3)) (Aa (bF modD (vF 10) (vF 3)) (nilA)))
def Cd:FS:=ifS (blF (bF ltD (vF 8) (vF 4))) (seqF (setF 9 (Ai (En) (Aa (Ai (Ao) (Aa (vF 0) (Aa (bF addD (bF addD (vF 1) .(18)) (vF 8)) (nilA)))) (Aa (vF 3) (nilA))))) (putF 6 (bF ixE (vF 5) (vF 8)) (BV (rngI (vF 3)) (I_) (Lg)))) (seqF (setF 9 (Ai (En) (Aa (Ai (Ao) (Aa (vF 0) (Aa (bF subD (bF addD (bF addD (vF 1) (kF (.int 5))) (vF 8)) (vF 4)) (nilA)))) (Aa (bF mulD (vF 3) (vF 3)) (nilA))))) (putF 7 (bF ixE (vF 5) (vF 8)) (BV (rngI (bF mulD (vF 3) (vF 3))) (JB) (JC))))
def KY:FS:=seqF (setF 2 (Ai (Ao) (Aa (vF 0) (Aa (vF 1) (nilA))))) (seqF (setF 3 (bF ixE (lstF (Aa (bF modD (bF Dy (vF 2) (kF (.int 9))) (kF (.int 5))) (Aa (kF (.int 5)) (nilA)))) (uF intD (bF (eqD false) (bF modD (bF Dy (vF 2) (kF (.int 45))) (kF (.int 12))) (kF (.int 11)))))) (seqF (setF 4 (bF modD (vF 2) (kF (.int 4)))) (seqF (setF 5 (Ai (H_) (Aa (Ai (Ao) (Aa (vF 0) (Aa (bF addD (vF 1) .(5)) (nilA)))) (Aa (bF addD (vF 4) (bF modD (bF Dy (vF 2) (kF (.int 4))) (kF (.int 4)))) (nilA))))) (seqF (setW 6 (kF (.dk []))) (seqF (setW 7 (kF (.dk []))) (seqF (forS (rngI (uF lenE (vF 5))) (BK 8) (Cd)) (fzS [6,7] (retF (lstF (Aa (vF 3) (Aa (vF 6) (Aa (vF 7) (nilA)))))))))))))
def GR:List D->Option D:=runF 10 2 KY
def HH:FM:=seqM (puM (setF 2 (uF U8 (bF ixE (vF 0) .(5))))) (seqM (puM (ifS (andT (blF (bF (eqF true) (vF 2) (lstF (nilA)))) (andT (blF (bF gtD (bF ixE (vF 0) .(10)) .(10))) (orT (blF (bF (eqF false) (bF modD (vF 1) .(18)) .(10))) (blF (bF (eqF false) (bF ixE (vF 0) .(18)) (kF (.dk []))))))) (seqF (setF 3 (bF modD (bF Dy (vF 1) .(18)) (bF ixE (vF 0) .(10)))) (setF 4 (bF ixE (vF 2) (bF modD (bF Dy (vF 1) (kF (.int 10))) (uF lenE (vF 2)))))) (ifS (andT (blF (bF (eqF true) (bF ixE (vF 0) .(18)) (kF (.dk [])))) (blF (bF gtD (bF ixE (vF 0) .(10)) .(10)))) (seqF (setF 2 (uF U8 (bF ixE (vF 0) .(18)))) (seqF (setF 3 (tupF (Aa (bF modD (bF Dy (vF 1) .(18)) (bF ixE (vF 0) .(10))) (Aa (bF modD (bF Dy (vF 1) (kF (.int 10))) (bF ixE (vF 0) .(10))) (nilA))))) (setF 4 (bF ixE (vF 2) (bF modD (bF Dy (vF 1) (kF (.int 50))) (uF lenE (vF 2))))))) (retN)))) (ifM [4] (blF (bF (inF false) (vF 3) (vU 4))) (U5 (mutX 4 [] remM (Aa (vF 3) (nilA)))) (U5 (mutX 4 [] appM (Aa (vF 3) (nilA))))))
def Jo:GM:=runM 5 2 HH
def JD:FT:=trF (bF ixE (vF 9) (vF 10))
def Lh:FE:=vF 10
def GX:FS:=seqF (setF 7 (bF addD (vF 7) .(5))) (seqF (setF 9 (Ai (En) (Aa (Ai (Ao) (Aa (vF 0) (Aa (vF 7) (nilA)))) (Aa (vF 4) (nilA))))) (putF 5 (vF 8) (BV (rngI (vF 4)) (JD) (Lh))))
def JF:FT:=trF (bF ixE (vF 9) (vF 10))
def JG:FE:=tupF (Aa (bF Dy (vF 10) (vF 4)) (Aa (bF modD (vF 10) (vF 4)) (nilA)))
def GZ:FS:=seqF (setF 7 (bF addD (vF 7) .(5))) (seqF (setF 9 (Ai (En) (Aa (Ai (Ao) (Aa (vF 0) (Aa (vF 7) (nilA)))) (Aa (bF mulD (vF 4) (vF 4)) (nilA))))) (putF 6 (vF 8) (BV (rngI (bF mulD (vF 4) (vF 4))) (JF) (JG))))
def KZ:FS:=seqF (setF 4 (bF ixE (lstF (Aa (bF ixE (vF 2) .(10)) (Aa (bF modD (bF Dy (Ai (Ao) (Aa (vF 0) (Aa (vF 1) (nilA)))) (kF (.int 8))) (bF addD (vF 3) .(5))) (nilA)))) (bF modD (bF Dy (Ai (Ao) (Aa (vF 0) (Aa (vF 1) (nilA)))) (kF (.int 4))) .(18)))) (seqF (setW 5 (kF (.dk []))) (seqF (setW 6 (kF (.dk []))) (seqF (setF 7 (vF 1)) (seqF (forS (seqA (bF ixE (vF 2) .(5))) (BK 8) (GX)) (seqF (forS (seqA (bF ixE (vF 2) .(18))) (BK 8) (GZ)) (fzS [5,6] (retF (lstF (Aa (vF 4) (Aa (vF 5) (Aa (vF 6) (nilA))))))))))))
def Ga:List D->Option D:=runF 10 4 KZ
def Dg:FM:=seqM (puM (setF 2 (Ai (Ek) (Aa (Ai (GR) (Aa (vF 0) (Aa .(10) (nilA)))) (Aa (vF 1) (nilA)))))) (seqM (puM (setF 3 (Ai (Ao) (Aa (vF 0) (Aa (kF (.int 8)) (nilA)))))) (seqM (puM (setF 4 (Ai (Hz) (Aa (Ai (Ao) (Aa (vF 0) (Aa (kF (.int 15)) (nilA)))) (Aa (bF ixE (vF 2) .(10)) (nilA)))))) (seqM (puM (ifS (blF (bF (eqD false) (bF modD (vF 3) (kF (.int 4))) .(10))) (retF (lstF (Aa (vF 2) (Aa (Ai (Ga) (Aa (vF 0) (Aa (kF (.int 8)) (Aa (vF 2) (Aa (vF 1) (nilA)))))) (Aa (vF 4) (nilA)))))) (nxF))) (seqM (j6 5 (calX (Jm) (Aa (vF 2) (Aa (vF 4) (nilA))))) (seqM (ifM [] (blF (bF (eqD false) (bF modD (vF 3) (kF (.int 4))) (kF (.int 3)))) (U5 (calX (Jo) (Aa (vF 5) (Aa (Ai (Ao) (Aa (vF 0) (Aa (kF (.int 16)) (nilA)))) (nilA))))) (nxM)) (frzM 3 (puM (retF (lstF (Aa (vF 2) (Aa (vF 5) (Aa (vF 4) (nilA)))))))))))))
def JH:List D->Option D:=theD (runM 6 2 Dg) Good
def JK:FS:=ifS (blF (bF gtD (vF 0) (vF 1))) (badF) (nxF)
def Bp:List D->Option D:=runF 2 2 JK
def Gb:FS:=ifS (orT (blF (bF ltD (vF 1) .(10))) (blF (bF geD (vF 1) (vF 0)))) (badF) (nxF)
def Bq:List D->Option D:=runF 2 2 Gb
def Fp:FS:=seqF (HR (Ai (Bq) (Aa (vF 0) (Aa (vF 3) (nilA))))) (putF 2 (vF 3) (kF (.bl true)))
def Jp:FS:=seqF (setW 2 (kF (.dk []))) (seqF (forS (seqA (vF 1)) (BK 3) (Fp)) (fzS [2] (retF (vF 2))))
def Dv:List D->Option D:=runF 4 2 Jp
def Gd:FS:=seqF (HR (Ai (Bq) (Aa (vF 0) (Aa (vF 3) (nilA))))) (seqF (HR (Ai (Bq) (Aa (vF 0) (Aa (vF 4) (nilA))))) (XS 2 (Aa (vF 3) (Aa (vF 4) (nilA))) (kF (.bl true))))
def Ka:FS:=seqF (setW 2 (kF (.dt []))) (seqF (forS (seqA (vF 1)) (tupG 2 (By 3 (By 4 (nilG)))) (Gd)) (fzS [2] (retF (vF 2))))
def Eu:List D->Option D:=runF 5 2 Ka
def HY:FE:=bF (inF false) (vF 1) (kF .(6))
def QS:FS:=seqF (ifS (orT (blF (bF (inF false) (vF 0) (kF c_KEPT_TEXTS))) (orT (blF (bF (eqD false) (uF lenE (vF 0)) .(10))) (blF (bF gtD (uF lenE (vF 0)) (kF (.int 8)))))) (retF (kF .(8))) (nxF)) (retF (uF allD (BV (seqA (vF 0)) (allT) (HY))))
def Ew:List D->Option D:=runF 1 1 QS
def Ce:FEs:=Iv (ifE (R_ (notT (trF (Ai (Ew) (Aa (vF 4) (nilA))))))) (Qk "marked" (vF 4) (Ai (Dv) (Aa (vF 1) (Aa (vF 5) (nilA)))))
def Cg:FEs:=Iv (ifE (orTE (R_ (notT (trF (Ai (Ew) (Aa (vF 4) (nilA)))))) (inTE "marked" (vF 4)))) (Qk "tied" (vF 4) (Ai (Eu) (Aa (vF 1) (Aa (vF 6) (nilA)))))
def G6:FEs:=Iv (pureE (HR (Ai (Bp) (Aa (vF 1) (Aa (kF (.int 5)) (nilA)))))) (Iv (pureE (HR (Ai (Bp) (Aa (uF lenE (vF 2)) (Aa (kF (.int 3)) (nilA)))))) (Iv (pureE (HR (Ai (Bp) (Aa (uF lenE (vF 3)) (Aa (kF (.int 3)) (nilA)))))) (Iv (aG "size" (vF 1)) (Iv (Qj "marked" (kF (.dk []))) (Iv (Qj "tied" (kF (.dk []))) (Iv (forE (QB (vF 2)) (tupG 2 (By 4 (By 5 (nilG)))) (Ce)) (Iv (forE (QB (vF 3)) (tupG 2 (By 4 (By 6 (nilG)))) (Cg)) (nilE))))))))
def Bv:Addr->List D->Option Ef:=runI 7 4 G6
def Li:FS:=retF (bF dzD (kF .(6)) (vF 0))
def JZ:List D->Option D:=runF 1 1 Li
def JL:FS:=seqF (ifS (blF (bF (eqD false) (bF ixE (vF 0) .(10)) (kF (.str "same")))) (retF (slF (vF 0) (someO .(5)) (noO))) (nxF)) (retF (slF (vF 0) (someO .(18)) (noO)))
def Fw:List D->Option D:=runF 1 1 JL
def Kc:FS:=seqF (ifS (blF (bF (inF false) (bF ixE (vF 0) .(10)) (kF c_FACTS))) (retF (uF ssD (Ai (Fw) (Aa (vF 0) (nilA))))) (nxF)) (seqF (badF) (seqF (badF) (seqF (badF) (badF))))
def IK:List D->Option D:=runF 3 1 Kc
def DQ:FS:=ifS (blF (bF (inF true) (vF 3) (vF 2))) (badF) (nxF)
def DR:FS:=HR (Ai (Bq) (Aa (uF (fldD "size") (vF 0)) (Aa (bF ixE (vF 2) (vF 3)) (nilA))))
def Ge:FS:=seqF (forS (seqA (vF 1)) (BK 3) (DQ)) (forS (seqA (vF 1)) (BK 3) (DR))
def D_:List D->Option D:=runF 4 3 Ge
def Kd:FS:=seqF (ifS (blF (bF (inF false) (bF ixE (vF 0) .(10)) (kF c_FACTS))) (retF (tupF (nilA))) (nxF)) (seqF (badF) (badF))
def IV:List D->Option D:=runF 1 1 Kd
def Jq:FS:=badF
def Br:FS:=seqF (ifS (andT (blF (bF (eqD false) (bF ixE (vF 1) .(10)) (kF (.str "mark")))) (blF (bF (inF true) (bF ixE (vF 1) .(5)) (uF (fldD "marked") (vF 0))))) (badF) (nxF)) (seqF (ifS (andT (blF (bF (eqD false) (bF ixE (vF 1) .(10)) (kF (.str "tie")))) (blF (bF (inF true) (bF ixE (vF 1) .(5)) (uF (fldD "tied") (vF 0))))) (badF) (nxF)) (forS (seqA (Ai (IV) (Aa (vF 1) (nilA)))) (BK 2) (Jq)))
def Ba:List D->Option D:=runF 3 2 Br
def Gf:FE:=tupF (Aa (vF 2) (Aa (vF 2) (nilA)))
def Ke:FE:=tupF (Aa (vF 2) (Aa (vF 2) (nilA)))
def JM:FS:=seqF (ifS (blF (bF (eqD false) (bF ixE (vF 1) .(10)) (kF (.str "mark")))) (retF (BV (seqA (bF ixE (uF (fldD "marked") (vF 0)) (bF ixE (vF 1) .(5)))) (allT) (Gf))) (nxF)) (seqF (ifS (blF (bF (eqD false) (bF ixE (vF 1) .(10)) (kF (.str "same")))) (retF (BV (rngI (uF (fldD "size") (vF 0))) (allT) (Ke))) (nxF)) (retF (uF Ld (bF ixE (uF (fldD "tied") (vF 0)) (bF ixE (vF 1) .(5))))))
def G7:List D->Option D:=runF 2 2 JM
def Gg:FS:=setF 6 (bF borD (vF 6) (bF fu (bF ixE (vF 4) (vF 7)) (bF ixE (vF 5) (vF 8))))
def Kf:FS:=seqF (setF 3 (Ai (Fw) (Aa (vF 1) (nilA)))) (seqF (setF 4 (bF ixE (vF 2) (bF ixE (vF 3) .(10)))) (seqF (setF 5 (bF ixE (vF 2) (bF ixE (vF 3) (uF negD .(5))))) (seqF (setF 6 .(10)) (seqF (forS (seqA (Ai (G7) (Aa (vF 0) (Aa (vF 1) (nilA))))) (tupG 2 (By 7 (By 8 (nilG)))) (Gg)) (retF (vF 6))))))
def IW:List D->Option D:=runF 9 3 Kf
def NQ:FS:=seqF (ifS (blF (bF (inF false) (bF ixE (vF 1) .(10)) (kF c_FACTS))) (retF (Ai (IW) (Aa (vF 0) (Aa (vF 1) (Aa (vF 2) (nilA)))))) (nxF)) (seqF (badF) (seqF (badF) (seqF (badF) (seqF (badF) (seqF (badF) (badF))))))
def Kg:List D->Option D:=runF 6 4 NQ
def MP:FE:=ifF (blF (bF (eqD false) (vF 7) (bF ixE (vF 3) (vF 6)))) .(5) .(10)
def MT:FS:=putF 5 (vF 6) (BV (rngI (uF (fldD "size") (vF 0))) (allT) (MP))
def V9:FS:=seqF (setF 3 (ifF (blF (uF (isND false) (vF 2))) (kF (.dk [])) (vF 2))) (seqF (setF 4 (Ai (IK) (Aa (vF 1) (nilA)))) (seqF (HR (Ai (D_) (Aa (vF 0) (Aa (vF 4) (Aa (vF 3) (nilA)))))) (seqF (HR (Ai (Ba) (Aa (vF 0) (Aa (vF 1) (nilA))))) (seqF (setW 5 (kF (.dk []))) (seqF (forS (seqA (vF 4)) (BK 6) (MT)) (fzS [5] (retF (bF (eqD false) (Ai (Kg) (Aa (vF 0) (Aa (vF 1) (Aa (vF 5) (Aa .(5) (nilA)))))) .(5)))))))))
def Ot:List D->Option D:=runF 7 3 V9
def NT:FS:=retF (ifF (trF (Ai (Ot) (Aa (vF 0) (Aa (vF 1) (Aa (vF 2) (nilA)))))) (vF 1) (tupF (Aa (kF (.str "not")) (Aa (vF 1) (nilA)))))
def Kh:List D->Option D:=runF 3 3 NT
def Lj(rec_halved:List D->Option D):FS:=seqF (ifS (blF (bF (eqD false) (uF lenE (vF 1)) .(5))) (retF (bF ixE (vF 1) .(10))) (nxF)) (seqF (setF 2 (bF Dy (uF lenE (vF 1)) .(18))) (retF (tupF (Aa (vF 0) (Aa (Ai (rec_halved) (Aa (vF 0) (Aa (slF (vF 1) (noO) (someO (vF 2))) (nilA)))) (Aa (Ai (rec_halved) (Aa (vF 0) (Aa (slF (vF 1) (someO (vF 2)) (noO)) (nilA)))) (nilA)))))))
def Ha:Nat->List D->Option D
 |0=>λ_=>none
 |n+1=>runF 3 2 (Lj (Ha n))
def Ou:FS:=seqF (ifS (blF (bF gtD (uF lenE (vF 1)) .(10))) (retF (Ai (Ha 8) (Aa (vF 0) (Aa (vF 1) (nilA))))) (nxF)) (seqF (setF 3 (tupF (Aa (kF (.str "same")) (Aa (vF 2) (Aa (vF 2) (nilA)))))) (retF (ifF (blF (bF (eqD false) (vF 0) (kF (.str "both")))) (vF 3) (tupF (Aa (kF (.str "not")) (Aa (vF 3) (nilA)))))))
def Hh:List D->Option D:=runF 4 3 Ou
def Gh:FS:=retF (uF sdkD (uF (fldD "tied") (vF 0)))
def Cw:List D->Option D:=runF 1 1 Gh
def Fx:FS:=retF (uF sdkD (uF (fldD "marked") (vF 0)))
def Bw:List D->Option D:=runF 1 1 Fx
def Gi:FE:=tupF (Aa (kF (.str "same")) (Aa (vF 6) (Aa (vF 2) (nilA))))
def Gj:FE:=tupF (Aa (kF (.str "mark")) (Aa (vF 6) (Aa (vF 2) (nilA))))
def EY:FS:=seqF (mutF appL 3 (tupF (Aa (kF (.str "tie")) (Aa (vF 4) (Aa (vF 5) (Aa (vF 2) (nilA))))))) (mutF appL 3 (tupF (Aa (kF (.str "tie")) (Aa (vF 4) (Aa (vF 2) (Aa (vF 5) (nilA)))))))
def Ea:FS:=seqF (mutF appL 3 (tupF (Aa (kF (.str "tie")) (Aa (vF 4) (Aa (vF 2) (Aa (vF 2) (nilA))))))) (forS (seqA (slF (vF 1) (noO) (someO (uF negD .(5))))) (BK 5) (EY))
def Hn:FS:=seqF (setF 2 (bF ixE (vF 1) (uF negD .(5)))) (seqF (setW 3 (BV (seqA (slF (vF 1) (noO) (someO (uF negD .(5))))) (allT) (Gi))) (seqF (mutF extL 3 (BV (seqA (J1 "World" "mark_words" (Bw) (vF 0) nilA)) (allT) (Gj))) (seqF (forS (seqA (J1 "World" "tie_words" (Cw) (vF 0) nilA)) (BK 4) (Ea)) (fzS [3] (retF (vF 3))))))
def Dp:List D->Option D:=runF 6 2 Hn
def E_(rec_portrait_behind:List D->Option D):FE:=tupF (Aa (kF (.str "same")) (Aa (vF 2) (Aa (vF 5) (nilA))))
def FJ(rec_portrait_behind:List D->Option D):FE:=Ai (Kh) (Aa (vF 0) (Aa (vF 5) (Aa (vF 3) (nilA))))
def Eb(rec_portrait_behind:List D->Option D):FS:=seqF (setF 2 (bF ixE (kF .(6)) (vF 1))) (seqF (ifS (blF (bF (eqD false) (vF 1) (uF (fldD "size") (vF 0)))) (retF (tupF (Aa (kF (.str "all")) (Aa (vF 2) (Aa (Ai (Hh) (Aa (kF (.str "either")) (Aa (BV (seqA (slF (kF .(6)) (noO) (someO (vF 1)))) (allT) ((E_ rec_portrait_behind))) (Aa (vF 2) (nilA))))) (nilA)))))) (nxF)) (seqF (setF 3 (Ai (JZ) (Aa (uF SQ (bF addD (vF 1) .(5))) (nilA)))) (seqF (setF 4 (BV (seqA (Ai (Dp) (Aa (vF 0) (Aa (slF (kF .(6)) (noO) (someO (bF addD (vF 1) .(5)))) (nilA))))) (allT) ((FJ rec_portrait_behind)))) (retF (tupF (Aa (kF (.str "some")) (Aa (vF 2) (Aa (Ai (Hh) (Aa (kF (.str "both")) (Aa (bF addD (vF 4) (lstF (Aa (Ai (rec_portrait_behind) (Aa (vF 0) (Aa (bF addD (vF 1) .(5)) (nilA)))) (nilA)))) (Aa (vF 2) (nilA))))) (nilA)))))))))
def A_:Nat->List D->Option D
 |0=>λ_=>none
 |n+1=>runF 5 2 (Eb (A_ n))
def NZ:FS:=retF (Ai (A_ 7) (Aa (vF 0) (Aa .(10) (nilA))))
def G8:List D->Option D:=runF 1 1 NZ
def Gk:FT:=andT (trF (uF (isiD "str") (vF 2))) (andT (blF (bF (eqD false) (uF lenE (vF 2)) .(5))) (blF (bF (inF false) (vF 2) (vF 1))))
def Gm:FE:=vF 2
def Kl:FS:=seqF (setF 1 (kF .(6))) (retF (bF (eqD false) (uF lenE (BV (seqA (vF 0)) (Gk) (Gm))) (uF lenE (vF 0))))
def Ex:List D->Option D:=runF 2 1 Kl
def Gn:FS:=seqF (setF 2 (slF (vF 0) (someO .(18)) (noO))) (seqF (ifS (blF (bF (eqD false) (bF ixE (vF 0) .(10)) (kF (.str "same")))) (setF 2 (slF (vF 0) (someO .(5)) (noO))) (nxF)) (seqF (ifS (andT (blF (bF (eqD false) (bF ixE (vF 0) .(10)) (kF (.str "mark")))) (orT (notT (trF (uF (isiD "str") (bF ixE (vF 0) .(5))))) (blF (bF (inF true) (bF ixE (vF 0) .(5)) (bF ixE (vF 1) .(5)))))) (retF (kF .non)) (nxF)) (seqF (ifS (andT (blF (bF (eqD false) (bF ixE (vF 0) .(10)) (kF (.str "tie")))) (orT (notT (trF (uF (isiD "str") (bF ixE (vF 0) .(5))))) (blF (bF (inF true) (bF ixE (vF 0) .(5)) (bF ixE (vF 1) .(18)))))) (retF (kF .non)) (nxF)) (seqF (ifS (orT (blF (bF (eqD true) (uF lenE (vF 2)) (bF subD .(18) (uF intD (bF (eqD false) (bF ixE (vF 0) .(10)) (kF (.str "mark"))))))) (notT (trF (Ai (Ex) (Aa (vF 2) (nilA)))))) (retF (kF .non)) (nxF)) (retF (lstF (Aa .(10) (Aa .(5) (Aa .(5) (Aa (uF Ld (vF 2)) (nilA)))))))))))
def Ey:List D->Option D:=runF 3 2 Gn
def Cm(rec__law_walked:List D->Option D):FS:=seqF (setF 6 (Ai (rec__law_walked) (Aa (vF 5) (Aa (vF 1) (nilA))))) (seqF (ifS (blF (uF (isND false) (vF 6))) (retF (kF .non)) (nxF)) (setF 4 (lstF (Aa (bF maxD (bF ixE (vF 4) .(10)) (bF ixE (vF 6) .(10))) (Aa (bF addD (bF ixE (vF 4) .(5)) (bF ixE (vF 6) .(5))) (Aa (bF maxD (bF ixE (vF 4) .(18)) (bF ixE (vF 6) .(18))) (Aa (bF addD (bF ixE (vF 4) (kF (.int 3))) (bF ixE (vF 6) (kF (.int 3)))) (nilA))))))))
def Fq(rec__law_walked:List D->Option D):FT:=orT (notT (trF (vF 3))) (blF (bF (eqD true) (vF 8) (bF ixE (vF 0) .(5))))
def Ho(rec__law_walked:List D->Option D):FE:=vF 8
def CZ(rec__law_walked:List D->Option D):FS:=seqF (ifS (orT (notT (trF (uF (isiD "tuple") (vF 0)))) (blF (bF ltD (uF lenE (vF 0)) .(18)))) (retF (kF .non)) (nxF)) (seqF (setF 2 (bF ixE (vF 0) .(10))) (seqF (ifS (blF (bF (inF false) (vF 2) (lstF (Aa (kF (.str "mark")) (Aa (kF (.str "tie")) (Aa (kF (.str "same")) (nilA))))))) (retF (Ai (Ey) (Aa (vF 0) (Aa (vF 1) (nilA))))) (nxF)) (seqF (setF 3 (andF (bF (inF false) (vF 2) (lstF (Aa (kF (.str "some")) (Aa (kF (.str "all")) (nilA))))) (Ai (Ex) (Aa (slF (vF 0) (someO .(5)) (someO .(18))) (nilA))))) (seqF (ifS (orT (andT (notT (trF (vF 3))) (blF (bF (inF true) (vF 2) (lstF (Aa (kF (.str "not")) (Aa (kF (.str "both")) (Aa (kF (.str "either")) (nilA)))))))) (blF (bF (eqD true) (uF lenE (vF 0)) (bF subD (kF (.int 3)) (uF intD (bF (eqD false) (vF 2) (kF (.str "not")))))))) (retF (kF .non)) (nxF)) (seqF (setF 4 (lstF (Aa .(10) (Aa .(5) (Aa .(10) (Aa (lstF (nilA)) (nilA))))))) (seqF (forS (seqA (slF (vF 0) (someO (bF addD .(5) (uF intD (vF 3)))) (noO))) (BK 5) ((Cm rec__law_walked))) (seqF (setF 7 (BV (seqA (bF ixE (vF 4) (kF (.int 3)))) ((Fq rec__law_walked)) ((Ho rec__law_walked)))) (retF (lstF (Aa (bF addD (bF ixE (vF 4) .(10)) (uF intD (vF 3))) (Aa (bF ixE (vF 4) .(5)) (Aa (bF addD (bF ixE (vF 4) .(18)) .(5)) (Aa (vF 7) (nilA))))))))))))))
def Aj:Nat->List D->Option D
 |0=>λ_=>none
 |n+1=>runF 8 2 (CZ (Aj n))
def Hi(rec__law_so:List D->Option D):FS:=seqF (setW 5 (uF aB (vF 2))) (seqF (putF 5 (bF ixE (vF 1) .(5)) (vF 4)) (fzS [5] (ifS (blF (bF (eqD false) (Ai (rec__law_so) (Aa (vF 0) (Aa (bF ixE (vF 1) .(18)) (Aa (vF 5) (nilA))))) (bF (eqD false) (vF 3) (kF (.str "some"))))) (retF (bF (eqD false) (vF 3) (kF (.str "some")))) (nxF))))
def Fz(rec__law_so:List D->Option D):FS:=seqF (setF 3 (bF ixE (vF 1) .(10))) (seqF (ifS (blF (bF (eqD false) (vF 3) (kF (.str "mark")))) (retF (bF (inF false) (bF ixE (vF 2) (bF ixE (vF 1) .(18))) (bF ixE (bF ixE (vF 0) .(5)) (bF ixE (vF 1) .(5))))) (nxF)) (seqF (ifS (blF (bF (eqD false) (vF 3) (kF (.str "tie")))) (retF (bF (inF false) (tupF (Aa (bF ixE (vF 2) (bF ixE (vF 1) .(18))) (Aa (bF ixE (vF 2) (bF ixE (vF 1) (kF (.int 3)))) (nilA)))) (bF ixE (bF ixE (vF 0) .(18)) (bF ixE (vF 1) .(5))))) (nxF)) (seqF (ifS (blF (bF (eqD false) (vF 3) (kF (.str "same")))) (retF (bF (eqD false) (bF ixE (vF 2) (bF ixE (vF 1) .(5))) (bF ixE (vF 2) (bF ixE (vF 1) .(18))))) (nxF)) (seqF (ifS (blF (bF (eqD false) (vF 3) (kF (.str "not")))) (retF (notF (Ai (rec__law_so) (Aa (vF 0) (Aa (bF ixE (vF 1) .(5)) (Aa (vF 2) (nilA))))))) (nxF)) (seqF (ifS (blF (bF (eqD false) (vF 3) (kF (.str "both")))) (retF (andF (Ai (rec__law_so) (Aa (vF 0) (Aa (bF ixE (vF 1) .(5)) (Aa (vF 2) (nilA))))) (Ai (rec__law_so) (Aa (vF 0) (Aa (bF ixE (vF 1) .(18)) (Aa (vF 2) (nilA))))))) (nxF)) (seqF (ifS (blF (bF (eqD false) (vF 3) (kF (.str "either")))) (retF (orF (Ai (rec__law_so) (Aa (vF 0) (Aa (bF ixE (vF 1) .(5)) (Aa (vF 2) (nilA))))) (Ai (rec__law_so) (Aa (vF 0) (Aa (bF ixE (vF 1) .(18)) (Aa (vF 2) (nilA))))))) (nxF)) (seqF (forS (rngI (bF ixE (vF 0) .(10))) (BK 4) ((Hi rec__law_so))) (retF (bF (eqD false) (vF 3) (kF (.str "all")))))))))))
def Bh:Nat->List D->Option D
 |0=>λ_=>none
 |n+1=>runF 6 3 (Fz (Bh n))
def Eo:FS:=mutF appL 3 (bF (inF false) (vF 1) (bF ixE (bF ixE (vF 0) .(5)) (vF 4)))
def Gp:FS:=setW 3 (bF catD (vU 3) (lstF (Aa (bF (inF false) (tupF (Aa (vF 1) (Aa (vF 2) (nilA)))) (bF ixE (bF ixE (vF 0) .(18)) (vF 4))) (Aa (bF (inF false) (tupF (Aa (vF 2) (Aa (vF 1) (nilA)))) (bF ixE (bF ixE (vF 0) .(18)) (vF 4))) (nilA)))))
def Km:FS:=seqF (setW 3 (lstF (Aa (bF (eqD false) (vF 1) (vF 2)) (nilA)))) (seqF (forS (seqA (uF sdkD (bF ixE (vF 0) .(5)))) (BK 4) (Eo)) (seqF (forS (seqA (uF sdkD (bF ixE (vF 0) .(18)))) (BK 4) (Gp)) (fzS [3] (retF (vF 3)))))
def Gq:List D->Option D:=runF 5 3 Km
def Hq:FS:=ifS (blF (bF (eqD true) (Ai (Gq) (Aa (vF 0) (Aa (bF ixE (vF 4) .(10)) (Aa (bF ixE (vF 3) .(10)) (nilA))))) (Ai (Gq) (Aa (vF 1) (Aa (bF ixE (vF 4) .(5)) (Aa (bF ixE (vF 3) .(5)) (nilA))))))) (retF (kF .(8))) (nxF)
def Jr:FS:=seqF (forS (seqA (bF addD (vF 2) (lstF (Aa (vF 3) (nilA))))) (BK 4) (Hq)) (retF (kF (.bl true)))
def Fb:List D->Option D:=runF 5 4 Jr
def Ko(rec__law_any:List D->Option D):FE:=bF ixE (vF 6) .(5)
def Ia(rec__law_any:List D->Option D):FS:=ifS (andT (blF (bF (inF true) (vF 5) (vF 4))) (trF (Ai (Fb) (Aa (vF 0) (Aa (vF 1) (Aa (vF 2) (Aa (tupF (Aa (vF 3) (Aa (vF 5) (nilA)))) (nilA)))))))) (ifS (trF (Ai (rec__law_any) (Aa (vF 0) (Aa (vF 1) (Aa (bF addD (vF 2) (lstF (Aa (tupF (Aa (vF 3) (Aa (vF 5) (nilA)))) (nilA)))) (nilA)))))) (retF (kF (.bl true))) (nxF)) (nxF)
def Kp(rec__law_any:List D->Option D):FS:=seqF (setF 3 (uF lenE (vF 2))) (seqF (ifS (blF (bF (eqD false) (vF 3) (bF ixE (vF 0) .(10)))) (retF (kF (.bl true))) (nxF)) (seqF (setF 4 (BV (seqA (vF 2)) (allT) ((Ko rec__law_any)))) (seqF (forS (rngI (bF ixE (vF 1) .(10))) (BK 5) ((Ia rec__law_any))) (retF (kF .(8))))))
def CT:Nat->List D->Option D
 |0=>λ_=>none
 |n+1=>runF 6 3 (Kp (CT n))
def aj:FS:=seqF (asgF (Ai (JH) (Aa (vF 0) (Aa (kF (.int 5)) (nilA)))) (tupG 3 (By 1 (By 2 (By 3 (nilG)))))) (seqF (setF 4 (mkI "World" (Bv) (Aa (bF ixE (vF 1) .(10)) (Aa (bF ixE (vF 1) .(5)) (Aa (bF ixE (vF 1) .(18)) (nilA)))))) (seqF (setF 5 (Ai (G8) (Aa (vF 4) (nilA)))) (seqF (setF 6 (Ai (Aj 60) (Aa (vF 5) (Aa (vF 1) (nilA))))) (seqF (ifS (orT (blF (uF (isND false) (vF 6))) (orT (blF (bF gtD (bF ixE (vF 6) .(10)) (bF addD (bF ixE (vF 1) .(10)) .(5)))) (orT (blF (bF gtD (bF ixE (vF 6) .(5)) (kF (.int 4000)))) (orT (blF (bF gtD (bF ixE (vF 6) .(18)) (kF (.int 60)))) (blF (bF (eqD true) (bF ixE (vF 6) (kF (.int 3))) (lstF (nilA)))))))) (retF (kF .(8))) (nxF)) (seqF (ifS (notT (trF (Ai (Bh 60) (Aa (vF 1) (Aa (vF 5) (Aa (kF (.dk [])) (nilA))))))) (retF (kF .(8))) (nxF)) (seqF (setF 7 (andF (bF (eqD false) (bF ixE (vF 1) .(10)) (bF ixE (vF 2) .(10))) (Ai (CT 7) (Aa (vF 1) (Aa (vF 2) (Aa (lstF (nilA)) (nilA))))))) (seqF (ifS (blF (bF (eqD true) (Ai (Bh 60) (Aa (vF 2) (Aa (vF 5) (Aa (kF (.dk [])) (nilA))))) (vF 7))) (retF (kF .(8))) (nxF)) (seqF (setF 8 (Ai (G8) (Aa (mkI "World" (Bv) (Aa (bF ixE (vF 2) .(10)) (Aa (bF ixE (vF 2) .(5)) (Aa (bF ixE (vF 2) .(18)) (nilA))))) (nilA)))) (retF (andF (Ai (Bh 60) (Aa (vF 2) (Aa (vF 8) (Aa (kF (.dk [])) (nilA))))) (bF (eqD false) (Ai (G8) (Aa (vF 4) (nilA))) (vF 5))))))))))))
def ak:List D->Option D:=runF 9 1 aj
end
def top(i:Nat):Stmt:=PySem.Challenge.pw_twinrounds_k52_portraits.main.body.getD i (.Pass ⟨0,0,0,0⟩)
abbrev Gr:Stmt:=top 51
abbrev Qo:Stmt:=top 44
abbrev Ov:Stmt:=top 48
abbrev HJ:Stmt:=top 49
abbrev Ow:Stmt:=top 46
abbrev Qp:Stmt:=top 45
abbrev Ib:Stmt:=top 47
abbrev Mp:Stmt:=top 52
abbrev Ie:Stmt:=top 50
abbrev Sh:Stmt:=top 53
abbrev Lk:Stmt:=top 14
abbrev Ja:Stmt:=top 15
abbrev Mq:Stmt:=top 16
abbrev Ox:Stmt:=top 17
abbrev QT:Stmt:=top 13
abbrev J2:Stmt:=inClass (top 18) 0
abbrev Qq:Stmt:=top 39
abbrev Sq:Stmt:=top 23
abbrev Oz:Stmt:=top 24
abbrev Jb:Stmt:=top 25
abbrev O1:Stmt:=top 22
abbrev Gs:Stmt:=top 26
abbrev Kq:Stmt:=top 29
abbrev O2:Stmt:=top 30
abbrev Ss:Stmt:=top 33
abbrev V_:Stmt:=top 34
abbrev Su:Stmt:=top 40
abbrev Xm:Stmt:=top 36
abbrev Xn:Stmt:=top 37
abbrev Jc:Stmt:=inClass (top 18) 4
abbrev JN:Stmt:=inClass (top 18) 3
abbrev Ft:Stmt:=top 38
abbrev Ec:Stmt:=top 41
abbrev Sv:Stmt:=top 42
abbrev Kr:Stmt:=top 57
abbrev O3:Stmt:=top 58
abbrev Js:Stmt:=top 59
abbrev U9:Stmt:=top 56
abbrev O4:Stmt:=top 54
abbrev Mr:Stmt:=top 60
abbrev Nb:Stmt:=top 61
abbrev t8:Stmt:=top 62
set_option genInjectivity false in
structure Tx (G:Gx) (mg:Str->Option ac) where
 C_World:Addr
 gc_World:G.cl "World"=some C_World
 cl_World:Cls G.K C_World
 mC_World:mg "World"=some (.ref C_World)
 x__law_trimmed:Dx G.K mg "_law_trimmed" Gr ["_law_world_here","_law_most"]
 x__law_cell:Dx G.K mg "_law_cell" Qo ["_law_script","_law_k"]
 x__law_order:Dx G.K mg "_law_order" Ov ["_law_cell_here","_law_size"]
 x__law_copied:Dx G.K mg "_law_copied" HJ ["_law_one","_law_order_here"]
 x__law_words:Dx G.K mg "_law_words" Ow ["_law_cell_here","_law_many"]
 x__law_bits:Dx G.K mg "_law_bits" Qp ["_law_cell_here","_law_many"]
 x__law_world:Dx G.K mg "_law_world" Ib ["_law_script","_law_start"]
 x__law_turned:Dx G.K mg "_law_turned" Mp ["_law_world_here","_law_cell_here"]
 x__law_other:Dx G.K mg "_law_other" Ie ["_law_script","_law_start","_law_one","_law_most"]
 x__law_two:Dx G.K mg "_law_two" Sh ["_law_script","_law_most"]
 x_refuse_above:Dx G.K mg "refuse_above" Lk ["number","most"]
 x_refuse_no_thing:Dx G.K mg "refuse_no_thing" Ja ["size","thing"]
 x_kept_things:Dx G.K mg "kept_things" Mq ["size","things"]
 x_kept_pairs:Dx G.K mg "kept_pairs" Ox ["size","pairs"]
 x_is_word:Dx G.K mg "is_word" QT ["text"]
 x_World___init__:Ix G.K C_World "World.__init__" J2 ["self","size","marks","ties"]
 x_places_of:Dx G.K mg "places_of" Qq ["things"]
 x_names_in:Dx G.K mg "names_in" Sq ["fact"]
 x_free_names:Dx G.K mg "free_names" Oz ["saying"]
 x_refuse_unplaced:Dx G.K mg "refuse_unplaced" Jb ["world","names","places"]
 x_sayings_in:Dx G.K mg "sayings_in" O1 ["saying"]
 x_refuse_strange_words:Dx G.K mg "refuse_strange_words" Gs ["world","saying"]
 x_pairs_of:Dx G.K mg "pairs_of" Kq ["world","fact"]
 x_fact_cases:Dx G.K mg "fact_cases" O2 ["world","fact","spots"]
 x_cases_so:Dx G.K mg "cases_so" Ss ["world","saying","spots","width"]
 x_is_so:Dx G.K mg "is_so" V_ ["world","saying","places"]
 x_as_it_is:Dx G.K mg "as_it_is" Su ["world","fact","places"]
 x_halved:Dx G.K mg "halved" Xm ["sort","sayings"]
 x_joined:Dx G.K mg "joined" Xn ["sort","sayings","name"]
 x_World_tie_words:Mx G.K C_World "tie_words" "World.tie_words" Jc ["self"]
 x_World_mark_words:Mx G.K C_World "mark_words" "World.mark_words" JN ["self"]
 x_facts_of_last:Dx G.K mg "facts_of_last" Ft ["world","names"]
 x_portrait_behind:Dx G.K mg "portrait_behind" Ec ["world","count"]
 x_portrait:Dx G.K mg "portrait" Sv ["world"]
 x__law_named:Dx G.K mg "_law_named" Kr ["_law_names"]
 x__law_plain:Dx G.K mg "_law_plain" O3 ["_law_saying","_law_world_here"]
 x__law_walked:Dx G.K mg "_law_walked" Js ["_law_saying","_law_world_here"]
 x__law_so:Dx G.K mg "_law_so" U9 ["_law_world_here","_law_saying","_law_places"]
 x__law_facts:Dx G.K mg "_law_facts" O4 ["_law_world_here","_law_here","_law_there"]
 x__law_beside:Dx G.K mg "_law_beside" Mr ["_law_one","_law_other_here","_law_found","_law_row"]
 x__law_any:Dx G.K mg "_law_any" Nb ["_law_one","_law_other_here","_law_found"]
 x_law:Dx G.K mg "law" t8 ["_law_script"]
 z_all:mg "all"=none
 z_dict:mg "dict"=none
 z_int:mg "int"=none
 z_isinstance:mg "isinstance"=none
 z_len:mg "len"=none
 z_list:mg "list"=none
 z_max:mg "max"=none
 z_range:mg "range"=none
 z_reversed:mg "reversed"=none
 z_set:mg "set"=none
 z_sorted:mg "sorted"=none
 z_str:mg "str"=none
 z_tuple:mg "tuple"=none
 z_zip:mg "zip"=none
 s_MOST_LETTERS:Sx mg "MOST_LETTERS" (.int 8)
 s_LETTERS:Sx mg "LETTERS" .(6)
 s_MOST_THINGS:Sx mg "MOST_THINGS" (.int 5)
 s_MOST_WORDS:Sx mg "MOST_WORDS" (.int 3)
 fl_size:∀c C,G.cl c=some C->Cls G.K C/\Ed G.K C "size"
 fl_marked:∀c C,G.cl c=some C->Cls G.K C/\Ed G.K C "marked"
 fl_tied:∀c C,G.cl c=some C->Cls G.K C/\Ed G.K C "tied"
 c_KEPT_TEXTS:Kx G mg "KEPT_TEXTS" K52.c_KEPT_TEXTS
 c_FACTS:Kx G mg "FACTS" K52.c_FACTS
section
variable {base:Heap}
abbrev CN:List Str:=["_law_world_here","_law_most","_law_marks","_law_ties","_law_word"]
theorem Dq:FnScope CN ["_law_world_here","_law_most"] (Ad Gr):=scO
theorem Q4(T:Tx G mg):DOk P w base T.x__law_trimmed 1 (spD G Ek):=
 fnX (k:=0) (N:=CN) (b:=Iz) T.x__law_trimmed Dq λ_ _ _ _ _ _ hr=>Ab (Ax (tLe .(3) (vp 1)) (Ae (Ag (vr 0))) (Al)) (Ab (sW Dq.nd 2 (J0)) (Ab (sW Dq.nd 3 (J0)) (Ab (Bm dn rfl (Aw rfl .(7)) (BW (gN Dq.nd 4)) (Ae (Hv (GC hr) (pv 2) (vr 4) (Et (nT CN "_law_thing") (by show De "_law_thing" CN++(["_law_thing"]:List Str)=_;decide +kernel) (cO (N:=CN) (sc:=Ad Gr) rfl rfl) rfl (PFI.top (Aw rfl (iX hr .(3) (vp 4)))) (λ_ _ _=>HW (tLt (vp 5) (vp 1))) (λ_ _ _=>vr 5))))) (Ab (Bm dn rfl (Aw rfl .(7)) (BW (gN Dq.nd 4)) (Ae (Hv (GC hr) (pv 3) (vr 4) (Et (nT CN "_law_row") (by show De "_law_row" CN++(["_law_row"]:List Str)=_;decide +kernel) (cO (N:=CN) (sc:=Ad Gr) rfl rfl) rfl (PFI.top (Aw rfl (iX hr .(3) (vp 4)))) (λ_ _ _=>HW (PFW.pt (Ff (tLt (pU (iX hr (vp 5) (iP))) (vp 1)) (DK (tLt (pU (iX hr (vp 5) (iP))) (vp 1)))))) (λ_ _ _=>vr 5))))) (Ae (G3 [2,3] (Ag (CQ (pav 1 (pav 2 (pav 3 (Ac))))))))))))
abbrev Qs:List Str:=["_law_script","_law_k"]
theorem WD:FnScope Qs ["_law_script","_law_k"] (Ad Qo):=scO
theorem Bs(T:Tx G mg):DOk P w base T.x__law_cell 1 (spD G Ao):=
 fnX (k:=0) (N:=Qs) (b:=JX) T.x__law_cell WD λ_ _ _ _ _ _ hr=>Ab (Ax (tLt (vp 1) (pU (BJ (BP rfl) RC rfl T.z_len DX (vp 0)))) (Ae (Ag (iD (vp 0) (vp 1)))) (Al)) (Ae (Ag (Pn)))
abbrev O5:List Str:=["_law_cell_here","_law_size","_law_things","_law_found"]
theorem HN:FnScope O5 ["_law_cell_here","_law_size"] (Ad Ov):=scO
theorem T9(T:Tx G mg):DOk P w base T.x__law_order 1 (spD G Hz):=
 fnX (k:=0) (N:=O5) (b:=KQ) T.x__law_order HN λ_ _ _ _ _ _ hr=>Ab (sW HN.nd 2 (aQ rfl T.z_list rfl T.z_range (vp 1))) (Ab (sW HN.nd 3 (Vv (Ac))) (Ab (cI 60 dn (tNe hr (vq 2) (pU (CQ (Ac)))) (Ab (qU (pv 3) (kW (pv 2) (bMod (vp 0) (pU (BJ (BP rfl) RC rfl T.z_len DX (vq 2)))))) (Ae (sF HN.nd 0 (bDiv (vp 0) (pU (bAdd (pU (BJ (BP rfl) RC rfl T.z_len DX (vq 2))) (iP)))))))) (Ae (G3 [3] (Ag (vr 3))))))
abbrev DP:List Str:=["_law_one","_law_order_here","_law_marks","_law_ties","_law_word"]
theorem Ep:FnScope DP ["_law_one","_law_order_here"] (Ad HJ):=scO
theorem Sw(T:Tx G mg):DOk P w base T.x__law_copied 1 (spM G Jm):=
 fnM (k:=0) (N:=DP) (b:=HF) T.x__law_copied Ep λ_ _ _ _ _ _ hr=>Do (FW (sW Ep.nd 2 (J0))) (Do (FW (sW Ep.nd 3 (J0))) (Do (aU dn rfl (aX rfl rfl T.z_reversed (Dt ((Hs.or (Hx rfl)).or (Hy rfl)) MN rfl T.z_list MF .(3))) (BW (gN Ep.nd 4)) (JW (Xj (GC hr) (pv 2) (vr 4) (aV (qW (nT DP "_law_thing") (by show De "_law_thing" DP++(["_law_thing"]:List Str)=_;decide +kernel) (cO (N:=DP) (sc:=Ad HJ) rfl rfl) rfl (PFI.top (Aw rfl (iX hr .(3) (vp 4)))) (λ_ _ _=>Ei) (λ_ _ _=>iX hr (vp 1) (vp 5))))))) (Do (aU dn rfl (aX rfl rfl T.z_reversed (Dt ((Hs.or (Hx rfl)).or (Hy rfl)) MN rfl T.z_list MF .(3))) (BW (gN Ep.nd 4)) (JW (Xj (GC hr) (pv 3) (vr 4) (aV (kZ ["_law_one","_law_order_here","_law_marks","_law_ties","_law_word","_law_here","_law_there"] (by show Bu ["_law_here","_law_there"] DP++(["_law_here","_law_there"]:List Str)=_;decide +kernel) (cO2 (N:=DP) (sc:=Ad HJ) rfl rfl) rfl rfl (PFI.top (Aw rfl (iX hr .(3) (vp 4)))) (λ_ _ _=>Ei) (λ_ _ _=>CV (Af (iX hr (vp 1) (vp 5)) (Af (iX hr (vp 1) (vp 6)) (Ac) Ah) Ah))))))) (JW (FW (G3 [2,3] (Ag (CQ (Af .(7) (pav 2 (pav 3 (Ac))) Ah)))))))))
abbrev O6:List Str:=["_law_cell_here","_law_many","_law_letters","_law_number","_law_long","_law_at","_law_found","_law_k","_law_word","_law_j","_law_place"]
theorem BZ:FnScope O6 ["_law_cell_here","_law_many"] (Ad Ow):=scO
theorem T_(T:Tx G mg):DOk P w base T.x__law_words 1 (spD G H_):=
 fnX (k:=0) (N:=O6) (b:=KR) T.x__law_words BZ λ_ _ _ _ _ _ hr=>Ab (sF BZ.nd 2 (Rp)) (Ab (sF BZ.nd 3 (bMod (vp 0) (iP))) (Ab (sF BZ.nd 4 (bAdd (iP) (pU (bMod (vp 3) (iP))))) (Ab (sF BZ.nd 5 (bMod (pU (bDiv (vp 3) (iP))) (vp 4))) (Ab (sW BZ.nd 6 (Vv (Ac))) (Ab (Bm dn rfl (Fg rfl T.z_range (vp 1)) (BW (gN BZ.nd 7)) (Ab (sF BZ.nd 8 (Rp)) (Ab (Bm dn rfl (Fg rfl T.z_range (vp 4)) (BW (gN BZ.nd 9)) (Ab (sF BZ.nd 10 (bAdd (pU (bAdd (pU (bDiv (vp 3) (pU (bAdd (vp 9) (iP))))) (pU (bMul (vp 9) (vp 9))))) (pU (bMul (pU (Dt Ih L_ rfl T.z_int Py (pU (cEq hr (vp 9) (vp 5))))) (vp 7))))) (Ae (sF BZ.nd 8 (bAdd (vp 8) (pU (iX hr (vp 2) (pU (bMod (vp 10) (iP)))))))))) (Ab (Ax (tIn hr (vp 8) (pU (CQ (iS (iS (iS (iS (iS (Ac))))))))) (Ae (sF BZ.nd 8 (bAdd (vp 8) (sP)))) (Al)) (Ae (KD (pv 6) (vr 8))))))) (Ae (G3 [6] (Ag (vr 6)))))))))
abbrev Qt:List Str:=["_law_cell_here","_law_many","_law_found","_law_number","_law_k"]
theorem Gu:FnScope Qt ["_law_cell_here","_law_many"] (Ad Qp):=scO
theorem Ig(T:Tx G mg):DOk P w base T.x__law_bits 1 (spD G En):=
 fnX (k:=0) (N:=Qt) (b:=Lf) T.x__law_bits Gu λ_ _ _ _ _ _ hr=>Ab (sW Gu.nd 2 (Vv (Ac))) (Ab (sF Gu.nd 3 (bMod (pU (bDiv (vp 0) (iP))) (iP))) (Ab (Bm dn rfl (Fg rfl T.z_range (vp 1)) (BW (gN Gu.nd 4)) (Ae (Ax (tEq hr (pU (bMod (vp 0) (iP))) (iP)) (Ae (KD (pv 2) (cEq hr (pU (bMod (pU (bDiv (pU (bDiv (vp 0) (iP))) (pU (K9 o6 o9 (iP) (vp 4))))) (iP))) (iP)))) (Ab (sF Gu.nd 3 (bMod (pU (bAdd (pU (bAdd (pU (bAdd (pU (bMul (vp 3) (vp 3))) (pU (bMul (iP) (vp 3))))) (vp 4))) (iP))) (iP))) (Ae (KD (pv 2) (cEq hr (pU (bMod (pU (bDiv (vp 3) (iP))) (pU (bMul (iP) (pU (bMod (vp 0) (iP))))))) (iP)))))))) (Ae (G3 [2] (Ag (vr 2))))))
abbrev Cy:List Str:=["_law_script","_law_start","_law_cell_here","_law_size","_law_many","_law_words_here","_law_marks","_law_ties","_law_k","_law_bits_here"]
theorem Bk:FnScope Cy ["_law_script","_law_start"] (Ad Ib):=scO
theorem UG(T:Tx G mg):DOk P w base T.x__law_world 2 (spD G GR):=
 fnX (k:=1) (N:=Cy) (b:=KY) T.x__law_world Bk λ_ _ _ _ _ _ hr=>Ab (sF Bk.nd 2 (fX (Bs T) hr (pav 0 (pav 1 (Ac))))) (Ab (sF Bk.nd 3 (iX hr (pU (CQ (Af (bMod (pU (bDiv (vp 2) (iP))) (iP)) (iI (Ac)) Be))) (pU (Dt Ih L_ rfl T.z_int Py (pU (cEq hr (pU (bMod (pU (bDiv (vp 2) (iP))) (iP))) (iP))))))) (Ab (sF Bk.nd 4 (bMod (vp 2) (iP))) (Ab (sF Bk.nd 5 (fX (T_ T) hr (Af (fX (Bs T) hr (pav 0 (Af (bAdd (vp 1) (iP)) (Ac) Be))) (Af (bAdd (vp 4) (pU (bMod (pU (bDiv (vp 2) (iP))) (iP)))) (Ac) Be) CG))) (Ab (sW Bk.nd 6 (J0)) (Ab (sW Bk.nd 7 (J0)) (Ab (Bm dn rfl (Fg rfl T.z_range (pU (BJ ((BP rfl).or BX) CJ rfl T.z_len DX (vp 5)))) (BW (gN Bk.nd 8)) (Ae (Ax (tLt (vp 8) (vp 4)) (Ab (sF Bk.nd 9 (fX (Ig T) hr (Af (fX (Bs T) hr (pav 0 (Af (bAdd (pU (bAdd (vp 1) (iP))) (vp 8)) (Ac) Be))) (pav 3 (Ac)) CG))) (Ae (Hv (GC hr) (pv 6) (iX hr (vp 5) (vp 8)) (Et (nT Cy "_law_thing") (by show De "_law_thing" Cy++(["_law_thing"]:List Str)=_;decide +kernel) (cO (N:=Cy) (sc:=Ad Ib) rfl rfl) rfl (Fg rfl T.z_range (vp 3)) (λ_ _ _=>HW (Cr (pU (iX hr (vp 9) (vp 10))) rfl)) (λ_ _ _=>vr 10))))) (Ab (sF Bk.nd 9 (fX (Ig T) hr (Af (fX (Bs T) hr (pav 0 (Af (bSub (pU (bAdd (pU (bAdd (vp 1) (iP))) (vp 8))) (vp 4)) (Ac) Be))) (Af (bMul (vp 3) (vp 3)) (Ac) Be) CG))) (Ae (Hv (GC hr) (pv 7) (iX hr (vp 5) (vp 8)) (Et (nT Cy "_law_at") (by show De "_law_at" Cy++(["_law_at"]:List Str)=_;decide +kernel) (cO (N:=Cy) (sc:=Ad Ib) rfl rfl) rfl (Fg rfl T.z_range (pU (bMul (vp 3) (vp 3)))) (λ_ _ _=>HW (Cr (pU (iX hr (vp 9) (vp 10))) rfl)) (λ_ _ _=>CV (Af (bDiv (vp 10) (vp 3)) (Af (bMod (vp 10) (vp 3)) (Ac) Be) Be))))))))) (Ae (G3 [6,7] (Ag (CQ (pav 3 (pav 6 (pav 7 (Ac))))))))))))))
abbrev Ms:List Str:=["_law_world_here","_law_cell_here","_law_rows","_law_thing","_law_row"]
theorem Ci:FnScope Ms ["_law_world_here","_law_cell_here"] (Ad Mp):=scO
theorem S5(T:Tx G mg):DOk P w base T.x__law_turned 1 (spM G Jo):=
 fnM (k:=0) (N:=Ms) (b:=HH) T.x__law_turned Ci λ_ _ _ _ _ _ hr=>Do (FW (sF Ci.nd 2 (aZ rfl rfl T.z_list .(7)))) (Do (FW (Ax (PFW.pt (Ff (tNeF hr (vp 2) (pU (CQ (Ac)))) (Ff (tGt .(3) (iP)) (DK (PFW.pt (GF (tEqF hr (pU (bMod (vp 1) (iP))) (iP)) (Dr (tEqF hr .(3) (pU (Uy)))))))))) (Ab (sF Ci.nd 3 (bMod (pU (bDiv (vp 1) (iP))) .(3))) (Ae (sF Ci.nd 4 (iX hr (vp 2) (pU (bMod (pU (bDiv (vp 1) (iP))) (pU (BJ ((BP rfl).or BX) CJ rfl T.z_len DX (vp 2))))))))) (Ae (Ax (PFW.pt (Ff (tNeF hr .(3) (pU (Uy))) (DK (tGt .(3) (iP))))) (Ab (sF Ci.nd 2 (aZ rfl rfl T.z_list .(7))) (Ab (sF Ci.nd 3 (CV (Af (bMod (pU (bDiv (vp 1) (iP))) .(3)) (Af (bMod (pU (bDiv (vp 1) (iP))) .(3)) (Ac) Be) Be))) (Ae (sF Ci.nd 4 (iX hr (vp 2) (pU (bMod (pU (bDiv (vp 1) (iP))) (pU (BJ ((BP rfl).or BX) CJ rfl T.z_len DX (vp 2)))))))))) (Ae (gW)))))) (JW (j7 [4] (tIn hr (vp 3) (vq 4)) (JW (Sd (mRem [] hr (pv 4) (pav 3 (Ac))))) (JW (Sd (mApp [] (pv 4) (pav 3 (Ac))))))))
abbrev Cz:List Str:=["_law_script","_law_start","_law_one","_law_most","_law_size","_law_marks","_law_ties","_law_k","_law_word","_law_bits_here"]
theorem Bf:FnScope Cz ["_law_script","_law_start","_law_one","_law_most"] (Ad Ie):=scO
theorem UJ(T:Tx G mg):DOk P w base T.x__law_other 2 (spD G Ga):=
 fnX (k:=1) (N:=Cz) (b:=KZ) T.x__law_other Bf λ_ _ _ _ _ _ hr=>Ab (sF Bf.nd 4 (iX hr (pU (CQ (Af (iX hr (vp 2) (iP)) (Af (bMod (pU (bDiv (pU (fX (Bs T) hr (pav 0 (pav 1 (Ac))))) (iP))) (pU (bAdd (vp 3) (iP)))) (Ac) Be) Ah))) (pU (bMod (pU (bDiv (pU (fX (Bs T) hr (pav 0 (pav 1 (Ac))))) (iP))) (iP))))) (Ab (sW Bf.nd 5 (J0)) (Ab (sW Bf.nd 6 (J0)) (Ab (sF Bf.nd 7 (vr 1)) (Ab (Bm dn rfl (Aw rfl (iX hr (vp 2) (iP))) (BW (gN Bf.nd 8)) (Ab (sF Bf.nd 7 (bAdd (vp 7) (iP))) (Ab (sF Bf.nd 9 (fX (Ig T) hr (Af (fX (Bs T) hr (pav 0 (pav 7 (Ac)))) (pav 4 (Ac)) CG))) (Ae (Hv (GC hr) (pv 5) (vr 8) (Et (nT Cz "_law_thing") (by show De "_law_thing" Cz++(["_law_thing"]:List Str)=_;decide +kernel) (cO (N:=Cz) (sc:=Ad Ie) rfl rfl) rfl (Fg rfl T.z_range (vp 4)) (λ_ _ _=>HW (Cr (pU (iX hr (vp 9) (vp 10))) rfl)) (λ_ _ _=>vr 10))))))) (Ab (Bm dn rfl (Aw rfl (iX hr (vp 2) (iP))) (BW (gN Bf.nd 8)) (Ab (sF Bf.nd 7 (bAdd (vp 7) (iP))) (Ab (sF Bf.nd 9 (fX (Ig T) hr (Af (fX (Bs T) hr (pav 0 (pav 7 (Ac)))) (Af (bMul (vp 4) (vp 4)) (Ac) Be) CG))) (Ae (Hv (GC hr) (pv 6) (vr 8) (Et (nT Cz "_law_at") (by show De "_law_at" Cz++(["_law_at"]:List Str)=_;decide +kernel) (cO (N:=Cz) (sc:=Ad Ie) rfl rfl) rfl (Fg rfl T.z_range (pU (bMul (vp 4) (vp 4)))) (λ_ _ _=>HW (Cr (pU (iX hr (vp 9) (vp 10))) rfl)) (λ_ _ _=>CV (Af (bDiv (vp 10) (vp 4)) (Af (bMod (vp 10) (vp 4)) (Ac) Be) Be)))))))) (Ae (G3 [5,6] (Ag (CQ (pav 4 (pav 5 (pav 6 (Ac)))))))))))))
abbrev S6:List Str:=["_law_script","_law_most","_law_one","_law_cell_here","_law_order_here","_law_other_here"]
theorem Hj:FnScope S6 ["_law_script","_law_most"] (Ad Sh):=scO
theorem Xo(T:Tx G mg):DOk P w base T.x__law_two 3 (spD G JH):=
 fnDM (k:=2) (N:=S6) (b:=Dg) T.x__law_two Hj λ_ _ _ _ _ _ hr=>Do (FW (sF Hj.nd 2 (fX (Q4 T) hr (Af (fX (UG T) hr (pav 0 (iI (Ac)))) (pav 1 (Ac)) CG)))) (Do (FW (sF Hj.nd 3 (fX (Bs T) hr (pav 0 (iI (Ac)))))) (Do (FW (sF Hj.nd 4 (fX (T9 T) hr (Af (fX (Bs T) hr (pav 0 (iI (Ac)))) (Af (iX hr (vp 2) (iP)) (Ac) Ah) CG)))) (Do (FW (Ax (tEq hr (pU (bMod (vp 3) (iP))) (iP)) (Ae (Ag (CQ (pav 2 (Af (fX (UJ T) hr (pav 0 (iI (pav 2 (pav 1 (Ac)))))) (pav 4 (Ac)) CG))))) (Al))) (Do (sXM Hj.nd 5 (fM (Sw T) hr (pav 2 (pav 4 (Ac))))) (Do (j7 [] (tEq hr (pU (bMod (vp 3) (iP))) (iP)) (JW (Sd (fM (S5 T) hr (pav 5 (Af (fX (Bs T) hr (pav 0 (iI (Ac)))) (Ac) CG))))) (qQ)) (JW (qR 3 (FW (Ag (CQ (pav 2 (pav 5 (pav 4 (Ac))))))))))))))
abbrev Ln:List Str:=["number","most"]
theorem Q5:FnScope Ln ["number","most"] (Ad Lk):=scO
theorem Hr(T:Tx G mg):DOk P w base T.x_refuse_above 1 (spD G Bp):=
 fnX (k:=0) (N:=Ln) (b:=JK) T.x_refuse_above Q5 λ_ _ _ _ _ _ hr=>Ae (Ax (tGt (vp 0) (vp 1)) (Ae (BR)) (Al))
abbrev Jd:List Str:=["size","thing"]
theorem Nf:FnScope Jd ["size","thing"] (Ad Ja):=scO
theorem Dh(T:Tx G mg):DOk P w base T.x_refuse_no_thing 1 (spD G Bq):=
 fnX (k:=0) (N:=Jd) (b:=Gb) T.x_refuse_no_thing Nf λ_ _ _ _ _ _ hr=>Ae (Ax (PFW.pt (GF (tLt (vp 1) (iP)) (Dr (tGe (vp 1) (vp 0))))) (Ae (BR)) (Al))
abbrev Mt:List Str:=["size","things","kept","thing"]
theorem JP:FnScope Mt ["size","things"] (Ad Mq):=scO
theorem S7(T:Tx G mg):DOk P w base T.x_kept_things 2 (spD G Dv):=
 fnX (k:=1) (N:=Mt) (b:=Jp) T.x_kept_things JP λ_ _ _ _ _ _ hr=>Ab (sW JP.nd 2 (J0)) (Ab (Bm dn rfl (Aw rfl (vr 1)) (BW (gN JP.nd 3)) (Ab (GJ (fX (Dh T) hr (pav 0 (pav 3 (Ac))))) (Ae (Hv (GC hr) (pv 2) (vr 3) (K8))))) (Ae (G3 [2] (Ag (vr 2)))))
abbrev O7:List Str:=["size","pairs","kept","one","other"]
theorem HQ:FnScope O7 ["size","pairs"] (Ad Ox):=scO
theorem UL(T:Tx G mg):DOk P w base T.x_kept_pairs 2 (spD G Eu):=
 fnX (k:=1) (N:=O7) (b:=Ka) T.x_kept_pairs HQ λ_ _ _ _ _ _ hr=>Ab (sW HQ.nd 2 (yU)) (Ab (Bm dn rfl (Aw rfl (vr 1)) (Oe rfl rfl (DY (gN HQ.nd 3) (DY (gN HQ.nd 4) (Lb)))) (Ab (GJ (fX (Dh T) hr (pav 0 (pav 3 (Ac))))) (Ab (GJ (fX (Dh T) hr (pav 0 (pav 4 (Ac))))) (Ae (jc (GC hr) (pv 2) (pav 3 (pav 4 (Ac))) (K8)))))) (Ae (G3 [2] (Ag (vr 2)))))
abbrev J3:List Str:=["text"]
theorem ZC:FnScope J3 ["text"] (Ad QT):=scO
theorem S8(T:Tx G mg):DOk P w base T.x_is_word 1 (spD G Ew):=
 fnX (k:=0) (N:=J3) (b:=QS) T.x_is_word ZC λ_ _ _ _ _ _ hr=>Ab (Ax (PFW.pt (GF (tIn hr (vp 0) (pU (Eg (Es (v:=.ref T.c_KEPT_TEXTS.a) rfl T.c_KEPT_TEXTS.m rfl) T.c_KEPT_TEXTS.r))) (GF (tEq hr (pU (BJ ((BP rfl).or BX) CJ rfl T.z_len DX (vp 0))) (iP)) (Dr (tGt (pU (BJ ((BP rfl).or BX) CJ rfl T.z_len DX (vp 0))) (pU (Eg (Es (v:=(.int 8)) rfl T.s_MOST_LETTERS.m ⟨_,rfl⟩) (.int _)))))))) (Ae (Ag (K8))) (Al)) (Ae (Ag (BJ (cg rfl) qD rfl T.z_all vY (pU (Et (nT J3 "letter") (by show De "letter" J3++(["letter"]:List Str)=_;decide +kernel) (cO (N:=J3) (sc:=Ad QT) rfl rfl) rfl (PFI.top (Aw rfl (vr 0))) (λ_ _ _=>Ei) (λ_ _ _=>cIn hr (vp 1) (pU (Eg (Es (v:=.(6)) rfl T.s_LETTERS.m ⟨_,rfl⟩) (.str _)))))))))
abbrev J4:List Str:=["self","size","marks","ties","word","things","pairs"]
theorem C_:FnScope J4 ["self","size","marks","ties"] (Ad J2):=scO
theorem Je(T:Tx G mg):FnOk P w G.K mg base CX0 3 T.x_World___init__.f T.x_World___init__.fd ["self","size","marks","ties"] (spI G "World" Bv):=
 fn_I (c:="World") (k:=2) (N:=J4) (b:=G6) T.x_World___init__.F C_ (by decide) λcdv A outer s H E hr=>HX (SJ (GJ (fX (Hr T) hr (pav 1 (Af (Eg (Es (v:=(.int 5)) rfl T.s_MOST_THINGS.m ⟨_,rfl⟩) (.int _)) (Ac) RP)))) V5) (HX (SJ (GJ (fX (Hr T) hr (Af (BJ ((BP rfl).or BX) CJ rfl T.z_len DX (vp 2)) (Af (Eg (Es (v:=(.int 3)) rfl T.s_MOST_WORDS.m ⟨_,rfl⟩) (.int _)) (Ac) RP) CG))) V5) (HX (SJ (GJ (fX (Hr T) hr (Af (BJ ((BP rfl).or BX) CJ rfl T.z_len DX (vp 3)) (Af (Eg (Es (v:=(.int 3)) rfl T.s_MOST_WORDS.m ⟨_,rfl⟩) (.int _)) (Ac) RP) CG))) V5) (HX (jj T.fl_size (pv 0) (vr 1)) (HX (Xc T.fl_marked (pv 0) J0) (HX (Xc T.fl_tied (pv 0) J0) (HX (aJ dn rfl (Uz (top:=false) (vr 2)) (Oe rfl rfl (DY (gN C_.nd 4) (DY (gN C_.nd 5) (Lb)))) (jm (RK (by decide) (RK (by decide) (jl)))) (Xa (ji (Xb (Ht (Cr (pU (fX (S8 T) hr (pav 4 (Ac)))) rfl))) (Ae BR)) (aH (Xd (GC hr) T.fl_marked (pv 0) (vr 4) (fX (S7 T) hr (pav 1 (pav 5 (Ac)))))))) (HX (aJ dn rfl (Uz (top:=false) (vr 3)) (Oe rfl rfl (DY (gN C_.nd 4) (DY (gN C_.nd 6) (Lb)))) (jm (RK (by decide) (RK (by decide) (jl)))) (Xa (ji (PWE.pt (vZ (Xb (Ht (Cr (pU (fX (S8 T) hr (pav 4 (Ac)))) rfl))) (qG (vd (GC hr) T.fl_marked (pv 0) (vr 4))))) (Ae BR)) (aH (Xd (GC hr) T.fl_tied (pv 0) (vr 4) (fX (UL T) hr (pav 1 (pav 6 (Ac)))))))) (qH))))))))
abbrev Qu:List Str:=["things"]
theorem WF:FnScope Qu ["things"] (Ad Qq):=scO
theorem WK(T:Tx G mg):DOk P w base T.x_places_of 1 (spD G JZ):=
 fnX (k:=0) (N:=Qu) (b:=Li) T.x_places_of WF λ_ _ _ _ _ _ hr=>Ae (Ag (PN.pf (ym rfl rfl rfl T.z_dict Zn rfl T.z_zip wG (pU (Eg (Es (v:=.(6)) rfl T.s_LETTERS.m ⟨_,rfl⟩) (.str _))) (vp 0))))
abbrev S9:List Str:=["fact"]
theorem Xp:FnScope S9 ["fact"] (Ad Sq):=scO
theorem Qv(T:Tx G mg):DOk P w base T.x_names_in 1 (spD G Fw):=
 fnX (k:=0) (N:=S9) (b:=JL) T.x_names_in Xp λ_ _ _ _ _ _ hr=>Ab (Ax (tEq hr .(3) (sP)) (Ae (Ag (Dn rfl (vp 0) (DW (iP)) (Eh)))) (Al)) (Ae (Ag (Dn rfl (vp 0) (DW (iP)) (Eh))))
abbrev O8:List Str:=["saying","names","part"]
theorem UT:FnScope O8 ["saying"] (Ad Oz):=scO
theorem UV(T:Tx G mg):DOk P w base T.x_free_names 2 (spD G IK):=
 fnX (k:=1) (N:=O8) (b:=Kc) T.x_free_names UT λ_ _ _ _ _ _ hr=>Ab (Ax (tIn hr .(3) (pU (Eg (Es (v:=.ref T.c_FACTS.a) rfl T.c_FACTS.m rfl) T.c_FACTS.r))) (Ae (Ag (yS rfl rfl rfl T.z_sorted Jw rfl T.z_set vM (pU (fX (Qv T) hr (pav 0 (Ac))))))) (Al)) (Ab (BR) (Ab (BR) (Ab (BR) (Ae (BR)))))
abbrev Jf:List Str:=["world","names","places","name"]
theorem Fy:FnScope Jf ["world","names","places"] (Ad Jb):=scO
theorem Ng(T:Tx G mg):DOk P w base T.x_refuse_unplaced 2 (spD G D_):=
 fnX (k:=1) (N:=Jf) (b:=Ge) T.x_refuse_unplaced Fy λ_ _ _ _ _ _ hr=>Ab (Bm dn rfl (Aw rfl (vr 1)) (BW (gN Fy.nd 3)) (Ae (Ax (tNi hr (vp 3) (vp 2)) (Ae (BR)) (Al)))) (Ae (Bm dn rfl (Aw rfl (vr 1)) (BW (gN Fy.nd 3)) (Ae (GJ (fX (Dh T) hr (Af (Jj T.fl_size (vp 0)) (Af (iX hr (vp 2) (vp 3)) (Ac) Ah) V7))))))
abbrev O9:List Str:=["saying"]
theorem UW:FnScope O9 ["saying"] (Ad O1):=scO
theorem Ua(T:Tx G mg):DOk P w base T.x_sayings_in 1 (spD G IV):=
 fnX (k:=0) (N:=O9) (b:=Kd) T.x_sayings_in UW λ_ _ _ _ _ _ hr=>Ab (Ax (tIn hr .(3) (pU (Eg (Es (v:=.ref T.c_FACTS.a) rfl T.c_FACTS.m rfl) T.c_FACTS.r))) (Ae (Ag (CV (Ac)))) (Al)) (Ab (BR) (Ae (BR)))
abbrev Gv:List Str:=["world","saying","part"]
theorem F_:FnScope Gv ["world","saying"] (Ad Gs):=scO
theorem J5(T:Tx G mg):DOk P w base T.x_refuse_strange_words 2 (spD G Ba):=
 fnX (k:=1) (N:=Gv) (b:=Br) T.x_refuse_strange_words F_ λ_ _ _ _ _ _ hr=>Ab (Ax (PFW.pt (Ff (tEq hr (pU .(11)) (sP)) (DK (tNi hr (pU .(11)) (pU (Jj T.fl_marked (vp 0))))))) (Ae (BR)) (Al)) (Ab (Ax (PFW.pt (Ff (tEq hr (pU .(11)) (sP)) (DK (tNi hr (pU .(11)) (pU (Jj T.fl_tied (vp 0))))))) (Ae (BR)) (Al)) (Ae (Bm dn rfl (Aw rfl (fX (Ua T) hr (pav 1 (Ac)))) (BW (gN F_.nd 2)) (Ae (BR)))))
abbrev Er:List Str:=["world","fact"]
theorem Xq:FnScope Er ["world","fact"] (Ad Kq):=scO
theorem Xr(T:Tx G mg):DOk P w base T.x_pairs_of 1 (spD G G7):=
 fnX (k:=0) (N:=Er) (b:=JM) T.x_pairs_of Xq λ_ _ _ _ _ _ hr=>Ab (Ax (tEq hr (pU .(11)) (sP)) (Ae (Ag (Et (nT Er "thing") (by show De "thing" Er++(["thing"]:List Str)=_;decide +kernel) (cO (N:=Er) (sc:=Ad Kq) rfl rfl) rfl (PFI.top (Aw rfl (iX hr (pU (Jj T.fl_marked (vp 0))) (pU .(11))))) (λ_ _ _=>Ei) (λ_ _ _=>CV (pav 2 (pav 2 (Ac))))))) (Al)) (Ab (Ax (tEq hr (pU .(11)) (sP)) (Ae (Ag (Et (nT Er "thing") (by show De "thing" Er++(["thing"]:List Str)=_;decide +kernel) (cO (N:=Er) (sc:=Ad Kq) rfl rfl) rfl (Fg rfl T.z_range (pU (Jj T.fl_size (vp 0)))) (λ_ _ _=>Ei) (λ_ _ _=>CV (pav 2 (pav 2 (Ac))))))) (Al)) (Ae (Ag (Dt ((Hs.or (Hx rfl)).or (Hy rfl)) MN rfl T.z_list MF (pU (iX hr (pU (Jj T.fl_tied (vp 0))) (pU .(11))))))))
abbrev O_:List Str:=["world","fact","spots","names","first","last","cases","one","other"]
theorem Ca:FnScope O_ ["world","fact","spots"] (Ad O2):=scO
theorem Ub(T:Tx G mg):DOk P w base T.x_fact_cases 2 (spD G IW):=
 fnX (k:=1) (N:=O_) (b:=Kf) T.x_fact_cases Ca λ_ _ _ _ _ _ hr=>Ab (sF Ca.nd 3 (fX (Qv T) hr (pav 1 (Ac)))) (Ab (sF Ca.nd 4 (iX hr (vp 2) (pU (iX hr (vp 3) (iP))))) (Ab (sF Ca.nd 5 (iX hr (vp 2) (pU (iX hr (vp 3) (pU (Vr (iP))))))) (Ab (sF Ca.nd 6 (Pn)) (Ab (Bm dn rfl (Aw rfl (fX (Xr T) hr (pav 0 (pav 1 (Ac))))) (Oe rfl rfl (DY (gN Ca.nd 7) (DY (gN Ca.nd 8) (Lb)))) (Ae (sF Ca.nd 6 (K9 xr o_ (vp 6) (pU (K9 uq gG (pU (iX hr (vp 4) (vp 7))) (pU (iX hr (vp 5) (vp 8))))))))) (Ae (Ag (vr 6)))))))
abbrev S_:List Str:=["world","saying","spots","width","first","second"]
theorem Xu:FnScope S_ ["world","saying","spots","width"] (Ad Ss):=scO
theorem Xv(T:Tx G mg):DOk P w base T.x_cases_so 3 (spD G Kg):=
 fnX (k:=2) (N:=S_) (b:=NQ) T.x_cases_so Xu λ_ _ _ _ _ _ hr=>Ab (Ax (tIn hr (pU .(11)) (pU (Eg (Es (v:=.ref T.c_FACTS.a) rfl T.c_FACTS.m rfl) T.c_FACTS.r))) (Ae (Ag (fX (Ub T) hr (pav 0 (pav 1 (pav 2 (Ac))))))) (Al)) (Ab (BR) (Ab (BR) (Ab (BR) (Ab (BR) (Ab (BR) (Ae (BR)))))))
abbrev PB:List Str:=["world","saying","places","given","names","spots","name"]
theorem Lp:FnScope PB ["world","saying","places"] (Ad V_):=scO
theorem lD(T:Tx G mg):DOk P w base T.x_is_so 4 (spD G Ot):=
 fnX (k:=3) (N:=PB) (b:=V9) T.x_is_so Lp λ_ _ _ _ _ _ hr=>Ab (sF Lp.nd 3 (Zk (V2 (vp 2)) (Uy) (vr 2))) (Ab (sF Lp.nd 4 (fX (UV T) hr (pav 1 (Ac)))) (Ab (GJ (fX (Ng T) hr (pav 0 (pav 4 (pav 3 (Ac)))))) (Ab (GJ (fX (J5 T) hr (pav 0 (pav 1 (Ac))))) (Ab (sW Lp.nd 5 (J0)) (Ab (Bm dn rfl (Aw rfl (vr 4)) (BW (gN Lp.nd 6)) (Ae (Hv (GC hr) (pv 5) (vr 6) (Et (nT PB "thing") (by show De "thing" PB++(["thing"]:List Str)=_;decide +kernel) (cO (N:=PB) (sc:=Ad V_) rfl rfl) rfl (Fg rfl T.z_range (pU (Jj T.fl_size (vp 0)))) (λ_ _ _=>Ei) (λ_ _ _=>Zk (tEq hr (vp 7) (pU (iX hr (vp 3) (vp 6)))) (Pn) (Pn)))))) (Ae (G3 [5] (Ag (cEq hr (pU (fX (Xv T) hr (pav 0 (pav 1 (pav 5 (iI (Ac))))))) (iP))))))))))
abbrev TF:List Str:=["world","fact","places"]
theorem Xw:FnScope TF ["world","fact","places"] (Ad Su):=scO
theorem Xx(T:Tx G mg):DOk P w base T.x_as_it_is 5 (spD G Kh):=
 fnX (k:=4) (N:=TF) (b:=NT) T.x_as_it_is Xw λ_ _ _ _ _ _ hr=>Ae (Ag (Zk (Cr (pU (fX (lD T) hr (pav 0 (pav 1 (pav 2 (Ac)))))) rfl) (vr 1) (CV (iS (pav 1 (Ac))))))
abbrev Xy:List Str:=["sort","sayings","middle"]
theorem U_:FnScope Xy ["sort","sayings"] (Ad Xm):=scO
theorem QV(T:Tx G mg):∀n:Nat,DOk P w base T.x_halved (n*1+0) (spD G (Ha n))
 |0=>N8
 |n+1=>(fnX (k:=n*1+0) (N:=Xy) (b:=Lj (Ha n)) T.x_halved U_ λ_ _ _ _ _ _ hr=>Ab (Ax (tEq hr (pU (BJ ((BP rfl).or BX) CJ rfl T.z_len DX (vp 1))) (iP)) (Ae (Ag .(11))) (Al)) (Ab (sF U_.nd 2 (bDiv (pU (BJ ((BP rfl).or BX) CJ rfl T.z_len DX (vp 1))) (iP))) (Ae (Ag (CV (pav 0 (Af (fX (QV T n) hr (pav 0 (Af (Dn rfl (vp 1) (Eh) (DW (vp 2))) (Ac) Ah))) (Af (fX (QV T n) hr (pav 0 (Af (Dn rfl (vp 1) (DW (vp 2)) (Eh)) (Ac) Ah))) (Ac) CG) CG))))))).mono (by omega)
abbrev Xz:List Str:=["sort","sayings","name","always"]
theorem VB:FnScope Xz ["sort","sayings","name"] (Ad Xn):=scO
theorem VD(T:Tx G mg):DOk P w base T.x_joined 9 (spD G Hh):=
 fnX (k:=8) (N:=Xz) (b:=Ou) T.x_joined VB λ_ _ _ _ _ _ hr=>Ab (Ax (tGt (pU (BJ ((BP rfl).or BX) CJ rfl T.z_len DX (vp 1))) (iP)) (Ae (Ag (fX (QV T 8) hr (pav 0 (pav 1 (Ac)))))) (Al)) (Ab (sF VB.nd 3 (CV (iS (pav 2 (pav 2 (Ac)))))) (Ae (Ag (Zk (tEq hr (vp 0) (sP)) (vr 3) (CV (iS (pav 3 (Ac))))))))
abbrev Jg:List Str:=["self"]
theorem Nh:FnScope Jg ["self"] (Ad Jc):=scO
theorem Ni(T:Tx G mg):FnOk P w G.K mg base CX0 1 T.x_World_tie_words.f T.x_World_tie_words.fd ["self"] (spD G Cw):=
 fn_D (k:=0) (N:=Jg) (b:=Gh) T.x_World_tie_words.F Nh (by decide) λ_ _ _ _ _ _ hr=>Ae (Ag (BJ (HD rfl) RN rfl T.z_sorted Jw (pU (Jj T.fl_tied (vp 0)))))
abbrev JQ:List Str:=["self"]
theorem Mh:FnScope JQ ["self"] (Ad JN):=scO
theorem Mi(T:Tx G mg):FnOk P w G.K mg base CX0 1 T.x_World_mark_words.f T.x_World_mark_words.fd ["self"] (spD G Bw):=
 fn_D (k:=0) (N:=JQ) (b:=Fx) T.x_World_mark_words.F Mh (by decide) λ_ _ _ _ _ _ hr=>Ae (Ag (BJ (HD rfl) RN rfl T.z_sorted Jw (pU (Jj T.fl_marked (vp 0)))))
abbrev Cp:List Str:=["world","names","last","facts","word","name"]
theorem Dc:FnScope Cp ["world","names"] (Ad Ft):=scO
theorem QW(T:Tx G mg):DOk P w base T.x_facts_of_last 2 (spD G Dp):=
 fnX (k:=1) (N:=Cp) (b:=Hn) T.x_facts_of_last Dc λ_ _ _ _ _ _ hr=>Ab (sF Dc.nd 2 (iX hr (vp 1) (pU (Vr (iP))))) (Ab (cR (i:=3) ["world","names","last","facts","word","","name"] (by show De "name" Cp++(["name"]:List Str)=_;decide +kernel) (cO (N:=Cp) (sc:=Ad Ft) rfl rfl) rfl Dc.nd rfl (by first | exact fm rfl | exact eB rfl) (PFI.top (Aw rfl (Dn rfl (vp 1) (Eh) (DW (pU (Vr (iP))))))) (λ_ _ _=>Ei) (λ_ _ _=>CV (iS (pav 6 (pav 2 (Ac)))))) (Ab (pL rfl (pv 3) (Et ["world","names","last","facts","","name","word"] (by show De "word" Cp++(["word"]:List Str)=_;decide +kernel) (cO (N:=Cp) (sc:=Ad Ft) rfl rfl) rfl (PFI.top (Aw rfl (mO T.gc_World T.cl_World (Mi T) hr (vr 0)))) (λ_ _ _=>Ei) (λ_ _ _=>CV (iS (pav 6 (pav 2 (Ac))))))) (Ab (Bm dn rfl (Aw rfl (mO T.gc_World T.cl_World (Ni T) hr (vr 0))) (BW (gN Dc.nd 4)) (Ab (KD (pv 3) (CV (iS (pav 4 (pav 2 (pav 2 (Ac))))))) (Ae (Bm dn rfl (Aw rfl (Dn rfl (vp 1) (Eh) (DW (pU (Vr (iP)))))) (BW (gN Dc.nd 5)) (Ab (KD (pv 3) (CV (iS (pav 4 (pav 5 (pav 2 (Ac))))))) (Ae (KD (pv 3) (CV (iS (pav 4 (pav 2 (pav 5 (Ac))))))))))))) (Ae (G3 [3] (Ag (vr 3)))))))
abbrev Bb:List Str:=["world","count","name","places","told"]
theorem Di:FnScope Bb ["world","count"] (Ad Ec):=scO
theorem JR(T:Tx G mg):∀n:Nat,DOk P w base T.x_portrait_behind (n*1+9) (spD G (A_ n))
 |0=>N8
 |n+1=>(fnX (k:=n*1+9) (N:=Bb) (b:=Eb (A_ n)) T.x_portrait_behind Di λ_ _ _ _ _ _ hr=>Ab (sF Di.nd 2 (iX hr (pU (Eg (Es (v:=.(6)) rfl T.s_LETTERS.m ⟨_,rfl⟩) (.str _))) (vp 1))) (Ab (Ax (tEq hr (vp 1) (pU (Jj T.fl_size (vp 0)))) (Ae (Ag (CV (iS (pav 2 (Af (fX (VD T) hr (iS (Af (Et (nT Bb "known") (by show De "known" Bb++(["known"]:List Str)=_;decide +kernel) (cO (N:=Bb) (sc:=Ad Ec) rfl rfl) rfl (PFI.top (Aw rfl (Dn rfl (pU (Eg (Es (v:=.(6)) rfl T.s_LETTERS.m ⟨_,rfl⟩) (.str _))) (Eh) (DW (vp 1))))) (λ_ _ _=>Ei) (λ_ _ _=>CV (iS (pav 2 (pav 5 (Ac)))))) (pav 2 (Ac)) Xh))) (Ac) CG)))))) (Al)) (Ab (sF Di.nd 3 (fX (WK T) hr (Af (qO rfl T.z_list rfl T.z_range (pU (bAdd (vp 1) (iP)))) (Ac) CG))) (Ab (Rw (i:=4) (nT Bb "fact") (by show De "fact" Bb++(["fact"]:List Str)=_;decide +kernel) (cO (N:=Bb) (sc:=Ad Ec) rfl rfl) rfl Di.nd rfl (by first | exact fm rfl | exact eB rfl) (PFI.top (Aw rfl (fX (QW T) hr (pav 0 (Af (Dn rfl (pU (Eg (Es (v:=.(6)) rfl T.s_LETTERS.m ⟨_,rfl⟩) (.str _))) (Eh) (DW (pU (bAdd (vp 1) (iP))))) (Ac) Ah))))) (λ_ _ _=>Ei) (λ_ _ _=>fX (Xx T) hr (pav 0 (pav 5 (pav 3 (Ac)))))) (Ae (Ag (CV (iS (pav 2 (Af (fX (VD T) hr (iS (Af (bAdd (vp 4) (pU (CQ (Af (fX (JR T n) hr (pav 0 (Af (bAdd (vp 1) (iP)) (Ac) Be))) (Ac) CG)))) (pav 2 (Ac)) Be))) (Ac) CG)))))))))).mono (by omega)
abbrev TJ:List Str:=["world"]
theorem X3:FnScope TJ ["world"] (Ad Sv):=scO
theorem Lq(T:Tx G mg):DOk P w base T.x_portrait 17 (spD G G8):=
 fnX (k:=16) (N:=TJ) (b:=NZ) T.x_portrait X3 λ_ _ _ _ _ _ hr=>Ae (Ag (fX (JR T 7) hr (pav 0 (iI (Ac)))))
abbrev Gw:List Str:=["_law_names","_law_letters"]
theorem Mv:FnScope Gw ["_law_names"] (Ad Kr):=scO
theorem Mw(T:Tx G mg):DOk P w base T.x__law_named 1 (spD G Ex):=
 fnX (k:=0) (N:=Gw) (b:=Kl) T.x__law_named Mv λ_ _ _ _ _ _ hr=>Ab (sF Mv.nd 1 (Rp)) (Ae (Ag (cEq hr (pU (BJ ((BP rfl).or BX) CJ rfl T.z_len DX (pU (Et (nT Gw "_law_name") (by show De "_law_name" Gw++(["_law_name"]:List Str)=_;decide +kernel) (cO (N:=Gw) (sc:=Ad Kr) rfl rfl) rfl (PFI.top (Aw rfl (vr 0))) (λ_ _ _=>HW (PFW.pt (Ff (Cr (pU (Vs Vt rfl rfl T.z_isinstance G9 rfl T.z_str Ys (vp 2))) rfl) (Ff (tEq hr (pU (BJ ((BP rfl).or BX) CJ rfl T.z_len DX (vp 2))) (iP)) (DK (tIn hr (vp 2) (vp 1))))))) (λ_ _ _=>vr 2))))) (pU (BJ ((BP rfl).or BX) CJ rfl T.z_len DX (vp 0))))))
abbrev PJ:List Str:=["_law_saying","_law_world_here","_law_names"]
theorem Jt:FnScope PJ ["_law_saying","_law_world_here"] (Ad O3):=scO
theorem Uc(T:Tx G mg):DOk P w base T.x__law_plain 2 (spD G Ey):=
 fnX (k:=1) (N:=PJ) (b:=Gn) T.x__law_plain Jt λ_ _ _ _ _ _ hr=>Ab (sF Jt.nd 2 (Dn rfl (vp 0) (DW (iP)) (Eh))) (Ab (Ax (tEq hr .(3) (sP)) (Ae (sF Jt.nd 2 (Dn rfl (vp 0) (DW (iP)) (Eh)))) (Al)) (Ab (Ax (PFW.pt (Ff (tEq hr .(3) (sP)) (DK (PFW.pt (GF (Ht (Cr (pU (Vs Vt rfl rfl T.z_isinstance G9 rfl T.z_str Ys .(3))) rfl)) (Dr (tNi hr .(3) (pU .(11))))))))) (Ae (Ag (Pq))) (Al)) (Ab (Ax (PFW.pt (Ff (tEq hr .(3) (sP)) (DK (PFW.pt (GF (Ht (Cr (pU (Vs Vt rfl rfl T.z_isinstance G9 rfl T.z_str Ys .(3))) rfl)) (Dr (tNi hr .(3) (pU .(11))))))))) (Ae (Ag (Pq))) (Al)) (Ab (Ax (PFW.pt (GF (tNe hr (pU (BJ ((BP rfl).or BX) CJ rfl T.z_len DX (vp 2))) (pU (bSub (iP) (pU (Dt Ih L_ rfl T.z_int Py (pU (cEq hr .(3) (sP)))))))) (Dr (Ht (Cr (pU (fX (Mw T) hr (pav 2 (Ac)))) rfl))))) (Ae (Ag (Pq))) (Al)) (Ae (Ag (CQ (iI (iI (iI (Af (Dt ((Hs.or (Hx rfl)).or (Hy rfl)) MN rfl T.z_list MF (vp 2)) (Ac) CG)))))))))))
abbrev Fd:List Str:=["_law_saying","_law_world_here","_law_sort","_law_over","_law_found","_law_within","_law_below","_law_free"]
theorem CP:FnScope Fd ["_law_saying","_law_world_here"] (Ad Js):=scO
theorem Lr(T:Tx G mg):∀n:Nat,DOk P w base T.x__law_walked (n*1+2) (spD G (Aj n))
 |0=>N8
 |n+1=>(fnX (k:=n*1+2) (N:=Fd) (b:=CZ (Aj n)) T.x__law_walked CP λ_ _ _ _ _ _ hr=>Ab (Ax (PFW.pt (GF (Ht (Cr (pU (Vs cL rfl rfl T.z_isinstance G9 rfl T.z_tuple jg (vp 0))) rfl)) (Dr (tLt (pU (BJ ((BP rfl).or BX) CJ rfl T.z_len DX (vp 0))) (iP))))) (Ae (Ag (Pq))) (Al)) (Ab (sF CP.nd 2 .(7)) (Ab (Ax (tIn hr (vp 2) (pU (CQ (iS (iS (iS (Ac))))))) (Ae (Ag (fX (Uc T) hr (pav 0 (pav 1 (Ac)))))) (Al)) (Ab (sF CP.nd 3 (Vm (cIn hr (vp 2) (pU (CQ (iS (iS (Ac)))))) (Rr (fX (Mw T) hr (Af (Dn rfl (vp 0) (DW (iP)) (DW (iP))) (Ac) Ah))))) (Ab (Ax (PFW.pt (GF (PFW.pt (Ff (Ht (Cr (vp 3) rfl)) (DK (tNi hr (vp 2) (pU (CQ (iS (iS (iS (Ac)))))))))) (Dr (tNe hr (pU (BJ ((BP rfl).or BX) CJ rfl T.z_len DX (vp 0))) (pU (bSub (iP) (pU (Dt Ih L_ rfl T.z_int Py (pU (cEq hr (vp 2) (sP))))))))))) (Ae (Ag (Pq))) (Al)) (Ab (sF CP.nd 4 (CQ (iI (iI (iI (Af (CQ (Ac)) (Ac) aR)))))) (Ab (Bm dn rfl (Aw rfl (Dn rfl (vp 0) (DW (pU (bAdd (iP) (pU (Dt Ih L_ rfl T.z_int Py (vp 3)))))) (Eh))) (BW (gN CP.nd 5)) (Ab (sF CP.nd 6 (fX (Lr T n) hr (pav 5 (pav 1 (Ac))))) (Ab (Ax (V2 (vp 6)) (Ae (Ag (Pq))) (Al)) (Ae (sF CP.nd 4 (CQ (Af (Wx (Uh rfl) Wy rfl T.z_max gZ (pU (iX hr (vp 4) (iP))) (pU (iX hr (vp 6) (iP)))) (Af (bAdd (pU (iX hr (vp 4) (iP))) (pU (iX hr (vp 6) (iP)))) (Af (Wx (Uh rfl) Wy rfl T.z_max gZ (pU (iX hr (vp 4) (iP))) (pU (iX hr (vp 6) (iP)))) (Af (bAdd (pU (iX hr (vp 4) (iP))) (pU (iX hr (vp 6) (iP)))) (Ac) Be) CG) Be) CG))))))) (Ab (Rw (i:=7) (nT Fd "_law_name") (by show De "_law_name" Fd++(["_law_name"]:List Str)=_;decide +kernel) (cO (N:=Fd) (sc:=Ad Js) rfl rfl) rfl CP.nd rfl (by first | exact fm rfl | exact eB rfl) (PFI.top (Aw rfl (iX hr (vp 4) (iP)))) (λ_ _ _=>HW (PFW.pt (GF (Ht (Cr (vp 3) rfl)) (Dr (tNe hr (vp 8) .(3)))))) (λ_ _ _=>vr 8)) (Ae (Ag (CQ (Af (bAdd (pU (iX hr (vp 4) (iP))) (pU (Dt Ih L_ rfl T.z_int Py (vp 3)))) (Af (iX hr (vp 4) (iP)) (Af (bAdd (pU (iX hr (vp 4) (iP))) (iP)) (pav 7 (Ac)) Be) Ah) Be)))))))))))).mono (by omega)
abbrev VF:List Str:=["_law_world_here","_law_saying","_law_places","_law_sort","_law_thing","_law_more"]
theorem Ks:FnScope VF ["_law_world_here","_law_saying","_law_places"] (Ad U9):=scO
theorem Dj(T:Tx G mg):∀n:Nat,DOk P w base T.x__law_so (n*1+0) (spD G (Bh n))
 |0=>N8
 |n+1=>(fnX (k:=n*1+0) (N:=VF) (b:=Fz (Bh n)) T.x__law_so Ks λ_ _ _ _ _ _ hr=>Ab (sF Ks.nd 3 .(11)) (Ab (Ax (tEq hr (vp 3) (sP)) (Ae (Ag (cIn hr (pU (iX hr (vp 2) (pU .(11)))) (pU (iX hr .(3) (pU .(11))))))) (Al)) (Ab (Ax (tEq hr (vp 3) (sP)) (Ae (Ag (cIn hr (pU (CV (Af (iX hr (vp 2) (pU .(11))) (Af (iX hr (vp 2) (pU .(11))) (Ac) Ah) Ah))) (pU (iX hr .(3) (pU .(11))))))) (Al)) (Ab (Ax (tEq hr (vp 3) (sP)) (Ae (Ag (cEq hr (pU (iX hr (vp 2) (pU .(11)))) (pU (iX hr (vp 2) (pU .(11))))))) (Al)) (Ab (Ax (tEq hr (vp 3) (sP)) (Ae (Ag (vD (fX (Dj T n) hr (pav 0 (Af .(11) (pav 2 (Ac)) Ah)))))) (Al)) (Ab (Ax (tEq hr (vp 3) (sP)) (Ae (Ag (Vm (fX (Dj T n) hr (pav 0 (Af .(11) (pav 2 (Ac)) Ah))) (Rr (fX (Dj T n) hr (pav 0 (Af .(11) (pav 2 (Ac)) Ah))))))) (Al)) (Ab (Ax (tEq hr (vp 3) (sP)) (Ae (Ag (yM (fX (Dj T n) hr (pav 0 (Af .(11) (pav 2 (Ac)) Ah))) (Rr (fX (Dj T n) hr (pav 0 (Af .(11) (pav 2 (Ac)) Ah))))))) (Al)) (Ab (Bm dn rfl (Fg rfl T.z_range .(3)) (BW (gN Ks.nd 4)) (Ab (sW Ks.nd 5 (p6 rfl T.z_dict Zn (vp 2))) (Ab (Hv (GC hr) (pv 5) .(11) (vr 4)) (Ae (G3 [5] (Ax (tEq hr (pU (fX (Dj T n) hr (pav 0 (Af .(11) (pav 5 (Ac)) Ah)))) (pU (cEq hr (vp 3) (sP)))) (Ae (Ag (cEq hr (vp 3) (sP)))) (Al))))))) (Ae (Ag (cEq hr (vp 3) (sP)))))))))))).mono (by omega)
abbrev PK:List Str:=["_law_world_here","_law_here","_law_there","_law_found","_law_word"]
theorem Fe:FnScope PK ["_law_world_here","_law_here","_law_there"] (Ad O4):=scO
theorem My(T:Tx G mg):DOk P w base T.x__law_facts 1 (spD G Gq):=
 fnX (k:=0) (N:=PK) (b:=Km) T.x__law_facts Fe λ_ _ _ _ _ _ hr=>Ab (sW Fe.nd 3 (Vv (Af (cEq hr (vp 1) (vp 2)) (Ac) NP))) (Ab (Bm dn rfl (Aw rfl (BJ (HD rfl) RN rfl T.z_sorted Jw .(3))) (BW (gN Fe.nd 4)) (Ae (KD (pv 3) (cIn hr (vp 1) (pU (iX hr .(3) (vp 4))))))) (Ab (Bm dn rfl (Aw rfl (BJ (HD rfl) RN rfl T.z_sorted Jw .(3))) (BW (gN Fe.nd 4)) (Ae (sW Fe.nd 3 (wB (vq 3) (pU (CQ (Af (cIn hr (pU (CV (pav 1 (pav 2 (Ac))))) (pU (iX hr .(3) (vp 4)))) (Af (cIn hr (pU (CV (pav 2 (pav 1 (Ac))))) (pU (iX hr .(3) (vp 4)))) (Ac) NP) NP))))))) (Ae (G3 [3] (Ag (vr 3))))))
abbrev Mz:List Str:=["_law_one","_law_other_here","_law_found","_law_row","_law_past"]
theorem Ls:FnScope Mz ["_law_one","_law_other_here","_law_found","_law_row"] (Ad Mr):=scO
theorem TQ(T:Tx G mg):DOk P w base T.x__law_beside 2 (spD G Fb):=
 fnX (k:=1) (N:=Mz) (b:=Jr) T.x__law_beside Ls λ_ _ _ _ _ _ hr=>Ab (Bm dn rfl (Aw rfl (bAdd (vp 2) (pU (CQ (pav 3 (Ac)))))) (BW (gN Ls.nd 4)) (Ae (Ax (tNe hr (pU (fX (My T) hr (pav 0 (Af (iX hr (vp 4) (iP)) (Af (iX hr (vp 3) (iP)) (Ac) Ah) Ah)))) (pU (fX (My T) hr (pav 1 (Af (iX hr (vp 4) (iP)) (Af (iX hr (vp 3) (iP)) (Ac) Ah) Ah))))) (Ae (Ag (K8))) (Al)))) (Ae (Ag (K8)))
abbrev JS:List Str:=["_law_one","_law_other_here","_law_found","_law_here","_law_taken","_law_there"]
theorem Jh:FnScope JS ["_law_one","_law_other_here","_law_found"] (Ad Nb):=scO
theorem Qw(T:Tx G mg):∀n:Nat,DOk P w base T.x__law_any (n*1+2) (spD G (CT n))
 |0=>N8
 |n+1=>(fnX (k:=n*1+2) (N:=JS) (b:=Kp (CT n)) T.x__law_any Jh λ_ _ _ _ _ _ hr=>Ab (sF Jh.nd 3 (BJ ((BP rfl).or BX) CJ rfl T.z_len DX (vp 2))) (Ab (Ax (tEq hr (vp 3) .(3)) (Ae (Ag (K8))) (Al)) (Ab (Rw (i:=4) (nT JS "_law_row") (by show De "_law_row" JS++(["_law_row"]:List Str)=_;decide +kernel) (cO (N:=JS) (sc:=Ad Nb) rfl rfl) rfl Jh.nd rfl (by first | exact fm rfl | exact eB rfl) (PFI.top (Aw rfl (vr 2))) (λ_ _ _=>Ei) (λ_ _ _=>iX hr (vp 6) (iP))) (Ab (Bm dn rfl (Fg rfl T.z_range (pU .(11))) (BW (gN Jh.nd 5)) (Ae (Ax (PFW.pt (Ff (tNi hr (vp 5) (vp 4)) (DK (Cr (pU (fX (TQ T) hr (pav 0 (pav 1 (pav 2 (Af (CV (pav 3 (pav 5 (Ac)))) (Ac) Xg)))))) rfl)))) (Ae (Ax (Cr (pU (fX (Qw T n) hr (pav 0 (pav 1 (Af (bAdd (vp 2) (pU (CQ (Af (CV (pav 3 (pav 5 (Ac)))) (Ac) Xg)))) (Ac) Be))))) rfl) (Ae (Ag (K8))) (Al))) (Al)))) (Ae (Ag (K8))))))).mono (by omega)
abbrev t_:List Str:=["_law_script","_law_one","_law_other_here","_law_order_here","_law_left","_law_found","_law_walked_here","_law_due","_law_beside_here"]
theorem Ku:FnScope t_ ["_law_script"] (Ad t8):=scO
theorem wH(T:Tx G mg):DOk P w base T.x_law 63 (spD G ak):=
 fnX (k:=62) (N:=t_) (b:=aj) T.x_law Ku λ_ _ _ _ _ _ hr=>Ab (p_ (Oe rfl rfl (DY (gN Ku.nd 1) (DY (gN Ku.nd 2) (DY (gN Ku.nd 3) (Lb))))) (fX (Xo T) hr (pav 0 (iI (Ac))))) (Ab (sF Ku.nd 4 (jk T.gc_World T.x_World___init__.mM (Je T) (hr.mono (by omega)) rfl T.mC_World T.x_World___init__.B (Af .(11) (Af .(11) (Af .(11) (Ac) Ah) Ah) Ah))) (Ab (sF Ku.nd 5 (fX (Lq T) hr (pav 4 (Ac)))) (Ab (sF Ku.nd 6 (fX (Lr T 60) hr (pav 5 (pav 1 (Ac))))) (Ab (Ax (PFW.pt (GF (V2 (vp 6)) (GF (tGt (pU (iX hr (vp 6) (iP))) (pU (bAdd (pU .(11)) (iP)))) (GF (tGt (pU (iX hr (vp 6) (iP))) (iP)) (GF (tGt (pU (iX hr (vp 6) (iP))) (iP)) (Dr (tNe hr (pU (iX hr (vp 6) (iP))) (pU (CQ (Ac)))))))))) (Ae (Ag (K8))) (Al)) (Ab (Ax (Ht (Cr (pU (fX (Dj T 60) hr (pav 1 (pav 5 (Af (Uy) (Ac) V8))))) rfl)) (Ae (Ag (K8))) (Al)) (Ab (sF Ku.nd 7 (Vm (cEq hr (pU .(11)) (pU (iX hr (vp 2) (iP)))) (Rr (fX (Qw T 7) hr (pav 1 (pav 2 (Af (CQ (Ac)) (Ac) aR))))))) (Ab (Ax (tNe hr (pU (fX (Dj T 60) hr (pav 2 (pav 5 (Af (Uy) (Ac) V8))))) (vp 7)) (Ae (Ag (K8))) (Al)) (Ab (sF Ku.nd 8 (fX (Lq T) hr (Af (jk T.gc_World T.x_World___init__.mM (Je T) (hr.mono (by omega)) rfl T.mC_World T.x_World___init__.B (Af (iX hr (vp 2) (iP)) (Af (iX hr (vp 2) (iP)) (Af (iX hr (vp 2) (iP)) (Ac) Ah) Ah) Ah)) (Ac) CG))) (Ae (Ag (Vm (fX (Dj T 60) hr (pav 2 (pav 8 (Af (Uy) (Ac) V8)))) (Rr (cEq hr (pU (fX (Lq T) hr (pav 4 (Ac)))) (vp 5))))))))))))))
end
abbrev gx (K:ay) (C_World:Addr):Gx:=gx1 K "World" C_World
def uA(K:ay):Sp:=λvs H Q _=>∃(a:Addr) (ns:List Int),vs=[.ref a]/\SqL K H a (ns.map V.int)/\ns.length<=63/\∀H',Q (.bl true) H'
theorem wI(ht:∀ns:List Int,ns.length<=63->ak [.lst .(9)]=some (.bl true)){K:ay}{C_World:Addr}(vs:List V)(H:Hp)(Q:VK)(E:XK)(h:uA K vs H Q E):spD (gx K C_World) ak vs H Q E:=by
 obtain⟨a,ns,rfl,hs,hl,k⟩:=h;refine⟨[],[.lst .(9)],.bl true,(λ_ z=>nomatch z),RepL.cons ?_ RepL.nil,ht ns hl,λv H2 _ r=>?_⟩
 .have e:hid [] H=H:=by funext b;exact BL (λz=>nomatch z)
  rw[e];refine .lst hs (by simp) λi x d h1 h2=>?_;rw[be] at h1 h2;cases e2:ns[i]? with
  |none=>rw[e2] at h1;cases h1
  |some z=>rw[e2] at h1 h2;cases h1;cases h2;exact .int z
 .cases r;exact k H2
end K52
namespace K52
open PySem L2 PV
theorem Kv(ns:List Int)(k:Nat):Ao [.lst .(9),.int (k:Int)]=some (.int (ns.getD k 0)):=by
 by_cases h:k<ns.length
 .have eg:ns.getD k 0=ns[k]:=by simp[h]
  rw[eg];have e:atI (ns.map D.int) (k:Int)=some (.int ns[k]):=by
   rw[gw (by omega) (by simpa using h)];simp[h]
  simp[Ao,runF,JX,seqF,ifS,blF,bF,vF,uF,Ck,lenD,W6,h,retF,ixD,e]
 .have eg:ns.getD k 0=0:=by simp[kA.mp h]
  rw[eg];simp[Ao,runF,JX,seqF,ifS,blF,bF,vF,uF,Ck,lenD,W6,h,retF,nxF,kF]
theorem RQ(ns:List Int)(k:Nat):∃i,Ao [.lst .(9),.int (k:Int)]=some (.int i):=⟨_,Kv ns k⟩
theorem lE{α β:Type}(f:α->β)(l:List α)(k:Nat):cutD (l.map f) none (some (k:Int))=(l.take k).map f:=by rw[vO,C8]
theorem lF{α β:Type}(f:α->β)(l:List α)(k:Nat):cutD (l.map f) (some (k:Int)) none=(l.drop k).map f:=by rw[gr,GY]
theorem WL(x y:Str):cs (x++y)=cs x++cs y:=by show (x.cps++y.cps).toList=_;simp[cs]
theorem ZD(x:Str):(cs x).length=x.length:=by simp[cs,mf]
theorem lG(h:cs x=cs y):x=y:=by
 cases x with | mk a=>cases y with | mk b=>simp[cs] at h;rw[h]
theorem RT:LET.length=26:=by decide +kernel
theorem ao(h:IsL x)(k:IsL y):IsL (x++y):=λc hc=>by
 rw[WL] at hc
 rcases eD.mp hc with q | q
 .exact h c q
 .exact k c q
theorem dH:IsL "":=by
 have e:cs ("":Str)=[]:=by decide +kernel
 intro c hc;rw[e] at hc;cases hc
def Nm(x:Str):Prop:=∃c,c∈cs LET/\x=⟨#[c]⟩
theorem Nm.len(h:Nm x):x.length=1:=by obtain⟨c,hc,rfl⟩:=h;rfl
theorem yo(i:Int)(h0:0<=i)(h1:i<26):∃c,(cs LET)[i.toNat]?=some c/\c∈cs LET/\ixD (.str LET) (.int i)=some (.str ⟨#[c]⟩):=by
 have hl:(cs LET).length=26:=by rw[ZD];exact RT
 have hi:i.toNat<(cs LET).length:=by omega
 refine⟨(cs LET)[i.toNat],by simp[hi],pS hi,?_⟩;show (if LET.length<=sizeLine then (atI (cs LET) i).map (λc=>D.str ⟨#[c]⟩) else none)=_;rw[if_pos (JT (by rw[RT];decide)),gw h0 (by rw[hl];omega)];simp[hi]
def plc(n at_:Int)(k j:Nat):Int:=n/((j:Int)+3)+(j:Int)*j+(if (j:Int)=at_ then 1 else 0)*(k:Int)
def chr(n at_:Int)(k j:Nat):Nat:=(cs LET).getD (plc n at_ k j%26).toNat 0
def wrd(n at_:Int)(k:Nat)(m:Nat):Str:=⟨((av m).map (chr n at_ k)).toArray⟩
theorem X4(n at_:Int)(k m:Nat):wrd n at_ k (m+1)=wrd n at_ k m++⟨#[chr n at_ k m]⟩:=by
 apply lG;rw[WL];simp[wrd,cs,ro]
theorem Ma(n at_:Int)(k m:Nat):(wrd n at_ k m).length=m:=by simp[wrd,mf]
theorem X5(n at_:Int)(k j:Nat):chr n at_ k j∈cs LET/\ixD (.str LET) (.int (plc n at_ k j%26))=some (.str ⟨#[chr n at_ k j]⟩):=by
 obtain⟨c,h1,h2,h3⟩:=yo (plc n at_ k j%26) (gX _ (by decide)) (ja _ (by decide));have e:chr n at_ k j=c:=by unfold chr;rw[gT,h1];rfl
 rw[e];exact⟨h2,h3⟩
theorem aq(n at_:Int)(k:Nat):∀m,IsL (wrd n at_ k m)
 |0=>dH
 |m+1=>by
  rw[X4];refine ao (aq n at_ k m) λc hc=>?_;simp[cs] at hc;subst hc;exact (X5 n at_ k m).1
theorem wJ:(cs LET).Nodup:=by decide +kernel
theorem wK(n:Int)(at_:Nat){k k':Nat}(hk:k<7)(hk':k'<7)(h:k≠k'):chr n at_ k at_≠chr n at_ k' at_:=by
 have hl:(cs LET).length=26:=by rw[ZD];exact RT
 intro e;have b:∀k:Nat,(plc n at_ k at_%26).toNat<(cs LET).length:=λk=>by
  have h0:0<=plc n at_ k at_%26:=gX _ (by decide);have h1:plc n at_ k at_%26<26:=ja _ (by decide);rw[hl];omega
 have e2:∀k:Nat,chr n at_ k at_=(cs LET)[(plc n at_ k at_%26).toNat]'(b k):=λk=>by
  unfold chr;rw[gT,cf (b k)];rfl
 rw[e2,e2] at e;have e3:=(A4 wJ).mp e;have p:∀k:Nat,plc n at_ k at_=n/((at_:Int)+3)+(at_:Int)*at_+k:=λk=>by unfold plc;rw[if_pos rfl,Int.one_mul]
 rw[p,p] at e3;generalize n/((at_:Int)+3)+(at_:Int)*at_=z at e3;have h0:0<=(z+(k:Int))%26:=gX _ (by decide);have h0':0<=(z+(k':Int))%26:=gX _ (by decide);omega
theorem wL(n:Int)(at_ m:Nat)(ha:at_<m){k k':Nat}(hk:k<7)(hk':k'<7)(h:k≠k'):wrd n at_ k m≠wrd n at_ k' m:=by
 intro e;have e1:cs (wrd n at_ k m)=cs (wrd n at_ k' m):=by rw[e]
 simp only[wrd,cs] at e1;have e2:=congrArg (λl=>l[at_]?) e1;simp[ha] at e2;exact wK n at_ hk hk' h e2
def fix(x:Str):Str:=if x∈KEPT then x++"x" else x
def fin(n at_:Int)(m:Nat)(k:Nat):Str:=fix (wrd n at_ k m)
theorem wM:∀y∈KEPT,(y++("x":Str)).length<=5/\(y++("x":Str))∉KEPT/\y.length<=4:=by decide +kernel
theorem wN(h1:1<=x.length)(h8:x.length<=8)(hL:IsL x):Wd (fix x):=by
 unfold fix;split
 .rename_i h;obtain⟨k1,k2,_⟩:=wM x h;refine⟨by rw[M9];omega,by omega,ao hL ?_,k2⟩;intro c hc;have e:cs ("x":Str)=[120]:=by decide +kernel
  rw[e] at hc;simp at hc;subst hc;decide +kernel
 .rename_i h;exact⟨h1,h8,hL,h⟩
theorem ql(hl:x.length=y.length)(h:fix x=fix y):x=y:=by
 have x1:mf "x"=1:=by decide +kernel
 unfold fix at h;split at h<;>split at h
 .have:=congrArg cs h;rw[WL,WL] at this;exact lG (List.append_cancel_right this)
 .have:=congrArg mf h;rw[M9] at this;omega
 .have:=congrArg mf h;rw[M9] at this;omega
 .exact h
theorem qm(x:Str):inF false (.str x) (.lst [.str "not",.str "and",.str "or",.str "some",.str "all"])=some (.bl (decide (x∈KEPT))):=by
 have e:=Z5 x KEPT;have:(KEPT.any λy=>y==x)=decide (x∈KEPT):=by
  rw[iA];simp only[qh,beq_iff_eq,decide_eq_true_eq];exact⟨λ⟨y,h1,h2⟩=>h2▸h1,λh=>⟨x,h,rfl⟩⟩
 rw[this] at e;exact e
end K52
section
open PySem L2 PV
local macro_rules | `(tactic| w_up) => `(tactic| (rw [List.map_cons, G5, e_tg, LR, LQ]; simp only [List.set_cons_zero, List.set_cons_succ]))
local macro_rules | `(tactic| simp only [cK, $ls,*] $[$l:location]?) => `(tactic| simp only [W7, e_nx, e_rt, iG, e_if, iH, iJ, iK, Yv, sO, iM, iQ, iR, Zu, e_b, e_bs, e_u, e_us, iT, Zv, iU, Zw, sV, sX, sY, iV, iW, iY, iZ, ie, ig, ik, ir, iu, iw, e_bl, sZ, iy, Zx, Zy, su, iz, Yw, i_, jA, Zz, Z0, tD, jB, jC, jD, Z2, tG, jE, jF, e_sl, tH, tK, Z3, W8, e_v, e_vs, e_vU, tL, e_k, R5, tO, jG, W9, jH, jJ, Z4, jK, W_, tQ, e_tr, R6, OJ, tU, jL, LC, LK, G5, Cu, Vz, LR, e_tg, LQ, List.length_cons, List.length_nil, List.map_cons, List.map_nil, List.cons_append, List.nil_append, List.replicate_succ, List.replicate_zero, List.getElem?_cons_zero, List.getElem?_cons_succ, List.set_cons_zero, List.set_cons_succ, Nat.reduceAdd, Nat.reduceSub, Nat.reduceEqDiff, Nat.zero_add, truB, Bool.not_true, Bool.not_false, decide_true, decide_false, List.append_nil, Int.reduceLT, Int.reduceLE, Int.reduceNeg, Int.reduceEq, Int.reduceToNat, Nat.reduceLeDiff, ix0, ix1, ix2, ixt0, ixt1, ixt2, ixt3, $ls,*] $[$l:location]?)
local macro_rules | `(tactic| simp only [cK]) => `(tactic| simp only [cK, e_nx])
local macro_rules | `(tactic| simp only [kC, $ls,*] $[$l:location]?) => `(tactic| simp only [$ls,*, W7, e_nx, e_rt, iG, e_if, iH, iJ, iK, Yv, sO, iM, iQ, iR, Zu, e_b, e_bs, e_u, e_us, iT, Zv, iU, Zw, sV, sX, sY, iV, iW, iY, iZ, ie, ig, ik, ir, iu, iw, e_bl, sZ, iy, Zx, Zy, su, iz, Yw, i_, jA, Zz, Z0, tD, jB, jC, jD, Z2, tG, jE, jF, e_sl, tH, tK, Z3, W8, e_v, e_vs, e_vU, tL, e_k, R5, tO, jG, W9, jH, jJ, Z4, jK, W_, tQ, e_tr, R6, OJ, tU, jL, LC, LK, G5, Cu, Vz, LR, e_tg, LQ, List.length_cons, List.length_nil, List.map_cons, List.map_nil, List.cons_append, List.nil_append, List.replicate_succ, List.replicate_zero, List.getElem?_cons_zero, List.getElem?_cons_succ, List.set_cons_zero, List.set_cons_succ, Nat.reduceAdd, Nat.reduceSub, Nat.reduceEqDiff, Nat.zero_add, truB, Bool.not_true, Bool.not_false, decide_true, decide_false, List.append_nil, Int.reduceLT, Int.reduceLE, Int.reduceNeg, Int.reduceEq, Int.reduceToNat, Nat.reduceLeDiff, ix0, ix1, ix2, ixt0, ixt1, ixt2, ixt3] $[$l:location]?)
local macro_rules | `(tactic| simp only [kiC, $ls,*] $[$l:location]?) => `(tactic| simp only [kC, $ls,*, Hl, GK, M8, Yu, W6, Qh, g_, h_, Uv, iB, R4] $[$l:location]?)
local macro_rules | `(tactic| simp only [dK, $ls,*] $[$l:location]?) => `(tactic| simp only [cK, NB, Fv, vf, GP, RL, qL, qM, DN, GQ, Oj, RM, SM, NK, vg, qN, Ql, Qm, Le, Ol, SN, $ls,*] $[$l:location]?)
local macro_rules | `(tactic| simp only [ciK, $ls,*] $[$l:location]?) => `(tactic| simp only [cK, Hl, GK, M8, Yu, W6, Qh, g_, h_, Uv, iB, R4, $ls,*] $[$l:location]?)
local macro_rules | `(tactic| simp only [diK, $ls,*] $[$l:location]?) => `(tactic| simp only [dK, Hl, GK, M8, Yu, W6, Qh, g_, h_, Uv, iB, R4, $ls,*] $[$l:location]?)
namespace K52
open PySem L2 PV
theorem Qx(b:Bool):intD (.bl b)=some (.int (if b then 1 else 0)):=zE_ _
theorem sml(h:j<8):(j:Int)<8/\0<=(j:Int):=by omega
theorem qp(i mm n l at_:Int)(w6:Slot)(k m:Nat)(hk:k<7)(hm:m<=8)(y9 y10:Slot):∃z9 z10:Slot,
  forF (tgB (BK 9) El) (rngD m) [.fz (.int i),.fz (.int mm),.fz (.str LET),.fz (.int n),.fz (.int l),.fz (.int at_),w6,.fz (.int (k:Int)),.fz (.str ""),y9,y10]
   = some (.nx [.fz (.int i),.fz (.int mm),.fz (.str LET),.fz (.int n),.fz (.int l),.fz (.int at_),w6,.fz (.int (k:Int)),.fz (.str (wrd n at_ k m)),z9,z10]):=by
 obtain⟨ρ',e,z9,z10,rfl⟩:=K_ (b:=tgB (BK 9) El) (ds:=rngD m) (ρ:=[.fz (.int i),.fz (.int mm),.fz (.str LET),.fz (.int n),.fz (.int l),.fz (.int at_),w6,.fz (.int (k:Int)),.fz (.str ""),y9,y10])
  (P:=λj ρ=>∃z9 z10:Slot,ρ=[.fz (.int i),.fz (.int mm),.fz (.str LET),.fz (.int n),.fz (.int l),.fz (.int at_),w6,.fz (.int (k:Int)),.fz (.str (wrd n at_ k j)),z9,z10]) 0 ⟨y9,y10,rfl⟩ (by
   rintro j d ρ hd ⟨z9,z10,rfl⟩;have hj:j<m:=by
    have:=(d6.mp hd).1;rw[FQ] at this;exact this
   have ed:d=.int (j:Int):=by
    have:=hd;simp[rngD,hj] at this;exact this.symm
   subst ed;have hj8:=sml (show j<8 by omega);have e1:=GK n ((j:Int)+3) (by omega) (by omega);have e2:=OD (j:Int) (j:Int) (by omega);have e3:=OD (if decide ((j:Int)=at_) then (1:Int) else 0) (k:Int) (by omega);have pe:n/((j:Int)+3)+(j:Int)*j+(if decide ((j:Int)=at_)=true then (1:Int) else 0)*(k:Int)=plc n at_ k j:=by unfold plc;simp
   have ex:=(X5 n at_ k j).2;have ea:=Vy (i:=wrd n at_ k j) (j:=⟨#[chr n at_ k j]⟩) (by rw[Ma];show j+1<=_;omega);rw[<-X4] at ea;refine⟨_,?_,.fz (.int (j:Int)),.fz (.int (plc n at_ k j)),by rw[kB]⟩;rw[kB];show El [.fz (.int i),.fz (.int mm),.fz (.str LET),.fz (.int n),.fz (.int l),.fz (.int at_),w6,.fz (.int (k:Int)),.fz (.str (wrd n at_ k j)),.fz (.int (j:Int)),z10]=_;simp only[diK,El,Qx,e1,e2,e3,pe,ex,ea])
 rw[FQ,kB] at *;exact⟨z9,z10,e⟩
theorem yp:mf "x"=1:=by decide +kernel
theorem PL(L:List D)(x:D)(h:L.length<=1000):appL (.lst L) x=some (.lst (L++[x])):=by
 unfold appL;show (if L.length<sizeLine then some (D.lst (L++[x])) else none)=_;rw[if_pos (rf h (by decide))]
theorem lH(i mm n:Int)(l at_ k:Nat)(hk:k<7)(hl8:l<=8)(fs:List D)(hf:fs.length<=1000)(z8 z9 z10:Slot):∃y9 y10:Slot,Em [.fz (.int i),.fz (.int mm),.fz (.str LET),.fz (.int n),.fz (.int (l:Int)),.fz (.int (at_:Int)),.ow (.lst fs),.fz (.int (k:Int)),z8,z9,z10]
  = some (.nx [.fz (.int i),.fz (.int mm),.fz (.str LET),.fz (.int n),.fz (.int (l:Int)),.fz (.int (at_:Int)),.ow (.lst (fs++[.str (fin n at_ l k)])),.fz (.int (k:Int)),.fz (.str (fin n at_ l k)),y9,y10]):=by
 obtain⟨y9,y10,e1⟩:=qp i mm n l at_ (.ow (.lst fs)) k l hk hl8 z9 z10;have e2:=Ir (l:Int) (by omega);have e3:=qm (wrd n at_ k l);have e4:=Vy (i:=wrd n at_ k l) (j:="x") (by rw[Ma,yp];omega);have e5:=PL fs (.str (fin n at_ l k)) hf;refine⟨y9,y10,?_⟩
 by_cases hq:wrd n at_ k l∈KEPT
 .have ef:wrd n at_ k l++"x"=fin n at_ l k:=by unfold fin fix;rw[if_pos hq]
  rw[decide_eq_true hq] at e3;rw[ef] at e4;simp only[diK,Em,e2,df,e1,e3,e4,e5]
 .have ef:wrd n at_ k l=fin n at_ l k:=by unfold fin fix;rw[if_neg hq]
  rw[decide_eq_false hq] at e3;rw[ef] at e1 e3;simp only[diK,Em,e2,df,e1,e3,e5]
theorem lJ(i:Int)(mm:Nat)(hm:mm<=6):∃ws:List Str,H_ [.int i,.int (mm:Int)]=some (.lst (ws.map .str))/\ws.length=mm/\(∀x∈ws,Wd x)/\ws.Nodup:=by
 have n0:0<=i%2147483629:=gX _ (by decide);generalize en:i%2147483629=n at n0;have l0:0<=n%8:=gX _ (by decide);have l8:n%8<8:=ja _ (by decide);obtain⟨l,el⟩:∃l:Nat,(l:Int)=1+n%8:=⟨(1+n%8).toNat,by omega⟩;have hl1:1<=l:=by omega
 have hl8:l<=8:=by omega
 have a0:0<=n/8%(l:Int):=gX _ (by omega);have al:n/8%(l:Int)<l:=ja _ (by omega);obtain⟨at_,ea⟩:∃a:Nat,(a:Int)=n/8%(l:Int):=⟨(n/8%(l:Int)).toNat,by omega⟩;have hat:at_<l:=by omega
 refine⟨(av mm).map (fin n at_ l),?_,by simp,λx hx=>?_,?_⟩
 .have hL:(gi "abcdefghijklmnopqrstuvwxyz")=LET:=rfl;obtain⟨ρ',e,z7,z8,z9,z10,rfl⟩:=K_ (b:=tgB (BK 7) Em) (ds:=rngD mm) (ρ:=[.fz (.int i),.fz (.int (mm:Int)),.fz (.str LET),.fz (.int n),.fz (.int (l:Int)),.fz (.int (at_:Int)),.ow (.lst []),.un,.un,.un,.un])
   (P:=λk ρ=>∃z7 z8 z9 z10:Slot,ρ=[.fz (.int i),.fz (.int (mm:Int)),.fz (.str LET),.fz (.int n),.fz (.int (l:Int)),.fz (.int (at_:Int)),.ow (.lst (((av k).map (fin n at_ l)).map .str)),z7,z8,z9,z10]) 0 ⟨.un,.un,.un,.un,rfl⟩ (by
    rintro k d ρ hd ⟨z7,z8,z9,z10,rfl⟩;have hk:k<mm:=by
     have:=(d6.mp hd).1;rw[FQ] at this;exact this
    have ed:d=.int (k:Int):=by
     have:=hd;simp[rngD,hk] at this;exact this.symm
    subst ed;obtain⟨y9,y10,st⟩:=lH i mm n l at_ k (by omega) hl8 (((av k).map (fin n at_ l)).map .str) .(17) z8 z9 z10;rw[kB];have er:((av k).map (fin n at_ l)).map D.str++[.str (fin n at_ l k)]=((av (k+1)).map (fin n at_ l)).map .str:=by simp[ro]
    rw[er] at st;refine⟨_,?_,.fz (.int (k:Int)),.fz (.str (fin n at_ l k)),y9,y10,rfl⟩;rw[e_tg,LR,LQ];exact st)
  rw[FQ,kB] at *;have e6:=Ir (mm:Int) (by omega);have e7:(1:Int)+n%8=(l:Int):=el.symm;have e8:=GK n 8 (by decide) (by decide);have e9:=Hl (n/8) (l:Int) (by omega);rw[<-ea] at e9;simp only[diK,H_,KR,hL,en,e7,e8,e9,e6,df,e,sL,Int.reduceMod]
 .obtain⟨k,hk,rfl⟩:=aI.mp hx;exact wN (by rw[Ma];exact hl1) (by rw[Ma];exact hl8) (aq _ _ _ _)
 .rw[List.nodup_iff_pairwise_ne,kD];refine zw (R:=λa b=>a≠b) (λ{a b} ha hb h=>?_) zx;have ha:=bv.mp ha;have hb:=bv.mp hb;intro z;exact wL n at_ l hat (by omega) (by omega) h (ql (by rw[Ma,Ma]) z)
theorem PP(n:Nat)(t:Nat)(h:t<n):Bq [.int (n:Int),.int (t:Int)]=some .non:=by
 have c1:¬ ((t:Int)<0):=by omega
 have c2:¬ ((n:Int)<=t):=by omega
 simp only[ciK,Bq,Gb,c1,c2]
theorem lK{t:Nat}{l:List Nat}(h:t∉l):(.inl (t:Int):Key)∉(l.map λ(t:Nat)=>((.inl (t:Int):Key),D.bl true)).map (·.1):=by
 intro z;rw[bX] at z;obtain⟨u,hu,e⟩:=aI.mp z;simp at e;have e':u=t:=by omega
 exact h (e'▸hu)
theorem VG(n:Nat)(x z0:Slot):∀(r p:List Nat) (z:Slot),(p++r).Nodup->(∀t∈r,t<n)->(p++r).length<=100 ->
  ∃z',forF (tgB (BK 3) Fp) (r.map iN) [.fz .(4),x,.ow (kM p),z]=some (.nx [.fz .(4),x,.ow (kM (p++r)),z'])
 |[],p,z,_,_,_=>⟨z,by rw[eL];rfl⟩
 |t::r,p,z,nd,hl,hlen=>by
  have nt:t∉p:=by
   intro q;rw[dL] at nd;exact nd.2.2 t q t (by simp) rfl
  have e1:=PP n t (hl t (by simp));have e2:Cj (kM p) (.int (t:Int)) (.bl true)=some (kM (p++[t])):=by
   show Cj (.dk _) _ _=_;rw[vh _ _ _ (by simp at hlen ⊢;omega),putL_new (lK nt)];simp[kM]
  have b:Fp [.fz .(4),x,.ow (kM p),.fz (iN t)]=some (.nx [.fz .(4),x,.ow (kM (p++[t])),.fz (iN t)]):=by
   simp only[dK,Fp,e1,e2]
  obtain⟨z',ih⟩:=VG n x z0 r (p++[t]) (.fz (iN t)) (by simpa using nd) (λu hu=>hl u (by simp[hu])) (by simpa using hlen);refine⟨z',?_⟩
  w_up
  rw[b,Cu,ih];simp
theorem qt(n:Nat)(l:List Nat)(nd:l.Nodup)(hl:∀t∈l,t<n)(hlen:l.length<=100):Dv [.int (n:Int),lM l]=some (kM l):=by
 obtain⟨z',e⟩:=VG n (.fz (lM l)) .un l [] .un (by simpa using nd) hl (by simpa using hlen);rw[ic] at e;have e0:(D.dk [])=kM []:=rfl;simp only[dK,Dv,Jp,e0,lM,e] at e ⊢
theorem lL{t:Nat×Nat}{l:List (Nat×Nat)}(h:t∉l):[(.inl (t.1:Int):Key),.inl (t.2:Int)]∉(l.map λ(q:Nat×Nat)=>([(.inl (q.1:Int):Key),.inl (q.2:Int)],D.bl true)).map (·.1):=by
 intro z;rw[bX] at z;obtain⟨u,hu,e⟩:=aI.mp z;simp at e;have e':u=t:=by
  obtain⟨a,b⟩:=u;obtain⟨c,d⟩:=t;simp at e ⊢;omega
 exact h (e'▸hu)
theorem TV(n:Nat)(x:Slot):∀(r p:List (Nat×Nat)) (z z2:Slot),(p++r).Nodup->(∀t∈r,t.1<n/\t.2<n)->(p++r).length<=100 ->
  ∃z' z2',forF (tgB (tupG 2 (By 3 (By 4 nilG))) Gd) (r.map pN) [.fz .(4),x,.ow (kT p),z,z2]=some (.nx [.fz .(4),x,.ow (kT (p++r)),z',z2'])
 |[],p,z,z2,_,_,_=>⟨z,z2,by rw[eL];rfl⟩
 |t::r,p,z,z2,nd,hl,hlen=>by
  have nt:t∉p:=by
   intro q;rw[dL] at nd;exact nd.2.2 t q t (by simp) rfl
  have e1:=PP n t.1 (hl t (by simp)).1;have e1':=PP n t.2 (hl t (by simp)).2;have e2:Og (kT p) [.int (t.1:Int),.int (t.2:Int)] (.bl true)=some (kT (p++[t])):=by
   show Og (.dt _) _ _=_;rw[vm _ _ _ _ (by simp at hlen ⊢;omega),putL_new (lL nt)];simp[kT]
  have b:Gd [.fz .(4),x,.ow (kT p),.fz (.int (t.1:Int)),.fz (.int (t.2:Int))]=some (.nx [.fz .(4),x,.ow (kT (p++[t])),.fz (.int (t.1:Int)),.fz (.int (t.2:Int))]):=by
   simp only[dK,Gd,e1,e1',e2]
  obtain⟨z',z2',ih⟩:=TV n x r (p++[t]) (.fz (.int (t.1:Int))) (.fz (.int (t.2:Int))) (by simpa using nd) (λu hu=>hl u (by simp[hu])) (by simpa using hlen);refine⟨z',z2',?_⟩;rw[ba,G5,e_tg,Ol,LQ];simp only[sM,sN];rw[b,Cu,ih];simp
theorem lO(n:Nat)(l:List (Nat×Nat))(nd:l.Nodup)(hl:∀t∈l,t.1<n/\t.2<n)(hlen:l.length<=100):Eu [.int (n:Int),lT l]=some (kT l):=by
 obtain⟨z',z2',e⟩:=TV n (.fz (lT l)) l [] .un .un (by simpa using nd) hl (by simpa using hlen);rw[ic] at e;have e0:(D.dt [])=kT []:=rfl;simp only[dK,Eu,Ka,e0,lT,e] at e ⊢
theorem lQ(c:Nat):inD false (.str ⟨#[c]⟩) (.str LET)=some (.bl (!(ng LET ⟨#[c]⟩ 0 LET.length 1).isEmpty)):=zE_ _
theorem lR:∀c∈cs LET,(!(ng LET ⟨#[c]⟩ 0 LET.length 1).isEmpty)=true:=by decide +kernel
theorem qw(h:x∉KEPT):inF false (.str x) c_KEPT_TEXTS=some .(8):=by
 have e:inF false (.str x) c_KEPT_TEXTS=inD false (.str x) (.lst (KEPT.map .str)):=rfl;rw[e,Z5];have:(KEPT.any λy=>y==x)=false:=by
  rw[A9];intro y hy hz;have:=beq_iff_eq.mp hz;exact h (this▸hy)
 rw[this]
theorem lU(x:Str)(h:x.length<=10000000):lenE (.str x)=some (.int x.length):=yR x h
theorem au(h:Wd x):Ew [.str x]=some (.bl true):=by
 have k:=qw h.kept;have h1:=h.lo;have h2:=h.hi;have l:=lU x (by omega);have c0:¬ ((x.length:Int)=0):=by omega
 have c8:¬ ((8:Int)<x.length):=by omega
 have cc:∀l:List Nat,(∀c∈l,c∈cs LET)->Io [.fz (.str x)] allT HY (l.map λc=>.str ⟨#[c]⟩)=some (l.map λ_=>.bl true):=by
  intro l
  induction l with
  |nil=>intro _;rfl
  |cons c r ih=>
   intro hl;have v:HY ([.fz (.str x)]++[.fz (.str ⟨#[c]⟩)])=some (.bl true):=by
    have e:inF false (.str ⟨#[c]⟩) (.str LET)=some (.bl true):=by
     show inD false (.str ⟨#[c]⟩) (.str LET)=_;rw[lQ,lR c (hl c (by simp))]
    have hL:(gi "abcdefghijklmnopqrstuvwxyz")=LET:=rfl;simp only[cK,HY,hL,e]
   rw[ba,G4,W9,v,ih λd hd=>hl d (by simp[hd])];rfl
 have c1:BV (seqA (vF 0)) allT HY [.fz (.str x)]=some (.lst ((cs x).map λ_=>.bl true)):=by
  refine MK (ds:=(cs x).map λc=>.str ⟨#[c]⟩) (by rfl) (by rw[aw,ZD];omega) (cc (cs x) h.isL)
 have al:∀l:List Nat,allD (.lst (l.map λ_=>.bl true))=some (.bl true):=by
  intro l;have q:∀l:List Nat,blsD (l.map λ_=>D.bl true)=some (l.map λ_=>true):=by
   intro l
   induction l with
   |nil=>rfl
   |cons c r ih=>simp[blsD,ih]
  show (blsD (l.map λ_=>D.bl true)).map _=_;rw[q];simp
 simp only[ciK,Ew,QS,k,l,c0,c8,c1,al]
theorem TX(i j:Int)(h:i<=j):Bp [.int i,.int j]=some .non:=by
 have c:¬ (j<i):=by omega
 simp only[ciK,Bp,JK,c]
abbrev fS (n:Nat):Str×Bool×D:=("size",false,.int (n:Int))
abbrev fM (ms:List (Str×List Nat)):Str×Bool×D:=("marked",true,.dk (oM ms))
abbrev fT (ts:List (Str×List (Nat×Nat))):Str×Bool×D:=("tied",true,.dk (oT ts))
theorem q1:(("marked":Str)=="size")=false:=by decide +kernel
theorem q2:(("tied":Str)=="size")=false:=by decide +kernel
theorem q3:(("tied":Str)=="marked")=false:=by decide +kernel
theorem n1:¬ (("size":Str)="marked"):=by decide +kernel
theorem n2:¬ (("size":Str)="tied"):=by decide +kernel
theorem n3:¬ (("marked":Str)="tied"):=by decide +kernel
theorem lkM(n:Nat)(d e:D):dA ("marked":Str) [fS n,("marked",true,d),("tied",true,e)]=some (true,d):=by
 rw[ca,q1];show dA ("marked":Str) [("marked",true,d),("tied",true,e)]=_;rw[ca,show (("marked":Str)=="marked")=true by decide +kernel]
theorem lkT(n:Nat)(d e:D):dA ("tied":Str) [fS n,("marked",true,d),("tied",true,e)]=some (true,e):=by
 rw[ca,q2];show dA ("tied":Str) [("marked",true,d),("tied",true,e)]=_;rw[ca,q3];show dA ("tied":Str) [("tied",true,e)]=_;rw[ca,show (("tied":Str)=="tied")=true by decide +kernel]
theorem rpM(n:Nat)(d e d':D):repE "marked" d' [fS n,("marked",true,d),("tied",true,e)]=[fS n,("marked",true,d'),("tied",true,e)]:=by
 unfold repE repE;rw[if_neg n1,if_pos rfl]
theorem rpT(n:Nat)(d e e':D):repE "tied" e' [fS n,("marked",true,d),("tied",true,e)]=[fS n,("marked",true,d),("tied",true,e')]:=by
 unfold repE repE repE;rw[if_neg n2,if_neg n3,if_pos rfl]
theorem Hk{α:Type}{w:Str}(f:α->D){l:List (Str×α)}(h:w∉l.map (·.1)):(.inr w:Key)∉(l.map λp=>((.inr p.1:Key),f p.2)).map (·.1):=by
 intro z;rw[bX] at z;obtain⟨u,hu,e⟩:=aI.mp z;simp at e;exact h (aI.mpr ⟨u,hu,e⟩)
theorem TY(n:Nat)(hn:n<=5)(x:Addr)(a b:D)(e:D)(z6:Slot):∀(r p:List (Str×List Nat)) (z4 z5:Slot),((p++r).map (·.1)).Nodup->(∀q∈r,Wd q.1/\q.2.Nodup/\q.2.length<=100/\∀t∈q.2,t<n)->(p++r).length<=3->(∀d,z4≠.ow d)->(∀d,z5≠.ow d)->(∀d,z6≠.ow d) ->
  ∃z4' z5',(∀d,z4'≠.ow d)/\(∀d,z5'≠.ow d)/\JV (tupG 2 (By 4 (By 5 nilG))) Ce (r.map λq=>.tup [.str q.1,lM q.2]) [.fz (.adr x),.fz .(4),.fz a,.fz b,z4,z5,z6] [fS n,fM p,("tied",true,e)]=some ([.fz (.adr x),.fz .(4),.fz a,.fz b,z4',z5',z6],[fS n,fM (p++r),("tied",true,e)])
 |[],p,z4,z5,_,_,_,h4,h5,_=>⟨z4,z5,h4,h5,by rw[eL];rfl⟩
 |t::r,p,z4,z5,nd,hl,hlen,h4,h5,h6=>by
  obtain⟨w,l⟩:=t;obtain⟨hw,l1,l2,l3⟩:=hl (w,l) (by simp);have nt:w∉p.map (·.1):=by
   intro q;rw[dP,dL] at nd;exact nd.2.2 w q w (by simp) rfl
  have e1:=au hw;have e2:=qt n l l1 l3 l2;have e3:Cj (.dk (oM p)) (.str w) (kM l)=some (.dk (oM (p++[(w,l)]))):=by
   rw[KJ _ _ _ (by simp[oM] at hlen ⊢;omega)];have:(.inr w:Key)∉(oM p).map (·.1):=Hk kM nt;rw[putL_new this];simp[oM]
  have b0:Ce [.fz (.adr x),.fz .(4),.fz a,.fz b,.fz (.str w),.fz (lM l),z6] [fS n,fM p,("tied",true,e)]=some ([.fz (.adr x),.fz .(4),.fz a,.fz b,.fz (.str w),.fz (lM l),z6],[fS n,fM (p++[(w,l)]),("tied",true,e)]):=by
   have t0:ifE (R_ (notT (trF (Ai (Ew) (Aa (vF 4) (nilA)))))) [.fz (.adr x),.fz .(4),.fz a,.fz b,.fz (.str w),.fz (lM l),z6] [fS n,fM p,("tied",true,e)]=some ([.fz (.adr x),.fz .(4),.fz a,.fz b,.fz (.str w),.fz (lM l),z6],[fS n,fM p,("tied",true,e)]):=by
    have:notT (trF (Ai (Ew) (Aa (vF 4) (nilA)))) [.fz (.adr x),.fz .(4),.fz a,.fz b,.fz (.str w),.fz (lM l),z6]=some false:=by simp only[cK,e1]
    unfold ifE R_;rw[this]
   have t1:Qk "marked" (vF 4) (Ai (Dv) (Aa (vF 1) (Aa (vF 5) (nilA)))) [.fz (.adr x),.fz .(4),.fz a,.fz b,.fz (.str w),.fz (lM l),z6] [fS n,fM p,("tied",true,e)]=some ([.fz (.adr x),.fz .(4),.fz a,.fz b,.fz (.str w),.fz (lM l),z6],[fS n,fM (p++[(w,l)]),("tied",true,e)]):=by
    have v1:Ai (Dv) (Aa (vF 1) (Aa (vF 5) (nilA))) [.fz (.adr x),.fz .(4),.fz a,.fz b,.fz (.str w),.fz (lM l),z6]=some (kM l):=by simp only[cK,e2]
    have v2:vF 4 [.fz (.adr x),.fz .(4),.fz a,.fz b,.fz (.str w),.fz (lM l),z6]=some (.str w):=rfl;unfold Qk;rw[v1,v2];show (match dA ("marked":Str) [fS n,fM p,("tied",true,e)] with | some (true,d)=>(Cj d (.str w) (kM l)).map λd'=>(_,repE "marked" d' [fS n,fM p,("tied",true,e)]) | _=>none)=_;rw[lkM];show (Cj (.dk (oM p)) (.str w) (kM l)).map _=_;rw[e3];show some (_,repE "marked" _ [fS n,fM p,("tied",true,e)])=_;rw[rpM]
   unfold Ce;rw[Jk,t0,HB,t1]
  obtain⟨z4',z5',g4,g5,ih⟩:=TY n hn x a b e z6 r (p++[(w,l)]) (.fz (.str w)) (.fz (lM l)) (by simpa using nd) (λu hu=>hl u (by simp[hu])) (by simpa using hlen) (λd=>by simp) (λd=>by simp) h6;refine⟨z4',z5',g4,g5,?_⟩;rw[ba];unfold JV;rw[Ol];have no:noOw [.fz (.adr x),.fz .(4),.fz a,.fz b,.fz (.str w),.fz (lM l),z6]=true:=by
   unfold noOw;cases z6 with
   |ow d=>exact absurd rfl (h6 d)
   |un=>rfl
   |fz d=>rfl
  show (if noOw [.fz (.adr x),.fz .(4),.fz a,.fz b,.fz (.str w),.fz (lM l),z6]=true then (Ce [.fz (.adr x),.fz .(4),.fz a,.fz b,.fz (.str w),.fz (lM l),z6] _).bind _ else none)=_;rw[if_pos no,b0];show JV _ _ _ _ _=_;rw[ih];simp
theorem VH(n:Nat)(hn:n<=5)(x:Addr)(a b:D)(ms:List (Str×List Nat))(z5:Slot)(h5:∀d,z5≠.ow d):∀(r p:List (Str×List (Nat×Nat))) (z4 z6:Slot),((p++r).map (·.1)).Nodup->(∀q∈r,Wd q.1/\q.1∉ms.map (·.1)/\q.2.Nodup/\q.2.length<=100/\∀t∈q.2,t.1<n/\t.2<n)->(p++r).length<=3->(∀d,z4≠.ow d)->(∀d,z6≠.ow d) ->
  ∃z4' z6',JV (tupG 2 (By 4 (By 6 nilG))) Cg (r.map λq=>.tup [.str q.1,lT q.2]) [.fz (.adr x),.fz .(4),.fz a,.fz b,z4,z5,z6] [fS n,fM ms,fT p]=some ([.fz (.adr x),.fz .(4),.fz a,.fz b,z4',z5,z6'],[fS n,fM ms,fT (p++r)])
 |[],p,z4,z6,_,_,_,h4,h6=>⟨z4,z6,by rw[eL];rfl⟩
 |t::r,p,z4,z6,nd,hl,hlen,h4,h6=>by
  obtain⟨w,l⟩:=t;obtain⟨hw,nm,l1,l2,l3⟩:=hl (w,l) (by simp);have nt:w∉p.map (·.1):=by
   intro q;rw[dP,dL] at nd;exact nd.2.2 w q w (by simp) rfl
  have e1:=au hw;have e2:=lO n l l1 l3 l2;have e3:Cj (.dk (oT p)) (.str w) (kT l)=some (.dk (oT (p++[(w,l)]))):=by
   rw[KJ _ _ _ (by simp[oT] at hlen ⊢;omega)];have:(.inr w:Key)∉(oT p).map (·.1):=Hk kT nt;rw[putL_new this];simp[oT]
  have e4:getK (.inr w:Key) (oM ms)=none:=QD (Hk kM nm);have b0:Cg [.fz (.adr x),.fz .(4),.fz a,.fz b,.fz (.str w),z5,.fz (lT l)] [fS n,fM ms,fT p]=some ([.fz (.adr x),.fz .(4),.fz a,.fz b,.fz (.str w),z5,.fz (lT l)],[fS n,fM ms,fT (p++[(w,l)])]):=by
   have t0:ifE (orTE (R_ (notT (trF (Ai (Ew) (Aa (vF 4) (nilA)))))) (inTE "marked" (vF 4))) [.fz (.adr x),.fz .(4),.fz a,.fz b,.fz (.str w),z5,.fz (lT l)] [fS n,fM ms,fT p]=some ([.fz (.adr x),.fz .(4),.fz a,.fz b,.fz (.str w),z5,.fz (lT l)],[fS n,fM ms,fT p]):=by
    have u1:notT (trF (Ai (Ew) (Aa (vF 4) (nilA)))) [.fz (.adr x),.fz .(4),.fz a,.fz b,.fz (.str w),z5,.fz (lT l)]=some false:=by simp only[cK,e1]
    have v2:vF 4 [.fz (.adr x),.fz .(4),.fz a,.fz b,.fz (.str w),z5,.fz (lT l)]=some (.str w):=rfl;have u2:inTE "marked" (vF 4) [.fz (.adr x),.fz .(4),.fz a,.fz b,.fz (.str w),z5,.fz (lT l)] [fS n,fM ms,fT p]=some false:=by
     unfold inTE;rw[v2];show (match dA ("marked":Str) [fS n,fM ms,fT p] with | some (true,.dk kds)=>(keyD (.str w)).map λq=>(getK q kds).isSome | _=>none)=_;rw[lkM];show some ((getK (.inr w:Key) (oM ms)).isSome)=_;rw[e4];rfl
    unfold ifE orTE R_;rw[u1];show (match inTE "marked" (vF 4) _ _ with | some false=>some _ | _=>none)=_;rw[u2]
   have t1:Qk "tied" (vF 4) (Ai (Eu) (Aa (vF 1) (Aa (vF 6) (nilA)))) [.fz (.adr x),.fz .(4),.fz a,.fz b,.fz (.str w),z5,.fz (lT l)] [fS n,fM ms,fT p]=some ([.fz (.adr x),.fz .(4),.fz a,.fz b,.fz (.str w),z5,.fz (lT l)],[fS n,fM ms,fT (p++[(w,l)])]):=by
    have v1:Ai (Eu) (Aa (vF 1) (Aa (vF 6) (nilA))) [.fz (.adr x),.fz .(4),.fz a,.fz b,.fz (.str w),z5,.fz (lT l)]=some (kT l):=by simp only[cK,e2]
    have v2:vF 4 [.fz (.adr x),.fz .(4),.fz a,.fz b,.fz (.str w),z5,.fz (lT l)]=some (.str w):=rfl;unfold Qk;rw[v1,v2];show (match dA ("tied":Str) [fS n,fM ms,fT p] with | some (true,d)=>(Cj d (.str w) (kT l)).map λd'=>(_,repE "tied" d' [fS n,fM ms,fT p]) | _=>none)=_;rw[lkT];show (Cj (.dk (oT p)) (.str w) (kT l)).map _=_;rw[e3];show some (_,repE "tied" _ [fS n,fM ms,fT p])=_;rw[rpT]
   unfold Cg;rw[Jk,t0,HB,t1]
  obtain⟨z4',z6',ih⟩:=VH n hn x a b ms z5 h5 r (p++[(w,l)]) (.fz (.str w)) (.fz (lT l)) (by simpa using nd) (λu hu=>hl u (by simp[hu])) (by simpa using hlen) (λd=>by simp) (λd=>by simp);refine⟨z4',z6',?_⟩;rw[ba];unfold JV;have tg:tupG 2 (By 4 (By 6 nilG)) (.tup [.str w,lT l]) [.fz (.adr x),.fz .(4),.fz a,.fz b,z4,z5,z6]=some [.fz (.adr x),.fz .(4),.fz a,.fz b,.fz (.str w),z5,.fz (lT l)]:=by rw[Ol];rfl
  rw[tg];have no:noOw [.fz (.adr x),.fz .(4),.fz a,.fz b,.fz (.str w),z5,.fz (lT l)]=true:=by
   unfold noOw;cases z5 with
   |ow d=>exact absurd rfl (h5 d)
   |un=>rfl
   |fz d=>rfl
  show (if noOw [.fz (.adr x),.fz .(4),.fz a,.fz b,.fz (.str w),z5,.fz (lT l)]=true then (Cg [.fz (.adr x),.fz .(4),.fz a,.fz b,.fz (.str w),z5,.fz (lT l)] _).bind _ else none)=_;rw[if_pos no,b0];show JV _ _ _ _ _=_;rw[ih];simp
theorem az(W:Wl)(h:WOk W)(x:Addr):Bv x [.int (W.n:Int),.dk (eM W.ms),.dk (eT W.ts)]=some [fS W.n,fM W.ms,fT W.ts]:=by
 have ndm:(W.ms.map (·.1)).Nodup:=(dL.mp h.nd).1;have ndt:(W.ts.map (·.1)).Nodup:=(dL.mp h.nd).2.1;obtain⟨z4,z5,g4,g5,m⟩:=TY W.n h.n5 x (.dk (eM W.ms)) (.dk (eT W.ts)) (.dk []) .un W.ms [] .un .un (by simpa using ndm) (λq hq=>⟨h.mw q hq,h.ml q hq⟩) (by simpa using h.m3) (λd=>by simp) (λd=>by simp) (λd=>by simp);obtain⟨z4',z6',t⟩:=VH W.n h.n5 x (.dk (eM W.ms)) (.dk (eT W.ts)) W.ms z5 g5 W.ts [] z4 .un (by simpa using ndt) (λq hq=>⟨h.tw q hq,λz=>(dL.mp h.nd).2.2 q.1 z q.1 (aI.mpr ⟨q,hq,rfl⟩) rfl,h.tl q hq⟩) (by simpa using h.t3) g4 (λd=>by simp);rw[ic] at m t;change JV _ _ _ _ [fS W.n,fM [],fT []]=some (_,[fS W.n,fM W.ms,fT []]) at m;have r1:=TX (W.n:Int) 5 (by have:=h.n5;omega);have r2:=TX ((eM W.ms).length:Int) 3 (by have:=h.m3;simp[eM];omega);have r3:=TX ((eT W.ts).length:Int) 3 (by have:=h.t3;simp[eT];omega);have no:noOw [.fz (.adr x),.fz (.int (W.n:Int)),.fz (.dk (eM W.ms)),.fz (.dk (eT W.ts)),.un,.un,.un]=true:=rfl;have p1:pureE (HR (Ai (Bp) (Aa (vF 1) (Aa (kF (.int 5)) (nilA))))) [.fz (.adr x),.fz (.int (W.n:Int)),.fz (.dk (eM W.ms)),.fz (.dk (eT W.ts)),.un,.un,.un] []=some ([.fz (.adr x),.fz (.int (W.n:Int)),.fz (.dk (eM W.ms)),.fz (.dk (eT W.ts)),.un,.un,.un],[]):=V6 (by simp only[cK,r1]) no;have p2:pureE (HR (Ai (Bp) (Aa (uF lenE (vF 2)) (Aa (kF (.int 3)) (nilA))))) [.fz (.adr x),.fz (.int (W.n:Int)),.fz (.dk (eM W.ms)),.fz (.dk (eT W.ts)),.un,.un,.un] []=some ([.fz (.adr x),.fz (.int (W.n:Int)),.fz (.dk (eM W.ms)),.fz (.dk (eT W.ts)),.un,.un,.un],[]):=V6 (by simp only[dK,r2]) no;have p3:pureE (HR (Ai (Bp) (Aa (uF lenE (vF 3)) (Aa (kF (.int 3)) (nilA))))) [.fz (.adr x),.fz (.int (W.n:Int)),.fz (.dk (eM W.ms)),.fz (.dk (eT W.ts)),.un,.un,.un] []=some ([.fz (.adr x),.fz (.int (W.n:Int)),.fz (.dk (eM W.ms)),.fz (.dk (eT W.ts)),.un,.un,.un],[]):=V6 (by simp only[dK,r3]) no;have s1:aG "size" (vF 1) [.fz (.adr x),.fz (.int (W.n:Int)),.fz (.dk (eM W.ms)),.fz (.dk (eT W.ts)),.un,.un,.un] []=some ([.fz (.adr x),.fz (.int (W.n:Int)),.fz (.dk (eM W.ms)),.fz (.dk (eT W.ts)),.un,.un,.un],[fS W.n]):=rfl;have s2:Qj "marked" (kF (.dk [])) [.fz (.adr x),.fz (.int (W.n:Int)),.fz (.dk (eM W.ms)),.fz (.dk (eT W.ts)),.un,.un,.un] [fS W.n]=some ([.fz (.adr x),.fz (.int (W.n:Int)),.fz (.dk (eM W.ms)),.fz (.dk (eT W.ts)),.un,.un,.un],[fS W.n,fM []]):=by
  have l:dA ("marked":Str) [fS W.n]=none:=by
   rw[ca,q1];rfl
  unfold Qj;show (if (dA ("marked":Str) [fS W.n]).isNone=true/\[fS W.n].length<1000 then some (_,[fS W.n]++[(("marked":Str),true,D.dk [])]) else none)=_;rw[l,if_pos ⟨rfl,(by show 1<1000;decide)⟩];rfl
 have s3:Qj "tied" (kF (.dk [])) [.fz (.adr x),.fz (.int (W.n:Int)),.fz (.dk (eM W.ms)),.fz (.dk (eT W.ts)),.un,.un,.un] [fS W.n,fM []]=some ([.fz (.adr x),.fz (.int (W.n:Int)),.fz (.dk (eM W.ms)),.fz (.dk (eT W.ts)),.un,.un,.un],[fS W.n,fM [],fT []]):=by
  have l:dA ("tied":Str) [fS W.n,fM []]=none:=by
   rw[ca,q2];show dA ("tied":Str) [fM []]=none;rw[ca,q3];rfl
  unfold Qj;show (if (dA ("tied":Str) [fS W.n,fM []]).isNone=true/\[fS W.n,fM []].length<1000 then some (_,[fS W.n,fM []]++[(("tied":Str),true,D.dk [])]) else none)=_;rw[l,if_pos ⟨rfl,(by show 2<1000;decide)⟩];rfl
 have i1:QB (vF 2) [.fz (.adr x),.fz (.int (W.n:Int)),.fz (.dk (eM W.ms)),.fz (.dk (eT W.ts)),.un,.un,.un]=some (W.ms.map λq=>.tup [.str q.1,lM q.2]):=by
  show some ((eM W.ms).map λp=>D.tup [kDt p.1,p.2])=_;simp only[eM,bX,w9,SN]
 have i2:QB (vF 3) [.fz (.adr x),.fz (.int (W.n:Int)),.fz (.dk (eM W.ms)),.fz (.dk (eT W.ts)),z4,z5,.un]=some (W.ts.map λq=>.tup [.str q.1,lT q.2]):=by
  show some ((eT W.ts).map λp=>D.tup [kDt p.1,p.2])=_;simp only[eT,bX,w9,SN]
 have st:V4 7 x [.int (W.n:Int),.dk (eM W.ms),.dk (eT W.ts)]=[.fz (.adr x),.fz (.int (W.n:Int)),.fz (.dk (eM W.ms)),.fz (.dk (eT W.ts)),.un,.un,.un]:=rfl;unfold Bv runI;rw[if_pos (show [D.int (W.n:Int),.dk (eM W.ms),.dk (eT W.ts)].length+1=4 from rfl),st];unfold G6;rw[Jk,p1,HB,Jk,p2,HB,Jk,p3,HB,Jk,s1,HB,Jk,s2,HB,Jk,s3,HB,Jk,jr i1,m,HB,Jk,jr i2,t,HB,vo];rfl
theorem uB(W:Wl)(h:WOk W)(fs:FA)(ρ:Rho)(hf:fs ρ=some [.int (W.n:Int),.dk (eM W.ms),.dk (eT W.ts)]):mkI "World" Bv fs ρ=some (wob W):=by
 unfold mkI;rw[hf];simp only[dS,az W h 0];rw[if_pos (λx=>az W h x)];rfl
theorem Mf(f:Nat->Bool)(h:Nat->D)(src:FI)(hs:src ρ=some (rngD n))(hn:n<=1000)(h1:∀k,k<n->ga (ρ++[.fz (.int k)])=some (f k))(h2:∀k,k<n->fe (ρ++[.fz (.int k)])=some (h k)):BV src ga fe ρ=some (.lst (((av n).filter f).map h)):=by
 have c:∀l:List Nat,(∀k∈l,k<n)->Io ρ ga fe (l.map λ(k:Nat)=>D.int k)=some ((l.filter f).map h):=by
  intro l
  induction l with
  |nil=>intro _;rfl
  |cons k r ih=>
   intro hl;rw[ba,G4,h1 k (hl k (by simp)),h2 k (hl k (by simp)),ih λd hd=>hl d (by simp[hd]),H0];cases f k<;>rfl
 exact MK hs (by rw[FQ];omega) (c (av n) λk hk=>bv.mp hk)
theorem VJ(nd:l.Nodup){i j:Nat}(hi:i<l.length)(hj:j<l.length)(e:l[i]=l[j]):i=j:=by
 have h:=wq.mp nd
 rcases HA i j with z | z | z
 .exact absurd e (h i j hi hj z)
 .exact z
 .exact absurd e.symm (h j i hj hi z)
theorem Dk(n:Nat)(f:Nat->Bool):((av n).filter f).Nodup:=List.Nodup.sublist List.filter_sublist zx
theorem lV(n:Nat)(hn:n<=100)(ρ:Rho)(i:Nat)(h:ρ[i]?=some (.fz .(4))):rngI (vF i) ρ=some (rngD n):=by
 have rg:=Ir (n:Int) (by omega);simp only[R5,e_v,h,e_vs,rg,df]
theorem shl1(k:Nat)(hk:k<30):shlD (.int 1) (.int (k:Int))=some (.int (2^k)):=by
 show (if CShl 1 (k:Int) then some (D.int (1*2^(k:Int).toNat)) else none)=_;rw[if_pos ⟨by omega,by omega,by decide +kernel⟩];simp
theorem dI(k:Nat)(hk:k<26):(0:Int)<2^k/\(2:Int)^k<1073741824:=by
 have:∀k<26,(0:Int)<2^k/\(2:Int)^k<1073741824:=by decide +kernel
 exact this k hk
theorem three(i:Int):i%3=0∨i%3=1∨i%3=2:=by omega
theorem lW(i mm:Int)(k:Nat)(hk:k<26)(fs:List D)(hf:fs.length<=1000)(n:Int)(hn:0<=n/\n<2147483629):∃(b:Bool) (n':Int),0<=n'/\n'<2147483629 ∧
  Du [.fz (.int i),.fz (.int mm),.ow (.lst fs),.fz (.int n),.fz (.int (k:Int))]=some (.nx [.fz (.int i),.fz (.int mm),.ow (.lst (fs++[.bl b])),.fz (.int n'),.fz (.int (k:Int))]):=by
 obtain⟨p0,p1⟩:=dI k hk;have s1:=shl1 k (by omega)
 rcases three i with h | h | h
 .have d1:=GK i 3 (by decide) (by decide);have d2:=GK (i/3) (2^k) p0 p1;refine⟨decide (i/3/2^k%2=1),n,hn.1,hn.2,?_⟩;have a:=PL fs (.bl (decide (i/3/2^k%2=1))) hf;have m3:=Hl i 3 (by decide);rw[h] at m3;simp only[ciK,Du,m3,s1,d1,d2,a,sL]
 all_goals
  have m3:=Hl i 3 (by decide);rw[h] at m3;have e1:=OD n n (by omega);have e2:=pW 48271 n (by decide);have e4:=Hl (n*n+48271*n+(k:Int)+1) 2147483629 (by decide);have b0:0<=(n*n+48271*n+(k:Int)+1)%2147483629:=gX _ (by decide);have b1:(n*n+48271*n+(k:Int)+1)%2147483629<2147483629:=ja _ (by decide);generalize (n*n+48271*n+(k:Int)+1)%2147483629=n' at e4 b0 b1
 .have e3:mulD (.int 2) (.int 1)=some (.int 2):=by rfl
  have a:=PL fs (.bl (decide (n'/7%2=0))) hf;refine⟨decide (n'/7%2=0),n',b0,b1,?_⟩;simp only[ciK,Du,m3,e1,e2,e3,e4,a,sL]
 .have e3:mulD (.int 2) (.int 2)=some (.int 4):=by rfl
  have a:=PL fs (.bl (decide (n'/7%4=0))) hf;refine⟨decide (n'/7%4=0),n',b0,b1,?_⟩;simp only[ciK,Du,m3,e1,e2,e3,e4,a,sL]
theorem RV(i:Int)(mm:Nat)(hm:mm<=25):∃bs:List Bool,En [.int i,.int (mm:Int)]=some (.lst (bs.map .bl))/\bs.length=mm:=by
 have n0:0<=i/3%2147483629:=gX _ (by decide);have n1:i/3%2147483629<2147483629:=ja _ (by decide);obtain⟨ρ',e,bs,n',z4,rfl,hl,_⟩:=K_ (b:=tgB (BK 4) Du) (ds:=rngD mm) (ρ:=[.fz (.int i),.fz (.int (mm:Int)),.ow (.lst []),.fz (.int (i/3%2147483629)),.un])
  (P:=λk ρ=>∃(bs:List Bool) (n':Int) (z:Slot),ρ=[.fz (.int i),.fz (.int (mm:Int)),.ow (.lst (bs.map .bl)),.fz (.int n'),z]/\bs.length=k/\0<=n'/\n'<2147483629) 0 ⟨[],_,.un,rfl,rfl,n0,n1⟩ (by
   rintro k d ρ hd ⟨bs,n',z,rfl,hl,hn0,hn1⟩;have hk:k<mm:=by
    have:=(d6.mp hd).1
    rwa [FQ] at this
   have ed:d=.int (k:Int):=by
    have:=hd;simp[rngD,hk] at this;exact this.symm
   subst ed;obtain⟨b,n2,h1,h2,st⟩:=lW i mm k (by omega) (bs.map .bl) .(17) n' ⟨hn0,hn1⟩;refine⟨_,?_,bs++[b],n2,.fz (.int (k:Int)),rfl,by simp;omega,h1,h2⟩;rw[e_tg,LR,LQ];rw[dP];exact st)
 rw[FQ,kB] at hl;refine⟨bs,?_,hl⟩;have e6:=Ir (mm:Int) (by omega);simp only[diK,En,Lf,e6,df,e,sL]
theorem Vi{ws:List Str}{k:Nat}(h:k<ws.length):ixE (.lst (ws.map .str)) (.int (k:Int))=some (.str ws[k]):=by
 show atI (ws.map D.str) (k:Int)=_;rw[Hm,be];simp[h]
theorem a_{bs:List Bool}{k:Nat}(h:k<bs.length):ixE (.lst (bs.map .bl)) (.int (k:Int))=some (.bl bs[k]):=by
 show atI (bs.map D.bl) (k:Int)=_;rw[Hm,be];simp[h]
structure Mk (n:Nat) (ms:List (Str×List Nat)):Prop where
 ok:∀p∈ms,p.2.Nodup/\p.2.length<=100/\∀t∈p.2,t<n
structure Tk (n:Nat) (ts:List (Str×List (Nat×Nat))):Prop where
 ok:∀p∈ts,p.2.Nodup/\p.2.length<=100/\∀q∈p.2,q.1<n/\q.2<n
theorem dJ(ns:List Int)(c:D)(n m:Nat)(hn:n<=5)(ws:List Str)(k:Nat)(hk:k<m)(hkw:k<ws.length)(ms:List (Str×List Nat))(hl:ms.length<=50)(nt:ws[k]∉ms.map (·.1))(hm:Mk n ms)(w7 z9:Slot):
  ∃l z,Cd [.fz .(1),.fz (.int 0),.fz c,.fz .(4),.fz (.int (m:Int)),.fz (.lst (ws.map .str)),.ow (.dk (eM ms)),w7,.fz (.int (k:Int)),z9]
   = some (.nx [.fz .(1),.fz (.int 0),.fz c,.fz .(4),.fz (.int (m:Int)),.fz (.lst (ws.map .str)),.ow (.dk (eM (ms++[(ws[k],l)]))),w7,.fz (.int (k:Int)),z])/\Mk n (ms++[(ws[k],l)]):=by
 obtain⟨i,ci⟩:=RQ ns (2+k);obtain⟨bs,hb,hbl⟩:=RV i n (by omega);have ce:(0:Int)+2+(k:Int)=((2+k:Nat):Int):=by omega
 have lt:decide ((k:Int)<(m:Int))=true:=by simp;omega
 have cm:BV (rngI (vF 3)) I_ Lg [.fz .(1),.fz (.int 0),.fz c,.fz .(4),.fz (.int (m:Int)),.fz (.lst (ws.map .str)),.ow (.dk (eM ms)),w7,.fz (.int (k:Int)),.fz (.lst (bs.map .bl))]=some (lM ((av n).filter λt=>bs.getD t false)):=
  Mf (λt=>bs.getD t false) iN _ (lV n (by omega) _ 3 rfl) (by omega) (λt ht=>by
   have ix:=a_ (bs:=bs) (k:=t) (by omega);have eg:bs.getD t false=bs[t]'(by omega):=by rw[gT,cf (by omega)];rfl
   simp only[cK,I_,ix,eg]) λt ht=>rfl
 have pk:Cj (.dk (eM ms)) (.str ws[k]) (lM ((av n).filter λt=>bs.getD t false))=some (.dk (eM (ms++[(ws[k],(av n).filter λt=>bs.getD t false)]))):=by
  rw[KJ _ _ _ (by simp[eM];omega)];have:(.inr ws[k]:Key)∉(eM ms).map (·.1):=Hk lM nt;rw[putL_new this];simp[eM]
 have ix:=Vi hkw;refine⟨(av n).filter λt=>bs.getD t false,.fz (.lst (bs.map .bl)),?_,⟨λp hp=>?_⟩⟩
 .simp only[ciK,Cd,lt,ce,ci,hb,SM,LC,ix,cm,NK,pk]
 .rcases eD.mp hp with q | q
  .exact hm.ok p q
  .obtain rfl:=gL.mp q;refine⟨Dk n _,?_,λt ht=>bv.mp (eC.mp ht).1⟩;have:=wt (λt=>bs.getD t false) (av n);rw[eW] at this;show ((av n).filter _).length<=100;omega
theorem lX(ns:List Int)(c:D)(n m:Nat)(hn:n<=5)(ws:List Str)(k:Nat)(hk:m<=k)(hkw:k<ws.length)(ts:List (Str×List (Nat×Nat)))(hl:ts.length<=50)(nt:ws[k]∉ts.map (·.1))(hm:Tk n ts)(w6 z9:Slot):
  ∃l z,Cd [.fz .(1),.fz (.int 0),.fz c,.fz .(4),.fz (.int (m:Int)),.fz (.lst (ws.map .str)),w6,.ow (.dk (eT ts)),.fz (.int (k:Int)),z9]
   = some (.nx [.fz .(1),.fz (.int 0),.fz c,.fz .(4),.fz (.int (m:Int)),.fz (.lst (ws.map .str)),w6,.ow (.dk (eT (ts++[(ws[k],l)]))),.fz (.int (k:Int)),z])/\Tk n (ts++[(ws[k],l)]):=by
 have hnn:n*n<=25:=C9 hn hn;obtain⟨i,ci⟩:=RQ ns (5+k-m);obtain⟨bs,hb,hbl⟩:=RV i (n*n) hnn;have ce:(0:Int)+5+(k:Int)-(m:Int)=((5+k-m:Nat):Int):=by omega
 have lt:decide ((k:Int)<(m:Int))=false:=by simp;omega
 have mu:=OD (n:Int) (n:Int) (by omega);have mc:(n:Int)*(n:Int)=((n*n:Nat):Int):=by simp
 rw[mc] at mu;have rg:rngI (bF mulD (vF 3) (vF 3)) [.fz .(1),.fz (.int 0),.fz c,.fz .(4),.fz (.int (m:Int)),.fz (.lst (ws.map .str)),w6,.ow (.dk (eT ts)),.fz (.int (k:Int)),.fz (.lst (bs.map .bl))]=some (rngD (n*n)):=by
  have e6:=Ir ((n*n:Nat):Int) (by omega);rw[df] at e6;simp only[cK,mu,e6]
 have cm:BV (rngI (bF mulD (vF 3) (vF 3))) JB JC [.fz .(1),.fz (.int 0),.fz c,.fz .(4),.fz (.int (m:Int)),.fz (.lst (ws.map .str)),w6,.ow (.dk (eT ts)),.fz (.int (k:Int)),.fz (.lst (bs.map .bl))]=some (.lst (((av (n*n)).filter λt=>bs.getD t false).map λt=>pN (t/n,t%n))):=
  Mf (λt=>bs.getD t false) (λt=>pN (t/n,t%n)) _ rg (by omega) (λt ht=>by
   have ix:=a_ (bs:=bs) (k:=t) (by omega);have eg:bs.getD t false=bs[t]'(by omega):=by rw[gT,cf (by omega)];rfl
   simp only[cK,JB,ix,eg]) λt ht=>by
   have n0:0<n:=by
    rcases zy n with z | z
    .subst z;simp at ht
    .exact z
   have d1:=GK (t:Int) (n:Int) (by omega) (by omega);have d2:=Hl (t:Int) (n:Int) (by omega);have q1:(t:Int)/(n:Int)=((t/n:Nat):Int):=by simp
   have q2:(t:Int)%(n:Int)=((t%n:Nat):Int):=by simp
   rw[q1] at d1;rw[q2] at d2;simp only[cK,JC,d1,d2]
 have el:(.lst (((av (n*n)).filter λt=>bs.getD t false).map λt=>pN (t/n,t%n)):D)=lT (((av (n*n)).filter λt=>bs.getD t false).map λt=>(t/n,t%n)):=by simp[lT]
 rw[el] at cm;have pk:Cj (.dk (eT ts)) (.str ws[k]) (lT (((av (n*n)).filter λt=>bs.getD t false).map λt=>(t/n,t%n)))=some (.dk (eT (ts++[(ws[k],((av (n*n)).filter λt=>bs.getD t false).map λt=>(t/n,t%n))]))):=by
  rw[KJ _ _ _ (by simp[eT];omega)];have:(.inr ws[k]:Key)∉(eT ts).map (·.1):=Hk lT nt;rw[putL_new this];simp[eT]
 have ix:=Vi hkw;refine⟨((av (n*n)).filter λt=>bs.getD t false).map λt=>(t/n,t%n),.fz (.lst (bs.map .bl)),?_,⟨λp hp=>?_⟩⟩
 .simp only[ciK,Cd,lt,ce,ci,mu,hb,SM,LC,ix,cm,NK,pk]
 .rcases eD.mp hp with q | q
  .exact hm.ok p q
  .obtain rfl:=gL.mp q;refine⟨?_,?_,λq hq=>?_⟩
   .rw[lf,kD];refine Cb (λ{a b} hab e=>hab ?_) (Dk (n*n) _);simp only[xk] at e;have h1:=zz a n;have h2:=zz b n;rw[e.1,e.2] at h1;exact h1.symm.trans h2
   .have:=wt (λt=>bs.getD t false) (av (n*n));rw[eW] at this;show (((av (n*n)).filter _).map _).length<=100;rw[aw];omega
   .obtain⟨t,ht,rfl⟩:=aI.mp hq;have ht:=bv.mp (eC.mp ht).1;have n0:0<n:=by
     rcases zy n with z | z
     .subst z;simp at ht
     .exact z
    exact⟨HC ht,zn _ n0⟩
theorem dM(a:Int)(b:Bool):ixE (.lst [.int a,.int 5]) (.int (if b then 1 else 0))=some (.int (if b then 5 else a)):=by cases b<;>rfl
theorem wO(l:List D):lenE (.lst l)=some (.int l.length):=XD l
theorem lY(ns:List Int):∃W:Wl,WOk W/\GR [.lst .(9),.int 0]=some (.lst [.int (W.n:Int),.dk (eM W.ms),.dk (eT W.ts)]):=by
 obtain⟨c,hc⟩:=RQ ns 0;obtain⟨c1,hc1⟩:=RQ ns 1;have s0:0<=c/9%5:=gX _ (by decide);have s1:c/9%5<5:=ja _ (by decide);obtain⟨n,en⟩:∃n:Nat,(n:Int)=(if decide (c/45%12=11) then 5 else c/9%5):=⟨(if decide (c/45%12=11) then 5 else c/9%5).toNat,by split<;>omega⟩;have hn:n<=5:=by
  have:(n:Int)<=5:=by rw[en];split<;>omega
  omega
 have m0:0<=c%4:=gX _ (by decide);have m1:c%4<4:=ja _ (by decide);obtain⟨m,em⟩:∃m:Nat,(m:Int)=c%4:=⟨(c%4).toNat,by omega⟩;have t0:0<=c/4%4:=gX _ (by decide);have t1:c/4%4<4:=ja _ (by decide);obtain⟨t,et⟩:∃t:Nat,(t:Int)=c/4%4:=⟨(c/4%4).toNat,by omega⟩;have hm3:m<=3:=by omega
 have ht3:t<=3:=by omega
 obtain⟨ws,hws,hwl,hwd,hnd⟩:=lJ c1 (m+t) (by omega);obtain⟨ρ',e,ms,ts,z8,z9,rfl,a1,a2,a3,a4⟩:=K_ (b:=tgB (BK 8) Cd) (ds:=rngD (m+t)) (ρ:=[.fz .(1),.fz (.int 0),.fz (.int c),.fz .(4),.fz (.int (m:Int)),.fz (.lst (ws.map .str)),.ow (.dk (eM [])),.ow (.dk (eT [])),.un,.un])
  (P:=λk ρ=>∃(ms:List (Str×List Nat)) (ts:List (Str×List (Nat×Nat))) (z8 z9:Slot),ρ=[.fz .(1),.fz (.int 0),.fz (.int c),.fz .(4),.fz (.int (m:Int)),.fz (.lst (ws.map .str)),.ow (.dk (eM ms)),.ow (.dk (eT ts)),z8,z9]/\ms.map (·.1)=(ws.take m).take k/\ts.map (·.1)=(ws.drop m).take (k-m)/\Mk n ms/\Tk n ts) 0 ⟨[],[],.un,.un,rfl,by simp,by simp,⟨by simp⟩,⟨by simp⟩⟩ (by
   rintro k d ρ hd ⟨ms,ts,z8,z9,rfl,a1,a2,a3,a4⟩;have hk:k<m+t:=by
    have:=(d6.mp hd).1
    rwa [FQ] at this
   have ed:d=.int (k:Int):=by
    have:=hd;simp[rngD,hk] at this;exact this.symm
   subst ed;rw[kB] at *;have hkw:k<ws.length:=by omega
   by_cases hkm:k<m
   .have nt:ws[k]∉ms.map (·.1):=by
     rw[a1,qk];intro q;obtain⟨j,hj,ej⟩:=wc q;rw[kU] at hj;rw[HE] at ej;have:=VJ hnd (by omega) hkw ej;omega
    have l1:=congrArg dE a1;simp at l1;obtain⟨l,z,st,hm'⟩:=dJ ns (.int c) n m hn ws k hkm hkw ms (by omega) nt a3 (.ow (.dk (eT ts))) z9;refine⟨_,?_,ms++[(ws[k],l)],ts,.fz (.int (k:Int)),z,rfl,?_,?_,hm',a4⟩
    .rw[e_tg,LR,LQ];exact st
    .rw[dP,a1,qk,qk,show min k m=k by omega,show min (k+1) m=k+1 by omega,Cc,cf hkw];rfl
    .rw[a2,show k-m=0 by omega,show k+1-m=0 by omega]
   .have nt:ws[k]∉ts.map (·.1):=by
     rw[a2];intro q;obtain⟨j,hj,ej⟩:=wc q;rw[kU,oQ] at hj;rw[HE,List.getElem_drop] at ej;have:=VJ hnd (by omega) hkw ej;omega
    have l1:=congrArg dE a2;simp at l1;obtain⟨l,z,st,hm'⟩:=lX ns (.int c) n m hn ws k (by omega) hkw ts (by omega) nt a4 (.ow (.dk (eM ms))) z9;refine⟨_,?_,ms,ts++[(ws[k],l)],.fz (.int (k:Int)),z,rfl,?_,?_,a3,hm'⟩
    .rw[e_tg,LR,LQ];exact st
    .rw[a1,qk,qk,show min k m=m by omega,show min (k+1) m=m by omega]
    .rw[dP,a2,show k+1-m=(k-m)+1 by omega,Cc,E8,show m+(k-m)=k by omega,cf hkw];rfl)
 rw[FQ,kB] at *;have b1:ms.map (·.1)=ws.take m:=by rw[a1,qk,show min (m+t) m=m by omega]
 have b2:ts.map (·.1)=ws.drop m:=by rw[a2,AV (by rw[oQ];omega)]
 refine⟨⟨n,ms,ts⟩,⟨hn,?_,?_,λp hp=>?_,λp hp=>?_,?_,a3.ok,a4.ok⟩,?_⟩
 .have:=congrArg dE b1;simp at this;show ms.length<=3;omega
 .have:=congrArg dE b2;simp at this;show ts.length<=3;omega
 .refine hwd _ (List.mem_of_mem_take (i:=m) ?_);rw[<-b1];exact aI.mpr ⟨p,hp,rfl⟩
 .refine hwd _ (List.mem_of_mem_drop (i:=m) ?_);rw[<-b2];exact aI.mpr ⟨p,hp,rfl⟩
 .show (ms.map (·.1)++ts.map (·.1)).Nodup;rw[b1,b2,zI];exact hnd
 .have e6:=Ir ((m+t:Nat):Int) (by omega);rw[df] at e6;have i1:(0:Int)+1=((1:Nat):Int):=rfl;have i0:(0:Int)=((0:Nat):Int):=rfl;have hc':Ao [.lst .(9),.int 0]=some (.int c):=hc;have hc1':Ao [.lst .(9),.int 1]=some (.int c1):=hc1;have sp:=dM (c/9%5) (decide (c/45%12=11));rw[<-en] at sp;have mt:(m:Int)+(t:Int)=((m+t:Nat):Int):=by simp
  have lw:lenE (.lst (ws.map .str))=some (.int ((m+t:Nat):Int)):=by rw[wO,aw,hwl]
  have w0:(.dk []:D)=.dk (eM []):=rfl;have w1:(.dk []:D)=.dk (eT []):=rfl;have e':forF (tgB (BK 8) Cd) (rngD (m+t)) [.fz .(1),.fz (.int 0),.fz (.int c),.fz .(4),.fz (.int (m:Int)),.fz (.lst (ws.map .str)),.ow (.dk []),.ow (.dk []),.un,.un]=_:=e;simp only[diK,GR,KY,Qx,hc',sL,zM,hc1',sp,<-em,<-et,mt,hws,lw,e6,e']
theorem dN{α β:Type}(f:α->β)(l:List α)(j:Nat):(l.map f).eraseIdx j=(l.eraseIdx j).map f:=by
 rw[wm,wm,dP,C8,GY]
theorem pop_at(xs:List Nat)(j:Nat)(h:j<xs.length):popD (.lst (xs.map iN)) (.int (j:Int))=some (iN xs[j],.lst ((xs.eraseIdx j).map iN)):=by
 have e:(xs.map iN)[j]?=some (iN xs[j]):=by rw[be,cf h];rfl
 show (if 0<=(j:Int)/\(j:Int)<((xs.map iN).length:Nat) then ((xs.map iN)[((j:Int)).toNat]?).map (λd=>(d,D.lst ((xs.map iN).eraseIdx ((j:Int)).toNat))) else none)=_;rw[if_pos ⟨by omega,by rw[aw];omega⟩,df,e,dN];rfl
theorem wQ(xs:List Nat):eqD true (.lst (xs.map iN)) (.lst [])=some (.bl (decide (xs≠[]))):=by
 cases xs with
 |nil=>rfl
 |cons x r=>
  show (eqvD (.lst _) (.lst _)).map _=_;have:eqvD (.lst ((x::r).map iN)) (.lst [])=some false:=by
   show (if ((x::r).map iN).length=([]:List D).length then allO (eqK 180) ((x::r).map iN) [] else some false)=some false;exact if_neg (by simp)
  rw[this];rfl
theorem Iu{α:Type}(xs:List α)(j:Nat)(h:j<xs.length):(xs[j]::xs.eraseIdx j).Perm xs:=by
 rw[wm];have e:xs.take j++xs[j]::xs.drop (j+1)=xs:=by rw[<-rS h,zI]
 exact (List.perm_middle.symm).trans (by rw[e])
theorem X6(n:D):∀(k:Nat) (xs ys:List Nat) (i:Int) (f:Nat),xs.length=k->xs.length+ys.length<=100->k<f->∃i' zs,zs.Perm xs ∧
  Gy Bo CK f [.fz (.int i),.fz n,.ow (lN xs),.ow (lN ys)]=some (.nx [.fz (.int i'),.fz n,.ow (.lst []),.ow (lN (ys++zs))])
 |k,xs,ys,i,0,_,_,hf=>by omega
 |0,xs,ys,i,f+1,hl,_,hf=>by
  have e:xs=[]:=wb hl;subst e;refine⟨i,[],.nil,?_⟩;unfold Gy;have t:Bo [.fz (.int i),.fz n,.ow (lN []),.ow (lN ys)]=some false:=by
   simp only[cK,Bo,lN];rfl
  rw[t,eL];rfl
 |k+1,xs,ys,i,f+1,hl,hs,hf=>by
  have t:Bo [.fz (.int i),.fz n,.ow (lN xs),.ow (lN ys)]=some true:=by
   have q:=wQ xs;have:xs≠[]:=λz=>by subst z;simp at hl
   simp only[cK,Bo,lN,q,this,ne_eq,not_false_eq_true]
  have j0:0<=i%(xs.length:Int):=gX _ (by omega);have j1:i%(xs.length:Int)<xs.length:=ja _ (by omega);obtain⟨j,ej⟩:∃j:Nat,(j:Int)=i%(xs.length:Int):=⟨(i%(xs.length:Int)).toNat,by omega⟩;have hj:j<xs.length:=by omega
  have pp:=pop_at xs j hj;have le:(xs.eraseIdx j).length=k:=by rw[List.length_eraseIdx_of_lt hj];omega
  have m1:=Hl i (xs.length:Int) (by omega);have m2:=GK i ((xs.eraseIdx j).length+1:Int) (by omega) (by omega);have ll:=XD (xs.map iN);rw[aw] at ll;have ll2:=XD ((xs.eraseIdx j).map iN);rw[aw] at ll2;have ap:appL (.lst (ys.map iN)) (iN xs[j])=some (.lst ((ys++[xs[j]]).map iN)):=by rw[PL _ _ .(17),dP];rfl
  obtain⟨i',zs,pz,ih⟩:=X6 n k (xs.eraseIdx j) (ys++[xs[j]]) (i/((xs.eraseIdx j).length+1:Int)) f le (by rw[le,cb];simp;omega) (by omega);refine⟨i',xs[j]::zs,(BE _ pz).trans (Iu xs j hj),?_⟩;have b1:appX 3 (popX 2 (bF modD (vF 0) (uF lenD (vU 2)))) [.fz (.int i),.fz n,.ow (lN xs),.ow (lN ys)]=some (.nx [.fz (.int i),.fz n,.ow (lN (xs.eraseIdx j)),.ow (lN (ys++[xs[j]]))]):=by
   have v1:bF modD (vF 0) (uF lenD (vU 2)) [.fz (.int i),.fz n,.ow (lN xs),.ow (lN ys)]=some (.int (j:Int)):=by
    rw[ej];simp only[cK,lN,ll,m1]
   unfold appX popX;rw[v1];simp only[ownO,wv,Cf,dS,lN,pp,eK,sN,sM,lstQ,ap]
  have b2:CK [.fz (.int i),.fz n,.ow (lN xs),.ow (lN ys)]=some (.nx [.fz (.int (i/((xs.eraseIdx j).length+1:Int))),.fz n,.ow (lN (xs.eraseIdx j)),.ow (lN (ys++[xs[j]]))]):=by
   unfold CK;rw[W7,b1,e_nx];simp only[ciK,lN,ll2,m2]
  unfold Gy;rw[t];show (match CK _ with | some (.nx ρ')=>Gy Bo CK f ρ' | some (.ct ρ')=>Gy Bo CK f ρ' | some (.bk ρ')=>some (.nx ρ') | some (.rt e ρ')=>some (.rt e ρ') | none=>none)=_;rw[b2];show Gy Bo CK f _=_;rw[ih,mE];rfl
theorem lZ(n:Nat)(h:n<=100):SQ .(4)=some (lN (av n)):=by
 show (if 0<=(n:Int)/\(n:Int)<=1000000 then some (D.lst (rngD (n:Int).toNat)) else none)=_;rw[if_pos ⟨by omega,by omega⟩,df];rfl
theorem Oa(i:Int)(n:Nat)(hn:n<=5):∃os:List Nat,os.Perm (av n)/\Hz [.int i,.int (n:Int)]=some (lN os):=by
 obtain⟨i',zs,pz,e⟩:=X6 .(4) n (av n) [] i 60 (by simp) .(17) (by omega);rw[ic] at e;refine⟨zs,pz,?_⟩;have r:=lZ n (by omega);have e0:(D.lst [])=lN []:=rfl;simp only[dK,Hz,KQ,r,e0,e]
theorem WM(ms:List (Str×List Nat)):(eM ms).map (λp=>kDt p.1)=(ms.map (·.1)).map .str:=by simp[eM,SN]
theorem WN(ts:List (Str×List (Nat×Nat))):(eT ts).map (λp=>kDt p.1)=(ts.map (·.1)).map .str:=by simp[eT,SN]
theorem X7(ns:List Int)(s w mo:D)(n:Nat)(hn:n<=5)(w6:Slot):∀(r:List Str) (ms:List (Str×List Nat)) (k:Nat) (z8 z9:Slot),(ms.map (·.1)++r).Nodup->(ms.map (·.1)++r).length<=50->∃ms' y8 y9,ms'.map (·.1)=r/\Mk n ms' ∧
  forF (tgB (BK 8) GX) (r.map .str) [.fz .(1),.fz s,.fz w,.fz mo,.fz .(4),.ow (.dk (eM ms)),w6,.fz (.int (k:Int)),z8,z9]=some (.nx [.fz .(1),.fz s,.fz w,.fz mo,.fz .(4),.ow (.dk (eM (ms++ms'))),w6,.fz (.int ((k+r.length:Nat):Int)),y8,y9])
 |[],ms,k,z8,z9,_,_=>⟨[],z8,z9,rfl,⟨by simp⟩,by rw[eL];rfl⟩
 |x::r,ms,k,z8,z9,nd,hl=>by
  obtain⟨bs,hb,hbl⟩:=RV (ns.getD (k+1) 0) n (by omega);have ci:=Kv ns (k+1);have ce:(k:Int)+1=((k+1:Nat):Int):=by omega
  have nt:x∉ms.map (·.1):=λq=>by
   rw[dL] at nd;exact nd.2.2 x q x (by simp) rfl
  have cm:BV (rngI (vF 4)) JD Lh [.fz .(1),.fz s,.fz w,.fz mo,.fz .(4),.ow (.dk (eM ms)),w6,.fz (.int ((k+1:Nat):Int)),.fz (.str x),.fz (.lst (bs.map .bl))]=some (lM ((av n).filter λt=>bs.getD t false)):=
   Mf (λt=>bs.getD t false) iN _ (lV n (by omega) _ 4 rfl) (by omega) (λt ht=>by
    have ix:=a_ (bs:=bs) (k:=t) (by omega);have eg:bs.getD t false=bs[t]'(by omega):=by rw[gT,cf (by omega)];rfl
    simp only[cK,JD,ix,eg]) λt ht=>rfl
  have pk:Cj (.dk (eM ms)) (.str x) (lM ((av n).filter λt=>bs.getD t false))=some (.dk (eM (ms++[(x,(av n).filter λt=>bs.getD t false)]))):=by
   rw[KJ _ _ _ (by simp[eM] at hl ⊢;omega)];have:(.inr x:Key)∉(eM ms).map (·.1):=Hk lM nt;rw[putL_new this];simp[eM]
  have st:GX [.fz .(1),.fz s,.fz w,.fz mo,.fz .(4),.ow (.dk (eM ms)),w6,.fz (.int (k:Int)),.fz (.str x),z9]=some (.nx [.fz .(1),.fz s,.fz w,.fz mo,.fz .(4),.ow (.dk (eM (ms++[(x,(av n).filter λt=>bs.getD t false)]))),w6,.fz (.int ((k+1:Nat):Int)),.fz (.str x),.fz (.lst (bs.map .bl))]):=by
   simp only[ciK,GX,ce,ci,hb,SM,LC,cm,NK,pk]
  obtain⟨ms',y8,y9,h1,h2,ih⟩:=X7 ns s w mo n hn w6 r (ms++[(x,(av n).filter λt=>bs.getD t false)]) (k+1) (.fz (.str x)) (.fz (.lst (bs.map .bl))) (by simpa using nd) (by simpa using hl);refine⟨(x,(av n).filter λt=>bs.getD t false)::ms',y8,y9,by simp[h1],⟨λp hp=>?_⟩,?_⟩
  .rcases bb.mp hp with q | q
   .subst q;refine⟨Dk n _,?_,λt ht=>bv.mp (eC.mp ht).1⟩;have:=wt (λt=>bs.getD t false) (av n);rw[eW] at this;show ((av n).filter _).length<=100;omega
   .exact h2.ok p q
  .w_up
   rw[st,Cu,ih,mE,eR,show k+1+r.length=k+(r.length+1) by omega];rfl
theorem bA(ns:List Int)(s w mo:D)(n:Nat)(hn:n<=5)(w5:Slot):∀(r:List Str) (ts:List (Str×List (Nat×Nat))) (k:Nat) (z8 z9:Slot),(ts.map (·.1)++r).Nodup->(ts.map (·.1)++r).length<=50->∃ts' y8 y9,ts'.map (·.1)=r/\Tk n ts' ∧
  forF (tgB (BK 8) GZ) (r.map .str) [.fz .(1),.fz s,.fz w,.fz mo,.fz .(4),w5,.ow (.dk (eT ts)),.fz (.int (k:Int)),z8,z9]=some (.nx [.fz .(1),.fz s,.fz w,.fz mo,.fz .(4),w5,.ow (.dk (eT (ts++ts'))),.fz (.int ((k+r.length:Nat):Int)),y8,y9])
 |[],ts,k,z8,z9,_,_=>⟨[],z8,z9,rfl,⟨by simp⟩,by rw[eL];rfl⟩
 |x::r,ts,k,z8,z9,nd,hl=>by
  have hnn:n*n<=25:=C9 hn hn;obtain⟨bs,hb,hbl⟩:=RV (ns.getD (k+1) 0) (n*n) hnn;have ci:=Kv ns (k+1);have ce:(k:Int)+1=((k+1:Nat):Int):=by omega
  have mu:=OD (n:Int) (n:Int) (by omega);have mc:(n:Int)*(n:Int)=((n*n:Nat):Int):=by simp
  rw[mc] at mu;have nt:x∉ts.map (·.1):=λq=>by
   rw[dL] at nd;exact nd.2.2 x q x (by simp) rfl
  have rg:rngI (bF mulD (vF 4) (vF 4)) [.fz .(1),.fz s,.fz w,.fz mo,.fz .(4),w5,.ow (.dk (eT ts)),.fz (.int ((k+1:Nat):Int)),.fz (.str x),.fz (.lst (bs.map .bl))]=some (rngD (n*n)):=by
   have e6:=Ir ((n*n:Nat):Int) (by omega);rw[df] at e6;simp only[cK,mu,e6]
  have cm:BV (rngI (bF mulD (vF 4) (vF 4))) JF JG [.fz .(1),.fz s,.fz w,.fz mo,.fz .(4),w5,.ow (.dk (eT ts)),.fz (.int ((k+1:Nat):Int)),.fz (.str x),.fz (.lst (bs.map .bl))]=some (.lst (((av (n*n)).filter λt=>bs.getD t false).map λt=>pN (t/n,t%n))):=
   Mf (λt=>bs.getD t false) (λt=>pN (t/n,t%n)) _ rg (by omega) (λt ht=>by
    have ix:=a_ (bs:=bs) (k:=t) (by omega);have eg:bs.getD t false=bs[t]'(by omega):=by rw[gT,cf (by omega)];rfl
    simp only[cK,JF,ix,eg]) λt ht=>by
    have n0:0<n:=by
     rcases zy n with z | z
     .subst z;simp at ht
     .exact z
    have d1:=GK (t:Int) (n:Int) (by omega) (by omega);have d2:=Hl (t:Int) (n:Int) (by omega);have q1:(t:Int)/(n:Int)=((t/n:Nat):Int):=by simp
    have q2:(t:Int)%(n:Int)=((t%n:Nat):Int):=by simp
    rw[q1] at d1;rw[q2] at d2;simp only[cK,JG,d1,d2]
  have el:(.lst (((av (n*n)).filter λt=>bs.getD t false).map λt=>pN (t/n,t%n)):D)=lT (((av (n*n)).filter λt=>bs.getD t false).map λt=>(t/n,t%n)):=by simp[lT]
  rw[el] at cm;generalize hX:((av (n*n)).filter λt=>bs.getD t false).map (λt=>(t/n,t%n))=Xs at cm;have hXs:Xs.Nodup/\Xs.length<=100/\∀q∈Xs,q.1<n/\q.2<n:=by
   subst hX;refine⟨?_,?_,λq hq=>?_⟩
   .rw[lf,kD];refine Cb (λ{a b} hab e=>hab ?_) (Dk (n*n) _);simp only[xk] at e;have h1:=zz a n;have h2:=zz b n;rw[e.1,e.2] at h1;exact h1.symm.trans h2
   .have:=wt (λt=>bs.getD t false) (av (n*n));rw[eW] at this;rw[aw];omega
   .obtain⟨t,ht,rfl⟩:=aI.mp hq;have ht:=bv.mp (eC.mp ht).1;have n0:0<n:=by
     rcases zy n with z | z
     .subst z;simp at ht
     .exact z
    exact⟨HC ht,zn _ n0⟩
  have pk:Cj (.dk (eT ts)) (.str x) (lT Xs)=some (.dk (eT (ts++[(x,Xs)]))):=by
   rw[KJ _ _ _ (by simp[eT] at hl ⊢;omega)];have:(.inr x:Key)∉(eT ts).map (·.1):=Hk lT nt;rw[putL_new this];simp[eT]
  have st:GZ [.fz .(1),.fz s,.fz w,.fz mo,.fz .(4),w5,.ow (.dk (eT ts)),.fz (.int (k:Int)),.fz (.str x),z9]=some (.nx [.fz .(1),.fz s,.fz w,.fz mo,.fz .(4),w5,.ow (.dk (eT (ts++[(x,Xs)]))),.fz (.int ((k+1:Nat):Int)),.fz (.str x),.fz (.lst (bs.map .bl))]):=by
   simp only[ciK,GZ,ce,ci,mu,hb,SM,LC,cm,NK,pk]
  obtain⟨ts',y8,y9,h1,h2,ih⟩:=bA ns s w mo n hn w5 r (ts++[(x,Xs)]) (k+1) (.fz (.str x)) (.fz (.lst (bs.map .bl))) (by simpa using nd) (by simpa using hl);refine⟨(x,Xs)::ts',y8,y9,by simp[h1],⟨λp hp=>?_⟩,?_⟩
  .rcases bb.mp hp with q | q
   .subst q;exact hXs
   .exact h2.ok p q
  .w_up
   rw[st,Cu,ih,mE,eR,show k+1+r.length=k+(r.length+1) by omega];rfl
theorem ixw0(W:Wl):ixE (wd W) (.int 0)=some (.int (W.n:Int)):=rfl
theorem ixw1(W:Wl):ixE (wd W) (.int 1)=some (.dk (eM W.ms)):=rfl
theorem ixw2(W:Wl):ixE (wd W) (.int 2)=some (.dk (eT W.ts)):=rfl
theorem lr(ns:List Int)(W:Wl)(h:WOk W)(m:Nat)(hm:m<=5)(hw:W.n<=m):∃V:Wl,WOk V/\V.n<=m/\V.ms.map (·.1)=W.ms.map (·.1)/\V.ts.map (·.1)=W.ts.map (·.1) ∧
  Ga [.lst .(9),.int 8,wd W,.int (m:Int)]=some (wd V):=by
 have c8:Ao [.lst .(9),.int 8]=some (.int (ns.getD 8 0)):=Kv ns 8;have nd:=dL.mp h.nd;have a0:0<=ns.getD 8 0/8%((m:Int)+1):=gX _ (by omega);have a1:ns.getD 8 0/8%((m:Int)+1)<(m:Int)+1:=ja _ (by omega);obtain⟨n2,e2⟩:∃n2:Nat,(n2:Int)=ns.getD 8 0/8%((m:Int)+1):=⟨(ns.getD 8 0/8%((m:Int)+1)).toNat,by omega⟩;have b0:0<=ns.getD 8 0/4%2:=gX _ (by decide);have b1:ns.getD 8 0/4%2<2:=ja _ (by decide);obtain⟨n,en,hn⟩:∃n:Nat,ixE (.lst [.int (W.n:Int),.int (ns.getD 8 0/8%((m:Int)+1))]) (.int (ns.getD 8 0/4%2))=some .(4)/\n<=m:=by
  rcases (by omega:ns.getD 8 0/4%2=0∨ns.getD 8 0/4%2=1) with z | z
  .exact⟨W.n,by rw[z];rfl,hw⟩
  .exact⟨n2,by rw[z,e2];rfl,by omega⟩
 have md:=Hl (ns.getD 8 0/8) ((m:Int)+1) (by omega);obtain⟨ms,y8,y9,h1,h2,l1⟩:=X7 ns (.int 8) (wd W) (.int (m:Int)) n (by omega) (.ow (.dk (eM []))) (W.ms.map (·.1)) [] 8 .un .un (by simpa using nd.1) (by have:=h.m3;simp;omega);obtain⟨ts,x8,x9,g1,g2,l2⟩:=bA ns (.int 8) (wd W) (.int (m:Int)) n (by omega) (.ow (.dk (eM ms))) (W.ts.map (·.1)) [] (8+(W.ms.map (·.1)).length) y8 y9 (by simpa using nd.2.1) (by have:=h.t3;simp;omega);refine⟨⟨n,ms,ts⟩,⟨by show n<=5;omega,?_,?_,λp hp=>?_,λp hp=>?_,?_,h2.ok,g2.ok⟩,hn,h1,g1,?_⟩
 .have:=congrArg dE h1;simp at this;have:=h.m3;show ms.length<=3;omega
 .have:=congrArg dE g1;simp at this;have:=h.t3;show ts.length<=3;omega
 .have:p.1∈W.ms.map (·.1):=by rw[<-h1];exact aI.mpr ⟨p,hp,rfl⟩
  obtain⟨q,hq,e⟩:=aI.mp this;rw[<-e];exact h.mw q hq
 .have:p.1∈W.ts.map (·.1):=by rw[<-g1];exact aI.mpr ⟨p,hp,rfl⟩
  obtain⟨q,hq,e⟩:=aI.mp this;rw[<-e];exact h.tw q hq
 .show (ms.map (·.1)++ts.map (·.1)).Nodup;rw[h1,g1];exact h.nd
 .have em:(D.dk [])=D.dk (eM []):=rfl;have i0:=ixw0 W;have i1:=ixw1 W;have i2:=ixw2 W;have n1:=WM W.ms;have n2':=WN W.ts;have e8:(8:Int)=((8:Nat):Int):=rfl;rw[ic] at l1 l2;have em2:D.dk (eM ([]:List (Str×List Nat)))=D.dk (eT []):=rfl;rw[<-e8] at l1;have q1:Oi (some (D.dk (eM W.ms)))=some ((W.ms.map (·.1)).map .str):=by rw[RM,n1]
  have q2:Oi (some (D.dk (eT W.ts)))=some ((W.ts.map (·.1)).map .str):=by rw[RM,n2']
  simp only[ciK,Ga,KZ,NB,DN,Ql,Qm,Le,c8,i0,md,en,i1,em,q1,l1];rw[<-em2] at l2;simp only[cK,DN,Ql,Qm,Le,i2,q2,l2];rfl
theorem qx(W:Wl)(m:Nat)(h:W.n<=m):Ek [wd W,.int (m:Int)]=some (wd W):=by
 have i0:=ixw0 W;have l:decide ((W.n:Int)<=(m:Int))=true:=by simp;omega
 simp only[ciK,Ek,Iz,i0,l]
end K52
namespace K52
open PySem L2 PV EX
theorem Kw{α:Type}(f:α->D)(w:Str):∀(l:List (Str×α)),getK (.inr w:Key) (l.map λp=>((.inr p.1:Key),f p.2))=(l.find? (λp=>p.1=w)).map λp=>f p.2
 |[]=>rfl
 |p::r=>by
  rw[ba,p5];show (if (.inr p.1:Key)=.inr w then some (f p.2) else getK (.inr w:Key) (r.map λp=>((.inr p.1:Key),f p.2)))=_
  by_cases h:p.1=w
  .simp[h]
  .have:¬ ((.inr p.1:Key)=.inr w):=λz=>h (zV z);rw[if_neg this,Kw f w r];simp[h]
theorem Tc(W:Wl):fldD "size" (wob W)=some (.int (W.n:Int)):=by
 show dA ("size":Str) _=_;rfl
theorem Td(W:Wl):fldD "marked" (wob W)=some (.dk (oM W.ms)):=by
 show dA ("marked":Str) [(("size":Str),D.int (W.n:Int)),("marked",.dk (oM W.ms)),("tied",.dk (oT W.ts))]=_;simp only[dA,q1];rfl
theorem ZF(W:Wl):fldD "tied" (wob W)=some (.dk (oT W.ts)):=by
 show dA ("tied":Str) [(("size":Str),D.int (W.n:Int)),("marked",.dk (oM W.ms)),("tied",.dk (oT W.ts))]=_;simp only[dA,q2,q3];rfl
theorem WP(x:Nat)(l:List Nat):inF false (.int (x:Int)) (lM l)=some (.bl (l.any λt=>decide (t=x))):=by
 have h:∀ys:List Nat,flVs (ys.map iN)=some (ys.map λ(t:Nat)=>V.int t):=λys=>by
  induction ys with
  |nil=>rfl
  |cons y r ih=>simp[flVs,flV,ih]
 show ((flV (.int (x:Int))).bind λv=>(flVs (l.map iN)).map λvs=>D.bl (inV v vs))=_;rw[h];show some (D.bl (inV (.int (x:Int)) (l.map λ(t:Nat)=>V.int t)))=_;have e:∀t:Nat,eqV (.int (t:Int)) (.int (x:Int))=decide (t=x):=λt=>by
  by_cases z:t=x
  .subst z;simp[eqV]
  .have:¬ ((t:Int)=(x:Int)):=by omega
   simp[eqV,z,this]
 simp only[inV,qa,w9,e]
theorem Te(x y:Nat)(l:List (Nat×Nat)):inF false (.tup [.int (x:Int),.int (y:Int)]) (lT l)=some (.bl (l.any λq=>decide (q.1=x)&&decide (q.2=y))):=by
 have k:∀q:Nat×Nat,eqK 62 (pN q) (.tup [.int (x:Int),.int (y:Int)])=some (decide (q.1=x)&&decide (q.2=y)):=λq=>by
  have e:∀a b:Nat,eqK 61 (.int (a:Int)) (.int (b:Int))=some (decide (a=b)):=λa b=>by
   show some (eqV (.int (a:Int)) (.int (b:Int)))=_
   by_cases z:a=b
   .subst z;simp[eqV]
   .have:¬ ((a:Int)=(b:Int)):=by omega
    simp[eqV,z,this]
  show (if 2=2 then allO (eqK 61) [.int (q.1:Int),.int (q.2:Int)] [.int (x:Int),.int (y:Int)] else none)=_;rw[if_pos rfl];simp only[allO,e];cases decide (q.1=x)<;>cases decide (q.2=y)<;>rfl
 have h1:(l.map pN).all (knows (.tup [.int (x:Int),.int (y:Int)]))=true:=by
  rw[gg];intro d hd;obtain⟨q,_,rfl⟩:=aI.mp hd;unfold knows;rw[k q];rfl
 have h2:(l.map pN).any (eqTo (.tup [.int (x:Int),.int (y:Int)]))=l.any λq=>decide (q.1=x)&&decide (q.2=y):=by
  rw[qa];congr 1;funext q;show eqTo _ (pN q)=_;unfold eqTo;rw[k q]
 show (if (l.map pN).all (knows (.tup [.int (x:Int),.int (y:Int)]))=true then some (D.bl ((l.map pN).any (eqTo (.tup [.int (x:Int),.int (y:Int)])))) else none)=_;rw[if_pos h1,h2]
end K52
namespace K52
open PySem L2 PV
def aD(ps:List (Str×Addr)):D:=.dk (ps.map λp=>((.inr p.1:Key),.adr p.2))
structure Q (α:Type) where
 w:Str
 a:Addr
 l:List α
def cQ{α:Type}(f:List α->D)(q:Q α):Addr×D:=(q.a,f q.l)
def adQ{α:Type}(qs:List (Q α)):List (Str×Addr):=qs.map λq=>(q.w,q.a)
theorem Il{α:Type}(l:List α)(e g:α->D)(hs:src ρ=some (l.map e))(hn:l.length<=1000)(h:∀x∈l,fe (ρ++[.fz (e x)])=some (g x)):BV src allT fe ρ=some (.lst (l.map g)):=by
 have c:∀l:List α,(∀x∈l,fe (ρ++[.fz (e x)])=some (g x))->Io ρ allT fe (l.map e)=some (l.map g):=by
  intro l
  induction l with
  |nil=>intro _;rfl
  |cons x r ih=>
   intro hl;rw[ba,G4,hl x (by simp),ih λd hd=>hl d (by simp[hd])];rfl
 exact MK hs (by rw[aw];omega) (c l h)
theorem lz(l:List (Nat×Nat))(g:Nat×Nat->D)(hs:src ρ=some (l.map pN))(hn:l.length<=1000)(h:∀x∈l,fe (ρ++[.fz (.int (x.1:Int)),.fz (.int (x.2:Int))])=some (g x)):Xl src allT fe ρ=some (.lst (l.map g)):=by
 have c:∀l:List (Nat×Nat),(∀x∈l,fe (ρ++[.fz (.int (x.1:Int)),.fz (.int (x.2:Int))])=some (g x))->Ez bd2 ρ allT fe (l.map pN)=some (l.map g):=by
  intro l
  induction l with
  |nil=>intro _;rfl
  |cons x r ih=>
   intro hl;rw[ba];show (fe (ρ++[PV.Slot.fz (.int (x.1:Int)),PV.Slot.fz (.int (x.2:Int))])).bind (λy=>(Ez bd2 ρ allT fe (r.map pN)).map (y::·))=_;rw[hl x (by simp),ih λd hd=>hl d (by simp[hd])];rfl
 unfold Xl Ip;rw[hs];show (if (l.map pN).length<=sizeLine then (Ez bd2 ρ allT fe (l.map pN)).map D.lst else none)=_;rw[if_pos (JT (by rw[aw];omega)),c l h];rfl
theorem ZG(os:List Nat)(t:Nat)(h:t<os.length):ixE (lN os) (.int (t:Int))=some (iN (os.getD t 0)):=by
 show atI (os.map iN) (t:Int)=_;rw[Hm,be];simp[h]
theorem bB(ps:List (Str×Addr))(w:Str)(p:Addr)(h:w∉ps.map (·.1))(hl:ps.length<=100):Cj (aD ps) (.str w) (.adr p)=some (aD (ps++[(w,p)])):=by
 unfold aD;rw[KJ _ _ _ .(17)];have:(.inr w:Key)∉(ps.map λp=>((.inr p.1:Key),D.adr p.2)).map (·.1):=Hk D.adr h;rw[putL_new this];simp
theorem l_{α:Type}(f:α->D){l:List (Str×α)}(h:(l.map (·.1)).Nodup):((l.map λp=>((.inr p.1:Key),f p.2)).map (·.1)).Nodup:=by
 unfold lf at h ⊢;rw[kD] at h;rw[bX,kD];exact h.imp λhab e=>hab (zV e)
theorem at_M(W:Wl)(h:WOk W){p:Str×List Nat}(hp:p∈W.ms):ixE (.dk (eM W.ms)) (.str p.1)=some (lM p.2):=by
 rw[GP];exact Om (l_ lM (dL.mp h.nd).1) (aI.mpr ⟨p,hp,rfl⟩)
theorem at_T(W:Wl)(h:WOk W){p:Str×List (Nat×Nat)}(hp:p∈W.ts):ixE (.dk (eT W.ts)) (.str p.1)=some (lT p.2):=by
 rw[GP];exact Om (l_ lT (dL.mp h.nd).2.1) (aI.mpr ⟨p,hp,rfl⟩)
theorem mC(W:Wl)(h:WOk W)(os:List Nat)(ho:os.length=W.n)(w3:PV.Slot)(K:KM):∀(r:List (Str×List Nat)) (ps:List (Str×Addr)) (μ:Mu) (z4:PV.Slot),(∀p∈r,p∈W.ms)->(ps.map (·.1)++r.map (·.1)).Nodup->(ps.map (·.1)++r.map (·.1)).length<=50->(ksM μ).Nodup ->
  (∀(qs:List (Q Nat)) (z:PV.Slot),qs.map (λq=>(q.w,q.l))=r.map (λp=>(p.1,p.2.map λt=>os.getD t 0))->(ksM ((qs.map (cQ lM)).reverse++μ)).Nodup->K (.nx [.fz (wd W),.fz (lN os),.ow (aD (ps++adQ qs)),w3,z]) ((qs.map (cQ lM)).reverse++μ)) ->
  Mm (BK 4) Fj (r.map λp=>.str p.1) [.fz (wd W),.fz (lN os),.ow (aD ps),w3,z4] μ K
 |[],ps,μ,z4,_,_,_,hn,k=>by
  have:=k [] z4 rfl (by simpa using hn);simpa [adQ,Mm] using this
 | (w,l)::r,ps,μ,z4,hr,nd,hl,hn,k=>by
  have hp:=hr (w,l) (by simp);have hb:=h.ml _ hp;refine⟨[.fz (wd W),.fz (lN os),.ow (aD ps),w3,.fz (.str w)],rfl,?_⟩;have i1:=ixw1 W;have am:=at_M W h hp;have cm:BV (seqA (bF ixE (bF ixE (vF 0) .(5)) (vF 4))) allT Fi [.fz (wd W),.fz (lN os),.ow (aD ps),w3,.fz (.str w)]=some (lM (l.map λt=>os.getD t 0)):=by
   have:=Il (src:=seqA (bF ixE (bF ixE (vF 0) .(5)) (vF 4))) (fe:=Fi) (ρ:=[.fz (wd W),.fz (lN os),.ow (aD ps),w3,.fz (.str w)]) l iN (λt=>iN (os.getD t 0)) (by simp only[cK,DN,i1,am,lM,GQ]) (by have:=hb.2.1;simp at this;omega) (λt ht=>by
    have ix:=ZG os t (by rw[ho];exact hb.2.2 t ht);simp only[cK,Fi,ix])
   rw[this];simp[lM]
  unfold Fj Xi newX;refine⟨_,cm,λp hp'=>⟨.str w,aD ps,aD (ps++[(w,p)]),rfl,rfl,bB ps w p (λq=>?_) ?_,?_⟩⟩
  .rw[dL] at nd;exact nd.2.2 w q w (by simp) rfl
  .simp at hl;omega
  .show Mm (BK 4) Fj (r.map λp=>.str p.1) [.fz (wd W),.fz (lN os),.ow (aD (ps++[(w,p)])),w3,.fz (.str w)] ((p,lM (l.map λt=>os.getD t 0))::μ) K;refine mC W h os ho w3 K r (ps++[(w,p)]) _ _ (λq hq=>hr q (by simp[hq])) (by simpa using nd) (by simpa using hl) (i6.mpr ⟨hp',hn⟩) λqs z e hk=>?_;have:=k (⟨w,p,l.map λt=>os.getD t 0⟩::qs) z (by simp[e]) (by simpa [cQ] using hk);simpa [adQ,cQ,mE] using this
theorem mD(W:Wl)(h:WOk W)(os:List Nat)(ho:os.length=W.n)(w2:PV.Slot)(K:KM):∀(r:List (Str×List (Nat×Nat))) (ps:List (Str×Addr)) (μ:Mu) (z4:PV.Slot),(∀p∈r,p∈W.ts)->(ps.map (·.1)++r.map (·.1)).Nodup->(ps.map (·.1)++r.map (·.1)).length<=50->(ksM μ).Nodup ->
  (∀(qs:List (Q (Nat×Nat))) (z:PV.Slot),qs.map (λq=>(q.w,q.l))=r.map (λp=>(p.1,p.2.map λq=>(os.getD q.1 0,os.getD q.2 0)))->(ksM ((qs.map (cQ lT)).reverse++μ)).Nodup->K (.nx [.fz (wd W),.fz (lN os),w2,.ow (aD (ps++adQ qs)),z]) ((qs.map (cQ lT)).reverse++μ)) ->
  Mm (BK 4) Fo (r.map λp=>.str p.1) [.fz (wd W),.fz (lN os),w2,.ow (aD ps),z4] μ K
 |[],ps,μ,z4,_,_,_,hn,k=>by
  have:=k [] z4 rfl (by simpa using hn);simpa [adQ,Mm] using this
 | (w,l)::r,ps,μ,z4,hr,nd,hl,hn,k=>by
  have hp:=hr (w,l) (by simp);have hb:=h.tl _ hp;refine⟨[.fz (wd W),.fz (lN os),w2,.ow (aD ps),.fz (.str w)],rfl,?_⟩;have i1:=ixw2 W;have am:=at_T W h hp;have cm:Xl (seqA (bF ixE (bF ixE (vF 0) .(18)) (vF 4))) allT Fl [.fz (wd W),.fz (lN os),w2,.ow (aD ps),.fz (.str w)]=some (lT (l.map λq=>(os.getD q.1 0,os.getD q.2 0))):=by
   have:=lz (src:=seqA (bF ixE (bF ixE (vF 0) .(18)) (vF 4))) (fe:=Fl) (ρ:=[.fz (wd W),.fz (lN os),w2,.ow (aD ps),.fz (.str w)]) l (λq=>pN (os.getD q.1 0,os.getD q.2 0)) (by simp only[cK,DN,i1,am,lT,GQ]) (by have:=hb.2.1;simp at this;omega) (λq hq=>by
    have ix:=ZG os q.1 (by rw[ho];exact (hb.2.2 q hq).1);have ix2:=ZG os q.2 (by rw[ho];exact (hb.2.2 q hq).2);simp only[cK,Fl,ix,ix2])
   rw[this];simp[lT]
  unfold Fo Xi newX;refine⟨_,cm,λp hp'=>⟨.str w,aD ps,aD (ps++[(w,p)]),rfl,rfl,bB ps w p (λq=>?_) ?_,?_⟩⟩
  .rw[dL] at nd;exact nd.2.2 w q w (by simp) rfl
  .simp at hl;omega
  .show Mm (BK 4) Fo (r.map λp=>.str p.1) [.fz (wd W),.fz (lN os),w2,.ow (aD (ps++[(w,p)])),.fz (.str w)] ((p,lT (l.map λq=>(os.getD q.1 0,os.getD q.2 0)))::μ) K;refine mD W h os ho w2 K r (ps++[(w,p)]) _ _ (λq hq=>hr q (by simp[hq])) (by simpa using nd) (by simpa using hl) (i6.mpr ⟨hp',hn⟩) λqs z e hk=>?_;have:=k (⟨w,p,l.map λq=>(os.getD q.1 0,os.getD q.2 0)⟩::qs) z (by simp[e]) (by simpa [cQ] using hk);simpa [adQ,cQ,mE] using this
theorem bC(k:List (Key×D)):Ld (.dk k)=some (.lst (k.map λp=>kDt p.1)):=zE_ _
theorem VL(W:Wl)(h:WOk W)(os:List Nat)(ho:os.length=W.n)(K:D->Mu->Prop)(k:∀(qs:List (Q Nat)) (us:List (Q (Nat×Nat))),qs.map (λq=>(q.w,q.l))=(mvd os W).ms->us.map (λq=>(q.w,q.l))=(mvd os W).ts->(ksM ((us.map (cQ lT)).reverse++(qs.map (cQ lM)).reverse)).Nodup->K (.lst [.int (W.n:Int),aD (adQ qs),aD (adQ us)]) ((us.map (cQ lT)).reverse++(qs.map (cQ lM)).reverse)):
  Jm [wd W,lN os] [] K:=by
 refine⟨rfl,?_⟩;have nd:=dL.mp h.nd;have i1:=ixw1 W;have i2:=ixw2 W;have i0:=ixw0 W;have n1:revI (uF Ld (bF ixE (vF 0) .(5))) [.fz (wd W),.fz (lN os),.ow (.dk []),.ow (.dk []),.un]=some (W.ms.reverse.map λp=>.str p.1):=by
  unfold revI;simp only[cK,i1,bC,WM];rw[<-kf,<-kf,bX];rfl
 have n2:∀x2 x3 x4,revI (uF Ld (bF ixE (vF 0) .(18))) [.fz (wd W),.fz (lN os),x2,x3,x4]=some (W.ts.reverse.map λp=>.str p.1):=λx2 x3 x4=>by
  unfold revI;simp only[cK,i2,bC,WN];rw[<-kf,<-kf,bX];rfl
 show HF [.fz (wd W),.fz (lN os),.un,.un,.un] [] (finM K);unfold HF;refine⟨_,rfl,⟨_,rfl,⟨_,n1,?_⟩⟩⟩;refine mC W h os ho (.ow (.dk [])) _ W.ms.reverse [] [] .un (λp hp=>by simpa using hp) (by rw[ke,ic,kf];exact (sQ _).nodup_iff.mpr nd.1) (by have:=h.m3;simp;omega) zb λqs z e1 hk1=>?_;rw[eL,ic] at *;refine⟨_,n2 _ _ _,?_⟩;refine mD W h os ho (.ow (aD (adQ qs))) _ W.ts.reverse [] ((qs.map (cQ lM)).reverse) z (λp hp=>by simpa using hp) (by rw[ke,ic,kf];exact (sQ _).nodup_iff.mpr nd.2.1) (by have:=h.t3;simp;omega) hk1 λus z' e2 hk2=>?_;rw[ic];refine⟨.rt (.lst [.int (W.n:Int),aD (adQ qs),aD (adQ us)]) [.fz (wd W),.fz (lN os),.fz (aD (adQ qs)),.fz (aD (adQ us)),z'],?_,?_⟩
 .simp only[cK,Ql,Qm,Le,i0]
 .exact k qs us (by rw[e1,mvd,kf]) (by rw[e2,mvd,kf]) hk2
def tog{α:Type}[DecidableEq α](t:α)(l:List α):List α:=if t∈l then l.erase t else l++[t]
theorem mF{α:Type}[DecidableEq α]{t:α}{l:List α}(h:l.Nodup):(tog t l).Nodup:=by
 unfold tog;split
 .exact h.sublist List.erase_sublist
 .rename_i n;rw[dL];exact⟨h,by simp,λa ha b hb e=>n (by simp at hb;rw[<-hb,<-e];exact ha)⟩
theorem bD{α:Type}[DecidableEq α]{t x:α}{l:List α}(h:x∈tog t l):x∈l∨x=t:=by
 unfold tog at h;split at h
 .exact .inl (List.mem_of_mem_erase h)
 .simpa using h
theorem X8{α:Type}[DecidableEq α](e:α->D)(ek:∀x y,eqK 62 (e x) (e y)=some (decide (x=y)))(t:α):∀l:List α,t∈l->remL (e t) (l.map e)=some ((l.erase t).map e)
 |[],h=>by simp at h
 |x::r,h=>by
  rw[ba];unfold remL;rw[ek,List.erase_cons]
  by_cases z:x=t
  .subst z;simp
  .have hr:t∈r:=by
    rcases bb.mp h with q | q
    .exact absurd q.symm z
    .exact q
   simp[z,X8 e ek t r hr]
theorem qy{α:Type}[DecidableEq α](e:α->D)(ek:∀x y,eqK 62 (e x) (e y)=some (decide (x=y)))(t:α)(l:List α)(h:t∈l):remM (.lst (l.map e)) [e t]=some (.non,.lst ((tog t l).map e)):=by
 have a:(l.map e).all (λd=>(eqK 62 d (e t)).isSome)=true:=by
  rw[gg];intro d hd;obtain⟨x,_,rfl⟩:=aI.mp hd;rw[ek];rfl
 show (if (l.map e).all (λd=>(eqK 62 d (e t)).isSome)=true then (remL (e t) (l.map e)).map λes=>(D.non,D.lst es) else none)=_;rw[if_pos a,X8 e ek t l h,tog,if_pos h];rfl
theorem qz{α:Type}[DecidableEq α](e:α->D)(t:α)(l:List α)(h:t∉l)(hl:l.length<=1000):appM (.lst (l.map e)) [e t]=some (.non,.lst ((tog t l).map e)):=by
 show (if (l.map e).length<sizeLine then some (D.non,D.lst (l.map e++[e t])) else none)=_;rw[if_pos (f6 (by rw[aw];omega:(l.map e).length<10000000) (by decide)),tog,if_neg h,dP];rfl
theorem toggle{α:Type}[DecidableEq α](e:α->D)(ek:∀x y,eqK 62 (e x) (e y)=some (decide (x=y)))(inE:∀(t:α) (l:List α),inF false (e t) (.lst (l.map e))=some (.bl (decide (t∈l))))(t:α)(l:List α)(hl:l.length<=1000)(x0 x1 x2:PV.Slot)(a:Addr)(μ:Mu)(K:KM)(hm:μ.lookup a=some (.lst (l.map e)))(k:K (.nx [x0,x1,x2,.fz (e t),.fz (.adr a)]) (putA a (.lst ((tog t l).map e)) μ)):
  ifM [4] (blF (bF (inF false) (vF 3) (vU 4))) (U5 (mutX 4 [] remM (Aa (vF 3) nilA))) (U5 (mutX 4 [] appM (Aa (vF 3) nilA))) [x0,x1,x2,.fz (e t),.fz (.adr a)] μ K:=by
 have v:vwM [4] (blF (bF (inF false) (vF 3) (vU 4))) [x0,x1,x2,.fz (e t),.fz (.adr a)] μ=some (decide (t∈l)):=by
  have w:KN μ [4] [] [x0,x1,x2,.fz (e t),.fz (.adr a)]=some [x0,x1,x2,.fz (e t),.ow (.lst (l.map e))]:=by simp[KN,hm]
  unfold vwM;rw[w];have:=inE t l;simp only[cK,this]
 have fs:vwM [] (Aa (vF 3) nilA) [x0,x1,x2,.fz (e t),.fz (.adr a)] μ=some [e t]:=rfl;unfold ifM;rw[v]
 by_cases z:t∈l
 .rw[decide_eq_true z];exact⟨[e t],a,_,.non,_,fs,rfl,hm,qy e ek t l z,k⟩
 .rw[decide_eq_false z];exact⟨[e t],a,_,.non,_,fs,rfl,hm,qz e t l z hl,k⟩
theorem ek_i(x y:Nat):eqK 62 (iN x) (iN y)=some (decide (x=y)):=by
 show some (eqV (.int (x:Int)) (.int (y:Int)))=_
 by_cases z:x=y
 .subst z;simp[eqV]
 .have:¬ ((x:Int)=(y:Int)):=by omega
  simp[eqV,z,this]
theorem ek_p(x y:Nat×Nat):eqK 62 (pN x) (pN y)=some (decide (x=y)):=by
 have e:∀a b:Nat,eqK 61 (.int (a:Int)) (.int (b:Int))=some (decide (a=b)):=λa b=>by
  show some (eqV (.int (a:Int)) (.int (b:Int)))=_
  by_cases z:a=b
  .subst z;simp[eqV]
  .have:¬ ((a:Int)=(b:Int)):=by omega
   simp[eqV,z,this]
 show (if 2=2 then allO (eqK 61) [.int (x.1:Int),.int (x.2:Int)] [.int (y.1:Int),.int (y.2:Int)] else none)=_;rw[if_pos rfl];simp only[allO,e];obtain⟨a,b⟩:=x;obtain⟨c,d⟩:=y
 by_cases h1:a=c<;>by_cases h2:b=d<;>simp[h1,h2]
theorem in_i(t:Nat)(l:List Nat):inF false (iN t) (.lst (l.map iN))=some (.bl (decide (t∈l))):=by
 have:=WP t l;unfold lM at this;rw[this];congr 2;rw[iA];simp
theorem in_p(t:Nat×Nat)(l:List (Nat×Nat)):inF false (pN t) (.lst (l.map pN))=some (.bl (decide (t∈l))):=by
 have:=Te t.1 t.2 l;unfold lT at this;rw[this];congr 2;rw[iA];simp
def sel(n lm lt:Nat)(c:Int):Option ((Nat×Nat) ⊕ (Nat×Nat×Nat)):=
 if lm≠0/\0<n/\(c%2=0∨lt=0) then some (.inl ((c/10%lm).toNat,(c/2%n).toNat))
 else if lt≠0/\0<n then some (.inr ((c/50%lt).toNat,(c/2%n).toNat,(c/10%n).toNat)) else none
def adrs{α:Type}(qs:List (Q α)):D:=.lst (qs.map λq=>.adr q.a)
theorem mG{α:Type}(qs:List (Q α)):U8 (aD (adQ qs))=some (adrs qs):=by simp[U8,aD,adQ,adrs,w9]
theorem ne_a{α:Type}(qs:List (Q α)):eqF true (adrs qs) (.lst [])=some (.bl (decide (qs.length≠0))):=by
 cases qs with
 |nil=>rfl
 |cons q r=>
  unfold adrs;show eqD true (.lst ((q::r).map λq=>D.adr q.a)) (.lst [])=_;unfold eqD;have:eqvD (.lst ((q::r).map λq=>D.adr q.a)) (.lst [])=some false:=by
   show (if ((q::r).map λq=>D.adr q.a).length=([]:List D).length then allO (eqK 180) ((q::r).map λq=>D.adr q.a) [] else some false)=some false;exact if_neg (by simp)
  rw[this];rfl
theorem dk_a{α:Type}(neg:Bool)(qs:List (Q α)):eqF neg (aD (adQ qs)) (.dk [])=some (.bl (if neg then decide (qs.length≠0) else decide (qs.length=0))):=by
 cases qs with
 |nil=>cases neg<;>rfl
 |cons q r=>
  unfold aD;show (dkEq ((adQ (q::r)).map λp=>((.inr p.1:Key),D.adr p.2)) []).map (λc=>D.bl (if neg then !c else c))=_;have:dkEq ((adQ (q::r)).map λp=>((.inr p.1:Key),D.adr p.2)) []=some false:=if_pos (by simp[adQ]);rw[this];cases neg<;>rfl
theorem ix_a{α:Type}(qs:List (Q α))(i:Nat)(q:Q α)(h:qs[i]?=some q):ixE (adrs qs) (.int (i:Int))=some (.adr q.a):=by
 show atI (qs.map λq=>D.adr q.a) (i:Int)=_;rw[Hm,be,h];rfl
theorem uC{α:Type}(qs:List (Q α)):lenE (adrs qs)=some (.int (qs.length:Int)):=by
 show lenD (.lst (qs.map λq=>D.adr q.a))=_;rw[XD,aw]
theorem Ji(c:Int)(n:Nat)(h:0<n):modD (.int c) .(4)=some (.int (((c%n).toNat:Nat):Int))/\(c%n).toNat<n:=by
 have h0:0<=c%(n:Int):=gX _ (by omega);have h1:c%(n:Int)<n:=ja _ (by omega);exact⟨by rw[Hl c n (by omega),GA h0],by omega⟩
theorem mH(i j:Int):eqF false (.int i) (.int j)=some (.bl (decide (i=j))):=Uv i j
theorem dO(n:Nat)(qs:List (Q Nat))(us:List (Q (Nat×Nat)))(c:Int)(μ:Mu)(K:D->Mu->Prop)(hq:∀q∈qs,μ.lookup q.a=some (lM q.l)/\q.l.length<=1000)(hu:∀q∈us,μ.lookup q.a=some (lT q.l)/\q.l.length<=1000)(k0:sel n qs.length us.length c=none->K .non μ)(k1:∀i t q,sel n qs.length us.length c=some (.inl (i,t))->qs[i]?=some q->K .non (putA q.a (lM (tog t q.l)) μ))(k2:∀i x y q,sel n qs.length us.length c=some (.inr (i,x,y))->us[i]?=some q->K .non (putA q.a (lT (tog (x,y) q.l)) μ)):
  Jo [.lst [.int (n:Int),aD (adQ qs),aD (adQ us)],.int c] μ K:=by
 refine⟨rfl,?_⟩;generalize hw:(.lst [.int (n:Int),aD (adQ qs),aD (adQ us)]:D)=w;have i0:ixE w (.int 0)=some .(4):=by rw[<-hw];rfl
 have i1:ixE w (.int 1)=some (aD (adQ qs)):=by rw[<-hw];rfl
 have i2:ixE w (.int 2)=some (aD (adQ us)):=by rw[<-hw];rfl
 have v1:=mG qs;have v2:=mG us;have n1:=ne_a qs;have d1:eqF false (aD (adQ us)) (.dk [])=some (.bl (decide (us.length=0))):=dk_a false us;have d2:eqF true (aD (adQ us)) (.dk [])=some (.bl (decide (us.length≠0))):=dk_a true us;have l1:=uC qs;have l2:=uC us;show HH [.fz w,.fz (.int c),.un,.un,.un] μ (finM K);unfold HH;refine⟨.nx [.fz w,.fz (.int c),.fz (adrs qs),.un,.un],by simp only[cK,i1,v1],?_⟩;have g0:decide (0<(n:Int))=decide (0<n):=by
  by_cases z:0<n
  .rw[decide_eq_true z,decide_eq_true (by omega)]
  .rw[decide_eq_false z,decide_eq_false (by omega)]
 by_cases hA:qs.length≠0/\0<n/\(c%2=0∨us.length=0)
 .have hs:sel n qs.length us.length c=some (.inl ((c/10%qs.length).toNat,(c/2%n).toNat)):=if_pos hA;obtain⟨m1,b1⟩:=Ji (c/2) n hA.2.1;obtain⟨m2,b2⟩:=Ji (c/10) qs.length (by omega);have hg:qs[(c/10%(qs.length:Int)).toNat]?=some qs[(c/10%(qs.length:Int)).toNat]:=cf b2;have ia:=ix_a qs _ _ hg;obtain⟨hm,hl⟩:=hq _ (fN hg);have or1:orO (some (decide (c%2=0))) (blF (bF (eqF false) (bF ixE (vF 0) .(18)) (kF (.dk [])))) [.fz w,.fz (.int c),.fz (adrs qs),.un,.un]=some true:=by
   rcases hA.2.2 with z | z
   .rw[decide_eq_true z];rfl
   .by_cases y:c%2=0
    .rw[decide_eq_true y];rfl
    .rw[decide_eq_false y,Yw];simp only[cK,i2,d1,z]
  refine⟨.nx [.fz w,.fz (.int c),.fz (adrs qs),.fz (iN (c/2%n).toNat),.fz (.adr (qs[(c/10%(qs.length:Int)).toNat]).a)],?_,?_⟩
  .have t1:decide (qs.length≠0)=true:=decide_eq_true hA.1;have t2:decide (0<n)=true:=decide_eq_true hA.2.1;simp only[ciK,n1,i0,g0,t1,t2,mH,or1,m1,l1,m2,ia]
  .exact toggle iN ek_i in_i _ _ hl _ _ _ _ μ _ hm (k1 _ _ _ hs hg)
 .have if1:andO (some (decide (qs.length≠0))) (andT (blF (bF gtD (bF ixE (vF 0) .(10)) .(10))) (orT (blF (bF (eqF false) (bF modD (vF 1) .(18)) .(10))) (blF (bF (eqF false) (bF ixE (vF 0) .(18)) (kF (.dk [])))))) [.fz w,.fz (.int c),.fz (adrs qs),.un,.un]=some false:=by
   by_cases z1:qs.length≠0
   .by_cases z2:0<n
    .have z3:¬ (c%2=0):=λy=>hA ⟨z1,z2,.inl y⟩;have z4:¬ (us.length=0):=λy=>hA ⟨z1,z2,.inr y⟩;simp only[ciK,decide_eq_true z1,i0,g0,decide_eq_true z2,mH,decide_eq_false z3,i2,d1,decide_eq_false z4]
    .simp only[ciK,decide_eq_true z1,i0,g0,decide_eq_false z2]
   .simp only[cK,decide_eq_false z1]
  by_cases hB:us.length≠0/\0<n
  .have hs:sel n qs.length us.length c=some (.inr ((c/50%us.length).toNat,(c/2%n).toNat,(c/10%n).toNat)):=by
    unfold sel;rw[if_neg hA,if_pos hB]
   obtain⟨m1,b1⟩:=Ji (c/2) n hB.2;obtain⟨m3,b3⟩:=Ji (c/10) n hB.2;obtain⟨m2,b2⟩:=Ji (c/50) us.length (by omega);have hg:us[(c/50%(us.length:Int)).toNat]?=some us[(c/50%(us.length:Int)).toNat]:=cf b2;have ia:=ix_a us _ _ hg;obtain⟨hm,hl⟩:=hu _ (fN hg);refine⟨.nx [.fz w,.fz (.int c),.fz (adrs us),.fz (pN ((c/2%n).toNat,(c/10%n).toNat)),.fz (.adr (us[(c/50%(us.length:Int)).toNat]).a)],?_,?_⟩
   .have t1:decide (us.length≠0)=true:=decide_eq_true hB.1;have t2:decide (0<n)=true:=decide_eq_true hB.2;simp only[ciK,n1,if1,i0,g0,t1,t2,i2,d2,v2,m1,m3,l2,m2,ia]
   .exact toggle pN ek_p (λt l=>(in_p t l).trans (by congr)) _ _ hl _ _ _ _ μ _ hm (k2 _ _ _ _ hs hg)
  .have hs:sel n qs.length us.length c=none:=by
    unfold sel;rw[if_neg hA,if_neg hB]
   refine⟨.rt .non [.fz w,.fz (.int c),.fz (adrs qs),.un,.un],?_,k0 hs⟩
   by_cases z1:us.length≠0
   .have z2:¬ (0<n):=λy=>hB ⟨z1,y⟩;simp only[ciK,n1,if1,i0,g0,i2,d2,decide_eq_true z1,decide_eq_false z2]
   .simp only[ciK,n1,if1,i0,g0,i2,d2,decide_eq_false z1]
def K1(c:Int)(V:Wl):Wl:=match sel V.n V.ms.length V.ts.length c with
 |none=>V
 |some (.inl (i,t))=>⟨V.n,V.ms.modify i (λp=>(p.1,tog t p.2)),V.ts⟩
 |some (.inr (i,x,y))=>⟨V.n,V.ms,V.ts.modify i λp=>(p.1,tog (x,y) p.2)⟩
theorem WQ:∀{μ:Mu}{a:Addr}{d:D},(ksM μ).Nodup->(a,d)∈μ->μ.lookup a=some d
 | (b,e)::r,a,d,nd,h=>by
  obtain⟨n1,n2⟩:=i6.mp nd;rw[ca]
  rcases bb.mp h with z | z
  .cases z;simp
  .have:(a==b)=false:=beq_eq_false_iff_ne.mpr λq=>n1 (by show b∈ksM r;rw[<-q];exact Jl z);rw[this];exact WQ n2 z
theorem Tf(a:Addr)(c:D):∀(μ:Mu) (b:Addr),(putA a c μ).lookup b=if b=a then (μ.lookup b).map λ_=>c else μ.lookup b
 |[],b=>by simp[putA]
 | (x,e)::r,b=>by
  have ih:=Tf a c r b;unfold putA at ih ⊢;rw[ba]
  by_cases hx:x=a
  .subst hx;rw[if_pos rfl,ca,ca,ih]
   by_cases hb:b=x
   .subst hb;simp
   .have:(b==x)=false:=beq_eq_false_iff_ne.mpr hb;simp[this,hb]
  .rw[if_neg hx,ca,ca,ih]
   by_cases hb:b=x
   .subst hb;simp[hx]
   .have:(b==x)=false:=beq_eq_false_iff_ne.mpr hb;simp[this]
theorem ZJ{α:Type}(f:List α->D)(μ:Mu)(qs:List (Q α))(ls:List (Str×List α))(hw:qs.map (·.w)=ls.map (·.1))(h:∀(i:Nat) (q:Q α) (p:Str×List α),qs[i]?=some q->ls[i]?=some p->μ.lookup q.a=some (f p.2)):der 2 μ (aD (adQ qs))=.dk (ls.map λp=>((.inr p.1:Key),f p.2)):=by
 show D.dk (((adQ qs).map λp=>((.inr p.1:Key),D.adr p.2)).map λp=>(p.1,der 1 μ p.2))=_;congr 1;have hl:qs.length=ls.length:=by have:=congrArg dE hw;simpa using this
 apply AW;intro i;simp only[adQ,bX,be];cases e:qs[i]? with
 |none=>
  have:ls[i]?=none:=by rw[List.getElem?_eq_none_iff] at e ⊢;omega
  rw[this];rfl
 |some q=>
  have hi:i<ls.length:=by rw[<-hl];exact (d6.mp e).1
  have ep:ls[i]?=some ls[i]:=cf hi;rw[ep];have h1:=h i q _ e ep;have h2:q.w=ls[i].1:=by
   have:=congrArg (λl=>l[i]?) hw;simp only[be,e,ep] at this;exact cq this
  have h3:der 1 μ (.adr q.a)=f (ls[i].2):=by
   show (match μ.lookup q.a with | some c=>der 0 μ c | none=>.adr q.a)=_;rw[h1];rfl
  simp[h2,h3]
theorem X_:∀{l m:List Nat},l.Nodup->(∀x∈l,x∈m)->l.length<=m.length
 |[],_,_,_=>dQ _
 |x::r,m,h,hs=>by
  obtain⟨h1,h2⟩:=i6.mp h;have hx:x∈m:=hs x cS;have:=X_ (l:=r) (m:=m.erase x) h2 λy hy=>(BA (λe=>by subst e;exact h1 hy)).mpr (hs y (bE _ hy));rw[BB hx] at this;have hp:0<m.length:=BC hx;simp;omega
theorem K3{α:Type}{l:List α}(nd:l.Nodup){i j:Nat}(hi:i<l.length)(hj:j<l.length)(e:l[i]=l[j]):i=j:=by
 have h:=wq.mp nd
 rcases HA i j with z | z | z
 .exact absurd e (h i j hi hj z)
 .exact z
 .exact absurd e.symm (h j i hj hi z)
theorem bG{l:List Nat}(nd:l.Nodup)(h:∀t∈l,t<n):l.length<=n:=by
 have:=X_ nd λt ht=>bv.mpr (h t ht);simpa using this
theorem mJ{l:List (Nat×Nat)}(nd:l.Nodup)(h:∀q∈l,q.1<n/\q.2<n):l.length<=n*n:=by
 have e:(l.map λq=>q.1*n+q.2).Nodup:=by
  unfold lf;rw[kD];refine zw (λ{a b} ha hb hab e=>hab ?_) nd;have h1:=h a ha;have h2:=h b hb;have d1:(a.1*n+a.2)/n=a.1:=by rw[zN,HG (by omega),HI h1.2];omega
  have d2:(b.1*n+b.2)/n=b.1:=by rw[zN,HG (by omega),HI h2.2];omega
  have m1:(a.1*n+a.2)%n=a.2:=by rw[zN,HK,HL h1.2]
  have m2:(b.1*n+b.2)%n=b.2:=by rw[zN,HK,HL h2.2]
  have e':a.1*n+a.2=b.1*n+b.2:=e;rw[e'] at d1 m1;exact AH (d1.symm.trans d2) (m1.symm.trans m2)
 have:=bG (n:=n*n) e λt ht=>by
  obtain⟨q,hq,rfl⟩:=aI.mp ht;have:=h q hq
  calc q.1*n+q.2<q.1*n+n:=by omega
   _=(q.1+1)*n:=by rw[Nat.add_mul,Nat.one_mul]
   _<=n*n:=HM _ (by omega)
 simpa using this
theorem QX(W:Wl)(h:WOk W)(ms:List (Str×List Nat))(ts:List (Str×List (Nat×Nat)))(hm:(ms.map (·.1)).Perm (W.ms.map (·.1)))(ht:(ts.map (·.1)).Perm (W.ts.map (·.1)))(am:∀p∈ms,p.2.Nodup/\∀t∈p.2,t<W.n)(at':∀p∈ts,p.2.Nodup/\∀q∈p.2,q.1<W.n/\q.2<W.n):WOk ⟨W.n,ms,ts⟩:=by
 refine⟨h.n5,?_,?_,λp hp=>?_,λp hp=>?_,?_,λp hp=>⟨(am p hp).1,?_,(am p hp).2⟩,λp hp=>⟨(at' p hp).1,?_,(at' p hp).2⟩⟩
 .have:=hm.length_eq;simp at this;have:=h.m3;show ms.length<=3;omega
 .have:=ht.length_eq;simp at this;have:=h.t3;show ts.length<=3;omega
 .obtain⟨q,hq,e⟩:=aI.mp (hm.mem_iff.mp (aI.mpr ⟨p,hp,rfl⟩));rw[<-e];exact h.mw q hq
 .obtain⟨q,hq,e⟩:=aI.mp (ht.mem_iff.mp (aI.mpr ⟨p,hp,rfl⟩));rw[<-e];exact h.tw q hq
 .exact ((hm.append ht).nodup_iff).mpr h.nd
 .have:=bG (am p hp).1 (am p hp).2;have:=h.n5;omega
 .have:=mJ (at' p hp).1 (at' p hp).2;have h5:=h.n5;have:W.n*W.n<=25:=C9 h5 h5;omega
theorem Tg{os:List Nat}(h:os.Perm (av n)){s t:Nat}(hs:s<n)(ht:t<n)(e:os.getD s 0=os.getD t 0):s=t:=by
 have hl:os.length=n:=by have:=h.length_eq;simpa using this
 have nd:os.Nodup:=h.nodup_iff.mpr zx;rw[gT,gT,cf (by omega),cf (by omega)] at e;exact K3 nd _ _ e
theorem WR{os:List Nat}(h:os.Perm (av n)){s:Nat}(hs:s<n):os.getD s 0<n:=by
 have hl:os.length=n:=by have:=h.length_eq;simpa using this
 rw[gT,cf (by omega)];exact bv.mp (h.mem_iff.mp (pS (by omega)))
theorem wR(W:Wl)(h:WOk W)(os:List Nat)(ho:os.Perm (av W.n)):WOk (mvd os W)/\((mvd os W).ms.map (·.1)).Perm (W.ms.map (·.1))/\((mvd os W).ts.map (·.1)).Perm (W.ts.map (·.1)):=by
 have p1:((mvd os W).ms.map (·.1)).Perm (W.ms.map (·.1)):=by
  unfold mvd;rw[kf,bX];exact sQ _
 have p2:((mvd os W).ts.map (·.1)).Perm (W.ts.map (·.1)):=by
  unfold mvd;rw[kf,bX];exact sQ _
 refine⟨QX W h _ _ p1 p2 (λp hp=>?_) (λp hp=>?_),p1,p2⟩
 .rw[sR] at hp;obtain⟨q,hq,rfl⟩:=aI.mp hp;obtain⟨a1,_,a3⟩:=h.ml q hq;refine⟨?_,λt ht=>?_⟩
  .unfold lf;rw[kD];exact zw (λ{a b} ha hb hab e=>hab (Tg ho (a3 a ha) (a3 b hb) e)) a1
  .obtain⟨s,hs,rfl⟩:=aI.mp ht;exact WR ho (a3 s hs)
 .rw[sR] at hp;obtain⟨q,hq,rfl⟩:=aI.mp hp;obtain⟨a1,_,a3⟩:=h.tl q hq;refine⟨?_,λt ht=>?_⟩
  .unfold lf;rw[kD];refine zw (λ{a b} ha hb hab e=>hab ?_) a1;have e1:os.getD a.1 0=os.getD b.1 0:=congrArg Prod.fst e;have e2:os.getD a.2 0=os.getD b.2 0:=congrArg Prod.snd e;exact AH (Tg ho (a3 a ha).1 (a3 b hb).1 e1) (Tg ho (a3 a ha).2 (a3 b hb).2 e2)
  .obtain⟨s,hs,rfl⟩:=aI.mp ht;exact⟨WR ho (a3 s hs).1,WR ho (a3 s hs).2⟩
theorem Ky{α:Type}(l:List (Str×α))(i:Nat)(g:α->α):(l.modify i λp=>(p.1,g p.2)).map (·.1)=l.map (·.1):=by
 apply AW;intro j;rw[be,be,Co];cases l[j]? with
 |none=>rfl
 |some p=>
  show some (if i=j then (p.1,g p.2) else p).1=some p.1;split<;>rfl
theorem Th{α:Type}{l:List (Str×α)}{g:α->α}{p:Str×α}(h:p∈l.modify i λp=>(p.1,g p.2)):p∈l∨∃q,l[i]?=some q/\p=(q.1,g q.2):=by
 obtain⟨j,hj⟩:=List.getElem?_of_mem h;rw[Co] at hj;cases e:l[j]? with
 |none=>rw[e] at hj;cases hj
 |some q=>
  rw[e] at hj;have hj':(if i=j then (q.1,g q.2) else q)=p:=cq hj;split at hj'
  .rename_i z;exact .inr ⟨q,z▸e,hj'.symm⟩
  .exact .inl (hj'▸fN e)
theorem mK(c:Int)(V:Wl)(h:WOk V):WOk (K1 c V)/\(K1 c V).n=V.n/\(K1 c V).ms.map (·.1)=V.ms.map (·.1)/\(K1 c V).ts.map (·.1)=V.ts.map (·.1):=by
 unfold K1;split
 .exact⟨h,rfl,rfl,rfl⟩
 .rename_i i t hs;have n1:=Ky V.ms i (tog t);have tn:t<V.n:=by
   unfold sel at hs;split at hs
   .rename_i q;cases hs;exact (Ji _ _ q.2.1).2
   .split at hs<;>cases hs
  refine⟨QX V h _ _ (by rw[n1]) (zm _) (λp hp=>?_) (λp hp=>⟨(h.tl p hp).1,(h.tl p hp).2.2⟩),rfl,n1,rfl⟩
  rcases Th hp with q | ⟨q,hq,rfl⟩
  .exact⟨(h.ml p q).1,(h.ml p q).2.2⟩
  .have hq':=h.ml q (fN hq);exact⟨mF hq'.1,λs hs=>(bD hs).elim (hq'.2.2 s) (λe=>e▸tn)⟩
 .rename_i i x y hs;have n1:=Ky V.ts i (tog (x,y));have tn:x<V.n/\y<V.n:=by
   unfold sel at hs;split at hs
   .cases hs
   .split at hs
    .rename_i q;cases hs;exact⟨(Ji _ _ q.2).2,(Ji _ _ q.2).2⟩
    .cases hs
  refine⟨QX V h _ _ (zm _) (by rw[n1]) (λp hp=>⟨(h.ml p hp).1,(h.ml p hp).2.2⟩) (λp hp=>?_),rfl,rfl,n1⟩
  rcases Th hp with q | ⟨q,hq,rfl⟩
  .exact⟨(h.tl p q).1,(h.tl p q).2.2⟩
  .have hq':=h.tl q (fN hq);exact⟨mF hq'.1,λs hs=>(bD hs).elim (hq'.2.2 s) (λe=>e▸tn)⟩
theorem WT(n:Nat)(μ:Mu):∀(d:D),(∀a,d≠.adr a)->(match d with | .lst _=>False | .tup _=>False | .dk _=>False | _=>True)->der n μ d=d:=by
 intro d h1 h2;cases n with
 |zero=>rfl
 |succ n=>cases d<;>first | rfl | exact h2.elim | exact absurd rfl (h1 _)
theorem mL(n:Nat)(μ:Mu)(l:List Nat):(l.map iN).map (der n μ)=l.map iN:=by
 rw[bX];refine pd λt _=>?_;exact WT n μ (iN t) (λa=>nofun) trivial
theorem mQ(n:Nat)(μ:Mu)(l:List Nat):der n μ (lN l)=lN l:=by
 cases n with
 |zero=>rfl
 |succ n=>show D.lst ((l.map iN).map (der n μ))=_;rw[mL];rfl
theorem wU(n:Nat)(μ:Mu)(q:Nat×Nat):der n μ (pN q)=pN q:=by
 cases n with
 |zero=>rfl
 |succ n=>
  show D.tup [der n μ (.int (q.1:Int)),der n μ (.int (q.2:Int))]=_;rw[WT n μ (.int (q.1:Int)) (λa=>nofun) trivial,WT n μ (.int (q.2:Int)) (λa=>nofun) trivial]
theorem wV(n:Nat)(μ:Mu)(l:List (Nat×Nat)):der n μ (lT l)=lT l:=by
 cases n with
 |zero=>rfl
 |succ n=>
  show D.lst ((l.map pN).map (der n μ))=D.lst (l.map pN);rw[bX];congr 1;exact pd λq _=>wU n μ q
theorem wW(n:Nat)(μ:Mu)(W:Wl):der n μ (wd W)=wd W:=by
 cases n with
 |zero=>rfl
 |succ n=>
  show D.lst [der n μ (.int (W.n:Int)),der n μ (.dk (eM W.ms)),der n μ (.dk (eT W.ts))]=_;have e1:der n μ (.dk (eM W.ms))=.dk (eM W.ms):=by
   cases n with
   |zero=>rfl
   |succ n=>
    show D.dk ((eM W.ms).map λp=>(p.1,der n μ p.2))=_;unfold eM;rw[bX];congr 1;exact pd λp _=>by show ((.inr p.1:Key),der n μ (lM p.2))=_;rw[show der n μ (lM p.2)=lM p.2 from mQ n μ p.2]
  have e2:der n μ (.dk (eT W.ts))=.dk (eT W.ts):=by
   cases n with
   |zero=>rfl
   |succ n=>
    show D.dk ((eT W.ts).map λp=>(p.1,der n μ p.2))=_;unfold eT;rw[bX];congr 1;exact pd λp _=>by show ((.inr p.1:Key),der n μ (lT p.2))=_;rw[wV]
  rw[WT n μ (.int (W.n:Int)) (λa=>nofun) trivial,e1,e2];rfl
theorem RW(x0 x1 x3:PV.Slot)(W V:Wl)(os:List Nat)(qs:List (Q Nat))(us:List (Q (Nat×Nat)))(μ:Mu)(hm:der 2 μ (aD (adQ qs))=.dk (eM V.ms))(ht:der 2 μ (aD (adQ us))=.dk (eT V.ts)):
  frzM 3 (puM (retF (lstF (Aa (vF 2) (Aa (vF 5) (Aa (vF 4) nilA)))))) [x0,x1,.fz (wd W),x3,.fz (lN os),.fz (.lst [.int (V.n:Int),aD (adQ qs),aD (adQ us)])] μ (finM λd' _=>d'=.lst [wd W,wd V,lN os]):=by
 have e5:der 3 μ (.lst [.int (V.n:Int),aD (adQ qs),aD (adQ us)])=wd V:=by
  show D.lst [der 2 μ (.int (V.n:Int)),der 2 μ (aD (adQ qs)),der 2 μ (aD (adQ us))]=_;rw[hm,ht];rfl
 have e:List.map (derS 3 μ) [x0,x1,.fz (wd W),x3,.fz (lN os),.fz (.lst [.int (V.n:Int),aD (adQ qs),aD (adQ us)])]=[derS 3 μ x0,derS 3 μ x1,.fz (wd W),derS 3 μ x3,.fz (lN os),.fz (wd V)]:=by simp[derS,wW,mQ,e5]
 show puM _ (List.map (derS 3 μ) [x0,x1,.fz (wd W),x3,.fz (lN os),.fz (.lst [.int (V.n:Int),aD (adQ qs),aD (adQ us)])]) [] _;rw[e];exact⟨.rt (.lst [wd W,wd V,lN os]) _,rfl,rfl⟩
theorem Ti{qs:List (Q Nat)}{us:List (Q (Nat×Nat))}(nd:(ksM ((us.map (cQ lT)).reverse++(qs.map (cQ lM)).reverse)).Nodup):
  (∀q∈qs,((us.map (cQ lT)).reverse++(qs.map (cQ lM)).reverse).lookup q.a=some (lM q.l))/\(∀q∈us,((us.map (cQ lT)).reverse++(qs.map (cQ lM)).reverse).lookup q.a=some (lT q.l)):=
 ⟨λq hq=>WQ nd (eP _ (sR.mpr (aI.mpr ⟨q,hq,rfl⟩))),λq hq=>WQ nd (gy _ (sR.mpr (aI.mpr ⟨q,hq,rfl⟩)))⟩
theorem Tj{α:Type}{qs:List (Q α)}{ls:List (Str×List α)}(h:qs.map (λq=>(q.w,q.l))=ls){i:Nat}{q:Q α}{p:Str×List α}(e1:qs[i]?=some q)(e2:ls[i]?=some p):p=(q.w,q.l):=by
 rw[<-h,be,e1] at e2;exact (cq e2).symm
theorem ZK{α:Type}{qs:List (Q α)}{ls:List (Str×List α)}(h:qs.map (λq=>(q.w,q.l))=ls):qs.map (·.w)=ls.map (·.1):=by
 rw[<-h,bX];rfl
theorem q8{qs:List (Q Nat)}{us:List (Q (Nat×Nat))}(nd:(ksM ((us.map (cQ lT)).reverse++(qs.map (cQ lM)).reverse)).Nodup):(qs.map (·.a)).Nodup/\(us.map (·.a)).Nodup/\∀q∈qs,∀u∈us,q.a≠u.a:=by
 have e:ksM ((us.map (cQ lT)).reverse++(qs.map (cQ lM)).reverse)=(us.map (·.a)).reverse++(qs.map (·.a)).reverse:=by
  unfold ksM;rw[dP,kf,kf,bX,bX];rfl
 rw[e,dL] at nd;obtain⟨h1,h2,h3⟩:=nd;refine⟨(sQ _).nodup_iff.mp h2,(sQ _).nodup_iff.mp h1,λq hq u hu z=>?_⟩;exact h3 u.a (sR.mpr (aI.mpr ⟨u,hu,rfl⟩)) q.a (sR.mpr (aI.mpr ⟨q,hq,rfl⟩)) z.symm
theorem bH{α:Type}(f:List α->D){μ:Mu}{qs:List (Q α)}{ls:List (Str×List α)}(hp:qs.map (λq=>(q.w,q.l))=ls)(hl:∀q∈qs,μ.lookup q.a=some (f q.l))(nd:(qs.map (·.a)).Nodup){i:Nat}{q:Q α}(hi:qs[i]?=some q)(g:List α->List α):
  der 2 (putA q.a (f (g q.l)) μ) (aD (adQ qs))=.dk ((ls.modify i λp=>(p.1,g p.2)).map λp=>((.inr p.1:Key),f p.2)):=by
 refine ZJ f _ qs _ (by rw[Ky];exact ZK hp) λj r p e1 e2=>?_;rw[Co] at e2;cases e3:ls[j]? with
 |none=>rw[e3] at e2;cases e2
 |some p0=>
  rw[e3] at e2;have e2':(if i=j then (p0.1,g p0.2) else p0)=p:=cq e2;have hp0:=Tj hp e1 e3;rw[Tf]
  by_cases z:i=j
  .subst z;rw[e1] at hi;cases hi;rw[if_pos rfl,hl _ (fN e1),<-e2',if_pos rfl,hp0];rfl
  .have ne:r.a≠q.a:=λy=>by
    have i1:=(d6.mp hi);have j1:=(d6.mp e1);obtain⟨a1,a2⟩:=i1;obtain⟨b1,b2⟩:=j1;refine z (K3 nd (i:=i) (j:=j) (by simpa using a1) (by simpa using b1) ?_);rw[HP,HP,a2,b2];exact y.symm
   rw[if_neg ne,hl _ (fN e1),<-e2',if_neg z,hp0]
theorem YB{α:Type}(f:List α->D){μ:Mu}{qs:List (Q α)}{ls:List (Str×List α)}(hp:qs.map (λq=>(q.w,q.l))=ls)(hl:∀q∈qs,μ.lookup q.a=some (f q.l))(a:Addr)(c:D)(ne:∀q∈qs,q.a≠a):
  der 2 (putA a c μ) (aD (adQ qs))=.dk (ls.map λp=>((.inr p.1:Key),f p.2)):=by
 refine ZJ f _ qs _ (ZK hp) λj r p e1 e2=>?_;have hm:=fN e1;rw[Tf,if_neg (ne r hm),hl r hm,Tj hp e1 e2]
theorem PQ{α:Type}(f:List α->D){μ:Mu}{qs:List (Q α)}{ls:List (Str×List α)}(hp:qs.map (λq=>(q.w,q.l))=ls)(hl:∀q∈qs,μ.lookup q.a=some (f q.l)):
  der 2 μ (aD (adQ qs))=.dk (ls.map λp=>((.inr p.1:Key),f p.2)):=
 ZJ f _ qs _ (ZK hp) λj r p e1 e2=>by rw[hl r (fN e1),Tj hp e1 e2]
theorem mR{α:Type}(f:Rho->Option α)(ρ:Rho)(μ:Mu):vwM [] f ρ μ=f ρ:=rfl
theorem wX(ns:List Int):∃(W V:Wl) (os:List Nat),Two (ns.getD 8 0) 5 W V os/\runM 6 2 Dg [.lst .(9),.int 5] [] λd' _=>d'=.lst [wd W,wd V,lN os]:=by
 obtain⟨W,hW,ew⟩:=lY ns;have ew:GR [.lst .(9),.int 0]=some (wd W):=ew;have et:Ek [wd W,.int 5]=some (wd W):=qx W 5 hW.n5;have c8:Ao [.lst .(9),.int 8]=some (.int (ns.getD 8 0)):=Kv ns 8;have c15:Ao [.lst .(9),.int 15]=some (.int (ns.getD 15 0)):=Kv ns 15;have c16:Ao [.lst .(9),.int 16]=some (.int (ns.getD 16 0)):=Kv ns 16;obtain⟨os,po,eo⟩:=Oa (ns.getD 15 0) W.n hW.n5;have hol:os.length=W.n:=by have:=po.length_eq;simpa using this
 have i0:=ixw0 W;generalize hc:ns.getD 8 0=c at c8
 by_cases h0:c%4=0
 .obtain⟨V,hV,vn,m1,t1,eV⟩:=lr ns W hW 5 (aE _) hW.n5;have eV:Ga [.lst .(9),.int 8,wd W,.int 5]=some (wd V):=eV;refine⟨W,V,os,⟨hW,hV,hW.n5,vn,by rw[m1],by rw[t1],po,λz=>by omega⟩,rfl,?_⟩;show Dg [.fz .(1),.fz (.int 5),.un,.un,.un,.un] [] _;unfold Dg;refine⟨.nx [.fz .(1),.fz (.int 5),.fz (wd W),.un,.un,.un],by simp only[cK,ew,et],?_⟩;refine⟨.nx [.fz .(1),.fz (.int 5),.fz (wd W),.fz (.int c),.un,.un],by simp only[cK,c8],?_⟩;refine⟨.nx [.fz .(1),.fz (.int 5),.fz (wd W),.fz (.int c),.fz (lN os),.un],by simp only[cK,c15,i0,eo],?_⟩;refine⟨.rt (.lst [wd W,wd V,lN os]) [.fz .(1),.fz (.int 5),.fz (wd W),.fz (.int c),.fz (lN os),.un],?_,rfl⟩;simp only[ciK,h0,eV]
 .obtain⟨o1,o2,o3⟩:=wR W hW os po
  by_cases h3:c%4=3
  .obtain⟨w1,w2,w3,w4⟩:=mK (ns.getD 16 0) (mvd os W) o1;refine⟨W,K1 (ns.getD 16 0) (mvd os W),os,⟨hW,w1,hW.n5,by rw[w2];exact hW.n5,by rw[w3];exact o2,by rw[w4];exact o3,po,λz=>by omega⟩,rfl,?_⟩;show Dg [.fz .(1),.fz (.int 5),.un,.un,.un,.un] [] _;unfold Dg;refine⟨.nx [.fz .(1),.fz (.int 5),.fz (wd W),.un,.un,.un],by simp only[cK,ew,et],?_⟩;refine⟨.nx [.fz .(1),.fz (.int 5),.fz (wd W),.fz (.int c),.un,.un],by simp only[cK,c8],?_⟩;refine⟨.nx [.fz .(1),.fz (.int 5),.fz (wd W),.fz (.int c),.fz (lN os),.un],by simp only[cK,c15,i0,eo],?_⟩;refine⟨.nx [.fz .(1),.fz (.int 5),.fz (wd W),.fz (.int c),.fz (lN os),.un],by simp only[ciK,decide_eq_false h0],?_⟩;refine⟨[wd W,lN os],rfl,VL W hW os hol _ λqs us e1 e2 nd=>?_⟩;obtain⟨k1,k2⟩:=Ti nd;obtain⟨n1,n2,n3⟩:=q8 nd;generalize hμ:(us.map (cQ lT)).reverse++(qs.map (cQ lM)).reverse=μ at k1 k2;have lq:∀q∈qs,q.l.length<=1000:=λq hq=>by
    have:(q.w,q.l)∈(mvd os W).ms:=by rw[<-e1];exact aI.mpr ⟨q,hq,rfl⟩
    have:=(o1.ml _ this).2.1;simp at this;omega
   have lu:∀q∈us,q.l.length<=1000:=λq hq=>by
    have:(q.w,q.l)∈(mvd os W).ts:=by rw[<-e2];exact aI.mpr ⟨q,hq,rfl⟩
    have:=(o1.tl _ this).2.1;simp at this;omega
   have l1:qs.length=(mvd os W).ms.length:=by rw[<-e1,aw]
   have l2:us.length=(mvd os W).ts.length:=by rw[<-e2,aw]
   show ifM [] _ _ _ [.fz .(1),.fz (.int 5),.fz (wd W),.fz (.int c),.fz (lN os),.fz (.lst [.int (W.n:Int),aD (adQ qs),aD (adQ us)])] μ _;have v:vwM [] (blF (bF (eqD false) (bF modD (vF 3) (kF (.int 4))) (kF (.int 3)))) [.fz .(1),.fz (.int 5),.fz (wd W),.fz (.int c),.fz (lN os),.fz (.lst [.int (W.n:Int),aD (adQ qs),aD (adQ us)])] μ=some true:=by
    rw[mR];simp only[ciK,h3]
   unfold ifM;rw[v];refine⟨[.lst [.int (W.n:Int),aD (adQ qs),aD (adQ us)],.int (ns.getD 16 0)],by simp only[cK,c16],?_⟩;refine dO W.n qs us (ns.getD 16 0) μ _ (λq hq=>⟨k1 q hq,lq q hq⟩) (λq hq=>⟨k2 q hq,lu q hq⟩) (λhs=>?_) (λi t q hs hi=>?_) (λi x y q hs hi=>?_)
   .have et:K1 (ns.getD 16 0) (mvd os W)=mvd os W:=by
     unfold K1;rw[show (mvd os W).n=W.n from rfl,<-l1,<-l2,hs]
    rw[et];exact RW _ _ _ W (mvd os W) os qs us μ (PQ lM e1 k1) (PQ lT e2 k2)
   .have et:K1 (ns.getD 16 0) (mvd os W)=⟨W.n,(mvd os W).ms.modify i (λp=>(p.1,tog t p.2)),(mvd os W).ts⟩:=by
     unfold K1;rw[show (mvd os W).n=W.n from rfl,<-l1,<-l2,hs]
    rw[et];exact RW _ _ _ W ⟨W.n,(mvd os W).ms.modify i (λp=>(p.1,tog t p.2)),(mvd os W).ts⟩ os qs us _ (bH lM e1 k1 n1 hi (tog t)) (YB lT e2 k2 _ _ λu hu z=>n3 q (fN hi) u hu z.symm)
   .have et:K1 (ns.getD 16 0) (mvd os W)=⟨W.n,(mvd os W).ms,(mvd os W).ts.modify i λp=>(p.1,tog (x,y) p.2)⟩:=by
     unfold K1;rw[show (mvd os W).n=W.n from rfl,<-l1,<-l2,hs]
    rw[et];exact RW _ _ _ W ⟨W.n,(mvd os W).ms,(mvd os W).ts.modify i λp=>(p.1,tog (x,y) p.2)⟩ os qs us _ (YB lM e1 k1 _ _ λu hu z=>n3 u hu q (fN hi) z) (bH lT e2 k2 n2 hi (tog (x,y)))
  .refine⟨W,mvd os W,os,⟨hW,o1,hW.n5,hW.n5,o2,o3,po,λ_=>rfl⟩,rfl,?_⟩;show Dg [.fz .(1),.fz (.int 5),.un,.un,.un,.un] [] _;unfold Dg;refine⟨.nx [.fz .(1),.fz (.int 5),.fz (wd W),.un,.un,.un],by simp only[cK,ew,et],?_⟩;refine⟨.nx [.fz .(1),.fz (.int 5),.fz (wd W),.fz (.int c),.un,.un],by simp only[cK,c8],?_⟩;refine⟨.nx [.fz .(1),.fz (.int 5),.fz (wd W),.fz (.int c),.fz (lN os),.un],by simp only[cK,c15,i0,eo],?_⟩;refine⟨.nx [.fz .(1),.fz (.int 5),.fz (wd W),.fz (.int c),.fz (lN os),.un],by simp only[ciK,decide_eq_false h0],?_⟩;refine⟨[wd W,lN os],rfl,VL W hW os hol _ λqs us e1 e2 nd=>?_⟩;obtain⟨k1,k2⟩:=Ti nd;generalize hμ:(us.map (cQ lT)).reverse++(qs.map (cQ lM)).reverse=μ at k1 k2;show ifM [] _ _ _ [.fz .(1),.fz (.int 5),.fz (wd W),.fz (.int c),.fz (lN os),.fz (.lst [.int (W.n:Int),aD (adQ qs),aD (adQ us)])] μ _;have v:vwM [] (blF (bF (eqD false) (bF modD (vF 3) (kF (.int 4))) (kF (.int 3)))) [.fz .(1),.fz (.int 5),.fz (wd W),.fz (.int c),.fz (lN os),.fz (.lst [.int (W.n:Int),aD (adQ qs),aD (adQ us)])] μ=some false:=by
    rw[mR];simp only[ciK,decide_eq_false h3]
   unfold ifM;rw[v];exact RW _ _ _ W (mvd os W) os qs us μ (PQ lM e1 k1) (PQ lT e2 k2)
theorem M5(ns:List Int):∃(W V:Wl) (os:List Nat),Two (ns.getD 8 0) 5 W V os/\JH [.lst .(9),.int 5]=some (.lst [wd W,wd V,lN os]):=by
 obtain⟨W,V,os,h,wp⟩:=wX ns;obtain⟨e,h1,ns',m,W',V',os',q1,q2,q3⟩:=qY (P:=Good) wp ⟨ns,5,W,V,os,rfl,rfl,h⟩;have en:ns'=ns:=by
  have:ns'.map D.int=ns.map D.int:=by
   have:=congrArg (λl:List D=>l.head?) q1;simp at this;exact this.symm
  exact (List.map_inj_right (f:=D.int) (λa b z=>D.int.inj z)).mp this
 have em:m=5:=by
  have:=congrArg (λl:List D=>l[1]?) q1;simp at this;omega
 subst en em;exact⟨W',V',os',q3,by rw[<-q2];exact h1⟩
theorem mU(ms:List (Str×List Nat)):(oM ms).map (λp=>kDt p.1)=(ms.map (·.1)).map .str:=by simp[oM,SN]
theorem mV(ts:List (Str×List (Nat×Nat))):(oT ts).map (λp=>kDt p.1)=(ts.map (·.1)).map .str:=by simp[oT,SN]
theorem WW{k:List (Key×D)}(h:k.map (λp=>kDt p.1)=zs.map .str)(nd:zs.Nodup)(hl:zs.length<=60):sdkD (.dk k)=some (.lst ((An zs).map .str)):=by
 show sdkL k=_;unfold sdkL;rw[h,Uw,dS,if_pos ⟨nd,hl⟩]
def mk(W:Wl)(w:Str)(i:Nat):Bool:=match W.ms.find? (λp=>p.1=w) with | some p=>decide (i∈p.2) | none=>false
def tk(W:Wl)(w:Str)(i j:Nat):Bool:=match W.ts.find? (λp=>p.1=w) with | some p=>decide ((i,j)∈p.2) | none=>false
abbrev mw (W:Wl):List Str:=W.ms.map (·.1)
abbrev tw (W:Wl):List Str:=W.ts.map (·.1)
theorem WX(i:Nat)(l:List Nat):(l.any λt=>decide (t=i))=decide (i∈l):=by
 rw[iA];simp
theorem Tn(i j:Nat)(l:List (Nat×Nat)):(l.any λq=>decide (q.1=i)&&decide (q.2=j))=decide ((i,j)∈l):=by
 rw[iA];simp
theorem bI{α:Type}{w:Str}{l:List (Str×α)}(h:w∈l.map (·.1)):∃q,q∈l/\l.find? (λp=>p.1=w)=some q:=by
 obtain⟨p,hp,e⟩:=aI.mp h;cases q:l.find? (λp=>p.1=w) with
 |none=>exact absurd (by simpa using e) (by simpa using HU.mp q p hp)
 |some x=>exact⟨x,HV q,rfl⟩
theorem uD(W:Wl){w:Str}(h:w∈mw W)(i:Nat):∃d,ixE (.dk (eM W.ms)) (.str w)=some d/\inF false (.int (i:Int)) d=some (.bl (mk W w i)):=by
 obtain⟨q,_,e⟩:=bI h;refine⟨lM q.2,?_,?_⟩
 .rw[GP];unfold eM;rw[Kw lM w,e];rfl
 .rw[WP,WX,mk,e]
theorem uE(W:Wl){w:Str}(h:w∈tw W)(i j:Nat):∃d,ixE (.dk (eT W.ts)) (.str w)=some d/\inF false (.tup [.int (i:Int),.int (j:Int)]) d=some (.bl (tk W w i j))/\inF false (.tup [.int (j:Int),.int (i:Int)]) d=some (.bl (tk W w j i)):=by
 obtain⟨q,_,e⟩:=bI h;refine⟨lT q.2,?_,?_,?_⟩
 .rw[GP];unfold eT;rw[Kw lT w,e];rfl
 .rw[Te,Tn,tk,e]
 .rw[Te,Tn,tk,e]
theorem YC{α:Type}{tg:FG}{b:FS}(mr:PV.Slot->Rho)(e:α->D)(P:α->Bool)(r:D)(ht:∀d z,tg d (mr z)=some (mr (.fz d))):∀(l:List α) (z:PV.Slot),(∀x∈l,b (mr (.fz (e x)))=some (if P x=true then .nx (mr (.fz (e x))) else .rt r (mr (.fz (e x))))) ->
  ∃z',forF (tgB tg b) (l.map e) (mr z)=some (if l.all P=true then .nx (mr z') else .rt r (mr z'))
 |[],z,_=>⟨z,rfl⟩
 |x::l,z,h=>by
  rw[ba,G5,e_tg,ht,LQ,h x (by simp),nB];cases hx:P x with
  |false=>exact⟨_,rfl⟩
  |true=>
   obtain⟨z',ih⟩:=YC mr e P r ht l (.fz (e x)) λy hy=>h y (by simp[hy]);exact⟨z',by rw[if_pos rfl,Cu,ih,wf]⟩
abbrev Pr:=Nat×Nat
def bJ(W V:Wl)(q:Pr):Bool:=(mw W).all λw=>mk W w q.1==mk V w q.2
def Tp(W V:Wl)(p q:Pr):Bool:=(tw W).all λw=>tk W w p.1 q.1==tk V w p.2 q.2
structure Sp (W V:Wl):Prop where
 mm:∀w∈mw W,w∈mw V
 tt:∀w∈tw W,w∈tw V
theorem ixp0(q:Pr):ixE (pN q) (.int 0)=some (.int (q.1:Int)):=rfl
theorem ixp1(q:Pr):ixE (pN q) (.int 1)=some (.int (q.2:Int)):=rfl
theorem bK(a b:Nat):decide ((a:Int)=(b:Int))=decide (a=b):=by
 by_cases z:a=b
 .subst z;simp
 .rw[decide_eq_false z,decide_eq_false (by omega)]
def mzO(c m:Str)(g:List D->Option D)(o:Option D)(ds:Option (List D)):Option D:=o.bind λo=>if Iw c m o=true then ds.bind λds=>g (o::ds) else none
theorem bL(c m:Str)(g:List D->Option D)(fo:FE)(fs:FA)(ρ:Rho):J1 c m g fo fs ρ=mzO c m g (fo ρ) (fs ρ):=zE_ _
theorem uG{c:Str}{g:List D->Option D}{o:D}(h:Iw c m o=true):mzO c m g (some o) (some ds)=g (o::ds):=by
 show (if Iw c m o=true then _ else _)=_;rw[if_pos h];rfl
theorem yq(W:Wl):Iw "World" "mark_words" (wob W)=true:=rfl
theorem yr(W:Wl):Iw "World" "tie_words" (wob W)=true:=rfl
def Dl(W:Wl)(i j:Nat):List Bool:=decide (i=j)::((An (mw W)).map λw=>mk W w i)++(An (tw W)).flatMap λw=>[tk W w i j,tk W w j i]
theorem yt(bs:List Bool)(b:Bool)(h:bs.length<=1000):appL (.lst (bs.map .bl)) (.bl b)=some (.lst ((bs++[b]).map .bl)):=by
 rw[PL _ _ (by simpa using h),dP];rfl
theorem yu(bs:List Bool)(a b:Bool)(h:bs.length<=1000):catD (.lst (bs.map .bl)) (.lst [.bl a,.bl b])=some (.lst ((bs++[a,b]).map .bl)):=by
 show (if (bs.map D.bl).length+2<=sizeLine then some (D.lst (bs.map D.bl++[.bl a,.bl b])) else none)=_;rw[if_pos (JT (by rw[aw];omega)),dP];rfl
theorem bM(W:Wl)(i j:Nat):∀(l:List Str) (bs:List Bool) (z:PV.Slot),(∀w∈l,w∈mw W)->bs.length+l.length<=900->∃z',forF (tgB (BK 4) Eo) (l.map .str) [.fz (wd W),.fz (iN i),.fz (iN j),.ow (.lst (bs.map .bl)),z]=some (.nx [.fz (wd W),.fz (iN i),.fz (iN j),.ow (.lst ((bs++l.map λw=>mk W w i).map .bl)),z'])
 |[],bs,z,_,_=>⟨z,by show _=some (Out.nx [_,_,_,.ow (.lst ((bs++[]).map .bl)),z]);rw[eL];rfl⟩
 |w::l,bs,z,h,hl=>by
  obtain⟨d,a1,a2⟩:=uD W (h w (by simp)) i;have i1:=ixw1 W;have ab:=yt bs (mk W w i) (by omega);obtain⟨z',ih⟩:=bM W i j l (bs++[mk W w i]) (.fz (.str w)) (λx hx=>h x (by simp[hx])) (by simp at hl ⊢;omega);refine⟨z',?_⟩;have st:Eo [.fz (wd W),.fz (iN i),.fz (iN j),.ow (.lst (bs.map .bl)),.fz (.str w)]=some (.nx [.fz (wd W),.fz (iN i),.fz (iN j),.ow (.lst ((bs++[mk W w i]).map .bl)),.fz (.str w)]):=by
   simp only[cK,Eo,i1,a1,a2,ab]
  w_up
  rw[st,Cu,ih,ba,mE];rfl
theorem bN(W:Wl)(i j:Nat):∀(l:List Str) (bs:List Bool) (z:PV.Slot),(∀w∈l,w∈tw W)->bs.length+2*l.length<=900->∃z',forF (tgB (BK 4) Gp) (l.map .str) [.fz (wd W),.fz (iN i),.fz (iN j),.ow (.lst (bs.map .bl)),z]=some (.nx [.fz (wd W),.fz (iN i),.fz (iN j),.ow (.lst ((bs++l.flatMap λw=>[tk W w i j,tk W w j i]).map .bl)),z'])
 |[],bs,z,_,_=>⟨z,by rw[List.flatMap_nil,eL];rfl⟩
 |w::l,bs,z,h,hl=>by
  obtain⟨d,a1,a2,a3⟩:=uE W (h w (by simp)) i j;have i2:=ixw2 W;have ab:=yu bs (tk W w i j) (tk W w j i) (by omega);obtain⟨z',ih⟩:=bN W i j l (bs++[tk W w i j,tk W w j i]) (.fz (.str w)) (λx hx=>h x (by simp[hx])) (by simp at hl ⊢;omega);refine⟨z',?_⟩;have st:Gp [.fz (wd W),.fz (iN i),.fz (iN j),.ow (.lst (bs.map .bl)),.fz (.str w)]=some (.nx [.fz (wd W),.fz (iN i),.fz (iN j),.ow (.lst ((bs++[tk W w i j,tk W w j i]).map .bl)),.fz (.str w)]):=by
   simp only[cK,Gp,i2,a1,a2,a3,ab]
  w_up
  rw[st,Cu,ih,Ct,mE]
theorem J6(h:l.Nodup):(An l).length<=l.length:=sub_len (La (Ej l)) λx hx=>(Ay x l).mp hx
theorem YD(W:Wl)(h:WOk W)(i j:Nat):Gq [wd W,iN i,iN j]=some (.lst ((Dl W i j).map .bl)):=by
 have nd:=dL.mp h.nd;have n1:=WM W.ms;have n2:=WN W.ts;have m3:=h.m3;have t3:=h.t3;have s1:=WW n1 nd.1 .(17);have s2:=WW n2 nd.2.1 .(17);have l1:(An (mw W)).length<=W.ms.length:=ck (J6 nd.1) (by simp);have l2:(An (tw W)).length<=W.ts.length:=ck (J6 nd.2.1) (by simp);have i1:=ixw1 W;have i2:=ixw2 W;obtain⟨z1,e1⟩:=bM W i j (An (mw W)) [decide (i=j)] .un (λw hw=>(Ay w _).mp hw) .(17);obtain⟨z2,e2⟩:=bN W i j (An (tw W)) ([decide (i=j)]++(An (mw W)).map λw=>mk W w i) z1 (λw hw=>(Ay w _).mp hw) .(17);generalize h1:([decide (i=j)]++(An (mw W)).map λw=>mk W w i)=B1 at e1 e2;generalize h2:(B1++(An (tw W)).flatMap λw=>[tk W w i j,tk W w j i])=B2 at e2;have e1:forF (tgB (BK 4) Eo) ((An (mw W)).map .str) [.fz (wd W),.fz (iN i),.fz (iN j),.ow (.lst [.bl (decide (i=j))]),.un]=some (.nx [.fz (wd W),.fz (iN i),.fz (iN j),.ow (.lst (B1.map .bl)),z1]):=e1;have e3:Dl W i j=B2:=by rw[<-h2,<-h1];rfl
 rw[e3];simp only[ciK,Gq,Km,bK,DN,Ql,Qm,Le,i1,s1,GQ,e1,i2,s2,e2]
theorem mW:∀(l m:List Bool),l.length=m.length->allO (eqK 180) (l.map .bl) (m.map .bl)=some (decide (l=m))
 |[],[],_=>rfl
 |[],_::_,h=>by simp at h
 |_::_,[],h=>by simp at h
 |a::l,b::m,h=>by
  show (match eqK 180 (.bl a) (.bl b),allO (eqK 180) (l.map .bl) (m.map .bl) with | some x,some y=>some (x&&y) | _,_=>none)=_;rw[mW l m (by simpa using h)];have:eqK 180 (.bl a) (.bl b)=some (decide (a=b)):=by cases a<;>cases b<;>rfl
  rw[this];show some (decide (a=b)&&decide (l=m))=_
  by_cases z1:a=b<;>by_cases z2:l=m<;>simp[z1,z2]
theorem wZ(l m:List Bool):eqD true (.lst (l.map .bl)) (.lst (m.map .bl))=some (.bl (!decide (l=m))):=by
 unfold eqD;have:eqvD (.lst (l.map .bl)) (.lst (m.map .bl))=some (decide (l=m)):=by
  show (if (l.map D.bl).length=(m.map D.bl).length then allO (eqK 180) (l.map .bl) (m.map .bl) else some false)=_
  by_cases z:l.length=m.length
  .rw[if_pos (by simpa using z),mW l m z]
  .rw[if_neg (by simpa using z),decide_eq_false (λe=>z (by rw[e]))]
 rw[this];rfl
theorem VM{m:List Str}(h:l.Perm m):An l=An m:=R8 (Ej l) (Ej m) λx=>by rw[Ay,Ay,h.mem_iff]
theorem ZL{α:Type}{l:List α}{f g:α->Bool}:l.map f=l.map g↔(l.all λx=>f x==g x)=true:=by
 induction l with
 |nil=>simp
 |cons x r ih=>simp[ih]
theorem q9{f g f' g':Str->Bool}:(l.flatMap λw=>[f w,g w])=(l.flatMap λw=>[f' w,g' w])↔((l.all λw=>f w==f' w)=true/\(l.all λw=>g w==g' w)=true):=by
 induction l with
 |nil=>simp
 |cons x r ih=>
  simp only[Ct,zO,ic,xi,ih,nB,gd,beq_iff_eq];constructor
  .rintro⟨a,b,c,d⟩;exact⟨⟨a,c⟩,b,d⟩
  .rintro⟨⟨a,c⟩,b,d⟩;exact⟨a,b,c,d⟩
theorem Tq{P:Str->Bool}:(An l).all P=l.all P:=by
 rw[iA,gg,gg];exact⟨λh x hx=>h x ((Ay x l).mpr hx),λh x hx=>h x ((Ay x l).mp hx)⟩
structure Spk (W V:Wl):Prop where
 mm:(mw V).Perm (mw W)
 tt:(tw V).Perm (tw W)
theorem Spk.sp{W V:Wl}(h:Spk W V):Sp W V:=⟨λw hw=>h.mm.mem_iff.mpr hw,λw hw=>h.tt.mem_iff.mpr hw⟩
theorem q_{α:Type}{a b c d:List α}(h:a.length=c.length):(a++b=c++d)↔(a=c/\b=d):=⟨λe=>List.append_inj e h,λ⟨x,y⟩=>by rw[x,y]⟩
theorem QZ{W V:Wl}(h:Spk W V)(p q:Pr):Dl W p.1 q.1=Dl V p.2 q.2↔(decide (p.1=q.1)=decide (p.2=q.2)/\bJ W V p=true/\Tp W V p q=true/\Tp W V q p=true):=by
 unfold Dl;rw[VM h.mm,VM h.tt,zO,zO,xi];have hl:((An (mw W)).map λw=>mk W w p.1).length=((An (mw W)).map λw=>mk V w p.2).length:=by simp
 rw[q_ hl,ZL,q9,Tq,Tq,Tq];rfl
theorem YF(a b:Nat):eqD false (.int (a:Int)) (.int (b:Int))=some (.bl (decide (a=b))):=by rw[Uv,bK]
theorem wg(l:List Pr):lenE (.lst (l.map pN))=some (.int (l.length:Int)):=by
 show lenD (.lst (l.map pN))=_;rw[XD,aw]
def prs(fs:List Nat):List Pr:=(av fs.length).map λj=>(j,fs.getD j 0)
theorem mX(fs:List Nat)(x:Nat):prs (fs++[x])=prs fs++[(fs.length,x)]:=by
 unfold prs;rw[cb,ky,ro,dP];congr 1
 .refine pd λj hj=>?_;have:j<fs.length:=bv.mp hj;rw[gT,gT,jI this]
 .simp
def dfs(P:List Nat->Nat->Bool)(n m:Nat):Nat->List Nat->Option (List Nat)
 |0,_=>none
 |k+1,fs=>if fs.length=n then some fs else (av m).findSome? λx=>if P fs x=true then dfs P n m k (fs++[x]) else none
structure Way (P:List Nat->Nat->Bool) (n m:Nat) (fs gs:List Nat):Prop where
 len:gs.length=n
 pre:gs.take fs.length=fs
 lt:∀j x,fs.length<=j->gs[j]?=some x->x<m
 ok:∀j x,fs.length<=j->gs[j]?=some x->P (gs.take j) x=true
theorem VN{P:List Nat->Nat->Bool}{n m:Nat}:∀{k:Nat}{fs gs:List Nat},fs.length<=n->dfs P n m k fs=some gs->Way P n m fs gs
 |0,fs,gs,_,h=>by cases h
 |k+1,fs,gs,hl,h=>by
  unfold dfs at h;split at h
  .rename_i e;cases h;refine⟨e,by rw[List.take_length],λj x hj hx=>?_,λj x hj hx=>?_⟩
   .rw[nK hj] at hx;cases hx
   .rw[nK hj] at hx;cases hx
  .rename_i e;obtain⟨x,hx,h2⟩:=List.exists_of_findSome?_eq_some h;split at h2
   .rename_i px;have w:=VN (by rw[cb,ky];omega) h2;have hx:=bv.mp hx;have lg:fs.length<gs.length:=by rw[w.len];omega
    have p0:=w.pre;rw[cb,ky] at p0;have t0:gs.take fs.length=fs:=by
     have:=congrArg (List.take fs.length) p0;rw[qk,vT (iL _)] at this;simpa using this
    have g0:gs[fs.length]?=some x:=by
     have:=congrArg (λl=>l[fs.length]?) p0;simp at this;exact this
    refine⟨w.len,t0,λj y hj hy=>?_,λj y hj hy=>?_⟩
    .by_cases z:j=fs.length
     .subst z;rw[g0] at hy;cases hy;exact hx
     .exact w.lt j y (by rw[cb,ky];omega) hy
    .by_cases z:j=fs.length
     .subst z;rw[g0] at hy;cases hy;rw[t0];exact px
     .exact w.ok j y (by rw[cb,ky];omega) hy
   .cases h2
theorem YG{P:List Nat->Nat->Bool}{n m:Nat}{gs:List Nat}:∀{k:Nat}{fs:List Nat},n<k+fs.length->fs.length<=n->Way P n m fs gs->(dfs P n m k fs).isSome=true
 |0,fs,h,hl,_=>by omega
 |k+1,fs,h,hl,w=>by
  unfold dfs;split
  .rfl
  .rename_i e;have lt:fs.length<gs.length:=by rw[w.len];omega
   have g0:gs[fs.length]?=some gs[fs.length]:=cf lt;have hx:=w.lt fs.length _ (aE _) g0;have px:=w.ok fs.length _ (aE _) g0;rw[w.pre] at px;have tk:gs.take (fs.length+1)=fs++[gs[fs.length]]:=by rw[Cc,w.pre,g0];rfl
   have ih:=YG (k:=k) (fs:=fs++[gs[fs.length]]) (by rw[cb,ky];omega) (by rw[cb,ky];omega)
    ⟨w.len,by rw[cb,ky];exact tk,λj y hj hy=>w.lt j y (by rw[cb] at hj;omega) hy,λj y hj hy=>w.ok j y (by rw[cb] at hj;omega) hy⟩
   rw[List.findSome?_isSome_iff];exact⟨_,bv.mpr hx,by rw[if_pos px];exact ih⟩
theorem rA{P:List Nat->Nat->Bool}{m k:Nat}(h:n<k):(dfs P n m k []).isSome=true↔∃gs,Way P n m [] gs:=by
 constructor
 .intro q;obtain⟨gs,e⟩:=ua.mp q;exact⟨gs,VN (dQ _) e⟩
 .rintro⟨gs,w⟩;exact YG (by simpa using h) (dQ _) w
theorem dR(W V:Wl)(h:WOk W)(hv:WOk V)(ps:List Pr)(hl:ps.length<=1000)(q:Pr):Fb [wd W,wd V,.lst (ps.map pN),pN q]=some (.bl ((ps++[q]).all λp=>decide (Dl W p.1 q.1=Dl V p.2 q.2))):=by
 obtain⟨z',e⟩:=YC (tg:=BK 4) (b:=Hq) (λz=>[.fz (wd W),.fz (wd V),.fz (.lst (ps.map pN)),.fz (pN q),z]) pN (λp=>decide (Dl W p.1 q.1=Dl V p.2 q.2)) .(8) (λd z=>rfl) (ps++[q]) .un λp hp=>by
  have i0:=ixp0 p;have i1:=ixp1 p;have j0:=ixp0 q;have j1:=ixp1 q;have f1:=YD W h p.1 q.1;have f2:=YD V hv p.2 q.2;simp only[cK,Hq,i0,i1,j0,j1,f1,f2,wZ];cases decide (Dl W p.1 q.1=Dl V p.2 q.2)<;>rfl
 have a1:addD (.lst (ps.map pN)) (.lst [pN q])=some (.lst ((ps++[q]).map pN)):=by
  rw[Vx (by rw[aw];simp;omega),dP];rfl
 simp only[cK,Fb,Jr,DN,a1,GQ,e];cases (ps++[q]).all (λp=>decide (Dl W p.1 q.1=Dl V p.2 q.2))<;>rfl
theorem Tr{α:Type}(l:List α)(e g:α->D)(f:α->Bool)(hs:src ρ=some (l.map e))(hn:l.length<=1000)(h1:∀x∈l,ga (ρ++[.fz (e x)])=some (f x))(h2:∀x∈l,fe (ρ++[.fz (e x)])=some (g x)):BV src ga fe ρ=some (.lst ((l.filter f).map g)):=by
 have c:∀l:List α,(∀x∈l,ga (ρ++[.fz (e x)])=some (f x))->(∀x∈l,fe (ρ++[.fz (e x)])=some (g x))->Io ρ ga fe (l.map e)=some ((l.filter f).map g):=by
  intro l
  induction l with
  |nil=>intro _ _;rfl
  |cons x r ih=>
   intro a b;rw[ba,G4,a x (by simp),b x (by simp),ih (λd hd=>a d (by simp[hd])) (λd hd=>b d (by simp[hd])),H0];cases f x<;>rfl
 exact MK hs (by rw[aw];omega) (c l h1 h2)
theorem dU(W:Wl)(h:WOk W):Bw [wob W]=some (.lst ((An (mw W)).map .str))/\Cw [wob W]=some (.lst ((An (tw W)).map .str)):=by
 have nd:=dL.mp h.nd;have m3:=h.m3;have t3:=h.t3;have s1:=WW (mU W.ms) nd.1 .(17);have s2:=WW (mV W.ts) nd.2.1 .(17);have f1:=Td W;have f2:=ZF W;constructor
 .simp only[cK,Bw,Fx,f1,s1]
 .simp only[cK,Cw,Gh,f2,s2]
inductive Fa where
 |mk (w x:Str) | ti (w x y:Str) | sa (x y:Str)
def enc:Fa->D
 |.mk w x=>.tup [.str "mark",.str w,.str x]
 |.ti w x y=>.tup [.str "tie",.str w,.str x,.str y]
 |.sa x y=>.tup [.str "same",.str x,.str y]
def nms:Fa->List Str
 |.mk _ x=>[x]
 |.ti _ x y=>[x,y]
 |.sa x y=>[x,y]
def fst:Fa->Str | .mk _ x=>x | .ti _ x _=>x | .sa x _=>x
def lst':Fa->Str | .mk _ x=>x | .ti _ _ y=>y | .sa _ y=>y
def Kn(W:Wl):Fa->Prop
 |.mk w _=>w∈W.ms.map (·.1)
 |.ti w _ _=>w∈W.ts.map (·.1)
 |.sa _ _=>True
def prF(W:Wl):Fa->List (Nat×Nat)
 |.mk w _=>((W.ms.find? (λp=>p.1=w)).map (·.2)).getD [] |>.map λt=>(t,t)
 |.ti w _ _=>((W.ts.find? (λp=>p.1=w)).map (·.2)).getD []
 |.sa _ _=>(av W.n).map λt=>(t,t)
theorem Lw{α:Type}{w:Str}{l:List (Str×α)}(h:w∈l.map (·.1)):∃q,q∈l/\l.find? (λp=>p.1=w)=some q:=by
 cases e:l.find? (λp=>p.1=w) with
 |some q=>exact⟨q,HV e,rfl⟩
 |none=>
  obtain⟨q,hq,rfl⟩:=aI.mp h;have:=HU.mp e q hq;simp at this
theorem wu:inF false (.str "mark") c_FACTS=some (.bl true):=zE_ _
theorem yw:inF false (.str "tie") c_FACTS=some (.bl true):=zE_ _
theorem ww:inF false (.str "same") c_FACTS=some (.bl true):=zE_ _
theorem k1(a b c:D):slD (.tup [a,b,c]) (some 1) none=some (.tup [b,c]):=zE_ _
theorem k2(a b c:D):slD (.tup [a,b,c]) (some 2) none=some (.tup [c]):=zE_ _
theorem k3(a b c d:D):slD (.tup [a,b,c,d]) (some 2) none=some (.tup [c,d]):=zE_ _
theorem g1:eqD false (.str "mark") (.str "same")=some .(8):=zE_ _
theorem g2:eqD false (.str "mark") (.str "mark")=some (.bl true):=zE_ _
theorem g3:eqD false (.str "tie") (.str "same")=some .(8):=zE_ _
theorem g4:eqD false (.str "tie") (.str "mark")=some .(8):=zE_ _
theorem g5:eqD false (.str "tie") (.str "tie")=some (.bl true):=zE_ _
theorem g6:eqD false (.str "same") (.str "same")=some (.bl true):=zE_ _
theorem g7:eqD false (.str "same") (.str "mark")=some .(8):=zE_ _
theorem g8:eqD false (.str "mark") (.str "tie")=some .(8):=zE_ _
theorem g9:eqD false (.str "same") (.str "tie")=some .(8):=zE_ _
theorem Qy(a:Fa):Fw [enc a]=some (.tup ((nms a).map .str)):=by
 cases a with
 |mk w x=>simp only[dK,Fw,JL,enc,nms,g1,k2]
 |ti w x y=>simp only[dK,Fw,JL,enc,nms,g3,k3]
 |sa x y=>simp only[dK,Fw,JL,enc,nms,g6,k1]
theorem Tt(a:Fa):∃t r,enc a=.tup (.str t::r)/\inF false (.str t) c_FACTS=some (.bl true):=by
 cases a with
 |mk w x=>exact⟨_,_,rfl,wu⟩
 |ti w x y=>exact⟨_,_,rfl,yw⟩
 |sa x y=>exact⟨_,_,rfl,ww⟩
theorem rB(a:Fa):IK [enc a]=some (.lst ((An (nms a)).map .str)):=by
 obtain⟨t,r,e,h⟩:=Tt a;have l2:(nms a).length<=2:=by cases a<;>simp[nms]
 have l3:(An (nms a)).length<=60:=ck (sub_len (La (Ej _)) (λx hx=>(Ay x _).mp hx)) (by omega);have e2:=ss_t (xs:=nms a) (by omega) l3;have ni:=Qy a;rw[e] at ni ⊢;simp only[dK,IK,Kc,h,ni,e2]
theorem ZM(a:Fa):IV [enc a]=some (.tup []):=by
 obtain⟨t,r,e,h⟩:=Tt a;rw[e];simp only[dK,IV,Kd,h]
theorem mY(W:Wl)(a:Fa)(hk:Kn W a):Ba [wob W,enc a]=some .non:=by
 have sy:=ZM a;cases a with
 |mk w x=>
  obtain⟨q,hq,e⟩:=Lw hk;have e1:getK (.inr w:Key) (oM W.ms)=some (kM q.2):=by
   show getK _ (W.ms.map λp=>_)=_;rw[Kw kM w W.ms,e];rfl
  simp only[enc] at sy ⊢;simp only[dK,Ba,Br,g2,Td,e1,g8,sy,p9,kG,if_true]
 |ti w x y=>
  obtain⟨q,hq,e⟩:=Lw hk;have e1:getK (.inr w:Key) (oT W.ts)=some (kT q.2):=by
   show getK _ (W.ts.map λp=>_)=_;rw[Kw kT w W.ts,e];rfl
  simp only[enc] at sy ⊢;simp only[dK,Ba,Br,g4,g5,ZF,e1,sy,p9,kG,if_true]
 |sa x y=>
  simp only[enc] at sy ⊢;simp only[dK,Ba,Br,g7,g9,sy]
def Pl(n:Nat)(g:List (Key×D))(P:Str->Nat)(x:Str):Prop:=getK (.inr x:Key) g=some (.int (P x:Int))/\P x<n
theorem YH(W:Wl)(g:List (Key×D))(P:Str->Nat)(xs:List Str)(h:∀x∈xs,Pl W.n g P x):D_ [wob W,.lst (xs.map .str),.dk g]=some .non:=by
 have l1:∀(r:List Str) (z:PV.Slot),(∀x∈r,Pl W.n g P x)->∃z',forF (tgB (BK 3) DQ) (r.map .str) [.fz (wob W),.fz (.lst (xs.map .str)),.fz (.dk g),z]=some (.nx [.fz (wob W),.fz (.lst (xs.map .str)),.fz (.dk g),z']):=by
  intro r
  induction r with
  |nil=>intro z _;exact⟨z,rfl⟩
  |cons x r ih=>
   intro z hr;obtain⟨e1,e2⟩:=hr x (by simp);obtain⟨z',e⟩:=ih (.fz (.str x)) λy hy=>hr y (by simp[hy]);refine⟨z',?_⟩;have b:DQ [.fz (wob W),.fz (.lst (xs.map .str)),.fz (.dk g),.fz (.str x)]=some (.nx [.fz (wob W),.fz (.lst (xs.map .str)),.fz (.dk g),.fz (.str x)]):=by
    simp only[dK,DQ,e1,p9,kG,if_true]
   w_up
   rw[b,Cu,e]
 have l2:∀(r:List Str) (z:PV.Slot),(∀x∈r,Pl W.n g P x)->∃z',forF (tgB (BK 3) DR) (r.map .str) [.fz (wob W),.fz (.lst (xs.map .str)),.fz (.dk g),z]=some (.nx [.fz (wob W),.fz (.lst (xs.map .str)),.fz (.dk g),z']):=by
  intro r
  induction r with
  |nil=>intro z _;exact⟨z,rfl⟩
  |cons x r ih=>
   intro z hr;obtain⟨e1,e2⟩:=hr x (by simp);obtain⟨z',e⟩:=ih (.fz (.str x)) λy hy=>hr y (by simp[hy]);refine⟨z',?_⟩;have t:=PP W.n (P x) e2;have b:DR [.fz (wob W),.fz (.lst (xs.map .str)),.fz (.dk g),.fz (.str x)]=some (.nx [.fz (wob W),.fz (.lst (xs.map .str)),.fz (.dk g),.fz (.str x)]):=by
    simp only[dK,DR,Tc,e1,t]
   w_up
   rw[b,Cu,e]
 obtain⟨z1,e1⟩:=l1 xs .un h;obtain⟨z2,e2⟩:=l2 xs z1 h;simp only[dK,D_,Ge,e1,e2]
def row(n p:Nat):D:=.lst ((av n).map λ(t:Nat)=>.int (if t=p then 1 else 0))
def J7(n:Nat)(P:Str->Nat)(xs:List Str):D:=.dk (xs.map λx=>((.inr x:Key),row n (P x)))
theorem VP(f:Nat->D)(src:FI)(hs:src ρ=some (rngD n))(hn:n<=1000)(h:∀k,k<n->fe (ρ++[.fz (.int k)])=some (f k)):BV src allT fe ρ=some (.lst ((av n).map f)):=by
 have c:∀l:List Nat,(∀k∈l,k<n)->Io ρ allT fe (l.map λ(k:Nat)=>D.int k)=some (l.map f):=by
  intro l
  induction l with
  |nil=>intro _;rfl
  |cons k r ih=>
   intro hl;rw[ba,G4,W9,h k (hl k (by simp)),ih λd hd=>hl d (by simp[hd])];rfl
 exact MK hs (by rw[FQ];omega) (c (av n) λk hk=>bv.mp hk)
theorem Tv(W:Wl)(h5:W.n<=5)(a g0 nm:D)(g:List (Key×D))(P:Str->Nat):∀(r p:List Str) (z:PV.Slot),(p++r).Nodup->(∀x∈r,Pl W.n g P x)->(p++r).length<=100 ->
  ∃z',forF (tgB (BK 6) MT) (r.map .str) [.fz (wob W),.fz a,.fz g0,.fz (.dk g),.fz nm,.ow (J7 W.n P p),z]=some (.nx [.fz (wob W),.fz a,.fz g0,.fz (.dk g),.fz nm,.ow (J7 W.n P (p++r)),z'])
 |[],p,z,_,_,_=>⟨z,by rw[eL];rfl⟩
 |x::r,p,z,nd,hl,hlen=>by
  have nt:x∉p:=by
   intro q;rw[dL] at nd;exact nd.2.2 x q x (by simp) rfl
  obtain⟨e1,e2⟩:=hl x (by simp);have cm:BV (rngI (uF (fldD "size") (vF 0))) allT MP [.fz (wob W),.fz a,.fz g0,.fz (.dk g),.fz nm,.ow (J7 W.n P p),.fz (.str x)]=some (row W.n (P x)):=by
   refine VP (λt=>.int (if t=P x then 1 else 0)) _ ?_ (by omega) λk hk=>?_
   .have rg:=Ir (W.n:Int) (by omega);simp only[R5,e_u,e_v,wv,e_vs,e_us,Tc,rg,df]
   .have q:decide ((k:Int)=(P x:Int))=decide (k=P x):=by
     by_cases z:k=P x
     .simp[z]
     .have:¬ ((k:Int)=(P x:Int)):=by omega
      simp[z,this]
    by_cases z:k=P x
    .simp only[diK,MP,e1,q,z,if_true]
    .simp only[diK,MP,e1,q,z,if_false]
  have pk:Cj (J7 W.n P p) (.str x) (row W.n (P x))=some (J7 W.n P (p++[x])):=by
   show Cj (.dk _) _ _=_;rw[KJ _ _ _ (by simp at hlen ⊢;omega)];have:(.inr x:Key)∉(p.map λx=>((.inr x:Key),row W.n (P x))).map (·.1):=by
    intro q;rw[bX] at q;obtain⟨u,hu,e⟩:=aI.mp q;simp at e;exact nt (e▸hu)
   rw[putL_new this];simp[J7]
  have b:MT [.fz (wob W),.fz a,.fz g0,.fz (.dk g),.fz nm,.ow (J7 W.n P p),.fz (.str x)]=some (.nx [.fz (wob W),.fz a,.fz g0,.fz (.dk g),.fz nm,.ow (J7 W.n P (p++[x])),.fz (.str x)]):=by
   simp only[MT,SM,e_v,Cf,wv,e_vs,LC,cm,NK,pk,Z4,sM,sN]
  obtain⟨z',ih⟩:=Tv W h5 a g0 nm g P r (p++[x]) (.fz (.str x)) (by simpa using nd) (λu hu=>hl u (by simp[hu])) (by simpa using hlen);refine⟨z',?_⟩
  w_up
  rw[b,Cu,ih];simp
theorem wy(W:Wl)(h5:W.n<=5)(hw:WOk W)(a:Fa)(hk:Kn W a):G7 [wob W,enc a]=some (lT (prF W a)):=by
 cases a with
 |mk w x=>
  obtain⟨q,hq,e⟩:=Lw hk;have e1:getK (.inr w:Key) (oM W.ms)=some (kM q.2):=by
   show getK _ (W.ms.map λp=>_)=_;rw[Kw kM w W.ms,e];rfl
  have cm:BV (seqA (bF ixE (uF (fldD "marked") (vF 0)) (bF ixE (vF 1) .(5)))) allT Gf [.fz (wob W),.fz (.tup [.str "mark",.str w,.str x])]=some (.lst ((q.2.map λt=>(t,t)).map pN)):=by
   refine MK (ds:=q.2.map iN) ?_ (by rw[aw];have:=(hw.ml q hq).2.1;omega) ?_
   .simp only[DN,e_b,e_u,e_v,e_k,Cf,wv,e_vs,e_us,Td,e_bs,Fv,ixt1,GP,e1];show Oi (some (.dk _))=_;rw[RM,bX];rfl
   .have:∀l:List Nat,Io [.fz (wob W),.fz (.tup [.str "mark",.str w,.str x])] allT Gf (l.map iN)=some ((l.map λt=>(t,t)).map pN):=by
     intro l
     induction l with
     |nil=>rfl
     |cons t r ih=>
      have v:Gf ([.fz (wob W),.fz (.tup [.str "mark",.str w,.str x])]++[.fz (iN t)])=some (pN (t,t)):=by simp only[cK,Gf]
      rw[ba,G4,W9,v,ih];rfl
    exact this q.2
  have ep:prF W (.mk w x)=q.2.map λt=>(t,t):=by simp only[prF,e,eK,rj]
  rw[ep];simp only[dK,enc,G7,JM,g2,cm,lT]
 |ti w x y=>
  obtain⟨q,hq,e⟩:=Lw hk;have e1:getK (.inr w:Key) (oT W.ts)=some (kT q.2):=by
   show getK _ (W.ts.map λp=>_)=_;rw[Kw kT w W.ts,e];rfl
  have ep:prF W (.ti w x y)=q.2:=by simp only[prF,e,eK,rj]
  have el:Ld (kT q.2)=some (lT q.2):=by
   show some (D.lst ((q.2.map _).map _))=_;rw[bX];rfl
  rw[ep];simp only[dK,enc,G7,JM,g4,g3,ZF,e1,el]
 |sa x y=>
  have cm:BV (rngI (uF (fldD "size") (vF 0))) allT Ke [.fz (wob W),.fz (.tup [.str "same",.str x,.str y])]=some (.lst ((av W.n).map λt=>pN (t,t))):=by
   refine VP (λt=>pN (t,t)) _ ?_ (by omega) λk hk=>?_
   .have rg:=Ir (W.n:Int) (by omega);simp only[R5,e_u,e_v,wv,e_vs,e_us,Tc,rg,df]
   .simp only[cK,Ke]
  have ep:lT (prF W (.sa x y))=.lst ((av W.n).map λt=>pN (t,t)):=by simp only[prF,lT,bX];rfl
  rw[ep];simp only[dK,enc,G7,JM,g7,g6,cm]
theorem rC(i j:Int):fu (.int i) (.int j)=some (.int (tq i j)):=zE_ _
theorem wz(i j:Int):borD (.int i) (.int j)=some (.int (tz i j)):=zE_ _
def bt(b:Bool):Int:=if b then 1 else 0
theorem xF(a b:Bool):tq (bt a) (bt b)=bt (a&&b):=by cases a<;>cases b<;>decide +kernel
theorem yx(a b:Bool):tz (bt a) (bt b)=bt (a||b):=by cases a<;>cases b<;>decide +kernel
theorem mj(n p a:Nat)(h:a<n):ixE (row n p) (.int (a:Int))=some (.int (bt (decide (a=p)))):=by
 show atI ((av n).map _) (a:Int)=_;rw[Hm,be,C1 h];show some (D.int (if a=p then 1 else 0))=_
 by_cases z:a=p<;>simp[z,bt]
theorem Tw(n p1 p2:Nat)(s0 s1 s2 s3:PV.Slot):∀(l:List (Nat×Nat)) (c:Bool) (z7 z8:PV.Slot),(∀q∈l,q.1<n/\q.2<n) ->
  ∃z7' z8',forF (tgB (tupG 2 (By 7 (By 8 nilG))) Gg) (l.map pN) [s0,s1,s2,s3,.fz (row n p1),.fz (row n p2),.fz (.int (bt c)),z7,z8]=some (.nx [s0,s1,s2,s3,.fz (row n p1),.fz (row n p2),.fz (.int (bt (c||l.any λq=>decide (q.1=p1)&&decide (q.2=p2)))),z7',z8'])
 |[],c,z7,z8,_=>⟨z7,z8,by simp[LK]⟩
 |q::r,c,z7,z8,h=>by
  obtain⟨h1,h2⟩:=h q (by simp);have e1:=mj n p1 q.1 h1;have e2:=mj n p2 q.2 h2;have b:Gg [s0,s1,s2,s3,.fz (row n p1),.fz (row n p2),.fz (.int (bt c)),.fz (.int (q.1:Int)),.fz (.int (q.2:Int))]=some (.nx [s0,s1,s2,s3,.fz (row n p1),.fz (row n p2),.fz (.int (bt (c||(decide (q.1=p1)&&decide (q.2=p2))))),.fz (.int (q.1:Int)),.fz (.int (q.2:Int))]):=by
   simp only[cK,Gg,e1,e2,rC,wz,xF,yx]
  obtain⟨z7',z8',ih⟩:=Tw n p1 p2 s0 s1 s2 s3 r (c||(decide (q.1=p1)&&decide (q.2=p2))) (.fz (.int (q.1:Int))) (.fz (.int (q.2:Int))) λu hu=>h u (by simp[hu]);refine⟨z7',z8',?_⟩;rw[ba,G5,e_tg,Ol,LQ];simp only[sM,sN];rw[b,Cu,ih,p4,Bool.or_assoc]
theorem xG(W:Wl)(h:WOk W)(a:Fa)(hk:Kn W a):∀q∈prF W a,q.1<W.n/\q.2<W.n:=by
 intro q hq;cases a with
 |mk w x=>
  obtain⟨p,hp,e⟩:=Lw hk;simp only[prF,e,eK,rj] at hq;obtain⟨t,ht,rfl⟩:=aI.mp hq;have:=(h.ml p hp).2.2 t ht;exact⟨this,this⟩
 |ti w x y=>
  obtain⟨p,hp,e⟩:=Lw hk;simp only[prF,e,eK,rj] at hq;exact (h.tl p hp).2.2 q hq
 |sa x y=>
  simp only[prF] at hq;obtain⟨t,ht,rfl⟩:=aI.mp hq;have:=bv.mp ht;exact⟨this,this⟩
theorem VR(n:Nat)(P:Str->Nat)(xs:List Str)(nd:xs.Nodup)(x:Str)(hx:x∈xs):getK (.inr x:Key) (xs.map λx=>((.inr x:Key),row n (P x)))=some (row n (P x)):=by
 refine Om ?_ (aI.mpr ⟨x,hx,rfl⟩);rw[bX];rw[lf,kD];exact Cb (λhab e=>hab (by simpa using e)) nd
def holds(W:Wl)(P:Str->Nat)(a:Fa):Bool:=(prF W a).any λq=>decide (q.1=P (fst a))&&decide (q.2=P (lst' a))
theorem rD(W:Wl)(h:WOk W)(P:Str->Nat)(a:Fa)(hk:Kn W a)(xs:List Str)(nd:xs.Nodup)(hx:∀x∈nms a,x∈xs):IW [wob W,enc a,J7 W.n P xs]=some (.int (bt (holds W P a))):=by
 have ni:=Qy a;have pk:=wy W h.n5 h a hk;have f1:∃r,nms a=fst a::r:=by cases a<;>exact⟨_,rfl⟩
 obtain⟨r,e1⟩:=f1;have i0:ixD (.tup ((nms a).map .str)) (.int 0)=some (.str (fst a)):=by rw[e1];exact ixt0 _ _
 have i1:ixD (.tup ((nms a).map .str)) (.int (-1))=some (.str (lst' a)):=by
  cases a with
  |mk w x=>exact Vw [] (D.str x)
  |ti w x y=>exact Vw [D.str x] (D.str y)
  |sa x y=>exact Vw [D.str x] (D.str y)
 have m1:fst a∈xs:=hx _ (by rw[e1];simp);have m2:lst' a∈xs:=hx _ (by cases a<;>simp[nms,lst']);have s1:=VR W.n P xs nd (fst a) m1;have s2:=VR W.n P xs nd (lst' a) m2;obtain⟨z7,z8,lp⟩:=Tw W.n (P (fst a)) (P (lst' a)) (.fz (wob W)) (.fz (enc a)) (.fz (J7 W.n P xs)) (.fz (.tup ((nms a).map .str))) (prF W a) false .un .un (xG W h a hk);simp only[v0] at lp;simp only[J7,show bt false=(0:Int) from rfl] at lp ⊢;simp only[dK,IW,Kf,ni,i0,i1,R4,s1,s2,pk,lT,lp,holds]
theorem yz(W:Wl)(h:WOk W)(g:List (Key×D))(P:Str->Nat)(a:Fa)(hk:Kn W a)(hp:∀x∈nms a,Pl W.n g P x):Ot [wob W,enc a,.dk g]=some (.bl (holds W P a)):=by
 have fn:=rB a;have l2:(nms a).length<=2:=by cases a<;>simp[nms]
 have nd:=La (Ej (nms a));have l3:(An (nms a)).length<=2:=ck (sub_len nd (λx hx=>(Ay x _).mp hx)) l2;have up:=YH W g P (An (nms a)) λx hx=>hp x ((Ay x _).mp hx);have st:=mY W a hk;obtain⟨z',sp⟩:=Tv W h.n5 (enc a) (.dk g) (.lst ((An (nms a)).map .str)) g P (An (nms a)) [] .un (by simpa using nd) (λx hx=>hp x ((Ay x _).mp hx)) .(17);rw[ic] at sp;have e0:D.dk []=J7 W.n P []:=rfl;have fc:=rD W h P a hk (An (nms a)) nd λx hx=>(Ay x _).mpr hx;obtain⟨t,r,et,hf⟩:=Tt a;have cs':Kg [wob W,enc a,J7 W.n P (An (nms a)),.int 1]=some (.int (bt (holds W P a))):=by
  rw[et] at fc ⊢;simp only[dK,Kg,NQ,hf,fc]
 have nd1:isND false (.dk g)=some .(8):=rfl;have eq1:decide (bt (holds W P a)=1)=holds W P a:=by cases holds W P a<;>decide
 simp only[ciK,Ot,V9,nd1,fn,up,st,DN,GQ,R6,e0,OJ,sp,Qm,Le,Ql,cs',eq1]
def hd(W:Wl)(P:Str->Nat):Fa->Bool
 |.mk w x=>mk W w (P x)
 |.ti w x y=>tk W w (P x) (P y)
 |.sa x y=>decide (P x=P y)
theorem mq(W:Wl)(P:Str->Nat)(a:Fa)(hp:∀x∈nms a,P x<W.n):holds W P a=hd W P a:=by
 cases a with
 |mk w x=>
  show ((prF W (.mk w x)).any λq=>decide (q.1=P x)&&decide (q.2=P x))=mk W w (P x);rw[show prF W (.mk w x)=(((W.ms.find? (λp=>p.1=w)).map (·.2)).getD []).map (λt=>(t,t)) from rfl,qa];unfold mk;cases W.ms.find? (λp=>p.1=w) with
  |none=>rfl
  |some q=>
   simp only[eK,rj];rw[<-WX];congr 1;funext t;show (decide (t=P x)&&decide (t=P x))=_;cases decide (t=P x)<;>rfl
 |ti w x y=>
  show ((prF W (.ti w x y)).any λq=>decide (q.1=P x)&&decide (q.2=P y))=tk W w (P x) (P y);rw[show prF W (.ti w x y)=((W.ts.find? (λp=>p.1=w)).map (·.2)).getD [] from rfl];unfold tk;cases W.ts.find? (λp=>p.1=w) with
  |none=>rfl
  |some q=>exact Tn _ _ _
 |sa x y=>
  show ((prF W (.sa x y)).any λq=>decide (q.1=P x)&&decide (q.2=P y))=decide (P x=P y);rw[show prF W (.sa x y)=(av W.n).map λt=>(t,t) from rfl,qa]
  by_cases z:P x=P y
  .rw[decide_eq_true z,qh];exact⟨P y,bv.mpr (hp y (by simp[nms])),by simp[z]⟩
  .rw[decide_eq_false z,A9];intro t _ h;simp at h;exact z (h.1▸h.2)
theorem y_(W:Wl)(h:WOk W)(g:List (Key×D))(P:Str->Nat)(a:Fa)(hk:Kn W a)(hp:∀x∈nms a,Pl W.n g P x):Ot [wob W,enc a,.dk g]=some (.bl (hd W P a)):=by
 rw[yz W h g P a hk hp,mq W P a λx hx=>(hp x hx).2]
inductive Sy where
 |fa (a:Fa) | no (s:Sy) | bo (b:Bool) (s t:Sy) | qu (b:Bool) (x:Str) (s:Sy)
instance:Inhabited Sy:=⟨.fa (.sa "" "")⟩
def encS:Sy->D
 |.fa a=>enc a
 |.no s=>.tup [.str "not",encS s]
 |.bo b s t=>.tup [.str (if b then "both" else "either"),encS s,encS t]
 |.qu b x s=>.tup [.str (if b then "some" else "all"),.str x,encS s]
def up(P:Str->Nat)(x:Str)(k:Nat):Str->Nat:=λy=>if y=x then k else P y
def tru(W:Wl):(Str->Nat)->Sy->Bool
 |P,.fa a=>hd W P a
 |P,.no s=>!tru W P s
 |P,.bo b s t=>if b then tru W P s&&tru W P t else tru W P s||tru W P t
 |P,.qu b x s=>if b then (av W.n).any λk=>tru W (up P x k) s else (av W.n).all λk=>tru W (up P x k) s
def fr:Sy->List Str
 |.fa a=>nms a
 |.no s=>fr s
 |.bo _ s t=>fr s++fr t
 |.qu _ x s=>(fr s).filter λy=>!decide (y=x)
def hgt:Sy->Nat
 |.fa _=>1
 |.no s=>hgt s+1
 |.bo _ s t=>max (hgt s) (hgt t)+1
 |.qu _ _ s=>hgt s+1
def pt:Sy->Nat
 |.fa _=>1
 |.no s=>1+pt s
 |.bo _ s t=>1+pt s+pt t
 |.qu _ _ s=>1+pt s
def dpt:Sy->Nat
 |.fa _=>0
 |.no s=>dpt s
 |.bo _ s t=>max (dpt s) (dpt t)
 |.qu _ _ s=>dpt s+1
def KnS(W:Wl):Sy->Prop
 |.fa a=>Kn W a/\∀x∈nms a,Nm x
 |.no s=>KnS W s
 |.bo _ s t=>KnS W s/\KnS W t
 |.qu _ x s=>Nm x/\KnS W s
theorem qs:eqD false (.str "mark") (.str "mark")=some (.bl true)/\eqD false (.str "mark") (.str "same")=some .(8)/\eqD false (.str "mark") (.str "tie")=some .(8)/\eqD false (.str "tie") (.str "mark")=some .(8)/\eqD false (.str "tie") (.str "tie")=some (.bl true)/\eqD false (.str "tie") (.str "same")=some .(8)/\eqD false (.str "same") (.str "mark")=some .(8)/\eqD false (.str "same") (.str "tie")=some .(8)/\eqD false (.str "same") (.str "same")=some (.bl true)/\eqD false (.str "not") (.str "mark")=some .(8)/\eqD false (.str "not") (.str "tie")=some .(8)/\eqD false (.str "not") (.str "same")=some .(8)/\eqD false (.str "not") (.str "not")=some (.bl true)/\eqD false (.str "both") (.str "mark")=some .(8)/\eqD false (.str "both") (.str "tie")=some .(8)/\eqD false (.str "both") (.str "same")=some .(8)/\eqD false (.str "both") (.str "not")=some .(8)/\eqD false (.str "both") (.str "both")=some (.bl true)/\eqD false (.str "either") (.str "mark")=some .(8)/\eqD false (.str "either") (.str "tie")=some .(8)/\eqD false (.str "either") (.str "same")=some .(8)/\eqD false (.str "either") (.str "not")=some .(8)/\eqD false (.str "either") (.str "both")=some .(8)/\eqD false (.str "either") (.str "either")=some (.bl true)/\eqD false (.str "some") (.str "mark")=some .(8)/\eqD false (.str "some") (.str "tie")=some .(8)/\eqD false (.str "some") (.str "same")=some .(8)/\eqD false (.str "some") (.str "not")=some .(8)/\eqD false (.str "some") (.str "both")=some .(8)/\eqD false (.str "some") (.str "either")=some .(8)/\eqD false (.str "some") (.str "some")=some (.bl true)/\eqD false (.str "some") (.str "all")=some .(8)/\eqD false (.str "all") (.str "mark")=some .(8)/\eqD false (.str "all") (.str "tie")=some .(8)/\eqD false (.str "all") (.str "same")=some .(8)/\eqD false (.str "all") (.str "not")=some .(8)/\eqD false (.str "all") (.str "both")=some .(8)/\eqD false (.str "all") (.str "either")=some .(8)/\eqD false (.str "all") (.str "some")=some .(8)/\eqD false (.str "all") (.str "all")=some (.bl true):=by and_intros<;>exact zE_ _
theorem qi:inF false (.str "mark") .(19)=some (.bl true)/\inF false (.str "tie") .(19)=some (.bl true)/\inF false (.str "same") .(19)=some (.bl true)/\inF false (.str "not") .(19)=some .(8)/\inF false (.str "not") (.lst [.str "some",.str "all"])=some .(8)/\inF true (.str "not") (.lst [.str "not",.str "both",.str "either"])=some .(8)/\inF false (.str "both") .(19)=some .(8)/\inF false (.str "both") (.lst [.str "some",.str "all"])=some .(8)/\inF true (.str "both") (.lst [.str "not",.str "both",.str "either"])=some .(8)/\inF false (.str "either") .(19)=some .(8)/\inF false (.str "either") (.lst [.str "some",.str "all"])=some .(8)/\inF true (.str "either") (.lst [.str "not",.str "both",.str "either"])=some .(8)/\inF false (.str "some") .(19)=some .(8)/\inF false (.str "some") (.lst [.str "some",.str "all"])=some (.bl true)/\inF true (.str "some") (.lst [.str "not",.str "both",.str "either"])=some (.bl true)/\inF false (.str "all") .(19)=some .(8)/\inF false (.str "all") (.lst [.str "some",.str "all"])=some (.bl true)/\inF true (.str "all") (.lst [.str "not",.str "both",.str "either"])=some (.bl true):=by and_intros<;>exact zE_ _
theorem my(k k':Key)(v:D):∀l:List (Key×D),getK k (putL k' v l)=if k=k' then some v else getK k l:=by
 have r:∀l:List (Key×D),getK k (repK k' v l)=if k=k' then (getK k l).map λ_=>v else getK k l:=by
  intro l
  induction l with
  |nil=>simp[repK,getK]
  |cons p l ih=>
   unfold repK getK;rw[ih]
   by_cases z:p.1=k<;>by_cases y:k=k'<;>simp_all
 have a:∀l:List (Key×D),getK k (l++[(k',v)])=(getK k l).or (if k=k' then some v else none):=by
  intro l
  induction l with
  |nil=>
   show getK k [(k',v)]=_;unfold getK
   by_cases y:k=k'
   .simp[y]
   .rw[if_neg λe=>y e.symm,if_neg y];rfl
  |cons p l ih=>
   rw[zO];unfold getK;rw[ih];split<;>rfl
 intro l;unfold putL;split
 .rename_i h;rw[r];split
  .rename_i y;subst y;obtain⟨d,e⟩:=ua.mp h;rw[e];rfl
  .rfl
 .rename_i h;rw[a];split
  .rename_i y;subst y;rw[Option.not_isSome_iff_eq_none.mp h];rfl
  .cases getK k l<;>rfl
theorem rE(k:Key)(v:D)(l:List (Key×D)):(putL k v l).length<=l.length+1:=by
 have r:∀l:List (Key×D),(repK k v l).length=l.length:=by
  intro l
  induction l with
  |nil=>rfl
  |cons p r ih=>unfold repK;simp[ih]
 unfold putL;split
 .rw[r];omega
 .simp
theorem eqb(a b:Bool):eqD false (.bl a) (.bl b)=some (.bl (a==b)):=by cases a<;>cases b<;>rfl
theorem Nj(W:Wl)(hW:WOk W):∀(s:Sy) (n:Nat) (g:List (Key×D)) (P:Str->Nat),hgt s<=n->KnS W s->(∀x∈fr s,getK (.inr x:Key) g=some (.int (P x:Int)))->g.length+dpt s<=100 ->
  Bh n [wd W,encS s,.dk g]=some (.bl (tru W P s))
 |.fa (.mk w x),n,g,P,h,hk,hp,hl=>by
  obtain⟨n,rfl⟩:∃m,n=m+1:=⟨n-1,by simp[hgt] at h;omega⟩;obtain⟨d,e1,e2⟩:=uD W hk.1 (P x);have p1:=hp x (by simp[fr,nms]);rw[GP] at e1;simp only[cK,encS,enc,tru,hd,Bh,Fz,Fv,GP,qs,p1,ixw1,e1,e2]
 |.fa (.ti w x y),n,g,P,h,hk,hp,hl=>by
  obtain⟨n,rfl⟩:∃m,n=m+1:=⟨n-1,by simp[hgt] at h;omega⟩;obtain⟨d,e1,e2,_⟩:=uE W hk.1 (P x) (P y);have p1:=hp x (by simp[fr,nms]);have p2:=hp y (by simp[fr,nms]);rw[GP] at e1;simp only[cK,encS,enc,tru,hd,Bh,Fz,Fv,GP,qs,p1,p2,ixw2,e1,e2]
 |.fa (.sa x y),n,g,P,h,hk,hp,hl=>by
  obtain⟨n,rfl⟩:∃m,n=m+1:=⟨n-1,by simp[hgt] at h;omega⟩;have p1:=hp x (by simp[fr,nms]);have p2:=hp y (by simp[fr,nms]);have e:=YF (P x) (P y);simp only[cK,encS,enc,tru,hd,Bh,Fz,Fv,GP,qs,p1,p2,e]
 |.no s,n,g,P,h,hk,hp,hl=>by
  obtain⟨n,rfl⟩:∃m,n=m+1:=⟨n-1,by simp[hgt] at h;omega⟩;have i1:=Nj W hW s n g P (by simp[hgt] at h;omega) hk hp hl;simp only[cK,encS,tru,Bh,Fz,Fv,qs,i1]
 |.bo b s t,n,g,P,h,hk,hp,hl=>by
  obtain⟨n,rfl⟩:∃m,n=m+1:=⟨n-1,by simp[hgt] at h;omega⟩;simp only[hgt,dpt] at h hl;have i1:=Nj W hW s n g P (by omega) hk.1 (λx q=>hp x (gy _ q)) (by omega);have i2:=Nj W hW t n g P (by omega) hk.2 (λx q=>hp x (eP _ q)) (by omega);cases b<;>cases e1:tru W P s<;>simp only[e1] at i1<;>simp only[cK,encS,tru,if_true,dv,if_false,Bh,Fz,Fv,qs,i1,i2,e1,wf,A8,yY,v0]
 |.qu b x s,n,g,P,h,hk,hp,hl=>by
  obtain⟨n,rfl⟩:∃m,n=m+1:=⟨n-1,by simp[hgt] at h;omega⟩;simp only[hgt,dpt] at h hl;have so (k:Nat):Bh n [wd W,encS s,.dk (putL (.inr x) (.int (k:Int)) g)]=some (.bl (tru W (up P x k) s)):=by
   refine Nj W hW s n _ (up P x k) (by omega) hk.2 (λy hy=>?_) (by have:=rE (.inr x:Key) (.int (k:Int)) g;omega);rw[my]
   by_cases z:y=x
   .simp[z,up]
   .rw[if_neg (λe=>z (by injection e)),hp y (eC.mpr ⟨hy,by simpa using z⟩)];simp[up,z]
  have st:eqD false (.str (if b then "some" else "all")) (.str "some")=some (.bl b):=by cases b<;>simp only[if_true,dv,if_false,qs]
  have lo:∀(l:List Nat) (z4 z5:PV.Slot),∃ρ y4 y5,forF (tgB (BK 4) (Hi (Bh n))) (l.map iN) [.fz (wd W),.fz (.tup [.str (if b then "some" else "all"),.str x,encS s]),.fz (.dk g),.fz (.str (if b then "some" else "all")),z4,z5]=some (if (l.any λk=>tru W (up P x k) s==b)=true then .rt (.bl b) ρ else .nx [.fz (wd W),.fz (.tup [.str (if b then "some" else "all"),.str x,encS s]),.fz (.dk g),.fz (.str (if b then "some" else "all")),y4,y5]):=by
   intro l
   induction l with
   |nil=>intro z4 z5;exact⟨[],z4,z5,rfl⟩
   |cons k l ih=>
    intro z4 z5;have dc:aB (.dk g)=some (.dk g):=rfl;have pk:Cj (.dk g) (.str x) (iN k)=some (.dk (putL (.inr x) (.int (k:Int)) g)):=KJ _ _ _ (by omega);have sk:=so k;have eb:=eqb (tru W (up P x k) s) b;obtain⟨ρ,y4,y5,e⟩:=ih (.fz (iN k)) (.fz (.dk (putL (.inr x) (.int (k:Int)) g)))
    w_up
    have bd:Hi (Bh n) [.fz (wd W),.fz (.tup [.str (if b then "some" else "all"),.str x,encS s]),.fz (.dk g),.fz (.str (if b then "some" else "all")),.fz (iN k),z5]=some (if (tru W (up P x k) s==b)=true then .rt (.bl b) [.fz (wd W),.fz (.tup [.str (if b then "some" else "all"),.str x,encS s]),.fz (.dk g),.fz (.str (if b then "some" else "all")),.fz (iN k),.fz (.dk (putL (.inr x) (.int (k:Int)) g))] else .nx [.fz (wd W),.fz (.tup [.str (if b then "some" else "all"),.str x,encS s]),.fz (.dk g),.fz (.str (if b then "some" else "all")),.fz (iN k),.fz (.dk (putL (.inr x) (.int (k:Int)) g))]):=by
     generalize (if b then ("some":Str) else "all")=sb at st ⊢;cases z:(tru W (up P x k) s==b)<;>rw[z] at eb<;>simp only[cK,Hi,Fv,R6,OJ,dc,SM,NK,LC,pk,Z4,Qm,Le,Ql,sk,st,eb,if_true,dv,if_false]
    rw[bd,p4];cases z:(tru W (up P x k) s==b)
    .simp only[dv,if_false,v0];exact⟨ρ,y4,y5,by rw[Cu,e]⟩
    .simp only[yY,if_true];exact⟨_,.un,.un,Vz _ _ _ _⟩
  obtain⟨ρ,y4,y5,el⟩:=lo (av W.n) .un .un;have h5:=hW.n5;have r0:=Ir (W.n:Int) (by omega);rw[df] at r0;have el:forF (tgB (BK 4) (Hi (Bh n))) (rngD W.n) _=_:=el;have ea:((av W.n).any λk=>tru W (up P x k) s==b)=(if b then tru W P (.qu b x s) else !tru W P (.qu b x s)):=by
   cases b
   .simp only[tru,dv,if_false,List.not_all_eq_any_not,beq_false]
   .simp only[tru,if_true,beq_true]
  rw[ea] at el;cases b<;>cases z:tru W P (.qu _ x s)<;>simp only[z,kG,zU,if_true,dv,if_false] at el<;>simp only[cK,encS,if_true,dv,if_false,Bh,Fz,Fv,qs,ixw0,r0,el]
theorem VV(l:List D):isiD "tuple" (.tup l)=some (.bl true):=zE_ _
theorem mz(x:Str):isiD "str" (.str x)=some (.bl true):=zE_ _
theorem xH(l:List D):lenE (.tup l)=some (.int l.length):=zE_ _
theorem lt1(a:D):lenE (.tup [a])=some (.int 1):=zE_ _
theorem lt2(a b:D):lenE (.tup [a,b])=some (.int 2):=zE_ _
theorem lt3(a b c:D):lenE (.tup [a,b,c])=some (.int 3):=zE_ _
theorem WY(l:List D):Ld (.tup l)=some (.lst l):=zE_ _
theorem zF(h:Nm x):inF false (.str x) (.str LET)=some (.bl true):=by
 obtain⟨c,hc,rfl⟩:=h;show inD false (.str ⟨#[c]⟩) (.str LET)=_;rw[lQ,lR c hc]
theorem YJ(xs:List Str)(hl:xs.length<=1000)(h:∀x∈xs,Nm x):Ex [.tup (xs.map .str)]=some (.bl true):=by
 have cm:BV (seqA (vF 0)) Gk Gm [.fz (.tup (xs.map .str)),.fz (.str LET)]=some (.lst (xs.map .str)):=by
  rw[Tr xs (λx=>.str x) (λx=>.str x) (λ_=>true) (by simp only[cK,DN,Oj]) hl (λx hx=>?_) λx hx=>?_]
  .rw[HZ.mpr λ_ _=>rfl]
  .have e1:=zF (h x hx);have e2:lenE (.str x)=some (.int 1):=by rw[lU x (by rw[(h x hx).len];decide),(h x hx).len];rfl
   simp only[ciK,Gk,mz,e1,e2]
  .simp only[cK,Gm]
 have cm:BV (seqA (vF 0)) Gk Gm [.fz (.tup (xs.map .str)),.fz .(6)]=some (.lst (xs.map .str)):=cm;simp only[ciK,Ex,Kl,cm,RL,xH,aw]
theorem bO(a:Fa):(nms a).length<=2:=by cases a<;>simp[nms]
theorem m5(W:Wl)(a:Fa)(hk:Kn W a)(hn:∀x∈nms a,Nm x):Ey [enc a,wd W]=some (.lst [.int 0,.int 1,.int 1,.lst ((nms a).map .str)]):=by
 have nd:=YJ (nms a) (by have:=bO a;omega) hn;cases a with
 |mk w x=>
  obtain⟨q,hq,e⟩:=Lw hk;have e1:getK (.inr w:Key) (eM W.ms)=some (lM q.2):=by
   show getK _ (W.ms.map λp=>_)=_;rw[Kw lM w W.ms,e];rfl
  simp only[nms,ba,ke] at nd ⊢;simp only[diK,enc,Ey,Gn,k2,g1,g2,g8,mz,ixw1,e1,Qx,nd,lt1,lt2,p9,if_true,sT,WY]
 |ti w x y=>
  obtain⟨q,hq,e⟩:=Lw hk;have e1:getK (.inr w:Key) (eT W.ts)=some (lT q.2):=by
   show getK _ (W.ts.map λp=>_)=_;rw[Kw lT w W.ts,e];rfl
  simp only[nms,ba,ke] at nd ⊢;simp only[diK,enc,Ey,Gn,k3,g3,g4,g5,mz,ixw2,e1,Qx,nd,lt1,lt2,p9,if_true,dv,if_false,sT,WY]
 |sa x y=>
  simp only[nms,ba,ke] at nd ⊢;simp only[diK,enc,Ey,Gn,k1,k2,g6,g7,g9,Qx,nd,lt2,dv,if_false,sT,WY]
def wk(s:Sy):D:=.lst [.int (dpt s:Int),.int (pt s:Int),.int (hgt s:Int),.lst ((fr s).map .str)]
theorem Vy(xs ys:List Str)(h:xs.length+ys.length<=100000):addD (.lst (xs.map .str)) (.lst (ys.map .str))=some (.lst ((xs++ys).map .str)):=by
 rw[dP];exact Vx .(17)
theorem m6(a b:Nat):maxD (.int (a:Int)) (.int (b:Int))=some (.int ((max a b:Nat):Int)):=by
 show some (D.int (if (b:Int) > a then (b:Int) else a))=_
 by_cases h:b > a
 .rw[if_pos (by omega),show max a b=b by omega]
 .rw[if_neg (by omega),show max a b=a by omega]
theorem xJ(a b:Nat):addD (.int (a:Int)) (.int (b:Int))=some (.int ((a+b:Nat):Int)):=by rw[M8];simp
theorem Lx:∀s:Sy,(fr s).length<=2*pt s
 |.fa a=>by have:=bO a;simp only[fr,pt];omega
 |.no s=>by have:=Lx s;simp only[fr,pt];omega
 |.bo _ s t=>by have:=Lx s;have:=Lx t;simp only[fr,pt,cb];omega
 |.qu _ x s=>by have:=Lx s;have:=wt (λy=>!decide (y=x)) (fr s);simp only[fr,pt];omega
theorem Mg(W:Wl)(r:List D->Option D)(s0 s2 s3 z6 s7:PV.Slot)(s:Sy)(e:r [encS s,wd W]=some (wk s))(a b c:Nat)(ns:List Str)(hn:ns.length+(fr s).length<=100000)(z5:PV.Slot):
  Cm r [s0,.fz (wd W),s2,s3,.fz (.lst [.int (a:Int),.int (b:Int),.int (c:Int),.lst (ns.map .str)]),.fz (encS s),z6,s7]=some (.nx [s0,.fz (wd W),s2,s3,.fz (.lst [.int ((max a (dpt s):Nat):Int),.int ((b+pt s:Nat):Int),.int ((max c (hgt s):Nat):Int),.lst ((ns++fr s).map .str)]),.fz (encS s),.fz (wk s),s7]):=by
 have n0:isND false (wk s)=some .(8):=rfl;have w0:ixE (wk s) (.int 0)=some (.int (dpt s:Int)):=rfl;have w1:ixE (wk s) (.int 1)=some (.int (pt s:Int)):=rfl;have w2:ixE (wk s) (.int 2)=some (.int (hgt s:Int)):=rfl;have w3:ixE (wk s) (.int 3)=some (.lst ((fr s).map .str)):=rfl;have v3:∀p q u v:D,ixE (.lst [p,q,u,v]) (.int 3)=some v:=λ_ _ _ _=>rfl;have m1:=m6 a (dpt s);have m2:=xJ b (pt s);have m3:=m6 c (hgt s);have m4:=Vy ns (fr s) hn;simp only[cK,Cm,NB,e,n0,w0,w1,w2,w3,v3,m1,m2,m3,m4]
theorem Tz(W:Wl)(r:List D->Option D)(E:D)(s2 z5 z6 z7:PV.Slot)(a b c:D)(ov:Bool)(x:Str)(hx:ov=true->ixE E (.int 1)=some (.str x))(ns:List Str)(hn:ns.length<=1000):
  BV (seqA (bF ixE (vF 4) (kF (.int 3)))) (Fq r) (Ho r) [.fz E,.fz (wd W),s2,.fz (.bl ov),.fz (.lst [a,b,c,.lst (ns.map .str)]),z5,z6,z7]=some (.lst ((ns.filter λy=>!ov||!decide (y=x)).map .str)):=by
 have v3:ixE (.lst [a,b,c,.lst (ns.map .str)]) (.int 3)=some (.lst (ns.map .str)):=rfl;rw[Tr ns (λx=>.str x) (λx=>.str x) (λy=>!ov||!decide (y=x)) (by simp only[cK,DN,v3,GQ]) hn (λy hy=>?_) λy hy=>?_]
 .cases ov
  .simp only[cK,Fq,yY,zU]
  .have ne:eqD true (.str y) (.str x)=some (.bl (!decide (y=x))):=rfl;simp only[cK,Fq,hx rfl,ne,v0]
 .simp only[cK,Ho]
theorem m7(l:List Str)(p:Str->Bool):(l.filter λy=>!false||p y)=l:=HZ.mpr λ_ _=>rfl
theorem fin4{a b c:Int}{l:List D}{s:Sy}(h1:a=(dpt s:Int))(h2:b=(pt s:Int))(h3:c=(hgt s:Int))(h4:l=(fr s).map .str):some (D.lst [.int a,.int b,.int c,.lst l])=some (wk s):=by subst h1 h2 h3 h4;rfl
theorem zG(a b:D):slD (.tup [a,b]) (some 1) none=some (.tup [b]):=zE_ _
theorem xK(a b c:D):slD (.tup [a,b,c]) (some 1) (some 2)=some (.tup [b]):=zE_ _
theorem m8(a b c d:D):ixE (.lst [a,b,c,d]) (.int 3)=some d:=zE_ _
theorem Pa(W:Wl):∀(s:Sy) (n:Nat),hgt s<=n->KnS W s->pt s<=480->Aj n [encS s,wd W]=some (wk s)
 |.fa a,n,h,hk,hp=>by
  obtain⟨n,rfl⟩:∃m,n=m+1:=⟨n-1,by simp[hgt] at h;omega⟩;have pl:=m5 W a hk.1 hk.2;show Aj (n+1) [enc a,wd W]=some (.lst [.int 0,.int 1,.int 1,.lst ((nms a).map .str)]);cases a with
  |mk w x=>simp only[enc,nms,ba,ke] at pl ⊢;simp only[ciK,Aj,CZ,Fv,VV,lt3,qi,pl]
  |ti w x y=>
   have l4:∀a b c d:D,lenE (.tup [a,b,c,d])=some (.int 4):=λ_ _ _ _=>rfl;simp only[enc,nms,ba,ke] at pl ⊢;simp only[ciK,Aj,CZ,Fv,VV,l4,qi,pl]
  |sa x y=>simp only[enc,nms,ba,ke] at pl ⊢;simp only[ciK,Aj,CZ,Fv,VV,lt3,qi,pl]
 |.no s,n,h,hk,hp=>by
  obtain⟨n,rfl⟩:∃m,n=m+1:=⟨n-1,by simp[hgt] at h;omega⟩;simp only[hgt,pt] at h hp;have fl:=Lx s;have i1:=Pa W s n (by omega) hk (by omega);have st:=Mg W (Aj n) (.fz (.tup [.str "not",encS s])) (.fz (.str "not")) (.fz .(8)) .un .un s i1 0 1 0 [] .(17) .un;have st:Cm (Aj n) [.fz (.tup [.str "not",encS s]),.fz (wd W),.fz (.str "not"),.fz .(8),.fz (.lst [.int 0,.int 1,.int 0,.lst []]),.fz (encS s),.un,.un]=_:=st;rw[ic] at st;have fe:=Tz W (Aj n) (.tup [.str "not",encS s]) (.fz (.str "not")) (.fz (encS s)) (.fz (wk s)) .un (.int ((max 0 (dpt s):Nat):Int)) (.int ((1+pt s:Nat):Int)) (.int ((max 0 (hgt s):Nat):Int)) false "" (λe=>nomatch e) (fr s) (by omega);rw[m7 _ λy=>!decide (y="")] at fe;simp only[ciK,encS,Aj,CZ,Fv,NB,VV,lt2,qi,qs,Qx,dv,if_false,if_true,zM,sT,zG,DN,Oj,st,m8,fe];exact fin4 (by simp[dpt]) (by simp[pt]) (by simp[hgt]) (by simp[fr])
 |.bo b s t,n,h,hk,hp=>by
  obtain⟨n,rfl⟩:∃m,n=m+1:=⟨n-1,by simp[hgt] at h;omega⟩;simp only[hgt,pt] at h hp;have fl:=Lx s;have ft:=Lx t;have i1:=Pa W s n (by omega) hk.1 (by omega);have i2:=Pa W t n (by omega) hk.2 (by omega);have go:∀z:Str,isND false (.str z)=some .(8)->inF false (.str z) .(19)=some .(8)->inF false (.str z) (.lst [.str "some",.str "all"])=some .(8)->inF true (.str z) (.lst [.str "not",.str "both",.str "either"])=some .(8)->eqD false (.str z) (.str "not")=some .(8)->Aj (n+1) [.tup [.str z,encS s,encS t],wd W]=some (wk (.bo b s t)):=λz _ q1 q2 q3 q4=>by
   have st:=Mg W (Aj n) (.fz (.tup [.str z,encS s,encS t])) (.fz (.str z)) (.fz .(8)) .un .un s i1 0 1 0 [] .(17) .un;have st:Cm (Aj n) [.fz (.tup [.str z,encS s,encS t]),.fz (wd W),.fz (.str z),.fz .(8),.fz (.lst [.int 0,.int 1,.int 0,.lst []]),.fz (encS s),.un,.un]=_:=st;rw[ic] at st;have s2:=Mg W (Aj n) (.fz (.tup [.str z,encS s,encS t])) (.fz (.str z)) (.fz .(8)) (.fz (wk s)) .un t i2 (max 0 (dpt s)) (1+pt s) (max 0 (hgt s)) (fr s) (by omega) .un;have fe:=Tz W (Aj n) (.tup [.str z,encS s,encS t]) (.fz (.str z)) (.fz (encS t)) (.fz (wk t)) .un (.int ((max (max 0 (dpt s)) (dpt t):Nat):Int)) (.int ((1+pt s+pt t:Nat):Int)) (.int ((max (max 0 (hgt s)) (hgt t):Nat):Int)) false "" (λe=>nomatch e) (fr s++fr t) .(17);rw[m7 _ λy=>!decide (y="")] at fe;simp only[ciK,Aj,CZ,Fv,NB,VV,lt3,q1,q2,q3,q4,Qx,dv,if_false,if_true,zM,sT,k1,DN,Oj,st,s2,m8,fe];exact fin4 (by simp[dpt]) (by simp[pt]) (by simp[hgt]) (by simp[fr])
  cases b
  .exact go "either" rfl (by simp only[qi]) (by simp only[qi]) (by simp only[qi]) (by simp only[qs])
  .exact go "both" rfl (by simp only[qi]) (by simp only[qi]) (by simp only[qi]) (by simp only[qs])
 |.qu b x s,n,h,hk,hp=>by
  obtain⟨n,rfl⟩:∃m,n=m+1:=⟨n-1,by simp[hgt] at h;omega⟩;simp only[hgt,pt] at h hp;have fl:=Lx s;have i1:=Pa W s n (by omega) hk.2 (by omega);have nd:Ex [.tup [.str x]]=some (.bl true):=YJ [x] (by simp) λy hy=>by rw[gL.mp hy];exact hk.1
  have go:∀z:Str,inF false (.str z) .(19)=some .(8)->inF false (.str z) (.lst [.str "some",.str "all"])=some (.bl true)->eqD false (.str z) (.str "not")=some .(8)->Aj (n+1) [.tup [.str z,.str x,encS s],wd W]=some (wk (.qu b x s)):=λz q1 q2 q4=>by
   have st:=Mg W (Aj n) (.fz (.tup [.str z,.str x,encS s])) (.fz (.str z)) (.fz (.bl true)) .un .un s i1 0 1 0 [] .(17) .un;have st:Cm (Aj n) [.fz (.tup [.str z,.str x,encS s]),.fz (wd W),.fz (.str z),.fz (.bl true),.fz (.lst [.int 0,.int 1,.int 0,.lst []]),.fz (encS s),.un,.un]=_:=st;rw[ic] at st;have fe:=Tz W (Aj n) (.tup [.str z,.str x,encS s]) (.fz (.str z)) (.fz (encS s)) (.fz (wk s)) .un (.int ((max 0 (dpt s):Nat):Int)) (.int ((1+pt s:Nat):Int)) (.int ((max 0 (hgt s):Nat):Int)) true x (λ_=>rfl) (fr s) (by omega);simp only[ciK,Aj,CZ,Fv,NB,VV,lt3,q1,q2,q4,nd,Qx,dv,if_false,if_true,zM,sT,k2,xK,DN,Oj,st,m8,fe];exact fin4 (by simp[dpt]) (by simp[pt]) (by simp[hgt]) (by simp[fr])
  cases b
  .exact go "all" (by simp only[qi]) (by simp only[qi]) (by simp only[qs])
  .exact go "some" (by simp only[qi]) (by simp only[qi]) (by simp only[qs])
abbrev Lt (i:Nat):Str:=chS LET i
def ix(x:Str):Nat:=(cs LET).findIdx λc=>c==x.cps.getD 0 0
theorem Ly:∀i,i<26->ix (Lt i)=i:=by decide +kernel
theorem zH:∀i,i<26->LET.cps.getD i 0∈cs LET:=by decide +kernel
theorem T3(h:i<26):Nm (Lt i):=⟨_,zH i h,rfl⟩
theorem uH(hi:i<26)(hj:j<26)(h:i≠j):Lt i≠Lt j:=λe=>h (by rw[<-Ly i hi,e,Ly j hj])
def pre(c:Nat):Str:=cutS LET none (some (c:Int))
theorem six(h:c<=6):c=0∨c=1∨c=2∨c=3∨c=4∨c=5∨c=6:=by omega
theorem m9(c:Nat):slD .(6) none (some (c:Int))=some (.str (pre c)):=sl_s LET none (some (c:Int)) (by rw[RT];decide)
theorem T4(h:c<=6):R9 (pre c)=(av c).map λi=>.str (Lt i):=by
 rcases six h with rfl | rfl | rfl | rfl | rfl | rfl | rfl<;>exact zE_ _
theorem at_c(h:c<=6):ixE .(6) (.int (c:Int))=some (.str (Lt c)):=by
 rcases six h with rfl | rfl | rfl | rfl | rfl | rfl | rfl<;>exact zE_ _
theorem m_(h:c<=5):ixE (.str (pre (c+1))) (.int (-1))=some (.str (Lt c)):=by
 rcases six (vj h) with rfl | rfl | rfl | rfl | rfl | rfl | rfl<;>exact zE_ _
theorem bQ(h:c<=5):slD (.str (pre (c+1))) none (some (-1))=some (.str (pre c)):=by
 rcases six (vj h) with rfl | rfl | rfl | rfl | rfl | rfl | rfl<;>exact zE_ _
theorem Wa(x:Str):Oi (some (.str x))=some (R9 x):=zE_ _
def tiF(c:Nat)(w:Str)(r:List Nat):List Fa:=r.flatMap λi=>[.ti w (Lt i) (Lt c),.ti w (Lt c) (Lt i)]
def F(W:Wl)(c:Nat):List Fa:=((av c).map λi=>.sa (Lt i) (Lt c))++((An (mw W)).map λw=>.mk w (Lt c))++(An (tw W)).flatMap λw=>.ti w (Lt c) (Lt c)::tiF c w (av c)
theorem Wb(c:Nat)(w:Str):∀r:List Nat,(tiF c w r).length=2*r.length
 |[]=>rfl
 |i::r=>by
  have:=Wb c w r;show (_::_::tiF c w r).length=_;simp only[eR];omega
theorem YK(s0 s1:PV.Slot)(c:Nat)(w:Str):∀(r:List Nat) (acc:List D) (z5:PV.Slot),acc.length+2*r.length<=900->∃y5,forF (tgB (BK 5) EY) (r.map λi=>.str (Lt i)) [s0,s1,.fz (.str (Lt c)),.ow (.lst acc),.fz (.str w),z5]=some (.nx [s0,s1,.fz (.str (Lt c)),.ow (.lst (acc++(tiF c w r).map enc)),.fz (.str w),y5])
 |[],acc,z5,_=>⟨z5,by simp[tiF,LK]⟩
 |i::r,acc,z5,h=>by
  simp only[eR] at h;have a1:=PL acc (.tup [.str "tie",.str w,.str (Lt i),.str (Lt c)]) (by omega);have a2:=PL (acc++[.tup [.str "tie",.str w,.str (Lt i),.str (Lt c)]]) (.tup [.str "tie",.str w,.str (Lt c),.str (Lt i)]) .(17);obtain⟨y5,e⟩:=YK s0 s1 c w r (acc++[.tup [.str "tie",.str w,.str (Lt i),.str (Lt c)]]++[.tup [.str "tie",.str w,.str (Lt c),.str (Lt i)]]) (.fz (.str (Lt i))) .(17);refine⟨y5,?_⟩
  w_up
  have b:EY [s0,s1,.fz (.str (Lt c)),.ow (.lst acc),.fz (.str w),.fz (.str (Lt i))]=some (.nx [s0,s1,.fz (.str (Lt c)),.ow (.lst (acc++[.tup [.str "tie",.str w,.str (Lt i),.str (Lt c)]]++[.tup [.str "tie",.str w,.str (Lt c),.str (Lt i)]])),.fz (.str w),.fz (.str (Lt i))]):=by
   simp only[cK,EY,a1,a2]
  rw[b,Cu,e];simp[tiF,enc]
theorem YL(s0:PV.Slot)(c:Nat)(hc:c<=5):∀(ws:List Str) (acc:List D) (z4 z5:PV.Slot),acc.length+20*ws.length<=500->∃y4 y5,forF (tgB (BK 4) Ea) (ws.map .str) [s0,.fz (.str (pre (c+1))),.fz (.str (Lt c)),.ow (.lst acc),z4,z5]=some (.nx [s0,.fz (.str (pre (c+1))),.fz (.str (Lt c)),.ow (.lst (acc++(ws.flatMap λw=>.ti w (Lt c) (Lt c)::tiF c w (av c)).map enc)),y4,y5])
 |[],acc,z4,z5,_=>⟨z4,z5,by simp[LK]⟩
 |w::ws,acc,z4,z5,h=>by
  simp only[eR] at h;have a1:=PL acc (.tup [.str "tie",.str w,.str (Lt c),.str (Lt c)]) (by omega);obtain⟨y5,e1⟩:=YK s0 (.fz (.str (pre (c+1)))) c w (av c) (acc++[.tup [.str "tie",.str w,.str (Lt c),.str (Lt c)]]) z5 .(17);have tl:(tiF c w (av c)).length=2*c:=by rw[Wb,eW]
  obtain⟨x4,x5,e⟩:=YL s0 c hc ws (acc++[.tup [.str "tie",.str w,.str (Lt c),.str (Lt c)]]++(tiF c w (av c)).map enc) (.fz (.str w)) y5 (by simp[tl];omega);refine⟨x4,x5,?_⟩;have pb:=bQ hc;have ps:=T4 (c:=c) (by omega)
  w_up
  have b:Ea [s0,.fz (.str (pre (c+1))),.fz (.str (Lt c)),.ow (.lst acc),.fz (.str w),z5]=some (.nx [s0,.fz (.str (pre (c+1))),.fz (.str (Lt c)),.ow (.lst (acc++[.tup [.str "tie",.str w,.str (Lt c),.str (Lt c)]]++(tiF c w (av c)).map enc)),.fz (.str w),y5]):=by
   simp only[cK,Ea,a1,R4,pb,DN,Wa,ps,e1]
  rw[b,Cu,e];simp[enc]
theorem zJ(a b:List D)(h:a.length+b.length<=1000):extL (.lst a) (.lst b)=some (.lst (a++b)):=by
 show (if a.length+b.length<=sizeLine then some (D.lst (a++b)) else none)=_;rw[if_pos (by rw[nh];omega)]
theorem rF(W:Wl)(h:WOk W)(c:Nat)(hc:c<=5):Dp [wob W,.str (pre (c+1))]=some (.lst ((F W c).map enc)):=by
 obtain⟨w1,w2⟩:=dU W h;have n1:=(dL.mp h.nd).1;have n2:=(dL.mp h.nd).2.1;have l1:(An (mw W)).length<=3:=ck (J6 n1) (by rw[aw];exact h.m3);have l2:(An (tw W)).length<=3:=ck (J6 n2) (by rw[aw];exact h.t3);have pl:=m_ hc;have pb:=bQ hc;have ps:=T4 (c:=c) (by omega);have c1:BV (seqA (slF (vF 1) noO (someO (uF negD .(5))))) allT Gi [.fz (wob W),.fz (.str (pre (c+1))),.fz (.str (Lt c)),.un,.un,.un]=some (.lst (((av c).map λi=>Fa.sa (Lt i) (Lt c)).map enc)):=by
  rw[bX];exact Il (av c) (λi=>.str (Lt i)) _ (by simp only[cK,DN,R4,pb,Wa,ps]) .(17) λi _=>by simp only[cK,Gi];rfl
 have m1:∀r:Rho,J1 "World" "mark_words" Bw (vF 0) nilA (.fz (wob W)::r)=some (.lst ((An (mw W)).map .str)):=λr=>by simp only[cK,bL,uG (yq W),w1]
 have m2:∀r:Rho,J1 "World" "tie_words" Cw (vF 0) nilA (.fz (wob W)::r)=some (.lst ((An (tw W)).map .str)):=λr=>by simp only[cK,bL,uG (yr W),w2]
 have c2:∀z3:PV.Slot,BV (seqA (J1 "World" "mark_words" Bw (vF 0) nilA)) allT Gj [.fz (wob W),.fz (.str (pre (c+1))),.fz (.str (Lt c)),z3,.un,.un]=some (.lst (((An (mw W)).map λw=>Fa.mk w (Lt c)).map enc)):=λz3=>by
  rw[bX];refine Il (An (mw W)) (λw=>.str w) _ ?_ (by omega) λi _=>?_
  .rw[DN,m1,GQ]
  .simp only[cK,Gj];rfl
 have x1:=zJ (((av c).map λi=>Fa.sa (Lt i) (Lt c)).map enc) (((An (mw W)).map λw=>Fa.mk w (Lt c)).map enc) .(17);rw[<-dP] at x1;obtain⟨y4,y5,e⟩:=YL (.fz (wob W)) c hc (An (tw W)) (((av c).map (λi=>Fa.sa (Lt i) (Lt c))++(An (mw W)).map λw=>Fa.mk w (Lt c)).map enc) .un .un .(17);rw[<-dP] at e;simp only[cK,Dp,Hn,R4,pl,R6,OJ,c1,c2,x1,DN,m2,GQ,e,Qm,Le,Ql,F]
def asI(W:Wl)(a:Fa):Sy:=if hd W ix a then .fa a else .no (.fa a)
theorem rG(W V:Wl)(P:Str->Nat)(a:Fa):tru V P (asI W a)=(hd V P a==hd W ix a):=by
 unfold asI;cases hd W ix a<;>simp[tru]
theorem rH(W:Wl)(h:WOk W)(g:List (Key×D))(a:Fa)(hk:Kn W a)(hp:∀x∈nms a,Pl W.n g ix x):Kh [wob W,enc a,.dk g]=some (encS (asI W a)):=by
 have so:=y_ W h g ix a hk hp;unfold asI;cases e:hd W ix a<;>rw[e] at so<;>simp only[cK,Kh,NT,so,if_true,dv,if_false,encS]
def hv(b:Bool):Nat->List Sy->Sy
 |0,_=>default
 |k+1,l=>if l.length=1 then l.headD default else .bo b (hv b k (l.take (l.length/2))) (hv b k (l.drop (l.length/2)))
theorem Wc{b:Bool}(M:Nat->List Sy->Sy->Prop)(h1:∀k s,M k [s] s)(h2:∀k l m s t,1<=l.length->1<=m.length->l.length=(l++m).length/2->M k l s->M k m t->M (k+1) (l++m) (.bo b s t)):
  ∀(k:Nat) (l:List Sy),1<=l.length->l.length<=2^k->M k l (hv b (k+1) l)
 |k,l,p,q=>by
  unfold hv
  by_cases e:l.length=1
  .rw[if_pos e];obtain⟨s,rfl⟩:=ED.mp e;exact h1 k s
  .rw[if_neg e];cases k with
   |zero=>simp at q;omega
   |succ k=>
    rw[Nat.pow_succ] at q;have a1:(l.take (l.length/2)).length=l.length/2:=by rw[kU];omega
    have a2:(l.drop (l.length/2)).length=l.length-l.length/2:=oQ;have:=h2 k (l.take (l.length/2)) (l.drop (l.length/2)) _ _ (by omega) (by omega) (by rw[zI];exact a1) (Wc M h1 h2 k _ (by omega) (by omega)) (Wc M h1 h2 k _ (by omega) (by omega))
    rwa [zI] at this
def srt(b:Bool):Str:=if b then "both" else "either"
theorem xM(b:Bool):∀(k:Nat) (l:List Sy),1<=l.length->l.length<=2^k->Ha (k+1) [.str (srt b),.lst (l.map encS)]=some (encS (hv b (k+1) l)):=by
 refine Wc (λk l s=>Ha (k+1) [.str (srt b),.lst (l.map encS)]=some (encS s)) (λk s=>?_) λk l m s t n1 n2 hl i1 i2=>?_
 .have e:lenE (.lst [encS s])=some (.int 1):=rfl;simp only[ciK,Ha,Lj,ba,ke,e,NB]
 .have e:lenE (.lst ((l++m).map encS))=some (.int ((l++m).length:Int)):=by rw[RL,aw]
  have e1:eqD false (.int ((l++m).length:Int)) (.int 1)=some .(8):=by
   rw[Uv,decide_eq_false];rw[cb];omega
  have e2:Dy (.int ((l++m).length:Int)) (.int 2)=some (.int (l.length:Int)):=by
   rw[GK _ _ (by decide) (by decide)];congr 2;omega
  have e3:slD (.lst ((l++m).map encS)) none (some (l.length:Int))=some (.lst (l.map encS)):=by
   show some (D.lst (cutD ((l++m).map encS) none (some (l.length:Int))))=_;rw[lE,List.take_left]
  have e4:slD (.lst ((l++m).map encS)) (some (l.length:Int)) none=some (.lst (m.map encS)):=by
   show some (D.lst (cutD ((l++m).map encS) (some (l.length:Int)) none))=_;rw[lF,List.drop_left]
  show runF 3 2 (Lj (Ha (k+1))) _=_;simp only[cK,Lj,e,e1,e2,e3,e4,i1,i2];rfl
def jn(b:Bool)(l:List Sy)(x:Str):Sy:=if l.length=0 then (if b then .fa (.sa x x) else .no (.fa (.sa x x))) else hv b 8 l
theorem Va(b:Bool)(l:List Sy)(x:Str)(hl:l.length<=100):Hh [.str (srt b),.lst (l.map encS),.str x]=some (encS (jn b l x)):=by
 have e:lenE (.lst (l.map encS))=some (.int (l.length:Int)):=by rw[RL,aw]
 unfold jn
 by_cases z:l.length=0
 .have e1:gtD (.int (l.length:Int)) (.int 0)=some .(8):=by rw[Qh,decide_eq_false (by omega)]
  have q1:eqD false (.str (srt b)) (.str "both")=some (.bl b):=by cases b<;>exact zE_ _
  rw[if_pos z];cases b<;>simp only[cK,Hh,Ou,e,e1,q1,if_true,dv,if_false,encS,enc]
 .have e1:gtD (.int (l.length:Int)) (.int 0)=some (.bl true):=by rw[Qh,decide_eq_true (by omega)]
  have h:=xM b 7 l (by omega) (by omega);rw[if_neg z];simp only[cK,Hh,Ou,e,e1,h]
def por(W:Wl):Nat->Nat->Sy
 |0,c=>.qu false (Lt c) (jn false ((av c).map λi=>.fa (.sa (Lt c) (Lt i))) (Lt c))
 |m+1,c=>.qu true (Lt c) (jn true ((F W c).map (asI W)++[por W m (c+1)]) (Lt c))
theorem Vb{W:Wl}{a:Fa}(h:a∈F W c):Kn W a/\∀x∈nms a,∃i,i<=c/\x=Lt i:=by
 unfold F at h
 rcases eD.mp h with h | h
 .rcases eD.mp h with h | h
  .obtain⟨i,hi,rfl⟩:=aI.mp h;have hi:=bv.mp hi;refine⟨trivial,λx hx=>?_⟩;simp only[nms,bb,mB,or_false] at hx
   rcases hx with rfl | rfl
   .exact⟨i,by omega,rfl⟩
   .exact⟨c,by omega,rfl⟩
  .obtain⟨w,hw,rfl⟩:=aI.mp h;refine⟨(Ay w _).mp hw,λx hx=>⟨c,by omega,?_⟩⟩;simpa [nms] using hx
 .obtain⟨w,hw,h⟩:=qo.mp h;have kw:w∈tw W:=(Ay w _).mp hw
  rcases bb.mp h with rfl | h
  .refine⟨kw,λx hx=>⟨c,by omega,?_⟩⟩;simpa [nms] using hx
  .obtain⟨i,hi,h⟩:=qo.mp h;have hi:=bv.mp hi;simp only[bb,mB,or_false] at h
   rcases h with rfl | rfl
   all_goals
    refine⟨kw,λx hx=>?_⟩;simp only[nms,bb,mB,or_false] at hx
    rcases hx with rfl | rfl
   .exact⟨i,by omega,rfl⟩
   .exact⟨c,by omega,rfl⟩
   .exact⟨c,by omega,rfl⟩
   .exact⟨i,by omega,rfl⟩
theorem YM{W:Wl}(h:WOk W)(c:Nat):(F W c).length<=6+7*c:=by
 have n1:=(dL.mp h.nd).1;have n2:=(dL.mp h.nd).2.1;have l1:(An (mw W)).length<=3:=ck (J6 n1) (by rw[aw];exact h.m3);have l2:(An (tw W)).length<=3:=ck (J6 n2) (by rw[aw];exact h.t3);have go:∀ws:List Str,(ws.flatMap λw=>Fa.ti w (Lt c) (Lt c)::tiF c w (av c)).length=ws.length*(1+2*c):=by
  intro ws
  induction ws with
  |nil=>simp
  |cons w ws ih=>
   rw[Ct,cb,ih,eR,Wb,eW,eR,Nat.add_mul];omega
 unfold F;rw[cb,cb,aw,aw,eW,go];have:(An (tw W)).length*(1+2*c)<=3*(1+2*c):=HM _ l2;omega
theorem xN(c:Nat)(h:c<=6):SQ (.int (c:Int))=some (.lst ((av c).map iN)):=lZ c (by omega)
def gz(c:Nat):List (Key×D):=kz LET .non ((av (c+1)).map iN)
theorem ZP(h:c<=5):JZ [.lst ((av (c+1)).map iN)]=some (.dk (gz c)):=by
 have e:dzD (.str LET) (.lst ((av (c+1)).map iN))=some (.dk (gz c)):=by
  show (if okZ LET ((av (c+1)).map iN).length then some (D.dk (gz c)) else none)=_;rw[if_pos];rw[aw,eW]
  rcases six (vj h) with rfl | rfl | rfl | rfl | rfl | rfl | rfl<;>decide +kernel
 have e:dzD .(6) (.lst ((av (c+1)).map iN))=some (.dk (gz c)):=e;simp only[cK,JZ,Li,e]
theorem xO(h:c<=5)(hi:i<=c):getK (.inr (Lt i):Key) (gz c)=some (.int (i:Int)):=by
 have nd:((gz c).map (·.1)).Nodup:=by
  unfold gz kz;rw[bX,aw,eW,lf,kD,wq];intro a b ha hb hab e;rw[eW] at ha hb;simp only[CA,AZ] at e;exact uH (by omega) (by omega) (bg hab) (by injection e)
 refine Om nd (aI.mpr ⟨i,bv.mpr .(17),?_⟩);rw[gT,be,C1 (by omega)];rfl
theorem nC(W:Wl)(h:WOk W):∀(m c k:Nat),m+c=W.n->m<k->A_ k [wob W,.int (c:Int)]=some (encS (por W m c))
 |m,c,0,_,hk=>absurd hk (by omega)
 |0,c,k+1,hm,_=>by
  have h5:=h.n5;have a1:=at_c (c:=c) (by omega);have e1:=YF c W.n;rw[decide_eq_true (by omega)] at e1;have cm:BV (seqA (slF (kF .(6)) noO (someO (vF 1)))) allT (E_ (A_ k)) [.fz (wob W),.fz (.int (c:Int)),.fz (.str (Lt c)),.un,.un]=some (.lst (((av c).map λi=>Sy.fa (.sa (Lt c) (Lt i))).map encS)):=by
   rw[bX];refine Il (av c) (λi=>.str (Lt i)) _ ?_ .(17) λi _=>?_
   .simp only[cK,DN,m9,Wa,T4 (c:=c) (by omega)]
   .simp only[cK,E_];rfl
  have jo:Hh [.str "either",_,_]=_:=Va false ((av c).map λi=>Sy.fa (.sa (Lt c) (Lt i))) (Lt c) .(17);simp only[cK,A_,Eb,a1,Tc,e1,cm,jo];rfl
 |m+1,c,k+1,hm,hk=>by
  have h5:=h.n5;have a1:=at_c (c:=c) (by omega);have e1:=YF c W.n;rw[decide_eq_false (by omega)] at e1;have ad:addD (.int (c:Int)) (.int 1)=some (.int ((c+1:Nat):Int)):=by rw[M8];rfl
  have rg:=xN (c+1) (by omega);have pl:=ZP (c:=c) (by omega);have la:=rF W h c (by omega);have cm:BV (seqA (Ai Dp (Aa (vF 0) (Aa (slF (kF .(6)) noO (someO (bF addD (vF 1) .(5)))) nilA)))) allT (FJ (A_ k)) [.fz (wob W),.fz (.int (c:Int)),.fz (.str (Lt c)),.fz (.dk (gz c)),.un]=some (.lst (((F W c).map (asI W)).map encS)):=by
   rw[bX];refine Il (F W c) enc _ ?_ (by have:=YM h c;omega) λa ha=>?_
   .simp only[cK,DN,ad,m9,la,GQ]
   .have as:=rH W h (gz c) a (Vb ha).1 λx hx=>by
     obtain⟨i,hi,rfl⟩:=(Vb ha).2 x hx;rw[Pl,Ly i (by omega)];exact⟨xO (by omega) hi,by omega⟩
    simp only[cK,FJ,as];rfl
  have ih:=nC W h m (c+1) k (by omega) (by omega);have al:addD (.lst (((F W c).map (asI W)).map encS)) (.lst [encS (por W m (c+1))])=some (.lst (((F W c).map (asI W)++[por W m (c+1)]).map encS)):=by
   rw[Vx (by have:=YM h c;simp;omega),dP];rfl
  have jo:Hh [.str "both",_,_]=_:=Va true ((F W c).map (asI W)++[por W m (c+1)]) (Lt c) (by have:=YM h c;simp;omega);simp only[cK,A_,Eb,a1,Tc,e1,ad,rg,pl,cm,ih,al,jo];rfl
theorem Qz(W:Wl)(h:WOk W):G8 [wob W]=some (encS (por W W.n 0)):=by
 have p:A_ 7 [wob W,.int 0]=_:=nC W h W.n 0 7 (by omega) (by have:=h.n5;omega);simp only[cK,G8,NZ,p]
theorem Qa{b:Bool}(M:Nat->List Sy->Sy->Prop)(h1:∀k s,M k [s] s)(h2:∀k l m s t,1<=l.length->1<=m.length->M k l s->M k m t->M (k+1) (l++m) (.bo b s t))(x:Str)(l:List Sy)(hl:l.length<=100)(h0:l=[]->M 7 l (jn b [] x)):M 7 l (jn b l x):=by
 unfold jn
 by_cases e:l.length=0
 .obtain rfl:=zf.mp e;exact h0 rfl
 .rw[if_neg e];exact Wc M h1 (λk l m s t n1 n2 _ p q=>h2 k l m s t n1 n2 p q) 7 l (by omega) (by omega)
theorem uI(U:Wl){b:Bool}{x:Str}{l:List Sy}(hl:l.length<=100)(hx:Nm x)(h:∀y∈l,KnS U y):KnS U (jn b l x):=
 Qa (λ_ l s=>(∀y∈l,KnS U y)->KnS U s) (λ_ s h=>h s (by simp)) (λ_ l m s t _ _ p q h=>⟨p λy hy=>h y (by simp[hy]),q λy hy=>h y (by simp[hy])⟩) x l hl (λ_ _=>by
  have:∀y∈nms (.sa x x),Nm y:=λy hy=>by
   simp only[nms,bb,mB,or_false,or_self] at hy;rw[hy];exact hx
  cases b
  .exact⟨trivial,this⟩
  .exact⟨trivial,this⟩) h
theorem nD{b:Bool}{l:List Sy}(hl:l.length<=100){n:Nat}(hn:2<=n)(h:∀y∈l,hgt y<=n):hgt (jn b l x)<=n+7:=
 Qa (λk l s=>(∀y∈l,hgt y<=n)->hgt s<=n+k) (λk s h=>by have:=h s (by simp);omega) (λk l m s t _ _ p q h=>by
  have:=p λy hy=>h y (by simp[hy]);have:=q λy hy=>h y (by simp[hy]);simp only[hgt];omega) x l hl (λ_ _=>by cases b<;>simp[jn,hgt]<;>omega) h
theorem nF{b:Bool}{l:List Sy}(hl:l.length<=100){n:Nat}(h:∀y∈l,dpt y<=n):dpt (jn b l x)<=n:=
 Qa (λk l s=>(∀y∈l,dpt y<=n)->dpt s<=n) (λk s h=>h s (by simp)) (λk l m s t _ _ p q h=>by
  have:=p λy hy=>h y (by simp[hy]);have:=q λy hy=>h y (by simp[hy]);simp only[dpt];omega) x l hl (λ_ _=>by cases b<;>simp[jn,dpt]) h
theorem uJ{b:Bool}{l:List Sy}(hl:l.length<=100):pt (jn b l x)<=(l.map pt).sum+l.length+2:=by
 by_cases e:l=[]
 .subst e;cases b<;>simp[jn,pt]
 .have:pt (jn b l x)+1=(l.map pt).sum+l.length:=
   Qa (λk l s=>1<=l.length->pt s+1=(l.map pt).sum+l.length) (λk s _=>by simp) (λk l m s t n1 n2 p q _=>by
    have:=p n1;have:=q n2;simp only[pt,dP,Ic,cb];omega) x l hl (λz=>absurd z e) (List.length_pos_iff.mpr e)
  omega
theorem uK{b:Bool}{l:List Sy}(hl:l.length<=100):∀z∈fr (jn b l x),z=x∨∃y∈l,z∈fr y:=
 Qa (λ_ l s=>∀z∈fr s,z=x∨∃y∈l,z∈fr y) (λ_ s z hz=>.inr ⟨s,by simp,hz⟩) (λ_ l m s t _ _ p q z hz=>by
  rcases eD.mp hz with hz | hz
  .rcases p z hz with e | ⟨y,hy,h⟩
   .exact .inl e
   .exact .inr ⟨y,by simp[hy],h⟩
  .rcases q z hz with e | ⟨y,hy,h⟩
   .exact .inl e
   .exact .inr ⟨y,by simp[hy],h⟩) x l hl (λ_ z hz=>.inl (by cases b<;>simpa [jn,fr,nms] using hz))
theorem xP{W U:Wl}{a:Fa}(h:Kn U a/\∀x∈nms a,Nm x):KnS U (asI W a):=by unfold asI;split<;>exact h
theorem rJ(W:Wl)(a:Fa):hgt (asI W a)<=2:=by unfold asI;split<;>simp[hgt]
theorem rK(W:Wl)(a:Fa):dpt (asI W a)=0:=by unfold asI;split<;>simp[dpt]
theorem xQ(W:Wl)(a:Fa):pt (asI W a)<=2:=by unfold asI;split<;>simp[pt]
theorem xR(W:Wl)(a:Fa):fr (asI W a)=nms a:=by unfold asI;split<;>rfl
theorem zK{W U:Wl}(h:Sp W U){a:Fa}(k:Kn W a):Kn U a:=by
 cases a with
 |mk w x=>exact h.mm w k
 |ti w x y=>exact h.tt w k
 |sa x y=>trivial
theorem Vc{W:Wl}(h:WOk W){c:Nat}(hc:c<=5)(s:Sy):((F W c).map (asI W)++[s]).length<=100:=by have:=YM h c;simp;omega
theorem T5{W U:Wl}(h:WOk W)(hs:Sp W U):∀m c,m+c<=5->KnS U (por W m c)
 |0,c,hc=>by
  refine⟨T3 (by omega),uI U .(17) (T3 (by omega)) λy hy=>?_⟩;obtain⟨i,hi,rfl⟩:=aI.mp hy;have hi:=bv.mp hi;refine⟨trivial,λx hx=>?_⟩;simp only[nms,bb,mB,or_false] at hx
  rcases hx with rfl | rfl
  .exact T3 (by omega)
  .exact T3 (by omega)
 |m+1,c,hc=>by
  refine⟨T3 (by omega),uI U (Vc h (by omega) _) (T3 (by omega)) λy hy=>?_⟩
  rcases eD.mp hy with hy | hy
  .obtain⟨a,ha,rfl⟩:=aI.mp hy;refine xP ⟨zK hs (Vb ha).1,λx hx=>?_⟩;obtain⟨i,hi,rfl⟩:=(Vb ha).2 x hx;exact T3 (by omega)
  .rw[gL.mp hy];exact T5 h hs m (c+1) (by omega)
theorem We{W:Wl}(h:WOk W):∀m c,m+c<=5->hgt (por W m c)<=8*m+10
 |0,c,hc=>by
  have:=nD (b:=false) (x:=Lt c) (l:=(av c).map λi=>Sy.fa (.sa (Lt c) (Lt i))) .(17) (n:=2) (by omega) λy hy=>by
   obtain⟨i,hi,rfl⟩:=aI.mp hy;simp[hgt]
  simp only[por,hgt];omega
 |m+1,c,hc=>by
  have ih:=We h m (c+1) (by omega);have:=nD (b:=true) (x:=Lt c) (Vc h (c:=c) (by omega) (por W m (c+1))) (n:=8*m+10) (by omega) λy hy=>by
   rcases eD.mp hy with hy | hy
   .obtain⟨a,ha,rfl⟩:=aI.mp hy;have:=rJ W a;omega
   .rw[gL.mp hy];exact ih
  simp only[por,hgt];omega
theorem Wf{W:Wl}(h:WOk W):∀m c,m+c<=5->dpt (por W m c)<=m+1
 |0,c,hc=>by
  have:=nF (b:=false) (x:=Lt c) (l:=(av c).map λi=>Sy.fa (.sa (Lt c) (Lt i))) .(17) (n:=0) λy hy=>by
   obtain⟨i,hi,rfl⟩:=aI.mp hy;simp[dpt]
  simp only[por,dpt];omega
 |m+1,c,hc=>by
  have ih:=Wf h m (c+1) (by omega);have:=nF (b:=true) (x:=Lt c) (Vc h (c:=c) (by omega) (por W m (c+1))) (n:=m+1) λy hy=>by
   rcases eD.mp hy with hy | hy
   .obtain⟨a,ha,rfl⟩:=aI.mp hy;have:=rK W a;omega
   .rw[gL.mp hy];exact ih
  simp only[por,dpt];omega
theorem ZQ{α:Type}(f:α->Nat)(n:Nat):∀l:List α,(∀x∈l,f x<=n)->(l.map f).sum<=n*l.length
 |[],_=>by simp
 |a::l,h=>by
  have:=ZQ f n l λx hx=>h x (by simp[hx]);have:=h a (by simp);simp only[ba,Iq,eR,Nat.mul_add];omega
def bp:Nat->Nat->Nat
 |0,c=>2*c+3
 |m+1,c=>22+21*c+bp m (c+1)
theorem nG{W:Wl}(h:WOk W):∀m c,m+c<=5->pt (por W m c)<=bp m c
 |0,c,hc=>by
  have:=uJ (b:=false) (x:=Lt c) (l:=(av c).map λi=>Sy.fa (.sa (Lt c) (Lt i))) .(17);have:=ZQ pt 1 ((av c).map λi=>Sy.fa (.sa (Lt c) (Lt i))) λy hy=>by
   obtain⟨i,hi,rfl⟩:=aI.mp hy;simp[pt]
  simp only[aw,eW] at *;simp only[por,pt,bp];omega
 |m+1,c,hc=>by
  have ih:=nG h m (c+1) (by omega);have fl:=YM h c;have:=uJ (b:=true) (x:=Lt c) (Vc h (c:=c) (by omega) (por W m (c+1)));have:=ZQ pt 2 ((F W c).map (asI W)) λy hy=>by
   obtain⟨a,ha,rfl⟩:=aI.mp hy;exact xQ W a
  simp only[aw,cb,dP,Ic,ba,ke,Iq,List.sum_nil,eR,DV] at *;simp only[por,pt,bp];omega
theorem ZR{W:Wl}(h:WOk W):∀m c,m+c<=5->∀z∈fr (por W m c),∃i,i<c/\z=Lt i
 |0,c,hc,z,hz=>by
  obtain⟨hz,ne⟩:=eC.mp hz;have ne:z≠Lt c:=by simpa using ne
  rcases uK .(17) z hz with e | ⟨y,hy,h⟩
  .exact absurd e ne
  .obtain⟨i,hi,rfl⟩:=aI.mp hy;simp only[fr,nms,bb,mB,or_false] at h
   rcases h with e | e
   .exact absurd e ne
   .exact⟨i,bv.mp hi,e⟩
 |m+1,c,hc,z,hz=>by
  obtain⟨hz,ne⟩:=eC.mp hz;have ne:z≠Lt c:=by simpa using ne
  have core:∀i,i<=c->z=Lt i->∃i,i<c/\z=Lt i:=λi hi e=>by
   by_cases q:i=c
   .subst q;exact absurd e ne
   .exact⟨i,by omega,e⟩
  rcases uK (Vc h (by omega) _) z hz with e | ⟨y,hy,h'⟩
  .exact absurd e ne
  .rcases eD.mp hy with hy | hy
   .obtain⟨a,ha,rfl⟩:=aI.mp hy;rw[xR] at h';obtain⟨i,hi,e⟩:=(Vb ha).2 z h';exact core i hi e
   .rw[gL.mp hy] at h';obtain⟨i,hi,e⟩:=ZR h m (c+1) (by omega) z h';exact core i (by omega) e
def P3(W V:Wl)(fs:List Nat)(x:Nat):Bool:=(!decide (x∈fs))&&(prs fs++[(fs.length,x)]).all λp=>decide (Dl W p.1 fs.length=Dl V p.2 x)
theorem rM(fs:List Nat):(prs fs).map (·.2)=fs:=by
 unfold prs;rw[bX];refine zq (by simp) λi h1 h2=>?_;simp[h2]
theorem nH(x:Nat)(l:List Nat):inF true (.int (x:Int)) (.lst (l.map iN))=some (.bl (!decide (x∈l))):=by
 have e:=WP x l;rw[WX] at e;have e:((flVs (l.map iN)).map λvs=>D.bl (inV (.int (x:Int)) vs))=some (.bl (decide (x∈l))):=e;show ((flVs (l.map iN)).map λvs=>D.bl (!inV (.int (x:Int)) vs))=_;cases q:flVs (l.map iN) with
 |none=>rw[q] at e;cases e
 |some vs=>
  rw[q] at e;have e:inV (.int (x:Int)) vs=decide (x∈l):=by simpa using e
  rw[<-e];rfl
theorem Y9(W V:Wl)(h:WOk W)(hv:WOk V):∀(k:Nat) (fs:List Nat),W.n<k+fs.length->fs.length<=W.n ->
    CT k [wd W,wd V,.lst ((prs fs).map pN)]=some (.bl (dfs (P3 W V) W.n V.n k fs).isSome)
  |0,fs,hk,hl=>by omega
  |k+1,fs,hk,hl=>by
    have i0:=ixw0 W;have j0:=ixw0 V;have hp:(prs fs).length=fs.length:=by simp[prs]
    have le:=wg (prs fs);rw[hp] at le;have eq:=YF fs.length W.n;have n5:=h.n5;have v5:=hv.n5;unfold dfs
    by_cases z:fs.length=W.n
    . rw[if_pos z]
      rw[decide_eq_true z] at eq;simp only[cK,CT,Kp,le,i0,eq];rfl
    . rw[if_neg z]
      rw[decide_eq_false z] at eq;have cm:BV (seqA (vF 2)) allT (Ko (CT k)) [.fz (wd W),.fz (wd V),.fz (.lst ((prs fs).map pN)),.fz (iN fs.length),.un,.un]=some (lN fs):=by
        have e:lN fs=.lst ((prs fs).map λp=>iN p.2):=by
          conv=>lhs;rw[<-rM fs]
          unfold lN;rw[bX];rfl
        rw[e];refine Il (prs fs) pN _ ?_ (by omega) λr _=>?_
        . simp only[cK,DN,GQ]
        . have a1:=ixp1 r
          simp only[cK,Ko,a1]
      have step:∀(xs:List Nat) (z5:PV.Slot),∃y5,forF (tgB (BK 5) (Ia (CT k))) (xs.map iN) [.fz (wd W),.fz (wd V),.fz (.lst ((prs fs).map pN)),.fz (iN fs.length),.fz (lN fs),z5] =
          some (if (xs.findSome? λx=>if P3 W V fs x=true then dfs (P3 W V) W.n V.n k (fs++[x]) else none).isSome=true then .rt (.bl true) [.fz (wd W),.fz (wd V),.fz (.lst ((prs fs).map pN)),.fz (iN fs.length),.fz (lN fs),y5]
            else .nx [.fz (wd W),.fz (wd V),.fz (.lst ((prs fs).map pN)),.fz (iN fs.length),.fz (lN fs),y5]):=by
        intro xs
        induction xs with
        |nil=>intro z5;exact⟨z5,rfl⟩
        |cons x xs ih=>
          intro z5;have ni:inF true (.int (x:Int)) (lN fs)=_:=nH x fs;have bs:=dR W V h hv (prs fs) (by rw[hp];omega) (fs.length,x);have bs:Fb [wd W,wd V,.lst ((prs fs).map pN),.tup [.int (fs.length:Int),.int (x:Int)]]=some (.bl ((prs fs++[(fs.length,x)]).all λp=>decide (Dl W p.1 fs.length=Dl V p.2 x))):=bs;rw[ba,G5,e_tg,LR,LQ,List.findSome?_cons];simp only[sM,sN];have st:Ia (CT k) [.fz (wd W),.fz (wd V),.fz (.lst ((prs fs).map pN)),.fz (iN fs.length),.fz (lN fs),.fz (iN x)]=iteO (some (P3 W V fs x)) (ifS (trF (Ai (CT k) (Aa (vF 0) (Aa (vF 1) (Aa (bF addD (vF 2) (lstF (Aa (tupF (Aa (vF 3) (Aa (vF 5) nilA))) nilA))) nilA))))) (retF (kF (.bl true))) nxF) nxF [.fz (wd W),.fz (wd V),.fz (.lst ((prs fs).map pN)),.fz (iN fs.length),.fz (lN fs),.fz (iN x)]:=by
            unfold P3 Ia;rw[e_if];congr 1;simp only[cK,ni];cases !decide (x∈fs) with
            |false=>rfl
            |true=>simp only[cK,bs,wf]
          rw[st];cases hP:P3 W V fs x with
          |false=>
            obtain⟨y5,e⟩:=ih (.fz (iN x));refine⟨y5,?_⟩;rw[iJ,iG,Cu,e];rfl
          |true=>
            have rc:=Y9 W V h hv k (fs++[x]) (by rw[cb,ky];omega) (by rw[cb,ky];omega);have a1:addD (.lst ((prs fs).map pN)) (.lst [.tup [.int (fs.length:Int),.int (x:Int)]])=some (.lst ((prs (fs++[x])).map pN)):=by
              rw[Vx (by rw[aw,hp];simp;omega),mX,dP];rfl
            rw[iH];simp only[cK,a1,rc];cases hd:dfs (P3 W V) W.n V.n k (fs++[x]) with
            |none=>
              obtain⟨y5,e⟩:=ih (.fz (iN x));refine⟨y5,?_⟩;simp only[cK,FC];rw[e,if_pos trivial]
            |some gs=>
              refine⟨.fz (iN x),?_⟩;simp only[cK,p9,if_true]
      obtain⟨y5,e⟩:=step (av V.n) .un;have e6:=Ir (V.n:Int) (by omega);rw[df] at e6;have er:rngD V.n=(av V.n).map iN:=rfl;rw[er] at e6;simp only[cK,CT,Kp,le,i0,j0,eq,cm,e6,e];cases ((av V.n).findSome? λx=>if P3 W V fs x=true then dfs (P3 W V) W.n V.n k (fs++[x]) else none).isSome<;>rfl
theorem nJ(V:Wl)(P:Str->Nat)(b:Bool)(x:Str)(l:List Sy)(hl:l.length<=100):tru V P (jn b l x)=(if b then l.all (tru V P) else l.any (tru V P)):=
 Qa (λ_ l s=>tru V P s=(if b then l.all (tru V P) else l.any (tru V P))) (λ_ s=>by cases b<;>simp) (λ_ l m s t _ _ p q=>by
  simp only[tru,p,q];cases b<;>simp) x l hl (λe=>by subst e;cases b<;>simp[jn,tru,hd])
theorem nM{V:Wl}{P Q:Str->Nat}{a:Fa}(h:∀x∈nms a,P x=Q x):hd V P a=hd V Q a:=by
 cases a with
 |mk w x=>simp only[hd,h x (by simp[nms])]
 |ti w x y=>simp only[hd,h x (by simp[nms]),h y (by simp[nms])]
 |sa x y=>simp only[hd,h x (by simp[nms]),h y (by simp[nms])]
def Ext(W V:Wl)(c m:Nat)(v:Nat->Nat):Prop:=(∀j,c<=j->j<c+m->v j<V.n/\∀a∈F W j,hd V (λx=>v (ix x)) a=hd W ix a)/\∀t,t<V.n->∃i,i<c+m/\v i=t
theorem up_eq(P:Str->Nat)(x:Str)(k:Nat):up P x k x=k:=by simp[up]
theorem bR(P:Str->Nat){i c:Nat}(k:Nat)(hc:c<26)(hi:i<c):up P (Lt c) k (Lt i)=P (Lt i):=by
 unfold up;rw[if_neg (uH (by omega) hc (by omega))]
theorem Wg{W V:Wl}(h:WOk W):∀(m c:Nat) (P:Str->Nat),m+c<=5->(tru V P (por W m c)=true↔∃v:Nat->Nat,(∀i,i<c->v i=P (Lt i))/\Ext W V c m v)
 |0,c,P,hc=>by
  have key:∀k,tru V (up P (Lt c) k) (jn false ((av c).map λi=>.fa (.sa (Lt c) (Lt i))) (Lt c))=true↔∃i,i<c/\P (Lt i)=k:=λk=>by
   rw[nJ _ _ _ _ _ .(17)];simp only[dv,if_false,qa,qh,bv,CA,tru,hd,decide_eq_true_eq,up_eq];constructor
   .rintro⟨i,hi,e⟩;rw[bR P k (by omega) hi] at e;exact⟨i,hi,e.symm⟩
   .rintro⟨i,hi,e⟩;exact⟨i,hi,by rw[bR P k (by omega) hi,e]⟩
  simp only[por,tru,dv,if_false,gg,bv,key];constructor
  .intro q;exact⟨λi=>P (Lt i),λ_ _=>rfl,λj h1 h2=>absurd h2 (by omega),λt ht=>by obtain⟨i,hi,e⟩:=q t ht;exact⟨i,by omega,e⟩⟩
  .rintro⟨v,hv,_,q⟩ t ht;obtain⟨i,hi,e⟩:=q t ht;exact⟨i,by omega,by rw[<-hv i (by omega),e]⟩
 |m+1,c,P,hc=>by
  have key:∀k,tru V (up P (Lt c) k) (jn true ((F W c).map (asI W)++[por W m (c+1)]) (Lt c))=true↔(∀a∈F W c,hd V (up P (Lt c) k) a=hd W ix a)/\∃v:Nat->Nat,(∀i,i<c+1->v i=up P (Lt c) k (Lt i))/\Ext W V (c+1) m v:=λk=>by
   rw[nJ _ _ _ _ _ (Vc h (by omega) _),<-Wg h m (c+1) _ (by omega)];simp only[if_true,Iy,Ee,nB,IA,rL,gd,gg,CA,rG,beq_iff_eq]
  have nm:∀(v:Nat->Nat) (k:Nat),(∀i,i<c+1->v i=up P (Lt c) k (Lt i))->∀a∈F W c,hd V (λx=>v (ix x)) a=hd V (up P (Lt c) k) a:=λv k hv a ha=>nM λx hx=>by
   obtain⟨i,hi,rfl⟩:=(Vb ha).2 x hx;rw[Ly i (by omega)];exact hv i (by omega)
  simp only[por,tru,if_true,qh,bv,key];constructor
  .rintro⟨k,hk,fa,v,hv,e1,e2⟩;have vc:v c=k:=by rw[hv c (by omega),up_eq]
   refine⟨v,λi hi=>by rw[hv i (by omega),bR P k (by omega) hi],λj h1 h2=>?_,λt ht=>?_⟩
   .by_cases z:j=c
    .subst z;exact⟨by rw[vc];exact hk,λa ha=>by rw[nm v k hv a ha];exact fa a ha⟩
    .exact e1 j (by omega) (by omega)
   .obtain⟨i,hi,e⟩:=e2 t ht;exact⟨i,by omega,e⟩
  .rintro⟨v,hv,e1,e2⟩;have hw:∀i,i<c+1->v i=up P (Lt c) (v c) (Lt i):=λi hi=>by
    by_cases z:i=c
    .subst z;rw[up_eq]
    .rw[bR P _ (by omega) (by omega)];exact hv i (by omega)
   have ec:=e1 c (by omega) (by omega);refine⟨v c,ec.1,λa ha=>by rw[<-nm v _ hw a ha];exact ec.2 a ha,v,hw,λj h1 h2=>e1 j (by omega) (by omega),λt ht=>?_⟩;obtain⟨i,hi,e⟩:=e2 t ht;exact⟨i,by omega,e⟩
theorem YQ{W:Wl}(h:WOk W)(P:Str->Nat):tru W P (por W W.n 0)=true:=
 (Wg h W.n 0 P (by have:=h.n5;omega)).mpr ⟨id,λi hi=>absurd hi (by omega),λj _ hj=>⟨by simpa using hj,λa ha=>rfl⟩,λt ht=>⟨t,by simpa using ht,rfl⟩⟩
theorem uL{W V:Wl}(v:Nat->Nat)(j:Nat)(hj:j<26):(∀a∈F W j,hd V (λx=>v (ix x)) a=hd W ix a) ↔
  (∀i,i<j->v i≠v j)/\bJ W V (j,v j)=true/\Tp W V (j,v j) (j,v j)=true/\∀i,i<j->Tp W V (i,v i) (j,v j)=true/\Tp W V (j,v j) (i,v i)=true:=by
 have ij:=Ly j hj;unfold bJ Tp;simp only[gg,beq_iff_eq];constructor
 .intro q;have q1:∀w∈tw W,∀a∈Fa.ti w (Lt j) (Lt j)::tiF j w (av j),a∈F W j:=λw hw a ha=>eP _ (qo.mpr ⟨w,(Ay w _).mpr hw,ha⟩);refine⟨λi hi=>?_,λw hw=>?_,λw hw=>?_,λi hi=>⟨λw hw=>?_,λw hw=>?_⟩⟩
  .have:=q (.sa (Lt i) (Lt j)) (gy _ (gy _ (aI.mpr ⟨i,bv.mpr hi,rfl⟩)));simp only[hd,ij,Ly i (by omega)] at this;rw[decide_eq_false (bg hi)] at this;exact of_decide_eq_false this
  .have:=q (.mk w (Lt j)) (gy _ (eP _ (aI.mpr ⟨w,(Ay w _).mpr hw,rfl⟩)));simp only[hd,ij] at this;exact this.symm
  .have:=q (.ti w (Lt j) (Lt j)) (q1 w hw _ (by simp));simp only[hd,ij] at this;exact this.symm
  .have:=q (.ti w (Lt i) (Lt j)) (q1 w hw _ (bE _ (qo.mpr ⟨i,bv.mpr hi,by simp⟩)));simp only[hd,ij,Ly i (by omega)] at this;exact this.symm
  .have:=q (.ti w (Lt j) (Lt i)) (q1 w hw _ (bE _ (qo.mpr ⟨i,bv.mpr hi,by simp⟩)));simp only[hd,ij,Ly i (by omega)] at this;exact this.symm
 .rintro⟨q1,q2,q3,q4⟩ a ha;unfold F at ha
  rcases eD.mp ha with ha | ha
  .rcases eD.mp ha with ha | ha
   .obtain⟨i,hi,rfl⟩:=aI.mp ha;have hi:=bv.mp hi;simp only[hd,ij,Ly i (by omega)];rw[decide_eq_false (q1 i hi),decide_eq_false (bg hi)]
   .obtain⟨w,hw,rfl⟩:=aI.mp ha;simp only[hd,ij];exact (q2 w ((Ay w _).mp hw)).symm
  .obtain⟨w,hw,ha⟩:=qo.mp ha;have hw:w∈tw W:=(Ay w _).mp hw
   rcases bb.mp ha with rfl | ha
   .simp only[hd,ij];exact (q3 w hw).symm
   .obtain⟨i,hi,ha⟩:=qo.mp ha;have hi:=bv.mp hi;simp only[bb,mB,or_false] at ha
    rcases ha with rfl | rfl
    .simp only[hd,ij,Ly i (by omega)];exact ((q4 i hi).1 w hw).symm
    .simp only[hd,ij,Ly i (by omega)];exact ((q4 i hi).2 w hw).symm
theorem nsub:∀{l m:List Nat},l.Nodup->(∀x∈l,x∈m)->l.length<=m.length
 |[],_,_,_=>dQ _
 |x::r,m,h,hs=>by
  obtain⟨h1,h2⟩:=i6.mp h;have hx:x∈m:=hs x cS;have:=nsub (l:=r) (m:=m.erase x) h2 λy hy=>(BA (λe=>by subst e;exact h1 hy)).mpr (hs y (bE _ hy));rw[BB hx] at this;have hp:0<m.length:=BC hx;simp;omega
theorem bT{gs:List Nat}(hj:j<=gs.length){p:Pr}:p∈prs (gs.take j)↔∃i x,i<j/\gs[i]?=some x/\p=(i,x):=by
 unfold prs;rw[kU,vT hj];constructor
 .intro h;obtain⟨i,hi,rfl⟩:=aI.mp h;have hi:=bv.mp hi;refine⟨i,gs[i]'(by omega),hi,cf (by omega),?_⟩;rw[gT,yi hi,cf (by omega)];rfl
 .rintro⟨i,x,hi,hx,rfl⟩;refine aI.mpr ⟨i,bv.mpr hi,?_⟩;rw[gT,yi hi,hx];rfl
theorem nO{W V:Wl}(hs:Spk W V)(gs:List Nat){j x:Nat}(hx:gs[j]?=some x):P3 W V (gs.take j) x=true↔(x∉gs.take j/\bJ W V (j,x)=true/\Tp W V (j,x) (j,x)=true/\∀i y,i<j->gs[i]?=some y->Dl W i j=Dl V y x):=by
 have hj:j<gs.length:=(d6.mp hx).1;unfold P3;rw[kU,vT (by omega),gd,Iy,gd,gg];have sf:=QZ hs (j,x) (j,x);simp only[Bool.not_eq_true',decide_eq_false_iff_not,nB,IA,rL,decide_eq_true_eq,sf,true_and];constructor
 .rintro⟨a,b,c,d,_⟩;exact⟨a,c,d,λi y hi hy=>b (i,y) ((bT (by omega)).mpr ⟨i,y,hi,hy,rfl⟩)⟩
 .rintro⟨a,c,d,b⟩;refine⟨a,λp hp=>?_,c,d,d⟩;obtain⟨i,y,hi,hy,rfl⟩:=(bT (by omega)).mp hp;exact b i y hi hy
theorem rN{W V:Wl}(hs:Spk W V)(h5:W.n<=5):(∃v,Ext W V 0 W.n v)↔(W.n=V.n/\∃gs,Way (P3 W V) W.n V.n [] gs):=by
 constructor
 .rintro⟨v,e1,e2⟩;simp only[kB] at e1 e2;have fj:∀j,j<W.n->_:=λj hj=>(uL (W:=W) (V:=V) v j (by omega)).mp (e1 j (dQ _) hj).2;have at_:∀{j x},((av W.n).map v)[j]?=some x->j<W.n/\v j=x:=λ{j x} hx=>by
   obtain⟨h1,h2⟩:=d6.mp hx;simp only[aw,eW] at h1;exact⟨h1,by simpa using h2⟩
  have nd:((av W.n).map v).Nodup:=by
   rw[lf,kD,wq];intro a b ha hb hab;simp only[eW] at ha hb;simp only[AZ];exact (fj b hb).1 a hab
  have le1:=nsub nd (m:=av V.n) λx hx=>by
   obtain⟨j,hj,rfl⟩:=aI.mp hx;exact bv.mpr (e1 j (dQ _) (bv.mp hj)).1
  have le2:=nsub zx (l:=av V.n) (m:=(av W.n).map v) λt ht=>by
   obtain⟨i,hi,e⟩:=e2 t (bv.mp ht);exact aI.mpr ⟨i,bv.mpr hi,e⟩
  simp only[aw,eW] at le1 le2;refine⟨by omega,(av W.n).map v,by simp,rfl,λj x _ hx=>?_,λj x _ hx=>?_⟩
  .obtain⟨hj,rfl⟩:=at_ hx;exact (e1 j (dQ _) hj).1
  .have hx':=hx;obtain⟨hj,rfl⟩:=at_ hx;obtain⟨f1,f2,f3,f4⟩:=fj j hj;refine (nO hs _ hx').mpr ⟨λm=>?_,f2,f3,λi y hi hy=>?_⟩
   .rw[<-C8,List.take_range,vT (by omega)] at m;obtain⟨i,hi,e⟩:=aI.mp m;exact f1 i (bv.mp hi) e
   .obtain⟨_,rfl⟩:=at_ hy;exact (QZ hs (i,v i) (j,v j)).mpr ⟨by rw[decide_eq_false (bg hi),decide_eq_false (f1 i hi)],(fj i (by omega)).2.1,(f4 i hi).1,(f4 i hi).2⟩
 .rintro⟨en,gs,w⟩;have hl:=w.len;have at_:∀j,j<W.n->gs[j]?=some (gs.getD j 0):=λj hj=>by
   rw[gT,cf (by omega)];rfl
  have pj:∀j,j<W.n->_:=λj hj=>(nO hs gs (at_ j hj)).mp (w.ok j _ (dQ _) (at_ j hj));have ne:∀i j,i<j->j<W.n->gs.getD i 0≠gs.getD j 0:=λi j hi hj e=>by
   refine (pj j hj).1 (List.mem_iff_getElem?.mpr ⟨i,?_⟩);rw[yi hi,at_ i (by omega),e]
  refine⟨λi=>gs.getD i 0,λj _ hj=>?_,λt ht=>?_⟩
  .rw[kB] at hj;obtain⟨f1,f2,f3,f4⟩:=pj j hj;refine⟨w.lt j _ (dQ _) (at_ j hj),(uL _ j (by omega)).mpr ⟨λi hi=>ne i j hi hj,f2,f3,λi hi=>?_⟩⟩;have:=(QZ hs (i,gs.getD i 0) (j,gs.getD j 0)).mp (f4 i _ hi (at_ i (by omega)));exact⟨this.2.2.1,this.2.2.2⟩
  .have nd:gs.Nodup:=by
    rw[lf,wq];intro a b ha hb hab e;refine ne a b hab (by omega) ?_;simp[ha,hb,e]
   by_cases m:t∈gs
   .obtain⟨i,hi,e⟩:=IB.mp m;exact⟨i,by omega,by simp[hi,e]⟩
   .have:=nsub (l:=t::gs) (m:=av V.n) (i6.mpr ⟨m,nd⟩) λx hx=>by
     rcases bb.mp hx with rfl | hx
     .exact bv.mpr ht
     .obtain⟨i,hi,e⟩:=IB.mp hx;exact bv.mpr (w.lt i x (dQ _) (by simp[hi,e]))
    simp only[eR,eW] at this;omega
theorem RX(n:Nat)(x:Str):eqK n (.str x) (.str x)=some true:=by
 have f:flD (.str x) (.str x)=some true:=by
  show some (eqV (.str x) (.str x))=_;simp[eqV]
 cases n<;>exact f
theorem Vd{f:D->D->Option Bool}:∀{l:List D},(∀d∈l,f d d=some true)->allO f l l=some true
 |[],_=>rfl
 |d::l,h=>by
  unfold allO;rw[h d (by simp),Vd λe he=>h e (by simp[he])];rfl
theorem RZ{l:List D}(h:∀d∈l,eqK n d d=some true):eqK (n+1) (.tup l) (.tup l)=some true:=by
 show (if l.length=l.length then allO (eqK n) l l else none)=_;rw[if_pos rfl,Vd h]
theorem Pb:∀(s:Sy) (n:Nat),hgt s<=n->eqK n (encS s) (encS s)=some true
 |.fa a,n,h=>by
  obtain⟨n,rfl⟩:∃m,n=m+1:=⟨n-1,by simp[hgt] at h;omega⟩;cases a<;>exact RZ (by simp[RX])
 |.no s,n,h=>by
  obtain⟨n,rfl⟩:∃m,n=m+1:=⟨n-1,by simp[hgt] at h;omega⟩;exact RZ (by simp[RX,Pb s n (by simp only[hgt] at h;omega)])
 |.bo b s t,n,h=>by
  obtain⟨n,rfl⟩:∃m,n=m+1:=⟨n-1,by simp[hgt] at h;omega⟩;exact RZ (by simp[RX,Pb s n (by simp only[hgt] at h;omega),Pb t n (by simp only[hgt] at h;omega)])
 |.qu b x s,n,h=>by
  obtain⟨n,rfl⟩:∃m,n=m+1:=⟨n-1,by simp[hgt] at h;omega⟩;exact RZ (by simp[RX,Pb s n (by simp only[hgt] at h;omega)])
theorem xT(s:Sy)(h:hgt s<=181):eqD false (encS s) (encS s)=some (.bl true):=by
 have e:eqvD (encS s) (encS s)=eqK 181 (encS s) (encS s):=by
  cases s with
  |fa a=>cases a<;>rfl
  |_=>rfl
 unfold eqD;rw[e,Pb s 181 h];rfl
theorem nP:∀ns:List Int,ns.length<=63->ak [.lst .(9)]=some (.bl true):=by
 intro ns hn;obtain⟨W,V,os,h,e⟩:=M5 ns;have hs:Spk W V:=⟨h.mm,h.tt⟩;have h5:=h.w.n5;have v5:=h.v.n5;have i0:=ixw0 W;have i1:=ixw1 W;have i2:=ixw2 W;have j0:=ixw0 V;have j1:=ixw1 V;have j2:=ixw2 V;have sw:Sp W W:=⟨λ_ q=>q,λ_ q=>q⟩;have sv:Sp V V:=⟨λ_ q=>q,λ_ q=>q⟩;have pw:=Qz W h.w;have pv:=Qz V h.v;have hg:=We h.w W.n 0 (by omega);have hgv:=We h.v V.n 0 (by omega);have hp:=nG h.w W.n 0 (by omega);have b5:∀m,m<=5->bp m 0<=480:=by decide
 have hp:=ck hp (b5 W.n h5);have hd':=Wf h.w W.n 0 (by omega);have hdv:=Wf h.v V.n 0 (by omega);have f0:fr (por W W.n 0)=[]:=IC.mpr λz hz=>by
  obtain⟨i,hi,_⟩:=ZR h.w W.n 0 (by omega) z hz;omega
 have f0v:fr (por V V.n 0)=[]:=IC.mpr λz hz=>by
  obtain⟨i,hi,_⟩:=ZR h.v V.n 0 (by omega) z hz;omega
 have wo:=Pa W (por W W.n 0) 60 (by omega) (T5 h.w sw W.n 0 (by omega)) hp;have s1:=Nj W h.w (por W W.n 0) 60 [] ix (by omega) (T5 h.w sw W.n 0 (by omega)) (by rw[f0];simp) .(17);rw[YQ h.w] at s1;have s2:=Nj V h.v (por W W.n 0) 60 [] ix (by omega) (T5 h.w hs.sp W.n 0 (by omega)) (by rw[f0];simp) .(17);have s3:=Nj V h.v (por V V.n 0) 60 [] ix (by omega) (T5 h.v sv V.n 0 (by omega)) (by rw[f0v];simp) .(17);rw[YQ h.v] at s3;have an:CT 7 [wd W,wd V,.lst []]=some (.bl (dfs (P3 W V) W.n V.n 7 []).isSome):=Y9 W V h.w h.v 7 [] .(17) (dQ _);have du:tru V ix (por W W.n 0)=(decide (W.n=V.n)&&(dfs (P3 W V) W.n V.n 7 []).isSome):=by
  rw[iA,gd,decide_eq_true_eq,rA (by omega),<-rN hs h5,Wg h.w W.n 0 ix (by omega)];exact⟨λ⟨v,_,q⟩=>⟨v,q⟩,λ⟨v,q⟩=>⟨v,λi hi=>absurd hi (by omega),q⟩⟩
 rw[du] at s2;have ee:=xT (por W W.n 0) (by omega);have en:=YF W.n V.n;have w0:ixE (wk (por W W.n 0)) (.int 0)=some (.int (dpt (por W W.n 0):Int)):=rfl;have w1:ixE (wk (por W W.n 0)) (.int 1)=some (.int (pt (por W W.n 0):Int)):=rfl;have w2:ixE (wk (por W W.n 0)) (.int 2)=some (.int (hgt (por W W.n 0):Int)):=rfl;have w3:ixE (wk (por W W.n 0)) (.int 3)=some (.lst []):=by
  show some (D.lst ((fr (por W W.n 0)).map .str))=_;rw[f0];rfl
 have wn:isND false (wk (por W W.n 0))=some .(8):=rfl;have g0:gtD (.int (dpt (por W W.n 0):Int)) (.int ((W.n:Int)+1))=some .(8):=by rw[Qh,decide_eq_false (by omega)]
 have g1:gtD (.int (pt (por W W.n 0):Int)) (.int 4000)=some .(8):=by rw[Qh,decide_eq_false (by omega)]
 have g2:gtD (.int (hgt (por W W.n 0):Int)) (.int 60)=some .(8):=by rw[Qh,decide_eq_false (by omega)]
 have g3:eqD true (.lst []) (.lst [])=some .(8):=rfl;have nb:∀b:Bool,eqD true (.bl b) (.bl b)=some .(8):=λb=>by cases b<;>rfl
 generalize por W W.n 0=p at *;generalize por V V.n 0=q at *;generalize (dfs (P3 W V) W.n V.n 7 []).isSome=b at *;have tg:tupG 3 (By 1 (By 2 (By 3 nilG))) (.lst [wd W,wd V,lN os]) [.fz .(1),.un,.un,.un,.un,.un,.un,.un,.un]=some [.fz .(1),.fz (wd W),.fz (wd V),.fz (lN os),.un,.un,.un,.un,.un]:=rfl;have as:asgF (Ai JH (Aa (vF 0) (Aa (kF (.int 5)) nilA))) (tupG 3 (By 1 (By 2 (By 3 nilG)))) [.fz .(1),.un,.un,.un,.un,.un,.un,.un,.un]=some (.nx [.fz .(1),.fz (wd W),.fz (wd V),.fz (lN os),.un,.un,.un,.un,.un]):=by
  have c:Ai JH (Aa (vF 0) (Aa (kF (.int 5)) nilA)) [.fz .(1),.un,.un,.un,.un,.un,.un,.un,.un]=some (.lst [wd W,wd V,lN os]):=by simp only[cK,e]
  unfold asgF;rw[c];show (tupG 3 (By 1 (By 2 (By 3 nilG))) (.lst [wd W,wd V,lN os]) _).map Out.nx=_;rw[tg];rfl
 have mk1:=uB W h.w (Aa (bF ixE (vF 1) .(10)) (Aa (bF ixE (vF 1) .(5)) (Aa (bF ixE (vF 1) .(18)) nilA))) [.fz .(1),.fz (wd W),.fz (wd V),.fz (lN os),.un,.un,.un,.un,.un] (by simp only[cK,i0,i1,i2]);have mk2:∀b':Bool,mkI "World" Bv (Aa (bF ixE (vF 2) .(10)) (Aa (bF ixE (vF 2) .(5)) (Aa (bF ixE (vF 2) .(18)) nilA))) [.fz .(1),.fz (wd W),.fz (wd V),.fz (lN os),.fz (wob W),.fz (encS p),.fz (wk p),.fz (.bl b'),.un]=some (wob V):=λb'=>uB V h.v _ _ (by simp only[cK,j0,j1,j2]);show runO (aj [.fz .(1),.un,.un,.un,.un,.un,.un,.un,.un])=_;unfold aj;rw[W7,as,e_nx,W7,iK,mk1,Yv,e_nx];simp only[sM,sN]
 by_cases z:W.n=V.n
 .rw[decide_eq_true z] at en s2;rw[wf] at s2;simp only[cK,pw,wo,wn,w0,w1,w2,w3,i0,M8,g0,g1,g2,g3,s1,j0,en,an,s2,nb,mk2,pv,s3,ee]
 .rw[decide_eq_false z] at en s2;rw[A8] at s2;simp only[cK,pw,wo,wn,w0,w1,w2,w3,i0,M8,g0,g1,g2,g3,s1,j0,en,s2,nb,mk2,pv,s3,ee]
end K52
end
open PySem PySem.W PyProof.Rows
theorem L2.head_at{r:OpenRow}{q:cE}{d:DefRec}{kwd:List (Str×Expr)}{N:Nat}(H:Hook)(l1:LeftO r.prog q loose (λs=>xlAt q [] s&&recOk r.records s) H.obs H.val N)(e1:defOf q r.name=some (d,kwd))(e2:r.prog.theDef r.name=some (d.params,d.body,d.scope))(e3:kwWritten? d.params.kwonlyargs d.params.kw_defaults=some kwd)(e4:(!r.writes||r.records.isEmpty)=true)(e5:r.wellSaid=true)(e6:(chainsOk q&&opensWell r.prog&&(frees r.toRowW&&r.within.isEmpty))=true)(e7:r.prog.bare)(e8:r.toRowW.promised)(e9:WalkO q loose (XL q []) H.says r.toRowW d kwd λf vs=>AQ f vs):r.Holds:=
 holds_open (XP:=XL q []) l1 H.of H.keeps (λs e=>xl_of s (ID.mp e).1) XL.keeps e1 e2 e3 (λ_ e=>recFacts_of (ID.mp e).2) e4 e5 e6 e7 e8 e9
set_option maxHeartbeats 0 in
theorem PySem.Challenge.cw_twinrounds_k52_portraits_holds : PySem.Challenge.rw_twinrounds_k52_portraits.Holds := by
 w_on;o_law;refine L2.head_at (q:=K52.vw) (loose:=[gi "is_so"]) (N:=6000) K52.hook K52.look (by rfl) (by rfl) (by rfl) (by rfl) (by assumption) (by decide +kernel) ⟨rfl,rfl,rfl,rfl,rfl,by decide +kernel⟩ ?_ ?_
 .w_witness2
 unfold K52.hook
 k_fill
 refine L2.oX (l:=IF) (n:=63) (k:=63) (x:="_law_script") (CX:=λ_=>L2.CX0) (sp:=λw=>K52.uA _) rfl (by decide) rfl ⟨rfl,by decide,by decide⟩ (λw h Y=>PySem.W.kIn_of Y) ?F (λ_ _ a ns hl _ hS=>⟨a,ns,rfl,hS,hl,λ_=>rfl⟩) λ_ _ _ _ _ z=>z
 case F=>
  intro w mg fa h KX G hmg;have TT:∃C_World:Addr,∃T:K52.Tx (K52.gx (L2.KOf KX) C_World) mg,∀(s:af) (u:ac),u3 s T.x_law.fd ⟨[u],[]⟩ [("_law_script",u)]:=by
   dsimp only [L2.KOf];refine' ⟨_,{ C_World:=_,gc_World:=PV.vy,cl_World:=(PV.cls KX ?pg_World ?hd_World ?po_World ?sa_World :),mC_World:=sC KX G ?aC_World,x__law_trimmed:=(PV.dx KX G ?a0 ?l0 ?c0 ?k0 ?b0 :),x__law_cell:=(PV.dx KX G ?a1 ?l1 ?c1 ?k1 ?b1 :),x__law_order:=(PV.dx KX G ?a2 ?l2 ?c2 ?k2 ?b2 :),x__law_copied:=(PV.dx KX G ?a3 ?l3 ?c3 ?k3 ?b3 :),x__law_words:=(PV.dx KX G ?a4 ?l4 ?c4 ?k4 ?b4 :),x__law_bits:=(PV.dx KX G ?a5 ?l5 ?c5 ?k5 ?b5 :),x__law_world:=(PV.dx KX G ?a6 ?l6 ?c6 ?k6 ?b6 :),x__law_turned:=(PV.dx KX G ?a7 ?l7 ?c7 ?k7 ?b7 :),x__law_other:=(PV.dx KX G ?a8 ?l8 ?c8 ?k8 ?b8 :),x__law_two:=(PV.dx KX G ?a9 ?l9 ?c9 ?k9 ?b9 :),x_refuse_above:=(PV.dx KX G ?a10 ?l10 ?c10 ?k10 ?b10 :),x_refuse_no_thing:=(PV.dx KX G ?a11 ?l11 ?c11 ?k11 ?b11 :),x_kept_things:=(PV.dx KX G ?a12 ?l12 ?c12 ?k12 ?b12 :),x_kept_pairs:=(PV.dx KX G ?a13 ?l13 ?c13 ?k13 ?b13 :),x_is_word:=(PV.dx KX G ?a14 ?l14 ?c14 ?k14 ?b14 :),x_World___init__:=(PV.ix KX ?mk_World ?kc_World ?a15 ?i15 ?l15 ?c15 ?k15 ?b15 :),x_places_of:=(PV.dx KX G ?a16 ?l16 ?c16 ?k16 ?b16 :),x_names_in:=(PV.dx KX G ?a17 ?l17 ?c17 ?k17 ?b17 :),x_free_names:=(PV.dx KX G ?a18 ?l18 ?c18 ?k18 ?b18 :),x_refuse_unplaced:=(PV.dx KX G ?a19 ?l19 ?c19 ?k19 ?b19 :),x_sayings_in:=(PV.dx KX G ?a20 ?l20 ?c20 ?k20 ?b20 :),x_refuse_strange_words:=(PV.dx KX G ?a21 ?l21 ?c21 ?k21 ?b21 :),x_pairs_of:=(PV.dx KX G ?a22 ?l22 ?c22 ?k22 ?b22 :),x_fact_cases:=(PV.dx KX G ?a23 ?l23 ?c23 ?k23 ?b23 :),x_cases_so:=(PV.dx KX G ?a24 ?l24 ?c24 ?k24 ?b24 :),x_is_so:=(PV.dxD KX G ?a25 ?l25 ?c25 ?k25 ?b25 :),x_as_it_is:=(PV.dx KX G ?a26 ?l26 ?c26 ?k26 ?b26 :),x_halved:=(PV.dx KX G ?a27 ?l27 ?c27 ?k27 ?b27 :),x_joined:=(PV.dx KX G ?a28 ?l28 ?c28 ?k28 ?b28 :),x_World_tie_words:=(PV.mx KX ?a29 ?i29 ?l29 ?c29 ?k29 ?b29 :),x_World_mark_words:=(PV.mx KX ?a30 ?i30 ?l30 ?c30 ?k30 ?b30 :),x_facts_of_last:=(PV.dx KX G ?a31 ?l31 ?c31 ?k31 ?b31 :),x_portrait_behind:=(PV.dx KX G ?a32 ?l32 ?c32 ?k32 ?b32 :),x_portrait:=(PV.dx KX G ?a33 ?l33 ?c33 ?k33 ?b33 :),x__law_named:=(PV.dx KX G ?a34 ?l34 ?c34 ?k34 ?b34 :),x__law_plain:=(PV.dx KX G ?a35 ?l35 ?c35 ?k35 ?b35 :),x__law_walked:=(PV.dx KX G ?a36 ?l36 ?c36 ?k36 ?b36 :),x__law_so:=(PV.dx KX G ?a37 ?l37 ?c37 ?k37 ?b37 :),x__law_facts:=(PV.dx KX G ?a38 ?l38 ?c38 ?k38 ?b38 :),x__law_beside:=(PV.dx KX G ?a39 ?l39 ?c39 ?k39 ?b39 :),x__law_any:=(PV.dx KX G ?a40 ?l40 ?c40 ?k40 ?b40 :),x_law:=(PV.dx KX G ?a41 ?l41 ?c41 ?k41 ?b41 :),fl_size:=(PV.Y8 KX (PV.cls KX ?pg_World ?hd_World ?po_World ?sa_World) ?n_World_size :),fl_marked:=(PV.Y8 KX (PV.cls KX ?pg_World ?hd_World ?po_World ?sa_World) ?n_World_marked :),fl_tied:=(PV.Y8 KX (PV.cls KX ?pg_World ?hd_World ?po_World ?sa_World) ?n_World_tied :),z_all:=ii KX G ?z_all,z_dict:=ii KX G ?z_dict,z_int:=ii KX G ?z_int,z_isinstance:=ii KX G ?z_isinstance,z_len:=ii KX G ?z_len,z_list:=ii KX G ?z_list,z_max:=ii KX G ?z_max,z_range:=ii KX G ?z_range,z_reversed:=ii KX G ?z_reversed,z_set:=ii KX G ?z_set,z_sorted:=ii KX G ?z_sorted,z_str:=ii KX G ?z_str,z_tuple:=ii KX G ?z_tuple,z_zip:=ii KX G ?z_zip,s_MOST_LETTERS:=(PV.sx (f:=(.int 8)) KX G ?a_MOST_LETTERS :),s_LETTERS:=(PV.sx (f:=.(6)) KX G ?a_LETTERS :),s_MOST_THINGS:=(PV.sx (f:=(.int 5)) KX G ?a_MOST_THINGS :),s_MOST_WORDS:=(PV.sx (f:=(.int 3)) KX G ?a_MOST_WORDS :),c_KEPT_TEXTS:=(PV.kx (xs:=["not","and","or","some","all"]) KX G ?a_KEPT_TEXTS ?l_KEPT_TEXTS ?h_KEPT_TEXTS ?v_KEPT_TEXTS :),c_FACTS:=(PV.kx (xs:=["mark","tie","same"]) KX G ?a_FACTS ?l_FACTS ?h_FACTS ?v_FACTS :) },?bt⟩
   case aC_World | pg_World | hd_World | po_World | sa_World | mk_World | kc_World | n_World_size | n_World_marked | n_World_tied | a0 | l0 | c0 | k0 | a1 | l1 | c1 | k1 | a2 | l2 | c2 | k2 | a3 | l3 | c3 | k3 | a4 | l4 | c4 | k4 | a5 | l5 | c5 | k5 | a6 | l6 | c6 | k6 | a7 | l7 | c7 | k7 | a8 | l8 | c8 | k8 | a9 | l9 | c9 | k9 | a10 | l10 | c10 | k10 | a11 | l11 | c11 | k11 | a12 | l12 | c12 | k12 | a13 | l13 | c13 | k13 | a14 | l14 | c14 | k14 | a15 | i15 | l15 | c15 | k15 | a16 | l16 | c16 | k16 | a17 | l17 | c17 | k17 | a18 | l18 | c18 | k18 | a19 | l19 | c19 | k19 | a20 | l20 | c20 | k20 | a21 | l21 | c21 | k21 | a22 | l22 | c22 | k22 | a23 | l23 | c23 | k23 | a24 | l24 | c24 | k24 | a25 | l25 | c25 | k25 | a26 | l26 | c26 | k26 | a27 | l27 | c27 | k27 | a28 | l28 | c28 | k28 | a29 | i29 | l29 | c29 | k29 | a30 | i30 | l30 | c30 | k30 | a31 | l31 | c31 | k31 | a32 | l32 | c32 | k32 | a33 | l33 | c33 | k33 | a34 | l34 | c34 | k34 | a35 | l35 | c35 | k35 | a36 | l36 | c36 | k36 | a37 | l37 | c37 | k37 | a38 | l38 | c38 | k38 | a39 | l39 | c39 | k39 | a40 | l40 | c40 | k40 | a41 | l41 | c41 | k41 | z_all | z_dict | z_int | z_isinstance | z_len | z_list | z_max | z_range | z_reversed | z_set | z_sorted | z_str | z_tuple | z_zip | a_MOST_LETTERS | a_LETTERS | a_MOST_THINGS | a_MOST_WORDS | a_KEPT_TEXTS | l_KEPT_TEXTS | a_FACTS | l_FACTS=>k_is
   case b14 | b16 | b17 | b18 | b20 | b29 | b30 | b33 | b34 | b41=>exact λ_ _ _ _ _ _ us hl=>by (obtain⟨_,rfl⟩:=PV.tY hl;rfl)
   case b0 | b1 | b2 | b3 | b4 | b5 | b6 | b7 | b9 | b10 | b11 | b12 | b13 | b21 | b22 | b27 | b31 | b32 | b35 | b36=>exact λ_ _ _ _ _ _ us hl=>by (obtain⟨_,_,rfl⟩:=PV.tZ hl;rfl)
   case b19 | b23 | b26 | b28 | b37 | b38 | b40=>exact λ_ _ _ _ _ _ us hl=>by (obtain⟨_,_,_,rfl⟩:=PV.j5 hl;rfl)
   case b8 | b15 | b24 | b39=>exact λ_ _ _ _ _ _ us hl=>by (obtain⟨_,_,_,_,rfl⟩:=PV.yf hl;rfl)
   case b25=>exact λs us hK hl=>by (rw[eL] at hl;obtain⟨_,_,_,rfl⟩:=PV.j5 hl;exact BindsTo.of_defaults rfl (hK _ _ (show dA _ _=some ⟨.type "tuple",_,.seq #[.none] _,_⟩ by k_is)) rfl rfl rfl)
   case h_KEPT_TEXTS=>decide
   case v_KEPT_TEXTS=>exact .cons ⟨_,rfl⟩ (.cons ⟨_,rfl⟩ (.cons ⟨_,rfl⟩ (.cons ⟨_,rfl⟩ (.cons ⟨_,rfl⟩ (.nil)))))
   case h_FACTS=>decide
   case v_FACTS=>exact .cons ⟨_,rfl⟩ (.cons ⟨_,rfl⟩ (.cons ⟨_,rfl⟩ (.nil)))
   case bt=>exact λs u=>.of_eq rfl
  obtain⟨C_World,T,e1⟩:=TT;have e0:fa=T.x_law.f:=by
   have q:=hmg.symm.trans T.x_law.m;cases q;rfl
  subst e0;exact⟨T.x_law.fd,e1,λbase kb nb=>(K52.wH (w:=w) (base:=base) T).imp (K52.wI K52.nP)⟩
