import PyProof.Rows.All
import Wide.All
import OpenK.AllK
import Wide.FinOn
import Lean
import PyProof.EqAt
import PyProof.EqKinds
import PyProof.TupleCall
import PyProof.TupleKey
import PyProof.DictRoadsH
import PyProof.StationsW
import PyProof.DictWalks
import PyProof.DictItemsLoops
import KE.KPairComp
import KE.KDictList
import PyProof.StrWalks
import PyProof.ConsumeWalk
import PyProof.DictUpdate
import PyProof.ExcClass2
import PyProof.ExcClass3
import PyProof.ExcArgsOwn
import PyProof.ExcAttrAll.ValueError
import PyProof.InstStoreFacts
import PyProof.StrLawsRepr
import PyProof.ReprStr
import PyProof.NsDelKeeps
import PyProof.RulesAs
import KE.KIsAll
import KE.KRevIter
import PyProof.EnumMake
import PyProof.MeetsSeq
import Wide.Txt2
import PyProof.AutoListH
import PySem.SetOps
import KE.KSortTup
import PyProof.NeKinds
import PySem.Challenge.RW_twinrounds_k01_worlds_asked
set_option compiler.extract_closed false
set_option genSizeOf false
set_option Elab.async false
set_option linter.all false
set_option maxRecDepth 100000
set_option maxHeartbeats 4000000
open Array renaming length_toList->lr,mk->mD,forIn_toList->nI,getElem?_eq_getElem->pb,getElem?_eq_none->pf,toList->pR
open Bool renaming false_ne_true->cp,and_eq_true->eD,false_eq_true->hZ,eq_iff_iff->i8,not_true->li,and_true->oU,false_or->qu,and_eq_true_iff->rX
open Classical renaming choose_spec->ro
open False renaming elim->fq
open ForInStep renaming yield->lD
open Function renaming comp_def->lG
open Int renaming toNat_natCast->fA,emod_nonneg->hW,emod_lt_of_pos->kZ,reduceLT->lI,ediv_one->qh
open List renaming length_map->aw,mem_cons_of_mem->aI,mem_map->aS,mem_cons->ba,map_cons->bb,getElem?_map->be,mem_cons_self->bg,lookup_cons->bi,lookup->bn,range->bp,size_toArray->bP,nodup_append->ck,mem_filter->cr,length->cw,getElem?_eq_getElem->cy,map_map->cS,getElem?_eq_some_iff->de,length_cons->df,mem_append->dv,append_nil->dL,getElem?_set_ne->eC,mem_append_right->eK,length_append->eP,mem_range->eW,mem_append_left->fE,mem_singleton->fN,map_append->fR,getElem?_append_left->gu,all_eq_true->gz,getElem?_set_self->gI,nodup_cons->hJ,getElem?_append_right->hU,length_take->ij,length_drop->io,map_reverse->iF,drop_eq_getElem_cons->ko,any_cons->kQ,find?_cons->kR,length_set->kU,drop_length->kW,pairwise_cons->kX,nil_append->lf,mem_of_getElem?->lA,map_congr_left->lE,getElem?_eq_none->lF,pairwise_map->lJ,set_cons_zero->lK,set_cons_succ->lL,take_take->lN,reverse_perm->lO,replicate->m4,length_replicate->m6,getElem_of_mem->mj,getElem?_replicate->mR,all_cons->mV,map_nil->mY,nodup_nil->n6,getElem_mem->ni,getD_eq_getElem?_getD->nC,Nodup->nD,filterMap_cons->nV,of_mem_zip->oq,length_range->oO,take_of_length_le->oP,range_succ->oQ,any_map->oX,eq_nil_of_length_eq_zero->oZ,getD->p6,any_eq_true->p7,length_reverse->pr,map->pA,getElem_inj->pP,mem_filterMap->pZ,any_eq_false->q0,filterMap_map->qj,getElem?_drop->qF,drop_zero->qG,not_lt->qK,mem_erase_of_ne->qL,length_erase_of_mem->qM,length_pos_of_mem->qN,nodup_range->rC,pairwise_iff_getElem->rD,length_filter_le->rF,getElem_take->rK,take_succ->rL,take_append_drop->rM,map_take->rR,map_drop->rS,foldl_cons->rT,map_id->rU,mem_reverse->rW
open List.Pairwise renaming nil->oI,imp_of_mem->rB
open List.Perm renaming refl->rV
open List.cons renaming injEq->nN
open Nat renaming le_refl->ax,ne_of_lt->ca,le_trans->cE,zero_le->eA,lt_of_lt_of_le->eJ,not_lt->gy,zero_add->hV,lt_of_le_of_lt->km,lt_irrefl->kG,le_succ->lz,le_of_lt->lS,lt_succ_of_lt->md,ne_of_gt->mJ,mul_comm->nE,add_assoc->nJ,lt_succ_self->oe,sub_self->oJ,min_self->oS,mod_lt->pz,le_of_eq->q9,lt_trichotomy->rE,mul_le_mul->rG,eq_zero_or_pos->rH,div_add_mod->rJ,mul_add_div->rN,div_eq_of_lt->rO,mul_add_mod->rP,mod_eq_of_lt->rQ
open Nat.succ renaming inj->nB
open Ne renaming symm->bv
open Option renaming bind_some->bo,map_some->eB,isNone_iff_eq_none->lH,bind->mh,map_eq_some_iff->mG,isSome_map->oG,isSome_iff_exists->qg,getD_none->qo,none->qD
open Option.some renaming inj->bE,injEq->p5
open Or renaming inr->dE,inl->fm
open Prod.mk renaming injEq->nO,inj->pG
open PyProof.Rows renaming envOfC->dn,AllBare->i6,IntsAre->m9,subscriptTail->mU,StrsAre->nh,callWith_type1->o6,slot_tuple_getitem->oz,Subscript_->oA,seqObj->pj,arrOf->pp,subscriptTail_builtinR->qk,risingS->qO
open PySem renaming Value->ac,Shared->ae,wpAny->af,World->ag,model->ah,starEach->ai,wpAny_bind->am,Around->ar,wpAny_pure->ay,cLine->aE,backTo->br,compareOp->bX,Program->cq,attributeBase->d4,bootBuiltins->dc,swapsWith->dA,mainGlobals->dQ,sysModules->eI,Keyword->eL,wpAny_mono->f6,assignEach->ff,backToKw->fF,keywordEach->fI,Scope->g7,binaryOp->g9,behindInMarks->gg,NameKind->gi,foldedSetIterable->gL,Result->gT,codeAny->gX,pyNext->i7,FuncData->ii,atKey->iq,DictEntry->iA,relabel->iE,Paired->jp,bindL->jS,bindC->ke,IsPart->kg,getItem->kh,valueAt->ki,wpAny_specialOf->kt,Builtin->ku,wpAny_truthy_bool->ky,tupleKind->kD,isTrue->kH,rawInt->kI,PassesOwn->kJ,standAt->kK,holding->kL,getMethod->kN,callWith->kO,sliceBounds->kP,callerA->kS,Value->lg,wpAny_call_entry->lh,assign->lu,wpAny_newObj_type->lB,treeTable->lQ,wpAny_passesOwn->lU,sizeLine_eq->lV,BindsTo->lX,bindArgs->lY,codeAny_mono->lZ,mem_of_lookup->m5,subscripted->m8,Addr->mq,Str->mr,wpAny_forIn_list->my,wpAny_isInstance->mz,eqIsQuiet->mC,entryOfKey->mI,letOwnedTupleGo->mK,wpAny_Call_Name_kw->mQ,PlainAttrs->mW,call_meets->mX,tupleKind_room_in1->mZ,wpAny_getItem_str_slice->n9,post_val_or_str->nc,SetTable->ng,wpAny_setField->nl,codeAny_builtin->nw,tupleKeyHash->nG,wpAny_tupleItemsOf->nH,wpAny_rule->nK,isInstance->nL,isSubtype_tuple_tuple->nM,Within->nR,builtinsNs->nU,wpAny_Name->nW,wpAny_execs_nil->nX,wpAny_load->nY,wpAny_pyIter_list->nZ,wpAny_call->ol,wpAny_field->ou,wpAny_callSpecial?_slot->oy,typeIs_str->oB,evalArgs_none->oE,call->oH,sliceRange->oN,wpAny_dictEntries->p8,wpAny_dictEpoch->p9,plainId_quiet->ph,Shared->pB,Expr->pC,Stmt->pD,wpAny_richCompare_same_room->pF,wpAny_execs_cons->pS,wpAny_assign_Name->pT,wpAny_pyNext_list_item->pV,wpAny_pyNext_list_end->pW,slot_list_getitem->ql,getitemInPython_of_ne->qy,wpAny_letTemporaryGo->qz,wpAny_Dict_empty->qB,lookup_relabel_local->qE,wpAny_pyIter_keyiter->qP,wpAny_Call_method->qQ,Slot->rf,wpAny_pyIter_revIter->rh
open PySem.Around renaming under_plainId->ny,under->oi
open PySem.AutoSeq1 renaming wpAny_loadPart'->kq
open PySem.Builtin.Dict_items renaming ownsTuple->pc
open PySem.Builtin.Int renaming intBits->oK
open PySem.Builtin.List renaming listFitsIndex->rA
open PySem.Builtin.Slice renaming slicePlaces->mS,sliceAdjust->ot,sliceApplied->qi
open PySem.Builtin.Str renaming occurrences->jI
open PySem.Builtin.Tuple renaming tupleExact->mT,tupleHashOf->nF,tupleItemsOf->pE
open PySem.Calls renaming Name_function_global->pQ,callWith_builtin->qt
open PySem.Challenge renaming pw_twinrounds_k01_worlds_asked->rY,rw_twinrounds_k01_worlds_asked->rZ
open PySem.Code renaming isFrame->oj,frames->qc
open PySem.Data renaming fields->pX
open PySem.F renaming plainAttrs_list->mf,slot_dict_keyiterator_next->mn,slot_tuple_hash->mv,slot_tuple_eq->mB,slot_list_append->oV,type_list_append->oW,slot_list_ne->pw,slot_dict_clear->qx,slot_dict_getitem->qA,plainAttrs_dict->qR,slot_dict_items->qS,entry_dict_keyiterator_next->qW,args_dict_keyiterator_next_1->qX,slot_dict_iter->qY,plain_list_iadd->rb,slot_dict_values->rj
open PySem.Heap renaming lt_size->aT,get?_push_of_some->bq,get?_push_size->cb,SameBut->iO,size_push->mP,get?_update_other->oF,ExtBut->oY,get?_update_self->qV
open PySem.Manifest renaming find?->pd
open PySem.NameKind renaming free->lC
open PySem.Obj renaming mapFields->nj
open PySem.Paired renaming length->mH,snoc->qv
open PySem.PassesOwn renaming never->d6
open PySem.SeqAt renaming EqAt->gv,in_listAt->qp,notIn_listAt->qr
open PySem.SeqAt.EqAt renaming same->oC,of_refs->oR,int_str->pK,str_int->pL
open PySem.SeqAt.RcAt renaming lists->qH,lists_lengths->qI,tuples->qJ
open PySem.Shared renaming TypeIs->qU
open PySem.Str renaming empty->ib,length->ip,ofString->m7
open PySem.Txt renaming slice->n8
open PySem.Value renaming ref->bS,bool->kB,str->lp,none->lP,int->lR,float->nQ,isInt->pH,isStrOf->pI,bytes->pM,type->pO
open PySem.W renaming Frag->av,findIn->dP,keepIn->dS,fnOf->eS,kia_one->fw,boot_heap->gE,emptyDict->ia,mg_none_of->iL,instObj->jv,codeIn->kf,SharedT->lj,isFn->lx,kitOne->ly,plainGet->lW,mg_of->mo,boot_drawn->mE,boot_toks->mF,lookIn->mL,hasDictIn->mN,nsIn->nu,methodObj->nS,plainGet_of->o7,plainOver->o8,takerIn->o9,makesIn->oa,specialIn->og,kitx_list->oh,callWith_K->om,kdl_call->p4,handedIn->q8,kitx_tuple->qa,kitx_dict->qb,methodCall_KW->qe,cellsFrom_some->qf,kdl_dict->qT,KdlSrc->qZ,readsIn->rd,findCls->re
open PySem.W.WShape renaming has->qC
open Sum renaming inl->kz,inr->kA
open Sum.inl renaming inj->pJ
open Sum.inr renaming inj->nP
open True renaming intro->fh
open Option renaming some->Y2,none->X2
open Bool renaming true->U2,false->T2
abbrev zFr:=PySem.W.Frag
abbrev zQ:=PySem.Value->PySem.Shared->Prop
abbrev zP:=List (PySem.Addr×PySem.Obj)
variable {h:PySem.Heap}{o:PySem.Obj}{s:pB}{a b it p C f q:mq}{us its:List lg}{u doc pm cdv ct oc:lg}{P prog:PySem.Program}{t' i n j ep x1 k':Nat}{ch A fp B A0:List mq}{x m qual name c cn:mr}{N ps loose:List mr}{M:PySem.Model}{E Q:lg->pB->Prop}{e tg l:pC}{pos pos' tp xpos apos spos cpos ap:PySem.Pos}{π:List (mq×PySem.Obj)}{es elts:List pC}{kw:List (mr×lg)}{env:PySem.Env}{mg:mr->Option lg}{fd:PySem.FuncData}{sc scope:PySem.Scope}{an od:Option mq}{osl:Array (Option lg)}{st:pD}{s1 s2:List pD}
theorem zE_{d:Sort _}(a:d):a=a:=of_eq_true (eq_self a)
namespace PV
open PySem
section
variable {w:ag}{K:Type} [DecidableEq K] (kd:KeyKind prog w K)
inductive NkI (h:Heap):List (List K)->List ac->Prop
 |nil:NkI h [] []
 |cons {k:List K}{b:Addr}{ks:List (List K)}{vs:List ac}:IsTupleKey kd h k b->NkI h ks vs->NkI h (k::ks) (.ref b::vs)
def Nest(h:Heap)(ks:List (List K))(a:Addr):Prop:=∃o xs n,h.get? a=Y2 o/\o.cls=.type "tuple"/\o.data=.seq xs n/\NkI kd h ks xs.toList
variable {kd}
theorem NkI.inj{h:Heap}{x y:List (List K)}{vs:List ac}(p:NkI kd h x vs):NkI kd h y vs->x=y:=by
 induction p generalizing y with
 |nil=>intro q;cases q;rfl
 |cons a _ d=>intro q;cases q with | cons b t=>rw[a.inj b,d t]
theorem NkI.kept{g:Heap}{d:Addr}{es ep}(y:h.get? d=Y2 o)(z:o.data=.dict es ep)(v:iO d h g){x:List (List K)}{vs:List ac}(p:NkI kd h x vs):NkI kd g x vs:=by
 induction p with
 |nil=>exact .nil
 |cons a _ r=>exact .cons (a.keeps y z v) r
theorem Nest.ty{ks:List (List K)}(x:Nest kd s.heap ks a):s.TypeIs (.ref a) "tuple":=let ⟨o,_,_,g,c,_⟩:=x;⟨o,g,c⟩
theorem Nest.inj{h:Heap}{a:Addr}{x y:List (List K)}(p:Nest kd h x a)(q:Nest kd h y a):x=y:=by
 obtain⟨o,G,n,g,_,d,i⟩:=p;obtain⟨H,F,m,v,_,z,r⟩:=q;cases g.symm.trans v;cases d.symm.trans z;exact i.inj r
theorem Nest.kept{h g:Heap}{ks:List (List K)}{a d:Addr}{o:Obj}{es ep}(x:Nest kd h ks a)(y:h.get? d=Y2 o)(r:o.data=.dict es ep)(v:iO d h g):Nest kd g ks a:=by
 obtain⟨I,H,n,F,c,G,i⟩:=x;refine⟨I,H,n,(v.2 a λz=>?_).trans F,c,G,i.kept y r v⟩;subst z;cases y.symm.trans F;cases r.symm.trans G
def Wo(d:KeyKind prog w K)(ks:List (List K)):Int:=reduceHash (nF (ks.map (nG d)))
def SJ(ks:List (List K)):Nat:=(ks.map λk=>k.length+1).sum+1
variable {A:ar}
theorem Vw{ks:List (List K)}{Q:Int->ae->Prop}(S:A.units+1<aE)(I:Nest kd s.heap ks a)(k:Q (Wo kd ks) { s with toks:=s.toks+SJ ks }):af (ah prog w) A (pyHash (.ref a)) Q E s:=by
 have ty:=I.ty;obtain⟨o,T,n,g,_,d,i⟩:=I;unfold pyHash pyHashByItsType;refine am (wpAny_cRoomFor_or (.inr (by omega)) ?_);refine am (kt ty mv.lookup ?_);show af _ _ (if (Y2 (Value.builtin "tuple.__hash__")==Y2 lP)=U2 then _ else _) Q E s;rw[if_neg (by rw[beq_builtin_none];exact cp)];refine am (kt ty mv.lookup ?_);show af _ _ (callSpecialIfBoundUnlessNone? (.ref a) "__hash__" _ >>= _) Q E s;refine am (wpAny_callSpecialIfBoundUnlessNone?_slot ty mv (lh mv ty F.entry_tuple_hash ?_ (F.args_tuple_hash_1 _)));show af _ _ (pE (.ref a) >>= _) _ _ s;refine am (nH g d ?_);refine am ?_;rw[<-nI];refine my _ (λr (b:Array Int) z=>∃p q,ks=p++q/\NkI kd s.heap q r/\b.toList=p.map (nG kd)/\z={ s with toks:=s.toks+(p.map λk=>k.length+1).sum }) _ ?_ ?_ _ _ ⟨[],ks,rfl,i,rfl,rfl⟩
 .rintro x r b z ⟨p,q,rfl,G,H,rfl⟩;cases G with
  | @cons m c J _ L v=>
   refine am (wpAny_pyHash_tuple (s:={ s with toks:=s.toks+(p.map λk=>k.length+1).sum }) (show A.in1.units<aE from S) L ?_);exact ay ⟨p++[m],J,by simp,v,by simp[H],by simp[nJ]⟩
 .rintro b z ⟨p,q,rfl,G,H,rfl⟩;cases G;rw[dL] at k;show af _ _ (retInt (nF b.toList)) _ _ _;rw[H];refine wpAny_ret_mkInt ?_;generalize O:nF (p.map (nG kd))=y;unfold Wo reduceHash SJ at k;rw[O] at k;show af _ _ (if (decide (-(2:Int)^63<=y)&&decide (y<2^63))=U2 then _ else _) Q E _
  by_cases c:(decide (-(2:Int)^63<=y)&&decide (y<2^63))=U2
  .rw[if_pos c] at k ⊢;exact ay (by simpa [nJ] using k)
  .rw[if_neg c] at k ⊢;exact am (nK (ay (by simpa [nJ] using k)))
theorem Zj{x y:List (List K)}{P:Fin->ae->Prop}(hu:A.units<aE)(hx:Nest kd s.heap x a)(hy:Nest kd s.heap y b)(k:P (.done (.ret (.bool (decide (x=y))))) s):af (ah prog w) A (ku.«tuple.__eq__» ⟨[.ref a,.ref b],[]⟩) P E s:=by
 have ty:=hy.ty;obtain⟨o,T,n,g,_,d,i⟩:=hx;obtain⟨o2,S,m,g2,_,d2,i2⟩:=hy;show af _ _ (nL (.ref b) (.type "tuple") >>= _) _ _ s;refine am (mz ty nM ?_);simp only[li,hZ,if_false];refine am (nH g d (am (nH g2 d2 (am ?_))));refine my _ (λr q z=>q.1=X2/\z=s/\∃L J G F,r=List.zip G F/\NkI kd s.heap L G/\NkI kd s.heap J F/\decide (L=J)=decide (x=y)/\(G.length==F.length)=(T.size==S.size)) _ ?_ ?_ _ _ ⟨rfl,rfl,x,y,T.toList,S.toList,rfl,i,i2,rfl,by simp⟩
 .rintro⟨u,v⟩ r q z ⟨e,rfl,L,J,G,F,O,I,H,U,Y⟩;cases I with
  |nil=>simp at O
  | @cons k1 b1 x2 X h1 t1=>
   cases H with
   |nil=>simp at O
   | @cons k2 b2 Z W h2 t2=>
    simp only[List.zip_cons_cons,nN,nO] at O;obtain⟨⟨rfl,rfl⟩,rfl⟩:=O;refine am (wpAny_eqBool_tuple hu h1 h2 ?_)
    by_cases c:k1=k2
    .subst c;rw[decide_eq_true rfl];simp only[li,hZ,if_false];refine ay ⟨rfl,rfl,x2,Z,X,W,rfl,t1,t2,?_,by simpa using Y⟩;rw[<-U]
     by_cases c2:x2=Z<;>simp[c2]
    .rw[decide_eq_false c];simp only[Bool.not_false,if_true];have f:decide (x=y)=T2:=by rw[<-U];simp[c]
     rw[f] at k;exact am (ay (ay (ay k)))
 .rintro⟨q1,q2⟩ z ⟨e,rfl,L,J,G,F,O,I,H,U,Y⟩;simp only at e;subst e;refine ay ?_;have f:(T.size==S.size)=decide (x=y):=by
   rw[<-U,<-Y];cases I with
   |nil=>cases H<;>simp
   |cons _ _=>
    cases H with
    |nil=>simp
    |cons _ _=>simp at O
  show P (.done (.ret (.bool (T.size==S.size)))) z;rw[f];exact k
theorem Zk{x y:List (List K)}{Q:Bool->ae->Prop}(S:A.units+1<aE)(d:Nest kd s.heap x a)(g:Nest kd s.heap y b)(k:Q (decide (x=y)) s):af (ah prog w) A (eqBool (.ref a) (.ref b)) Q E s:=by
 unfold eqBool;refine wpAny_holding ?_;show af _ _ (if (bS a==bS b)=U2 then _ else _) Q E s
 by_cases c:(bS a==bS b)=U2
 .rw[if_pos c];have e:a=b:=by have:=eq_of_beq c;injection this
  subst e;cases d.inj g;exact am (nK (ay (by simpa using k)))
 .rw[if_neg c];exact am (pF (op:=.Eq) d.ty g.ty mB (lh mB d.ty F.entry_tuple_eq (Zj (show A.in1.units<aE from S) d g ⟨_,rfl,(λe=>nomatch e),ky k⟩) (F.args_tuple_eq_2 _ _)) (by omega))
theorem Wq(n:Nat){ks:List K}{a:Addr}{Q:Bool->ae->Prop}(I:IsTupleKey kd s.heap ks a)(k:Q U2 s):af (ah prog w) A (mC (n+1) (.ref a)) Q E s:=by
 have ty:=I.typeIs;obtain⟨o,G,m,g,_,d,i⟩:=I;unfold mC;refine am (kt ty mB.lookup ?_);show af _ _ (nL (.ref a) (.type "tuple") >>= _) _ _ s;refine am (mz ty nM ?_);simp only[li,hZ,if_false];refine am (wpAny_seqItems g d (am ?_));show af _ _ (forIn G _ _) _ _ s;rw[<-nI];refine my _ (λr q z=>q.1=X2/\z=s/\∀v∈r,carriedByValue v=U2) _ ?_ ?_ _ _ ⟨rfl,rfl,i.byValue⟩
 .rintro v r q z ⟨e,rfl,y⟩;rw[eqIsQuiet_byValue _ (y v (by simp))];refine am (ay ?_);simp only[li,hZ,if_false];exact ay ⟨rfl,rfl,λu S=>y u (by simp[S])⟩
 .rintro⟨q1,q2⟩ z ⟨e,rfl,_⟩;simp only at e;subst e;exact ay k
theorem SM(n:Nat){ks:List (List K)}{a:Addr}{Q:Bool->ae->Prop}(I:Nest kd s.heap ks a)(k:Q U2 s):af (ah prog w) A (mC (n+2) (.ref a)) Q E s:=by
 have ty:=I.ty;obtain⟨o,F,m,g,_,d,i⟩:=I;unfold mC;refine am (kt ty mB.lookup ?_);show af _ _ (nL (.ref a) (.type "tuple") >>= _) _ _ s;refine am (mz ty nM ?_);simp only[li,hZ,if_false];refine am (wpAny_seqItems g d (am ?_));show af _ _ (forIn F _ _) _ _ s;rw[<-nI];refine my _ (λr q z=>q.1=X2/\z=s/\∃y,NkI kd s.heap y r) _ ?_ ?_ _ _ ⟨rfl,rfl,_,i⟩
 .rintro v r q z ⟨e,rfl,y,G⟩;cases G with
  |cons L G=>
   refine am (Wq n L ?_);simp only[li,hZ,if_false];exact ay ⟨rfl,rfl,_,G⟩
 .rintro⟨q1,q2⟩ z ⟨e,rfl,_⟩;simp only at e;subst e;exact ay k
end
def Wr{prog:cq}{w:ag}{K:Type}[DecidableEq K](d:KeyKind prog w K):HeapKind prog w (List (List K)) where
 is:=Nest d
 hash:=Wo d
 draws:=SJ
 room:=λA=>A.units+1<aE
 inj:=λp q=>p.inj q
 keeps:=λx y z v=>x.kept y z v
 pyHash:=λS I k=>Vw S I k
 eqBool:=λS r g k=>Zk S r g k
 quiet:=λI k=>SM 6 I k
end PV
section
open PySem PySem.W PyProof.Rows
def L2.viewAt(p:cq)(ks:List Nat):cq:={ p with main:={ p.main with body:=ks.filterMap λi=>p.main.body[i]? } }
abbrev K01.R:=PySem.Challenge.rw_twinrounds_k01_worlds_asked.row
def K01.vw:cq:=L2.viewAt rY [1,2,3,4,6,7,8,9,10,11,12,13,14,15,16,18,19,20,21,22,23,24,25,26,27]
namespace L2T
def runG(st:lj->Thread->Option (lj×Thread))(ok:Thread->Bool):Nat->lj->Thread->Option lj
 |0,_,_=>X2
 |n+1,s,t=>match through t with
  |true=>Y2 s
  |false=>match ok t with
   |false=>X2
   |true=>match st s t with
    |some (d,t')=>runG st ok n d t'
    |none=>X2
theorem UJ{g:String->Option ku}{p:cq}{w:ag}{d:Nat}{ann:Option ac}:∀{n:Nat}{s v:lj}{t:Thread},runG (stepT (denote g) p w) (stepOk d ann) n s t=Y2 v->topRun g p w d ann n s.abs t=Y2 v.abs
 |0,_,_,_,h=>by cases h
 |n+1,s,v,t,h=>by
  unfold runG at h;unfold topRun;cases G:through t with
  |true=>rw[G] at h;cases h;rfl
  |false=>
   rw[G] at h;cases I:stepOk d ann t with
   |false=>rw[I] at h;cases h
   |true=>
    rw[I] at h;cases y:stepT (denote g) p w s t with
    |none=>rw[y] at h;cases h
    |some r=>obtain⟨F,z⟩:=r;rw[y] at h;rw[stepT_spec y];exact UJ h
def treeOf(l:List Obj):BT:=(l.foldl (λ(a:BT×Nat) o=>(a.1.ins a.2 o,a.2+1)) (BT.nil,0)).1
noncomputable abbrev boot (w:ag) (os:OsState):lj:=⟨treeOf (gE w.params).objs.toList,11,(gE w.params).life,mD [],mE,mF,os⟩
set_option maxHeartbeats 0 in
theorem boot_abs(w:ag)(d:OsState):(boot w d).abs=⟨gE w.params,mD [],mE,mF,d⟩:=by kernel_rfl
set_option maxHeartbeats 0 in
theorem Vx(w:ag):((gE w.params).isNs dQ,(gE w.params).objs.size)=(U2,11):=by kernel_rfl
noncomputable abbrev ann (w:ag):Option ac:=(gE w.params).nsMap dQ "__annotations__"
noncomputable def fits(p:cq)(w:ag)(s:ae):Bool:=staticsOk (importedModules p.main.body) (gE w.params) s.heap&&namesBound p s.heap&&gensDone s&&laidKept (gE w.params) s.heap
theorem left{p:cq}{N:Nat}{z:Type}{f:ae->z}{v:ag->z}(H:opening p=plainProg p.main.scope.names)(F:∀s,fenceModules? p s=Y2 s)(G:Nat.ble 600 N=U2)(h:∀(w:ag) (os:OsState),(runG (Fast.tw10156331382660048174 (Fast.tw11892475500146522536 Fast.tw14364793385576792824) p w) (Fast.tw6613529449190102663 11 (ann w)) N (boot w os) (topStub p)).map (λs=>(fits p w s.abs,f s.abs))=Y2 (U2,v w))(w:ag):(openEnds lQ p w N).map f=Y2 (v w):=by
 obtain⟨⟨I,J,d,k,os⟩,e,L⟩:=mG.mp (boot_open H G F w);obtain⟨rfl,rfl,rfl,rfl⟩:I=gE w.params/\J=mD []/\d=mE/\k=mF:=by simpa using L
 have h:=h w os;rw[<-Fast.te10156331382660048174,<-Fast.te11892475500146522536,<-Fast.te14364793385576792824,<-Fast.te6613529449190102663] at h;obtain⟨y,r,q⟩:=mG.mp h;obtain⟨q1,q2⟩:=pG q;have t:=UJ r;rw[boot_abs] at t;obtain⟨b1,b2⟩:=pG (Vx w);have g:topFrom lQ p w N ⟨gE w.params,mD [],mE,mF,os⟩=Y2 y.abs:=by
  unfold topFrom;dsimp only;rw[b1,b2];show (topRun lQ p w 11 (ann w) N _ (topStub p)).bind _=_;rw[t];show (match fits p w y.abs with | true=>Y2 y.abs | false=>X2)=_;rw[q1]
 unfold openEnds;rw[e];show (topFrom lQ p w N _).map f=_;rw[g];exact congrArg Y2 q2
end L2T
section
local macro_rules | `(tactic| o_head $H) => `(tactic| exact ‹∀P : Prop, P› _)
set_option maxHeartbeats 0 in
theorem K01.side(d:∀P:Prop,P):K01.R.Holds:=by
 k_head
end
def K01.as:List Addr:=[2,3,15,22,23,24,25,28,35,37,38,40,41,42,43,44,47,54,56,57,59,60,61,62,63,66,73,75,76,78,79,80,81,82,85,86,89,90,91,93,94,96,97,98,100,101,103,104,105,107,108,110,111,112,114,115,117,118,126,128,129,131,132,133,135,136,138,139,140,142,143,145,146,147,149,150,152,153,154,156,157,159,160,161,162,163,164,165,168,170,171,173,174,175,177,178,180,181,182,184,185,187,188,189,192,193,194,196,197,199,200,201,203,204,206,207,208,210,211,213,214,215,217,218,220,221,222,224,225,227,228,229,231,232,234,235]
set_option maxHeartbeats 0 in
theorem K01.as_ok:∀P,K01.as=(K01.side.heap_1 P).map (·.1):=λ_=>by kernel_rfl
noncomputable def K01.hook:Hook:=kHook K01.side.heap_1 K01.as K01.as_ok
set_option maxHeartbeats 0 in
theorem K01.look:LeftO K01.R.prog K01.vw [] (λs=>xlAt K01.vw [] s&&recOk K01.R.records s) K01.hook.obs K01.hook.val 6000:=by
 rw[show LeftO K01.R.prog K01.vw [] (λs=>xlAt K01.vw [] s&&recOk K01.R.records s) K01.hook.obs K01.hook.val 6000=∀w,(openEnds lQ K01.R.prog w 6000).map (λs=>(openSeen K01.vw [] (importedModules K01.R.prog.main.body) (λs=>xlAt K01.vw [] s&&recOk K01.R.records s) U2 s,K01.hook.obs s))=Y2 (openGood K01.vw [],K01.hook.val w) from rfl,Fast.te4187177175401517315];exact L2T.left (by kernel_rfl) (λ_=>by kernel_rfl) rfl (λw d=>by kernel_rfl)
end
open Lean.Parser.Command in
local macro_rules | `(def $i:declId $s:optDeclSig $v:declVal)=>`(noncomputable def $i:declId $s:optDeclSig $v:declVal) | `(abbrev $i:declId $s:optDeclSig $v:declVal)=>`(noncomputable abbrev $i:declId $s:optDeclSig $v:declVal)
namespace L2
open PySem PySem.Spec PyProof.Rows
abbrev Key:=Sum Int Str
def Oe:Key->ac->Bool
 |.inl k,v=>pH k v
 |.inr x,v=>pI x v
def keyH(w:ag):Key->Int
 |.inl k=>hashInt k
 |.inr x=>hashStr w x
theorem Bj:∀{k:Key}{v:ac},Oe k v=U2->(∃i t,k=kz i/\v=lR i t)∨(∃x t,k=kA x/\v=lp x t)
 |.inl i,v,h=>by
  obtain⟨t,e⟩:=Value.isInt_shape (k:=i) (v:=v) h;exact .inl ⟨i,t,rfl,e⟩
 |.inr x,v,h=>by
  obtain⟨t,e⟩:=Value.isStrOf_shape (x:=x) (v:=v) h;exact .inr ⟨x,t,rfl,e⟩
theorem Vy(i:Int)(t:Tok):Oe (.inl i) (.int i t)=U2:=by simp[Oe,pH]
theorem Vz(x:Str)(t:Tok):Oe (.inr x) (.str x t)=U2:=by simp[Oe,pI]
theorem dw(a b:Int):decide ((kz a:Key)=kz b)=(a==b):=by
 by_cases e:a=b
 .subst e;simp
 .have h:¬ (kz a:Key)=kz b:=λq=>e (pJ q);rw[decide_eq_false h];exact (beq_eq_false_iff_ne.mpr e).symm
theorem dz(a b:Str):decide ((kA a:Key)=kA b)=decide (a=b):=by
 by_cases e:a=b
 .subst e;simp
 .have h:¬ (kA a:Key)=kA b:=λq=>e (nP q);rw[decide_eq_false h,decide_eq_false e]
theorem d8(a:Int)(b:Str):decide ((kz a:Key)=kA b)=T2:=decide_eq_false (λq=>nomatch q)
theorem d9(a:Str)(b:Int):decide ((kA a:Key)=kz b)=T2:=decide_eq_false (λq=>nomatch q)
def Ar(prog:cq)(w:ag):PySem.KeyKind prog w Key where
 is:=Oe
 hash:=keyH w
 inj:=λv a b r H=>by
  rcases Bj r with ⟨i,t,rfl,rfl⟩ | ⟨x,t,rfl,rfl⟩
  .rcases Bj H with ⟨j,u,rfl,e⟩ | ⟨y,u,rfl,e⟩
   .injection e with d _;rw[d]
   .exact nomatch e
  .rcases Bj H with ⟨j,u,rfl,e⟩ | ⟨y,u,rfl,e⟩
   .exact nomatch e
   .injection e with d _;rw[d]
 byValue:=λk v h=>by
  rcases Bj h with ⟨i,t,rfl,rfl⟩ | ⟨x,t,rfl,rfl⟩<;>rfl
 pyHash:=λg h=>by
  rcases Bj g with ⟨i,t,rfl,rfl⟩ | ⟨x,t,rfl,rfl⟩
  .exact wpAny_pyHash_int h
  .exact wpAny_pyHash_str h
 eqBool:=λS g h=>by
  rcases Bj S with ⟨i,t,rfl,rfl⟩ | ⟨x,t,rfl,rfl⟩
  .rcases Bj g with ⟨j,u,rfl,rfl⟩ | ⟨y,u,rfl,rfl⟩
   .rw[dw] at h;exact wpAny_eqBool_int h
   .rw[d8] at h;exact pK i t y u _ _ _ _ h
  .rcases Bj g with ⟨j,u,rfl,rfl⟩ | ⟨y,u,rfl,rfl⟩
   .rw[d9] at h;exact pL x t j u _ _ _ _ h
   .rw[dz] at h;exact wpAny_eqBool_str h
 «strs»:=λk x t v h=>by
  rcases Bj h with ⟨i,u,rfl,e⟩ | ⟨y,u,rfl,e⟩
  .exact nomatch e
  .injection e with d _
   subst d;cases v<;>rfl
theorem Qq(prog:cq)(w:ag)(i:Int)(t:Tok):(Ar prog w).is (.inl i) (.int i t)=U2:=Vy i t
theorem Qs(prog:cq)(w:ag)(x:Str)(t:Tok):(Ar prog w).is (.inr x) (.str x t)=U2:=Vz x t
inductive V where
 |non | bl (b:Bool) | int (i:Int) | str (x:Str) | byt (b:Array UInt8) | flt (b:UInt64) | ref (a:Addr) | ty (n:String)
 deriving DecidableEq
def RelV:V->ac->Prop
 |.non,u=>u=lP
 |.bl b,u=>u=kB b
 |.int i,u=>∃t,u=lR i t
 |.str x,u=>∃t,u=lp x t
 |.byt b,u=>∃t,u=pM b t
 |.flt b,u=>∃t,u=nQ b t
 |.ref a,u=>u=bS a
 |.ty n,u=>u=pO n
abbrev Vals:List V->List ac->Prop:=jp RelV
theorem Vals.length{xs:List V}{us:List ac}(r:Vals xs us):xs.length=us.length:=mH r
theorem Vals.get:∀{xs:List V}{us:List ac}{i:Nat}{x:V},Vals xs us->xs[i]?=Y2 x->∃u,us[i]?=Y2 u/\RelV x u
 |_,_,_,_,.nil,e=>by simp at e
 |_,_,0,_,.cons r _,e=>by simp at e;subst e;exact⟨_,rfl,r⟩
 |_,_,i+1,x,.cons _ t,e=>by
  obtain⟨u,g,d⟩:=Vals.get (i:=i) (x:=x) t (by simpa using e);exact⟨u,by simpa using g,d⟩
theorem Vals.append:∀{xs ys:List V}{us d:List ac},Vals xs us->Vals ys d->Vals (xs++ys) (us++d)
 |_,_,_,_,.nil,s=>s
 |_,_,_,_,.cons r t,s=>.cons r (Vals.append t s)
theorem Vals.take:∀{xs:List V}{us:List ac}(n:Nat),Vals xs us->Vals (xs.take n) (us.take n)
 |_,_,0,_=>.nil
 |_,_,_+1,.nil=>.nil
 |_,_,n+1,.cons r t=>.cons r (Vals.take n t)
theorem Vals.drop:∀{xs:List V}{us:List ac}(n:Nat),Vals xs us->Vals (xs.drop n) (us.drop n)
 |_,_,0,r=>r
 |_,_,_+1,.nil=>.nil
 |_,_,n+1,.cons _ t=>Vals.drop n t
def RelO:Option V->Option ac->Prop
 |some v,Y2 u=>RelV v u
 |none,X2=>True
 |_,_=>False
def KV{d:Type}:List (d×V)->List (d×ac)->Prop:=jp λ(p:d×V) (q:d×ac)=>p.1=q.1/\RelV p.2 q.2
def kV:Key->V
 |.inl i=>.int i
 |.inr x=>.str x
inductive HO where
 |lst (xs:List V)
 |tup (xs:List V)
 |dK (kvs:List (Key×V)) | dT (kvs:List (List Key×V))
 |set (S:Int->Bool) (n:Nat)
 |ins (C dx:Addr) (fs:List (Str×V))
 |own (x:Addr)
 |xd (fs:List (Str×V))
 |met (f x:Addr)
 |rng (lo hi:Int)
 |frz (o:Obj) (u:HO)
 |tbl (ps:Array ac)
 |ext (φ:Heap->Prop)
 |mem (F:List (List Key)->Int) (K:av)
abbrev Hp:=Addr->Option HO
def upd(H:Hp)(a:Addr)(o:HO):Hp:=λb=>if b=a then Y2 o else H b
theorem Ah{H:Hp}{o:HO}:upd H a o a=Y2 o:=by unfold upd;rw[if_pos rfl]
theorem Ag{H:Hp}{o:HO}(h:b≠a):upd H a o b=H b:=by unfold upd;rw[if_neg h]
theorem bz{H:Hp}{o u:HO}(h:H a=Y2 o)(h':H b=Y2 u)(d:o≠u):a≠b:=by
 intro e;subst e;rw[h] at h';exact d (bE h')
theorem Bw{H:Hp}{o:HO}(h:H a=Y2 o)(h':H b=X2):a≠b:=by
 intro e;subst e;rw[h] at h';cases h'
def TupAt(K:av)(H:Hp)(a:Addr)(xs:List V):Prop:=(H a=Y2 (.tup xs)∨∃o,H a=Y2 (.frz o (.tup xs))) ∨
 ∃(o:Obj) (d:Array ac) (n:Nat),K.lookup a=Y2 o/\o.cls=.type "tuple"/\o.data=.seq d n/\d.size<=sizeLine/\Vals xs d.toList
def MemK(K:av)(H:Hp)(ks:List (List Key))(b:Addr):Prop:=∃bs:List Addr,TupAt K H b (bs.map V.ref)/\jp (λk c=>TupAt K H c (k.map kV)) ks bs
def Kin(ks:List (List Key)):Prop:=∃d:List (Nat×Nat),ks=d.map (λp=>[.inl (p.1:Int),.inl (p.2:Int)])/\d.length<=5/\∀p∈d,p.1<5/\p.2<5
def Tu:HO->Prop
 |.tup _=>True
 |.frz _ (.tup _)=>True
 |_=>False
section
variable (P:cq) (w:ag)
def BK(H:Hp)(h:Heap)(a:Addr):HO->Prop
  |.mem F K=>(a==eI)=T2/\∃xs:List (List (List Key)×Addr×ac),(∀q∈xs,MemK K H q.1 q.2.1/\Kin q.1/\RelV (.int (F q.1)) q.2.2) ∧
      ∃o g ep,h.get? a=Y2 o/\o.ExactDict/\o.data=.dict g ep/\g.toList=xs.map (mI (PV.Wr (Ar P w)))/\(xs.map (·.1)).Nodup
  |.lst xs=>xs.length<=sizeLine/\∃(d:List ac) (n:Nat),Vals xs d/\h.get? a=Y2 { cls:=.type "list",data:=.seq d.toArray n }
  |.tup xs=>xs.length<=sizeLine/\∃d:List ac,Vals xs d/\IsTup h a d.toArray
  |.dK kvs=>kvs.length<=sizeLine/\(a==eI)=T2/\∃vs,KV kvs vs/\h.DictOf (Ar P w) a vs
  |.dT kvs=>kvs.length<=sizeLine/\(a==eI)=T2/\∃xs:List (List Key×Addr×ac),
      jp (λ(p:List Key×V) (q:List Key×Addr×ac)=>p.1=q.1/\H q.2.1=Y2 (.tup (p.1.map kV))/\RelV p.2 q.2.2) kvs xs ∧
      ∃o g ep,h.get? a=Y2 o/\o.ExactDict/\o.data=.dict g ep/\g.toList=xs.map (mI (kD (Ar P w)))/\(xs.map (·.1)).Nodup
  |.set S n=>h.SetOf (intKind P w) a S n
  |.ins C dx fs=>H dx=Y2 (.own a)/\fs.length<=1000/\dx≠a/\h.get? a=Y2 (jv C dx) ∧
      ∃mA,h.Ns1 dx mA/\(∀f,RelO (fs.lookup f) (mA f))/\nR mA (fs.map (·.1))
  |.own _=>∃o,h.get? a=Y2 o
  |.xd fs=>∃mA,h.Ns1 a mA/\∀f,RelO (fs.lookup f) (mA f)
  |.rng z G=>∃t u v,h.get? a=Y2 { cls:=.type "range",data:=.fields #[.int z t,.int G u,.int 1 v] }
  |.frz o u=>h.get? a=Y2 o/\BK H h a u
  |.tbl y=>h.get? a=Y2 { cls:=.none,data:=.fields y }
  |.met f x=>h.get? a=Y2 (nS (.ref f) (.ref x))
  |.ext φ=>φ h/\(∃o,h.get? a=Y2 o)/\∀h1 r:Heap,φ h1->(∀o,h1.get? a=Y2 o->r.get? a=Y2 o)->φ r
def HOk(H:Hp)(h:Heap):Prop:=∀a o,H a=Y2 o->BK P w H h a o
end
section
variable {w:ag}{H H':Hp}{h':Heap}{o:HO}
theorem BK.lt(x:BK P w H h a o):a<h.objs.size:=by
 cases o with
 |mem F K=>obtain⟨_,_,_,o,_,_,e,_⟩:=x;exact aT e
 |lst g=>obtain⟨_,_,_,_,e⟩:=x;exact aT e
 |tup g=>obtain⟨_,_,_,p⟩:=x;exact p.lt
 |dK d=>obtain⟨_,_,_,_,o,_,_,e,_⟩:=x;exact aT e
 |dT d=>obtain⟨_,_,_,_,o,_,_,e,_⟩:=x;exact aT e
 |set S n=>obtain⟨o,_,_,_,e,_⟩:=x;exact aT e
 |ins C dx fs=>obtain⟨_,_,_,e,_⟩:=x;exact aT e
 |own y=>obtain⟨_,e⟩:=x;exact aT e
 |xd fs=>obtain⟨_,⟨_,_,_,e,_⟩,_⟩:=x;exact aT e
 |rng z G=>obtain⟨_,_,_,e⟩:=x;exact aT e
 |frz ob u=>obtain⟨e,_⟩:=x;exact aT e
 |tbl r=>exact aT (show h.get? a=Y2 _ from x)
 |met f y=>exact aT (show h.get? a=Y2 _ from x)
 |ext φ=>obtain⟨_,⟨_,e⟩,_⟩:=x;exact aT e
theorem Paired.mapP{y v:Type}{F G:y->v->Prop}:∀{g:List y}{d:List v},jp F g d->(∀a b,F a b->G a b)->jp G g d
 |_,_,.nil,_=>.nil
 |_,_,.cons r t,f=>.cons (f _ _ r) (Paired.mapP t f)
theorem BK.stay(x:BK P w H h a o)(k:∀b u,(b=a∨H b=Y2 (.own a))->h.get? b=Y2 u->h'.get? b=Y2 u)(ho:∀b,H b=Y2 (.own a)->H' b=Y2 (.own a))(O:∀b o,Tu o->H b=Y2 o->H' b=Y2 o):BK P w H' h' a o:=by
 have T:∀{K:av}{b:Addr}{xs:List V},TupAt K H b xs->TupAt K H' b xs:=λ{K b xs} z=>by
  rcases z with (z | ⟨o,z⟩) | z
  .exact .inl (.inl (O b _ trivial z))
  .exact .inl (.inr ⟨o,O b _ trivial z⟩)
  .exact .inr z
 induction o with
 |mem F K=>
  obtain⟨y,xs,al,ob,g,G,e,c⟩:=x;exact⟨y,xs,λq hq=>by
   obtain⟨⟨bs,Z,Y⟩,X⟩:=al q hq;exact⟨⟨bs,T Z,Paired.mapP Y λ_ _ z=>T z⟩,X⟩,ob,g,G,k _ _ (.inl rfl) e,c⟩
 |lst xs=>obtain⟨z,I,n,r,e⟩:=x;exact⟨z,I,n,r,k _ _ (.inl rfl) e⟩
 |tup xs=>obtain⟨z,I,r,ob,e,c⟩:=x;exact⟨z,I,r,ob,k _ _ (.inl rfl) e,c⟩
 |dK L=>obtain⟨z,y,vs,r,ob,g,G,e,c⟩:=x;exact⟨z,y,vs,r,ob,g,G,k _ _ (.inl rfl) e,c⟩
 |dT L=>
  obtain⟨z,y,xs,r,ob,g,G,e,c⟩:=x;exact⟨z,y,xs,Paired.mapP r λp q z=>⟨z.1,O _ _ trivial z.2.1,z.2.2⟩,ob,g,G,k _ _ (.inl rfl) e,c⟩
 |set S n=>obtain⟨ob,g,G,t,e,c⟩:=x;exact⟨ob,g,G,t,k _ _ (.inl rfl) e,c⟩
 |ins C dx fs=>
  obtain⟨d,z,ne,e,mA,⟨J,g,G,e2,c⟩,r⟩:=x;exact⟨ho _ d,z,ne,k _ _ (.inl rfl) e,mA,⟨J,g,G,k _ _ (.inr d) e2,c⟩,r⟩
 |own y=>obtain⟨ob,e⟩:=x;exact⟨ob,k _ _ (.inl rfl) e⟩
 |xd fs=>obtain⟨mA,⟨J,g,G,e,c⟩,r⟩:=x;exact⟨mA,⟨J,g,G,k _ _ (.inl rfl) e,c⟩,r⟩
 |rng lo hi=>obtain⟨t,u,v,e⟩:=x;exact⟨t,u,v,k _ _ (.inl rfl) e⟩
 |frz ob u ih=>obtain⟨e,q⟩:=x;exact⟨k _ _ (.inl rfl) e,ih q⟩
 |tbl W=>
  have e:h.get? a=Y2 { cls:=.none,data:=.fields W }:=x;show h'.get? a=Y2 { cls:=.none,data:=.fields W };exact k a _ (.inl rfl) e
 |met f y=>
  have e:h.get? a=Y2 (nS (.ref f) (.ref y)):=x;show h'.get? a=Y2 (nS (.ref f) (.ref y));exact k a _ (.inl rfl) e
 |ext φ=>obtain⟨p,⟨o,e⟩,U⟩:=x;exact⟨U _ _ p λo q=>k _ _ (.inl rfl) q,⟨o,k _ _ (.inl rfl) e⟩,U⟩
theorem HOk.lt(x:HOk P w H h)(e:H a=Y2 o):a<h.objs.size:=(x a o e).lt
theorem HOk.fresh(x:HOk P w H h)(e:h.objs.size<=a):H a=X2:=by
 cases q:H a with
 |none=>rfl
 |some u=>exact absurd (eJ (x.lt q) e) (kG _)
theorem HOk.kept(x:HOk P w H h)(k:∀b u,h.get? b=Y2 u->h'.get? b=Y2 u):HOk P w H h':=λa o e=>
 (x a o e).stay (λb u _ q=>k b u q) (λ_ q=>q) λ_ _ _ q=>q
theorem HOk.laid(x:HOk P w H h)(k:∀b u,h.get? b=Y2 u->h'.get? b=Y2 u)(r:h.objs.size<=a)(new:BK P w (upd H a o) h' a o):HOk P w (upd H a o) h':=λb u e=>by
 have d:=x.fresh r
 by_cases g:b=a
 .subst g;rw[Ah] at e;cases e;exact new
 .rw[Ag g] at e;exact (x b u e).stay (λc v _ q=>k c v q) (λc q=>by rw[Ag (Bw q d)];exact q) λc y _ q=>by rw[Ag (Bw q d)];exact q
end
def Rd(H:Hp)(a:Addr)(u:HO):Prop:=H a=Y2 u∨∃o,H a=Y2 (.frz o u)
theorem Rd.of{H:Hp}{u:HO}(h:H a=Y2 u):Rd H a u:=.inl h
theorem Rd.ok{w:ag}{H:Hp}{u:HO}(r:Rd H a u)(x:HOk P w H h):BK P w H h a u:=by
 rcases r with r | ⟨o,r⟩
 .exact x a u r
 .obtain⟨_,q⟩:=x a _ r;exact q
def Mut:Option HO->Prop
 |some (.lst _)=>True
 |some (.dK _)=>True
 |some (.dT _)=>True
 |some (.set _ _)=>True
 |some (.ins _ _ _)=>True
 |some (.ext _)=>True
 |some (.mem _ _)=>True
 |_=>False
section
variable {w:ag}{H:Hp}{h':Heap}{x e:Addr}{o':HO}
theorem HOk.write(ok:HOk P w H h)(G:Mut (H x))(U:e=x∨H e=Y2 (.own x))(k:∀b u,b≠e->h.get? b=Y2 u->h'.get? b=Y2 u)(O:∃u,h'.get? e=Y2 u)(new:BK P w (upd H x o') h' x o'):HOk P w (upd H x o') h':=λb u q=>by
 have g:∀c y,H c=Y2 (.own y)->c≠x:=λc y r z=>by subst z;rw[r] at G;exact G
 have F:∀c o,Tu o->H c=Y2 o->c≠x:=λc o L r z=>by
  subst z;rw[r] at G;cases o with
  |tup S=>exact G
  |frz p u=>exact G
  |_=>exact L
 by_cases J:b=x
 .subst J;rw[Ah] at q;cases q;exact new
 .rw[Ag J] at q
  by_cases d:b=e
  .have T:H b=Y2 (.own x):=by
    rcases U with z | z
    .exact absurd (d.trans z) J
    .rw[d];exact z
   rw[q] at T;cases T;obtain⟨v,W⟩:=O;exact⟨v,by rw[d];exact W⟩
  .refine (ok b u q).stay (λc v I r=>k c v ?_ r) (λc r=>by rw[Ag (g c b r)];exact r) λc S L r=>by rw[Ag (F c S L r)];exact r
   rcases I with rfl | I
   .exact d
   .rintro rfl
    rcases U with z | z
    .exact g c b I z
    .rw[I] at z;cases z;exact J rfl
end
structure Un (fs ex:List Addr) (H H':Hp) (h h':Heap):Prop where
 keep:∀b o,h.get? b=Y2 o->H b=X2->b∉fs->b∉ex->h'.get? b=Y2 o
 slot:∀b o,h.get? b=Y2 o->H b=X2->b∈fs->b∉ex->∃sl,h'.get? b=Y2 { o with slots:=sl }
 free:∀b o,h.get? b=Y2 o->H b=X2->b∉ex->H' b=X2
 there:∀b o,h.get? b=Y2 o->b∉ex->∃o',h'.get? b=Y2 o'
 tups:∀b xs,H b=Y2 (.tup xs)->H' b=Y2 (.tup xs)
 frzs:∀b o u,H b=Y2 (.frz o u)->H' b=Y2 (.frz o u)
 tbls:∀b ps,H b=Y2 (.tbl ps)->∃more,H' b=Y2 (.tbl (ps++more))
section
variable {fs fs' ex ex':List Addr}{H H1 H2:Hp}{h1 h2 h':Heap}{x e:Addr}{o:HO}
theorem Un.any(u:Un fs ex H H1 h h1){b:Addr}{ob:Obj}(q:h.get? b=Y2 ob)(n:H b=X2)(d:b∉ex):∃r,h1.get? b=Y2 { ob with slots:=r }:=by
 by_cases g:b∈fs
 .exact u.slot b ob q n g d
 .exact⟨ob.slots,u.keep b ob q n g d⟩
theorem Un.kept(k:∀b u,h.get? b=Y2 u->h'.get? b=Y2 u):Un fs ex H H h h':=
 ⟨λb ob q _ _ _=>k b ob q,λb ob q _ _ _=>⟨ob.slots,k b ob q⟩,λ_ _ _ n _=>n,λb ob q _=>⟨ob,k b ob q⟩,λ_ _ q=>q,λ_ _ _ q=>q,λ_ d q=>⟨#[],by rw[q];simp⟩⟩
theorem Un.refl:Un fs ex H H h h:=Un.kept λ_ _ q=>q
theorem Un.laid(k:∀b u,h.get? b=Y2 u->h'.get? b=Y2 u)(r:h.objs.size<=a)(d:H a=X2):Un fs ex H (upd H a o) h h' where
 keep:=λb u q _ _ _=>k b u q
 slot:=λb u q _ _ _=>⟨u.slots,k b u q⟩
 free:=λb u q n _=>by rw[Ag (ca (eJ (aT q) r))];exact n
 there:=λb u q _=>⟨u,k b u q⟩
 tups:=λb g q=>by rw[Ag (Bw q d)];exact q
 frzs:=λb u g q=>by rw[Ag (Bw q d)];exact q
 tbls:=λb v q=>⟨#[],by rw[Ag (Bw q d),q];simp⟩
theorem Un.write(G:Mut (H x))(J:e=x∨H e=Y2 (.own x))(k:∀b u,b≠e->h.get? b=Y2 u->h'.get? b=Y2 u)(O:∃u,h'.get? e=Y2 u):Un fs ex H (upd H x o) h h':=by
 have v:∀b,H b=X2->b≠x:=λb n z=>by subst z;rw[n] at G;exact G
 have y:∀b,H b=X2->b≠e:=λb n z=>by
  subst z
  rcases J with r | r
  .exact v b n r
  .rw[n] at r;cases r
 have g:∀b u,H b=Y2 u->¬ Mut (Y2 u)->b≠x:=λb u q I z=>by subst z;rw[q] at G;exact I G
 refine⟨λb u q n _ _=>k b u (y b n) q,λb u q n _ _=>⟨u.slots,k b u (y b n) q⟩,λb u q n _=>by rw[Ag (v b n)];exact n,λb u q _=>?_,
  λb F q=>by rw[Ag (g b _ q λz=>z)];exact q,λb u F q=>by rw[Ag (g b _ q λz=>z)];exact q,λb L q=>⟨#[],by rw[Ag (g b _ q λz=>z),q];simp⟩⟩
 by_cases d:b=e
 .subst d;exact O
 .exact⟨u,k b u d q⟩
end
def trk(h:Heap)(H:Hp):List Addr:=(bp h.objs.size).filter λa=>(H a).isSome
def hidT(h:Heap)(H:Hp):Heap:=PySem.W.hideAll h (trk h H)
theorem V0(h:Heap)(H:Hp):(hidT h H).objs.size=h.objs.size:=PySem.W.hideAll_size _ _
theorem Ws{H:Hp}(e:h.get? b=Y2 o)(n:H b=X2):(hidT h H).get? b=Y2 o:=
 PySem.W.hideAll_get _ e λg=>by
  have q:(H b).isSome=U2:=(cr.mp g).2;rw[n] at q;simp at q
theorem Zm{H:Hp}(e:(hidT h H).get? b=Y2 o):h.get? b=Y2 o/\H b=X2:=by
 have L:h.get? b=Y2 o:=PySem.W.of_hideAll (trk h H) e;refine⟨L,?_⟩;cases q:H b with
 |none=>rfl
 |some x=>
  have g:b∈trk h H:=cr.mpr ⟨eW.mpr (aT L),by simp[q]⟩;have z:(hidT h H).get? b=X2:=PySem.W.hideAll_none (trk h H) g;rw[z] at e;cases e
def Zn(g h:Heap)(L:Addr):List (Addr×Obj):=(bp h.objs.size).filterMap λa=>if a=L∨(g.get? a).isSome=U2 then X2 else (h.get? a).map λo=>(a,o)
def rest(g h:Heap)(L d:Addr):List (Addr×Obj):=(Zn g h L).filter λp=>decide (p.1≠d)
structure Mod (K:av) (mg:Str->Option ac) (base:Heap):Prop where
 kin:K.In base
 glob:base.Ns dQ mg
 blt:∃mb,base.Ns nU mb/\∀x:Str,x≠"__name__"->mb x=dc x
 nolimit:base.NoLimit
structure Cx where
 prog:cq
 w:ag
 K:av
 mg:Str->Option ac
 base:Heap
 A:ar
 N:List Str
 s₀:ae
 H₀:Hp
 env:Env
 outer:List Env
 stack:List Env
 ex:List Addr
 fn:Str->Bool
 calm:Bool
 pn:List (Addr×Obj)
 xe:ac->ae->Prop
def frs(l:List Env):List Addr:=l.filterMap (·.frame)
abbrev Cx.fs (X:Cx):List Addr:=frs X.outer
def Vis(sc:g7)(x:Str):Prop:=sc.names.lookup x=Y2 .local ∨sc.names.lookup x=Y2 .cell ∨sc.names.lookup x=Y2 .free
def Loc(sc:g7)(x:Str):Prop:=sc.names.lookup x=Y2 .local ∨sc.names.lookup x=Y2 .cell
def Look(env:Env)(h:Heap)(m:Str->Option ac)(x:Str)(u:ac):Prop:=
 (env.kindOf x=Y2 .local /\m x=Y2 u)∨((env.kindOf x=Y2 .cell ∨env.kindOf x=Y2 .free)/\∃c,env.cells.lookup x=Y2 c/\h.IsCell c (Y2 u))
structure Cx.Ok (X:Cx):Prop where
 mod:Mod X.K X.mg X.base
 kind:X.env.scope.kind=.function
 glob:X.env.globals=dQ
 blt:X.env.builtins=nU
 above:X.s₀.heap.objs.size<=X.env.locals
 inj:∀x y c,X.env.cells.lookup x=Y2 c->X.env.cells.lookup y=Y2 c->x=y
 has:∀x,(X.env.kindOf x=Y2 .cell ∨X.env.kindOf x=Y2 .free)->∃c,X.env.cells.lookup x=Y2 c
 cab:∀x c,X.fn x=U2->X.env.cells.lookup x=Y2 c->X.s₀.heap.objs.size<=c
 hd:X.calm=U2->X.A.handled=X2
 frames:X.A.frames=Y2 X.stack
 stk:X.stack=X.outer∨(X.stack=X.env::X.outer/\X.env.frame=Y2 X.env.locals)
 exf:∀b∈X.ex,b≠X.env.locals/\∀x c,X.env.cells.lookup x=Y2 c->c≠b
 bs:∀b o,X.base.get? b=Y2 o->X.s₀.heap.get? b=Y2 o/\X.H₀ b=X2
 bsz:X.base.objs.size<=X.s₀.heap.objs.size
 noex:∀b o,X.base.get? b=Y2 o->b∉X.ex
 exfs:∀b∈X.ex,b∉X.fs
 funs:X.s₀.heap.FunFrames X.base X.outer
 frf:∀b∈X.fs,X.H₀ b=X2
structure Inv (X:Cx) (π:zP) (σ:List (Option V)) (H:Hp) (s:ae):Prop where
 ok:X.Ok
 os:s.os=X.s₀.os
 bare:i6 s.gens
 base:Un X.fs X.ex X.H₀ H X.s₀.heap s.heap
 loc:∃m,s.heap.Ns X.env.locals m/\∀(i:Nat) (x:Str) (v:V),X.N[i]?=Y2 x->σ[i]?=Y2 (Y2 v)->Vis X.env.scope x->∃u,RelV v u/\Look X.env s.heap m x u
 cell:∀x c,X.env.cells.lookup x=Y2 c->∃v,s.heap.IsCell c v
 free:H X.env.locals=X2
 freeC:∀x c,X.env.cells.lookup x=Y2 c->H c=X2
 pin:∀p∈X.pn++π,s.heap.get? p.1=Y2 p.2/\H p.1=X2/\p.1≠X.env.locals/\p.1∉X.fs/\∀v,p.2.data≠.cell v
 hok:HOk X.prog X.w H s.heap
 len:σ.length=X.N.length
section
variable {X:Cx}{H H':Hp}{h':Heap}
theorem Cx.Ok.nofr(ok:X.Ok){b:Addr}{o:Obj}(e:X.base.get? b=Y2 o):b∉X.fs:=λd=>by
 have:=(ok.funs.mem d).1;rw[e] at this;cases this
theorem Inv.bs(I:Inv X π σ H s):∀b o,X.base.get? b=Y2 o->s.heap.get? b=Y2 o/\H b=X2:=λb o e=>
 ⟨I.base.keep b o (I.ok.bs b o e).1 (I.ok.bs b o e).2 (I.ok.nofr e) (I.ok.noex b o e),I.base.free b o (I.ok.bs b o e).1 (I.ok.bs b o e).2 (I.ok.noex b o e)⟩
theorem Inv.bk(I:Inv X π σ H s):∀b o,X.base.get? b=Y2 o->s.heap.get? b=Y2 o:=λb o e=>(I.bs b o e).1
theorem Inv.mod(I:Inv X π σ H s):Mod X.K X.mg X.base:=I.ok.mod
theorem Inv.kIn(I:Inv X π σ H s):X.K.In s.heap:=I.ok.mod.kin.keeps I.bk
theorem Inv.lt(I:Inv X π σ H s):X.env.locals<s.heap.objs.size:=let ⟨_,hn,_⟩:=I.loc;hn.lt
theorem Inv.sz(I:Inv X π σ H s):X.s₀.heap.objs.size<=s.heap.objs.size:=cE I.ok.above (lS I.lt)
theorem Inv.nofs(I:Inv X π σ H s){a:Addr}(h:s.heap.objs.size<=a):a∉X.fs:=λd=>by
 obtain⟨_,o,y,_⟩:=I.ok.funs.mem d;exact absurd (eJ (aT y) (cE I.sz h)) (kG _)
theorem Inv.cne(I:Inv X π σ H s):∀x c,X.env.cells.lookup x=Y2 c->c≠X.env.locals:=λx c e z=>by
 obtain⟨v,o,y,r⟩:=I.cell x c e;obtain⟨m,⟨F,G,J,d,g,_⟩,_⟩:=I.loc;rw[z,d] at y;cases y;rw[g] at r;cases r
theorem Inv.funs(I:Inv X π σ H s):s.heap.FunFrames X.base X.outer:=by
 have all:∀(l:List Env),(∀b∈frs l,b∈X.fs)->X.s₀.heap.FunFrames X.base l->s.heap.FunFrames X.base l:=by
  intro l
  induction l with
  |nil=>intro _ _;trivial
  |cons U r y=>
   intro v Y;obtain⟨S,⟨L,o,F,O,J,T⟩,G⟩:=Y;have g:L∈X.fs:=v L (by unfold frs;rw[nV,F];exact bg);obtain⟨W,e⟩:=I.base.slot L o J (I.ok.frf L g) g λz=>I.ok.exfs L z g;exact⟨S,⟨L,_,F,O,e,T⟩,y (λb d=>v b (by unfold frs;rw[nV,F];exact aI _ d)) G⟩
 exact all X.outer (λ_ d=>d) I.ok.funs
theorem Inv.stack(I:Inv X π σ H s):s.heap.FunFrames X.base X.stack:=by
 rcases I.ok.stk with e | ⟨e,F⟩
 .rw[e];exact I.funs
 .rw[e];obtain⟨m,d,_⟩:=I.loc;refine .cons (by rw[I.ok.kind];decide) F d ?_ I.funs;exact Heap.get?_none_of_le (cE I.ok.bsz I.ok.above)
theorem Inv.stkSub(I:Inv X π σ H s):∀b∈frs X.stack,b∈X.env.locals::X.fs:=λb d=>by
 rcases I.ok.stk with e | ⟨e,F⟩
 .rw[e] at d;exact aI _ d
 .rw[e] at d;unfold frs at d;rw[nV,F] at d;exact d
theorem Inv.stkFree(I:Inv X π σ H s):∀b∈frs X.stack,H b=X2:=λb d=>by
 rcases ba.mp (I.stkSub b d) with e | d
 .rw[e];exact I.free
 .obtain⟨_,o,y,_⟩:=I.ok.funs.mem d;exact I.base.free b o y (I.ok.frf b d) λz=>I.ok.exfs b z d
theorem Inv.step{g':Array GenState}{d':Drawn}(I:Inv X π σ H s)(F:∀b∈ch,(b∈X.ex∨X.s₀.heap.objs.size<=b)/\b≠X.env.locals/\(∀x c,X.env.cells.lookup x=Y2 c->c≠b)/\∀p∈X.pn++π,p.1≠b)(keep:∀b o,b≠X.env.locals->b∉X.fs->b∉ch->s.heap.get? b=Y2 o->H b=X2->h'.get? b=Y2 o)(O:∀b o,b≠X.env.locals->b∈X.fs->b∉ch->s.heap.get? b=Y2 o->H b=X2->∃sl,h'.get? b=Y2 { o with slots:=sl })(free:∀b o,b∉ch->s.heap.get? b=Y2 o->H b=X2->H' b=X2)(S:∀b o,b∉ch->s.heap.get? b=Y2 o->∃Z,h'.get? b=Y2 Z)(W:∀b xs,H b=Y2 (.tup xs)->H' b=Y2 (.tup xs))(y0:∀b o u,H b=Y2 (.frz o u)->H' b=Y2 (.frz o u))(Y:∀b ps,H b=Y2 (.tbl ps)->∃v0,H' b=Y2 (.tbl (ps++v0)))(ns:∀m,s.heap.Ns X.env.locals m->h'.Ns X.env.locals m)(C0:HOk X.prog X.w H' h')(hg:i6 g'):
  Inv X π σ H' { s with heap:=h',gens:=g',drawn:=d',toks:=t' }:=by
 have u0:∀b o,X.s₀.heap.get? b=Y2 o->b≠X.env.locals:=λb o e=>ca (eJ (aT e) I.ok.above);have J:∀b o,X.s₀.heap.get? b=Y2 o->b∉X.ex->b∉ch:=λb o e g T=>by
  rcases (F b T).1 with z | z
  .exact g z
  .exact absurd (eJ (aT e) z) (kG _)
 have G:∀x c,X.env.cells.lookup x=Y2 c->∀v,s.heap.IsCell c v->h'.IsCell c v:=λx c e v ⟨o,U,hd⟩=>by
  have y:c∉ch:=λz=>(F c z).2.2.1 x c e rfl
  by_cases hc:c∈X.fs
  .obtain⟨sl,q⟩:=O c o (I.cne x c e) hc y U (I.freeC x c e);exact⟨_,q,hd⟩
  .exact⟨o,keep c o (I.cne x c e) hc y U (I.freeC x c e),hd⟩
 refine⟨I.ok,I.os,hg,⟨λb o e n T g=>?_,λb o e n T g=>?_,λb o e n g=>?_,λb o e g=>?_,λb xs e=>W b xs (I.base.tups b xs e),λb o xs e=>y0 b o xs (I.base.frzs b o xs e),λb ps e=>?_⟩,?_,λx c e=>?_,?_,λx c e=>?_,λp hp=>?_,C0,I.len⟩
 .exact keep b o (u0 b o e) T (J b o e g) (I.base.keep b o e n T g) (I.base.free b o e n g)
 .obtain⟨sl,L⟩:=I.base.slot b o e n T g;obtain⟨B0,e2⟩:=O b _ (u0 b o e) T (J b o e g) L (I.base.free b o e n g);exact⟨B0,e2⟩
 .obtain⟨Z,L⟩:=I.base.there b o e g;exact free b Z (J b o e g) L (I.base.free b o e n g)
 .obtain⟨Z,L⟩:=I.base.there b o e g;exact S b Z (J b o e g) L
 .obtain⟨m1,L⟩:=I.base.tbls b ps e;obtain⟨m2,e2⟩:=Y b _ L;exact⟨m1++m2,by rw[e2,Array.append_assoc]⟩
 .obtain⟨m,hn,hl⟩:=I.loc;refine⟨m,ns m hn,λi x v L e2 e3=>?_⟩;obtain⟨u,r,l⟩:=hl i x v L e2 e3;refine⟨u,r,?_⟩
  rcases l with l | ⟨k,c,e,z⟩
  .exact .inl l
  .exact .inr ⟨k,c,e,G x c e _ z⟩
 .obtain⟨v,z⟩:=I.cell x c e;exact⟨v,G x c e v z⟩
 .obtain⟨m,⟨o,_,_,U,_⟩,_⟩:=I.loc;exact free _ o (λz=>(F _ z).2.1 rfl) U I.free
 .obtain⟨v,o,U,hd⟩:=I.cell x c e;exact free c o (λz=>(F c z).2.2.1 x c e rfl) U (I.freeC x c e)
 .obtain⟨e,n,ne,nf,d⟩:=I.pin p hp;have y:p.1∉ch:=λz=>(F p.1 z).2.2.2 p hp rfl;exact⟨keep p.1 p.2 ne nf y e n,free p.1 p.2 y e n,ne,nf,d⟩
theorem Inv.un(I:Inv X π σ H s)(u:Un X.fs [] H H' s.heap h')(g:HOk X.prog X.w H' h'):Inv X π σ H' { s with heap:=h',toks:=t' }:=by
 obtain⟨m,⟨o,W,Y,G,r⟩,_⟩:=id I.loc;obtain⟨S,O⟩:=u.any G I.free (by simp);exact I.step (g':=s.gens) (d':=s.drawn) (ch:=[]) (λ_ z=>nomatch z) (λb o _ v _ e n=>u.keep b o e n v (by simp)) (λb o _ v _ e n=>u.slot b o e n v (by simp)) (λb o _ e n=>u.free b o e n (by simp)) (λb o _ e=>u.there b o e (by simp)) u.tups u.frzs u.tbls (λU L=>by
  obtain⟨T,y,F,d,J⟩:=L;rw[G] at d;cases d;exact⟨_,y,F,O,J⟩) g I.bare
theorem Inv.call{g':Array GenState}{d':Drawn}(I:Inv X π σ H s)(u:Un (frs X.stack) ch H H' s.heap h')(v:HOk X.prog X.w H' h')(T:i6 g')(F:∀b∈ch,(b∈X.ex∨X.s₀.heap.objs.size<=b)/\b≠X.env.locals/\(∀x c,X.env.cells.lookup x=Y2 c->c≠b)/\∀p∈X.pn++π,p.1≠b):
  Inv X π σ H' { s with heap:=h',gens:=g',drawn:=d',toks:=t' }:=by
 obtain⟨m,⟨o,es,ep,L,r⟩,_⟩:=id I.loc;obtain⟨W,y⟩:=u.any L I.free λz=>(F _ z).2.1 rfl;exact I.step (ch:=ch) F (λb o y U d e n=>u.keep b o e n (λz=>(ba.mp (I.stkSub b z)).elim y U) d) (λb o _ _ d e n=>u.any e n d) (λb o d e n=>u.free b o e n d) (λb o d e=>u.there b o e d) u.tups u.frzs u.tbls (λZ S=>by
  obtain⟨Y,G,J,g,O⟩:=S;rw[L] at g;cases g;exact⟨_,G,J,y,O⟩) v T
theorem Inv.turned(I:Inv X π σ H s)(k:∀b o,b≠it->s.heap.get? b=Y2 o->h'.get? b=Y2 o)(G:H it=X2)(y:it≠X.env.locals)(h1:it∈X.ex∨X.s₀.heap.objs.size<=it)(S:∀x c,X.env.cells.lookup x=Y2 c->c≠it)(O:∀p∈X.pn++π,p.1≠it):Inv X π σ H { s with heap:=h',toks:=t' }:=by
 have g:∀b u,H b=Y2 u->b≠it:=λb u e z=>by rw[z,G] at e;cases e
 refine I.step (g':=s.gens) (d':=s.drawn) (ch:=[it]) (λb L=>?_) (λb o _ _ d e _=>k b o (λz=>d (by simp[z])) e) (λb o _ _ d e _=>⟨o.slots,k b o (λz=>d (by simp[z])) e⟩) (λ_ _ _ _ n=>n)
  (λb o d e=>⟨o,k b o (λz=>d (by simp[z])) e⟩) (λ_ _ e=>e) (λ_ _ _ e=>e) (λb W e=>⟨#[],by rw[e];simp⟩) (λm J=>?_) (λb u e=>?_) I.bare
 .have e:b=it:=by simpa using L
  subst e;exact⟨h1,y,S,O⟩
 .obtain⟨o,T,U,F,r⟩:=J;exact⟨o,T,U,k _ o (bv y) F,r⟩
 .refine (I.hok b u e).stay (λc v d q=>k c v ?_ q) (λ_ q=>q) λ_ _ _ q=>q
  rcases d with z | z
  .rw[z];exact g b u e
  .exact g c _ z
theorem Inv.tok(I:Inv X π σ H s)(t:Nat):Inv X π σ H { s with toks:=t }:=I.un (h':=s.heap) (t':=t) Un.refl I.hok
theorem Inv.kept{t':Nat}(I:Inv X π σ H s)(k:∀b u,s.heap.get? b=Y2 u->h'.get? b=Y2 u):Inv X π σ H { s with heap:=h',toks:=t' }:=I.un (Un.kept k) (I.hok.kept k)
theorem Inv.laid{a:Addr}{o:HO}{t':Nat}(I:Inv X π σ H s)(k:∀b u,s.heap.get? b=Y2 u->h'.get? b=Y2 u)(r:s.heap.objs.size<=a)(new:BK X.prog X.w (upd H a o) h' a o):
  Inv X π σ (upd H a o) { s with heap:=h',toks:=t' }:=I.un (Un.laid k r (I.hok.fresh r)) (I.hok.laid k r new)
theorem Inv.write{x e:Addr}{o:HO}{t':Nat}(I:Inv X π σ H s)(G:Mut (H x))(d:e=x∨H e=Y2 (.own x))(k:∀b u,b≠e->s.heap.get? b=Y2 u->h'.get? b=Y2 u)(O:∃u,h'.get? e=Y2 u)(new:BK X.prog X.w (upd H x o) h' x o):Inv X π σ (upd H x o) { s with heap:=h',toks:=t' }:=I.un (Un.write G d k O) (I.hok.write G d k O new)
theorem Inv.pins_of{d:zP}(I:Inv X π σ H s)(h:∀p∈d,s.heap.get? p.1=Y2 p.2/\H p.1=X2/\p.1≠X.env.locals/\p.1∉X.fs/\∀v,p.2.data≠.cell v):Inv X d σ H s:=
 ⟨I.ok,I.os,I.bare,I.base,I.loc,I.cell,I.free,I.freeC,λp r=>(dv.mp r).elim (λz=>I.pin p (fE _ z)) (h p),I.hok,I.len⟩
theorem Mj(G:N.Nodup){i j:Nat}{x:Str}(a:N[i]?=Y2 x)(b:N[j]?=Y2 x):i=j:=by
 obtain⟨v,g⟩:=de.mp a;obtain⟨r,d⟩:=de.mp b;exact (pP G).mp (g.trans d.symm)
def Uq(N:List Str)(x:Str):Prop:=∀i j:Nat,N[i]?=Y2 x->N[j]?=Y2 x->i=j
theorem ik(G:N.Nodup):Uq N x:=λ_ _ a b=>Mj G a b
theorem Ml{A:ar}{v:V}{Q:Unit->ae->Prop}(I:Inv X π σ H s)(hN:Uq X.N x)(hi:X.N[i]?=Y2 x)(L:Loc X.env.scope x)(r:RelV v u)(h:∀s',Inv X π (σ.set i (Y2 v)) H s'->(∃a,iO a s.heap s'.heap/\(a=X.env.locals∨X.env.cells.lookup x=Y2 a))->Q () s')(hf:X.fn x=U2∨X.env.scope.names.lookup x=Y2 .local :=by first | exact .inl rfl | exact .inr rfl | assumption):af M A (storeName X.env x u) Q E s:=by
 obtain⟨m,hn,hl⟩:=id I.loc;have y0:(X.env.scope.kind==.class||(X.env.scope.kind==.module&&X.env.locals != X.env.globals))=T2:=by rw[I.ok.kind];rfl
 have U:i<σ.length:=by rw[I.len];exact (de.mp hi).1
 have cne:=I.cne;have F:∀{a:Addr}{h':Heap},(∃o,s.heap.get? a=Y2 o/\H a=X2)->iO a s.heap h'->HOk X.prog X.w H h':=λ{a h'} ha g b ob e=>by
  obtain⟨_,_,O⟩:=ha;refine (I.hok b ob e).stay (λc w' J q=>(g.2 c ?_).trans q) (λ_ q=>q) λ_ _ _ q=>q;rintro rfl
  rcases J with rfl | J
  .rw[O] at e;cases e
  .rw[O] at J;cases J
 rcases L with T | T
 .refine wpAny_storeName_local T hn (λh' F0 g=>?_) y0;obtain⟨oL,_,_,D0,_⟩:=id hn;refine h _ ⟨I.ok,I.os,I.bare,⟨λb o e n Z L=>?_,λb o e n Z L=>?_,I.base.free,λb o e L=>?_,I.base.tups,I.base.frzs,I.base.tbls⟩,⟨_,F0,λj y v' G S e3=>?_⟩,λy c e=>?_,I.free,I.freeC,λp hp=>?_,F ⟨oL,D0,I.free⟩ g,by simpa using I.len⟩ ⟨_,g,.inl rfl⟩
  .exact (g.2 b (ca (eJ (aT e) I.ok.above))).trans (I.base.keep b o e n Z L)
  .obtain⟨sl,G⟩:=I.base.slot b o e n Z L;exact⟨sl,(g.2 b (ca (eJ (aT e) I.ok.above))).trans G⟩
  .obtain⟨o',G⟩:=I.base.there b o e L;exact⟨o',(g.2 b (ca (eJ (aT e) I.ok.above))).trans G⟩
  .by_cases W:j=i
   .subst W;rw[hi] at G;cases G;rw[gI U] at S;cases S;exact⟨u,r,.inl ⟨T,by simp⟩⟩
   .rw[eC (bv W)] at S;obtain⟨u',r',q⟩:=hl j y v' G S e3;refine⟨u',r',?_⟩
    rcases q with ⟨k,e⟩ | ⟨k,c,e,z⟩
    .refine .inl ⟨k,?_⟩;have:y≠x:=λe=>W (hN _ _ (e▸G) hi);simp[this,e]
    .exact .inr ⟨k,c,e,z.sameBut g (cne y c e)⟩
  .obtain⟨w',z⟩:=I.cell y c e;exact⟨w',z.sameBut g (cne y c e)⟩
  .obtain⟨e,n,ne,nf,d⟩:=I.pin p hp;exact⟨(g.2 p.1 ne).trans e,n,ne,nf,d⟩
 .have Y:X.fn x=U2:=by
   rcases hf with z | z
   .exact z
   .rw[z] at T;cases T
  obtain⟨c,J⟩:=I.ok.has x (.inl T);obtain⟨w',z⟩:=I.cell x c J;refine wpAny_storeName_cell I.ok.kind T J z (λh' C0 g=>?_);obtain⟨oc,v0,u0⟩:=id z;refine h { s with heap:=h' } ⟨I.ok,I.os,I.bare,⟨λb o e n Z L=>?_,λb o e n Z L=>?_,I.base.free,λb o e L=>?_,I.base.tups,I.base.frzs,I.base.tbls⟩,⟨m,hn.sameBut g (bv (cne x c J)),λj y v' G S e3=>?_⟩,λy c' e=>?_,I.free,I.freeC,λp hp=>?_,F ⟨oc,v0,I.freeC x c J⟩ g,by simpa using I.len⟩ ⟨c,g,.inr J⟩
  .exact (g.2 b (ca (eJ (aT e) (I.ok.cab x c Y J)))).trans (I.base.keep b o e n Z L)
  .obtain⟨sl,G⟩:=I.base.slot b o e n Z L;exact⟨sl,(g.2 b (ca (eJ (aT e) (I.ok.cab x c Y J)))).trans G⟩
  .obtain⟨o',G⟩:=I.base.there b o e L;exact⟨o',(g.2 b (ca (eJ (aT e) (I.ok.cab x c Y J)))).trans G⟩
  .by_cases W:j=i
   .subst W;rw[hi] at G;cases G;rw[gI U] at S;cases S;exact⟨u,r,.inr ⟨.inl T,c,J,C0⟩⟩
   .rw[eC (bv W)] at S;obtain⟨u',r',q⟩:=hl j y v' G S e3;refine⟨u',r',?_⟩
    rcases q with q | ⟨k,c',e,z'⟩
    .exact .inl q
    .refine .inr ⟨k,c',e,z'.sameBut g ?_⟩;rintro rfl;exact W (hN _ _ (I.ok.inj _ _ _ e J▸G) hi)
  .by_cases B0:c'=c
   .subst B0;exact⟨_,C0⟩
   .obtain⟨w2,z2⟩:=I.cell y c' e;exact⟨w2,z2.sameBut g B0⟩
  .obtain⟨e,n,ne,nf,d⟩:=I.pin p hp;refine⟨(g.2 p.1 ?_).trans e,n,ne,nf,d⟩;intro q;rw[q,v0] at e;have q':oc=p.2:=bE e;exact d w' (by rw[<-q'];exact u0)
theorem V1{A:ar}{v:V}{Q:Unit->ae->Prop}(I:Inv X π σ H s)(y:X.N.Nodup)(G:X.N[i]?=Y2 x)(g:Loc X.env.scope x)(r:RelV v u)(h:∀d,Inv X π (σ.set i (Y2 v)) H d->(∃a,iO a s.heap d.heap/\(a=X.env.locals∨X.env.cells.lookup x=Y2 a))->Q () d)(F:X.fn x=U2∨X.env.scope.names.lookup x=Y2 .local :=by first | exact .inl rfl | exact .inr rfl | assumption):af M A (storeName X.env x u) Q E s:=Ml I (ik y) G g r h F
theorem Qt{A:ar}{v:V}{Q:Unit->ae->Prop}(I:Inv X π σ H s)(y:X.N.Nodup)(G:X.N[i]?=Y2 x)(g:Loc X.env.scope x)(r:RelV v u)(h:∀d,Inv X π (σ.set i (Y2 v)) H d->Q () d)(F:X.fn x=U2∨X.env.scope.names.lookup x=Y2 .local :=by first | exact .inl rfl | exact .inr rfl | assumption):af M A (storeName X.env x u) Q E s:=
 V1 I y G g r (λd z _=>h d z) F
theorem Inv.call'{s':ae}(I:Inv X π σ H s)(z:s'.os=s.os)(u:Un (frs X.stack) ch H H' s.heap s'.heap)(g:HOk X.prog X.w H' s'.heap)(T:i6 s'.gens)(F:∀b∈ch,(b∈X.ex∨X.s₀.heap.objs.size<=b)/\b≠X.env.locals/\(∀x c,X.env.cells.lookup x=Y2 c->c≠b)/\∀p∈X.pn++π,p.1≠b):Inv X π σ H' s':=by
 obtain⟨G,r,v,d,y⟩:=s';have e:y=s.os:=z;subst e;exact I.call (g':=r) (t':=d) (d':=v) u g T F
end
abbrev XK:=ac->Option Addr->Hp->Prop
abbrev St:=List (Option V)
abbrev VK:=V->Hp->Prop
abbrev TE:=St->Hp->VK->Prop
abbrev TT:=St->Hp->(Bool->Hp->Prop)->Prop
abbrev TA:=St->Hp->(List V->Hp->Prop)->Prop
structure Ends where
 nx:St->Hp->Prop
 rt:VK
 bk:St->Hp->Prop:=λ_ _=>False
 ct:St->Hp->Prop:=λ_ _=>False
abbrev TS:=Ends->St->Hp->Prop
def EP(X:Cx)(r:zP)(g:St)(Q:VK)(u:ac)(y:ae):Prop:=∃v d,Inv X r g d y/\RelV v u/\Q v d
def TP(X:Cx)(r:zP)(g:St)(Q:Bool->Hp->Prop)(b:Bool)(v:ae):Prop:=∃d,Inv X r g d v/\Q b d
def AP(X:Cx)(r:zP)(g:St)(Q:List V->Hp->Prop)(us:List ac)(v:ae):Prop:=∃vs d,Inv X r g d v/\Vals vs us/\Q vs d
def SP(X:Cx)(r:zP)(D:Ends)(f:Flow)(y:ae):Prop:=
 match f with
 |.next=>∃d g,Inv X r d g y/\D.nx d g
 |.brk=>∃d g,Inv X r d g y/\D.bk d g
 |.cont=>∃d g,Inv X r d g y/\D.ct d g
 |.ret u=>∃v d g,Inv X r d g y/\RelV v u/\D.rt v g
def PE(X:Cx)(e:Expr)(t:TE):Prop:=
 ∀(r:zP) (s:ae) (g:St) (H:Hp) (Q:VK),Inv X r g H s->t g H Q->af (ah X.prog X.w) X.A (eval e X.env) (EP X r g Q) X.xe s
def PT(X:Cx)(e:Expr)(t:TT):Prop:=
 ∀(r:zP) (s:ae) (g:St) (H:Hp) (Q:Bool->Hp->Prop),Inv X r g H s->t g H Q->af (ah X.prog X.w) X.A (kH e X.env (eval e X.env)) (TP X r g Q) X.xe s
def PW(X:Cx)(e:Expr)(t:TT):Prop:=
 ∀(whole:Sem ac) (r:zP) (s:ae) (g:St) (H:Hp) (Q:Bool->Hp->Prop),Inv X r g H s->t g H Q->af (ah X.prog X.w) X.A (kH e X.env whole) (TP X r g Q) X.xe s
theorem PW.pt{X:Cx}{t:TT}(h:PW X e t):PT X e t:=h _
def PA(X:Cx)(v:List Expr)(t:TA):Prop:=
 ∀(d:Pos) (r:zP) (s:ae) (g:St) (H:Hp) (Q:List V->Hp->Prop),Inv X r g H s->t g H Q->af (ah X.prog X.w) X.A (spliced (br d (ai v X.env))) (AP X r g Q) X.xe s
def PS(X:Cx)(st:Stmt)(t:TS):Prop:=
 ∀(r:zP) (s:ae) (g:St) (H:Hp) (D:Ends),Inv X r g H s->t D g H->af (ah X.prog X.w) X.A (exec st X.env) (SP X r D) X.xe s
def PSs(X:Cx)(st:List Stmt)(t:TS):Prop:=
 ∀(r:zP) (s:ae) (g:St) (H:Hp) (D:Ends),Inv X r g H s->t D g H->af (ah X.prog X.w) X.A (execs st X.env) (SP X r D) X.xe s
theorem thn{d:Type}{t:Sem d}{Q g:d->ae->Prop}{A:ar}(h:af M A t Q E s)(r:∀a s,Q a s->g a s):af M A t g E s:=f6 h r λ_ _ x=>x
section
variable {X:Cx}
def tVar(i:Nat):TE:=λg H Q=>∃v,g[i]?=Y2 (Y2 v)/\Q v H
def tC(v:V):TE:=λ_ H Q=>Q v H
theorem d_(T:X.N[i]?=Y2 x)(L:Vis X.env.scope x)(z:(x==("__debug__":Str))=T2:=by decide)(y:(x==("__classdict__":Str))=T2:=by decide):PE X (.Name x pos) (tVar i):=by
 intro J s G H Q I h;obtain⟨v,e,h⟩:=h;obtain⟨m,O,Y⟩:=I.loc;obtain⟨u,r,l⟩:=Y i x v T e L;have fin:EP X J G Q u s:=⟨v,H,I,r,h⟩
 rcases l with ⟨g,S⟩ | ⟨g,c,F,d⟩
 .exact nW (wpAny_loadName_local I.ok.kind g O S fin) z
 .rcases g with g | g
  .exact nW (wpAny_loadName_cell I.ok.kind g F d fin) z
  .exact nW (wpAny_loadName_free I.ok.kind g F d fin y) z
theorem eE{i j pos}:PE X (.Constant (.int i) j pos) (tC (.int i)):=λ_ _ _ H _ I h=>wpAny_Constant_int ⟨.int i,H,I.tok _,⟨_,rfl⟩,h⟩
theorem ir{b j pos}:PE X (.Constant (.bool b) j pos) (tC (.bl b)):=λ_ _ _ H _ I h=>Constant_bool ⟨.bl b,H,I,rfl,h⟩
theorem eF{x j pos}:PE X (.Constant (.str x) j pos) (tC (.str x)):=λ_ _ _ H _ I h=>Calls.Constant_str ⟨.str x,H,I.tok _,⟨_,rfl⟩,h⟩
def Gl(X:Cx)(x:Str):Prop:=X.env.kindOf x=Y2 .globalImplicit
theorem Pk{g:St}{H:Hp}(I:Inv X π g H s)(T:Gl X x)(d:X.mg x=Y2 u)(h:Q u s)(z:(x==("__debug__":Str))=T2:=by decide):af (ah X.prog X.w) X.A (eval (.Name x pos) X.env) Q E s:=
 pQ I.ok.kind T (Calls.loadGlobal_global (by rw[I.ok.glob];exact I.mod.glob.keeps I.bk) d h) z
theorem Mm{g:St}{H:Hp}(I:Inv X π g H s)(T:Gl X x)(v:X.mg x=X2)(d:dc x=Y2 u)(h:Q u s)(r:x≠"__name__":=by decide)(z:(x==("__debug__":Str))=T2:=by decide):af (ah X.prog X.w) X.A (eval (.Name x pos) X.env) Q E s:=by
 obtain⟨G,F,y⟩:=I.mod.blt;exact pQ I.ok.kind T (Calls.loadGlobal_builtin (by rw[I.ok.glob];exact I.mod.glob.keeps I.bk) v (by rw[I.ok.blt];exact F.keeps I.bk) ((y x r).trans d) h) z
theorem Ey{v:V}(T:Gl X x)(g:X.mg x=Y2 u)(r:RelV v u)(z:(x==("__debug__":Str))=T2:=by decide):PE X (.Name x pos) (tC v):=
 λ_ _ _ H _ I h=>Pk I T g ⟨v,H,I,r,h⟩ z
theorem Zo{v:V}(T:Gl X x)(y:X.mg x=X2)(g:dc x=Y2 u)(r:RelV v u)(d:x≠"__name__":=by decide)(z:(x==("__debug__":Str))=T2:=by decide):PE X (.Name x pos) (tC v):=
 λ_ _ _ H _ I h=>Mm I T y g ⟨v,H,I,r,h⟩ d z
def t2I(r d:TE)(k:Int->Int->Hp->Prop):St->Hp->Prop:=λg H=>r g H λx z=>d g z λy v=>∃i j,x=.int i/\y=.int j/\k i j v
variable {a b:Expr}{ta tb:TE}
def tCmp(p:Int->Int->Bool)(r d:TE):TE:=λg H Q=>t2I r d (λi j v=>Q (.bl (p i j)) v) g H
abbrev tLt:TE->TE->TE:=tCmp λi j=>decide (i<j)
abbrev tGt:TE->TE->TE:=tCmp λi j=>decide (j<i)
abbrev tGe:TE->TE->TE:=tCmp λi j=>decide (j<=i)
variable {tA tB':TT}{rest:List Expr}
def tOr(t u:TT):TT:=λg H Q=>t g H λc z=>if c=U2 then Q U2 z else u g z Q
def tNot(t:TT):TT:=λg H Q=>t g H λc z=>Q (!c) z
theorem Wt(d:PT X a tA):PW X (.BoolOp .Or [a] pos) tA:=by
 intro v r s g H Q I h;refine isTrue_or (thn (d r s g H Q I h) λc y e=>?_);cases c with
 |false=>exact isTrue_or_nil e
 |true=>exact e
theorem b_(G:PT X a tA)(F:PW X (.BoolOp .Or (b::rest) pos) tB'):PW X (.BoolOp .Or (a::b::rest) pos) (tOr tA tB'):=by
 intro v r s g H Q I h;refine isTrue_or (thn (G r s g H _ I h) λc y ⟨z,d,q1⟩=>?_);cases c with
 |true=>exact⟨z,d,q1⟩
 |false=>exact F v r y g z Q d q1
theorem eG(d:PT X a tA):PT X (.UnaryOp .Not a pos) (tNot tA):=by
 intro r s g H Q I h;exact isTrue_not (d r s g H (λc z=>Q (!c) z) I h)
def iu(r d:TE):TE:=λg H Q=>r g H λx z=>∃c,x=.bl c/\if c=U2 then d g z Q else Q (.bl T2) z
def iw(r:TE):TE:=λg H Q=>r g H λx z=>∃c,x=.bl c/\Q (.bl (!c)) z
theorem eO{op}{t:TE}(h:PE X a t):PE X (.BoolOp op [a] pos) t:=λr s g H Q I d=>BoolOp_one (h r s g H Q I d)
theorem eQ(J:PE X a ta)(G:PE X (.BoolOp .And (b::rest) pos) tb):PE X (.BoolOp .And (a::b::rest) pos) (iu ta tb):=by
 intro r s g H Q I h;refine BoolOp_and (thn (J r s g H _ I h) λv y ⟨x,z,d,F,q1⟩=>?_);obtain⟨c,rfl,q1⟩:=q1;cases F;refine ky ?_;cases c with
 |true=>exact G r y g z Q d q1
 |false=>exact⟨.bl T2,z,d,rfl,q1⟩
theorem eU(d:PE X a ta):PE X (.UnaryOp .Not a pos) (iw ta):=by
 intro r s g H Q I h;refine UnaryOp_ (thn (d r s g H _ I h) λv G ⟨x,z,y,F,q1⟩=>?_);obtain⟨c,rfl,q1⟩:=q1;cases F;exact not_of (ky ⟨.bl (!c),z,y,rfl,q1⟩)
end
def SqL(K:av)(H:Hp)(a:Addr)(xs:List V):Prop:=
 Rd H a (.lst xs) ∨
  ∃(o:Obj) (d:Array ac) (n:Nat),K.lookup a=Y2 o/\o.cls=.type "list"/\o.dict=X2/\o.data=.seq d n/\d.size<=sizeLine/\Vals xs d.toList
def SqT(K:av)(H:Hp)(a:Addr)(xs:List V):Prop:=
 Rd H a (.tup xs) ∨
  ∃(o:Obj) (d:Array ac) (n:Nat),K.lookup a=Y2 o/\o.cls=.type "tuple"/\o.data=.seq d n/\d.size<=sizeLine/\Vals xs d.toList
def absV:ac->Option V
 |.none=>Y2 .non
 |.bool b=>Y2 (.bl b)
 |.int i _=>Y2 (.int i)
 |.str x _=>Y2 (.str x)
 |.bytes b _=>Y2 (.byt b)
 |.float b _=>Y2 (.flt b)
 |.ref a=>Y2 (.ref a)
 |.type n=>Y2 (.ty n)
 |_=>X2
theorem RelV.abs{x:V}(r:RelV x u):absV u=Y2 x:=by
 cases x with
 |non=>cases r;rfl
 |bl _=>cases r;rfl
 |int _=>obtain⟨t,rfl⟩:=r;rfl
 |str _=>obtain⟨t,rfl⟩:=r;rfl
 |byt _=>obtain⟨t,rfl⟩:=r;rfl
 |flt _=>obtain⟨t,rfl⟩:=r;rfl
 |ref _=>cases r;rfl
 |ty _=>cases r;rfl
theorem RelV.inj{x y:V}{u:ac}(r:RelV x u)(q:RelV y u):x=y:=bE (r.abs.symm.trans q.abs)
theorem Vals.inj:∀{xs ys:List V}{us:List ac},Vals xs us->Vals ys us->xs=ys
 |_,_,_,.nil,.nil=>rfl
 |_,_,_,.cons r t,.cons J d=>by rw[r.inj J,Vals.inj t d]
section
variable {X:Cx}{H:Hp}{xs ys:List V}
theorem SqL.of{K:av}(h:H a=Y2 (.lst xs)):SqL K H a xs:=.inl (.inl h)
theorem SqT.of{K:av}(h:H a=Y2 (.tup xs)):SqT K H a xs:=.inl (.inl h)
theorem Inv.list(I:Inv X π σ H s)(h:SqL X.K H a xs):∃its:List ac,Vals xs its/\PlainL s.heap a its.toArray/\xs.length<=sizeLine:=by
 rcases h with h | ⟨o,its,n,d,y,g,v,O,r⟩
 .obtain⟨z,its,n,r,e⟩:=h.ok I.hok;exact⟨its,r,⟨_,n,e,rfl,rfl,rfl⟩,z⟩
 .refine⟨its.toList,r,⟨o,n,I.kIn a o d,y,g,by simpa using v⟩,?_⟩;have e:=r.length;simp only[lr] at e;omega
theorem Inv.tuple(I:Inv X π σ H s)(h:SqT X.K H a xs):∃its:List ac,Vals xs its/\IsTup s.heap a its.toArray/\xs.length<=sizeLine:=by
 rcases h with h | ⟨o,its,n,d,g,v,O,r⟩
 .obtain⟨z,its,r,p⟩:=h.ok I.hok;exact⟨its,r,p,z⟩
 .refine⟨its.toList,r,⟨o,I.kIn a o d,g,n,by simpa using v⟩,?_⟩;have e:=r.length;simp only[lr] at e;omega
theorem Inv.list_inj(I:Inv X π σ H s)(h:SqL X.K H a xs)(h':SqL X.K H a ys):xs=ys:=by
 obtain⟨g,r,⟨o,n,e,_,_,d⟩,_⟩:=I.list h;obtain⟨its',J,⟨F,z,L,_,_,v⟩,_⟩:=I.list h';rw[e] at L;cases L;rw[d] at v;injection v with y _
 have:g=its':=by simpa using congrArg pR y
 subst this;exact r.inj J
theorem Inv.tuple_inj(I:Inv X π σ H s)(h:SqT X.K H a xs)(h':SqT X.K H a ys):xs=ys:=by
 obtain⟨g,r,⟨o,e,_,n,d⟩,_⟩:=I.tuple h;obtain⟨its',J,⟨F,L,_,z,v⟩,_⟩:=I.tuple h';rw[e] at L;cases L;rw[d] at v;injection v with y _
 have:g=its':=by simpa using congrArg pR y
 subst this;exact r.inj J
end
abbrev Cx.wish (X:Cx) (E:ac->ae->Prop):Cx:={ X with xe:=E }
abbrev Cx.nox (X:Cx):Cx:=X.wish λ_ _=>False
theorem Cx.Ok.wish{X:Cx}(ok:X.Ok)(E:ac->ae->Prop):(X.wish E).Ok:=
 ⟨ok.mod,ok.kind,ok.glob,ok.blt,ok.above,ok.inj,ok.has,ok.cab,ok.hd,ok.frames,ok.stk,ok.exf,ok.bs,ok.bsz,ok.noex,ok.exfs,ok.funs,ok.frf⟩
theorem Cx.Ok.unwish{X:Cx}(ok:(X.wish E).Ok):X.Ok:=
 ⟨ok.mod,ok.kind,ok.glob,ok.blt,ok.above,ok.inj,ok.has,ok.cab,ok.hd,ok.frames,ok.stk,ok.exf,ok.bs,ok.bsz,ok.noex,ok.exfs,ok.funs,ok.frf⟩
section
variable {X:Cx}{H:Hp}
theorem Inv.wish(I:Inv X π σ H s)(E:ac->ae->Prop):Inv (X.wish E) π σ H s:=⟨I.ok.wish E,I.os,I.bare,I.base,I.loc,I.cell,I.free,I.freeC,I.pin,I.hok,I.len⟩
theorem Inv.unwish(I:Inv (X.wish E) π σ H s):Inv X π σ H s:=⟨I.ok.unwish,I.os,I.bare,I.base,I.loc,I.cell,I.free,I.freeC,I.pin,I.hok,I.len⟩
theorem SP.unwish{D:Ends}{f:Flow}{s':ae}(h:SP (X.wish E) π D f s'):SP X π D f s':=by
 cases f with
 |next=>obtain⟨d,g,I,q⟩:=h;exact⟨d,g,I.unwish,q⟩
 |brk=>obtain⟨d,g,I,q⟩:=h;exact⟨d,g,I.unwish,q⟩
 |cont=>obtain⟨d,g,I,q⟩:=h;exact⟨d,g,I.unwish,q⟩
 |ret u=>obtain⟨v,d,g,I,r,q⟩:=h;exact⟨v,d,g,I.unwish,r,q⟩
theorem PSs.nox{st:List Stmt}{t:TS}(h:PSs X.nox st t):PSs X st t:=λr s g H D I d=>
 f6 (h r s g H D (I.wish _) d) (λ_ _ q=>q.unwish) λ_ _ z=>fq z
end
section
variable {X:Cx}{rest:List Stmt}{t u:TS}{te:TE}
def iy:TS:=λD g H=>D.nx g H
def tSeq(t u:TS):TS:=λD g H=>t { D with nx:=u D } g H
theorem Lw:PSs X [] iy:=λ_ _ g H _ I h=>nX ⟨g,H,I,h⟩
theorem Fl(h1:PS X st t)(z:PSs X rest u):PSs X (st::rest) (tSeq t u):=by
 intro r s g H D I h;refine pS (thn (h1 r s g H { D with nx:=u D } I h) λf y q=>?_);cases f with
 |next=>
  obtain⟨d,G,F,q⟩:=q;exact z r y d G D F q
 |ret v=>exact q
 |brk=>exact q
 |cont=>exact q
theorem Iz(h1:PS X st t):PSs X [st] t:=by
 intro r s g H D I h;refine pS (thn (h1 r s g H D I h) λf y q=>?_);cases f with
 |next=>exact nX q
 |ret v=>exact q
 |brk=>exact q
 |cont=>exact q
theorem Inv.quiet{g:St}{H:Hp}(I:Inv X π g H s):interactive X.env=T2:=by simp[interactive,I.ok.kind]
def iz(te:TE):TS:=λD g H=>te g H λ_ z=>D.nx g z
theorem Lx(G:PE X e te)(d:dA e X2 pos.line X.env=pure T2:=by rfl):PS X (.Expr e pos) (iz te):=by
 intro r s g H D I h;exact wpAny_Expr_any (thn (G r s g H _ I h) λv F ⟨x,z,y,J,q1⟩=>⟨g,z,y,q1⟩) I.quiet d
def tRet(te:TE):TS:=λD g H=>te g H D.rt
theorem Wu(G:PE X e te):PS X (.Return (Y2 e) pos) (tRet te):=by
 intro r s g H D I h;exact wpAny_Return_some (thn (G r s g H _ I h) λv y ⟨x,z,d,F,q1⟩=>⟨x,g,z,d,F,q1⟩)
def tIfS(c:TT)(t u:TS):TS:=λD g H=>c g H λb z=>if b=U2 then t D g z else u D g z
theorem UL{c:Expr}{a b:List Stmt}{tc:TT}(F:PT X c tc)(J:PSs X a t)(G:PSs X b u):PS X (.If c a b pos) (tIfS tc t u):=by
 intro r s g H D I h;refine wpAny_If (thn (F r s g H _ I h) λd y ⟨z,v,q1⟩=>?_);cases d with
 |true=>exact J r y g z D v q1
 |false=>exact G r y g z D v q1
end
abbrev TG:=V->St->Hp->(St->Hp->Prop)->Prop
abbrev TGs:=List V->St->Hp->(St->Hp->Prop)->Prop
def PG(X:Cx)(d:Expr)(t:TG):Prop:=
 ∀(y:zP) (s:ae) (r:St) (H:Hp) (v:V) (u:ac) (Q:St->Hp->Prop),Inv X y r H s->RelV v u->t v r H Q ->
  af (ah X.prog X.w) X.A (lu d X.env u) (λ_ F=>∃g z,Inv X y g z F/\Q g z) X.xe s
def PGs(X:Cx)(y:List Expr)(t:TGs):Prop:=
 ∀(r:zP) (s:ae) (g:St) (H:Hp) (vs:List V) (us:List ac) (Q:St->Hp->Prop),Inv X r g H s->Vals vs us->t vs g H Q ->
  af (ah X.prog X.w) X.A (assignInOrder ((ff y X.env).map (·.2)) us) (λ_ z=>∃d v,Inv X r d v z/\Q d v) X.xe s
section
variable {X:Cx}
def GR(i:Nat):TG:=λv g H Q=>Q (g.set i (Y2 v)) H
theorem Zq(g:X.N.Nodup)(G:X.N[i]?=Y2 x)(d:Loc X.env.scope x)(F:X.fn x=U2∨X.env.scope.names.lookup x=Y2 .local :=by first | exact .inl rfl | exact .inr rfl | assumption):PG X (.Name x pos) (GR i):=by
 intro J s y H v u Q I r h;exact pT (Qt I g G d r (λL z=>⟨_,H,z,h⟩) F)
def gNil:TGs:=λvs g H Q=>vs=[]/\Q g H
def i_(t:TG)(u:TGs):TGs:=λvs g H Q=>∃v r,vs=v::r/\t v g H λd y=>u r d y Q
theorem Zr:PGs X [] gNil:=by
 intro d s g H F G Q I r h;obtain⟨e,h⟩:=h;subst e;cases r;exact assignInOrder_nil ⟨g,H,I,h⟩
theorem Wv{t:TG}{u:TGs}(h1:PG X e t)(J:PGs X es u)(G:(ff (e::es) X.env).map (·.2)=lu e X.env::(ff es X.env).map (·.2):=by rfl):PGs X (e::es) (i_ t u):=by
 intro g s y H T U Q I r h;obtain⟨v,vr,L,h⟩:=h;subst L;cases r with
 |cons r F=>
  rw[G];refine assignInOrder_cons (thn (h1 g s y H _ _ _ I r h) λ_ z ⟨d,S,O,q1⟩=>?_);exact J g z d S _ _ Q O F q1
def gTup(K:av)(n:Nat)(t:TGs):TG:=λv g H Q=>∃a xs,v=.ref a/\SqT K H a xs/\xs.length=n/\t xs g H Q
theorem eV{k:Nat}{t:TGs}(U:X.calm=U2)(h:PGs X es t)(T:(ff es X.env).length=n:=by rfl)(g:(ff es X.env).findIdx? (·.1)=X2:=by rfl):PG X (.Tuple es k pos) (gTup X.K n t):=by
 intro z s y H v u Q I r d;obtain⟨a,G,Z,S,Y,d⟩:=d;subst Z;cases r;obtain⟨J,F,O,hz⟩:=I.tuple S;refine assign_Tuple_tuple (I.ok.hd U) O (by simp[T,<-Y,F.length]) g λW L=>?_;have I1:Inv X z y H { s with heap:=W }:=I.kept (t':=s.toks) λb o e=>L b o (ca (aT e)) e;exact h z _ y H G _ Q I1 (by simpa using F) d
def tAsg(te:TE)(g:TG):TS:=λD d H=>te d H λx z=>g x d z D.nx
theorem eX{te:TE}{g:TG}(J:PE X e te)(T:PG X tg g)(G:swapsWithSole [tg] e pos.line X.env=pure T2:=by rfl)(z:swappedStores [tg] e X.env=pure X2:=by rfl)(h1:(ff [tg] X.env).map (·.2)=[lu tg X.env]:=by rfl):PS X (.Assign [tg] e pos) (tAsg te g):=by
 intro r s d H D I h;refine wpAny_Assign_stores (thn (J r s d H _ I h) λv y ⟨x,O,L,F,q1⟩=>?_) G z;rw[h1];exact thn (T r y d O x v _ L F q1) λ_ S q=>q
theorem SN{te:TE}(O:X.N.Nodup)(G:X.N[i]?=Y2 x)(d:Loc X.env.scope x)(L:PE X e te)(z:dA e (Y2 (.Name x pos')) pos.line X.env=pure T2:=by rfl)(J:X.fn x=U2∨X.env.scope.names.lookup x=Y2 .local :=by first | exact .inl rfl | exact .inr rfl | assumption):
  PS X (.Assign [.Name x pos'] e pos) (tAsg te (GR i)):=by
 intro r s g H D I h;refine wpAny_Assign_Name (thn (L r s g H _ I h) λv Y ⟨y,U,T,F,q1⟩=>?_) z;exact Qt T O G d F (λW S=>⟨_,U,S,q1⟩) J
end
section
variable {X:Cx}
end
structure It where
 go:Nat->Hp->Prop
 yld:Nat->Hp->V->Hp->Prop
 stop:Nat->Hp->Prop
def FpOk(X:Cx)(r:zP)(H:Hp)(b:Addr):Prop:=
 H b=X2/\b≠X.env.locals/\b∉X.fs/\(b∈X.ex∨X.s₀.heap.objs.size<=b)/\(∀x c,X.env.cells.lookup x=Y2 c->c≠b)/\∀p∈X.pn++r,p.1≠b
theorem Inv.fpOk{X:Cx}{r:St}{H g:Hp}(I:Inv X π r H s)(d:s.heap.objs.size<=b)(F:g b=X2):FpOk X π g b:=by
 refine⟨F,mJ (eJ I.lt d),I.nofs d,.inr (cE I.sz d),λx c e z=>?_,λp y z=>?_⟩
 .obtain⟨v,q⟩:=I.cell x c e;exact absurd (eJ q.lt (by rw[z];exact d)) (kG _)
 .exact absurd (eJ (aT (I.pin p y).1) (by rw[z];exact d)) (kG _)
structure Turn (P:cq) (w:ag) (K:av) (tg:Expr) (J:It) (fp:List Addr) (it:Addr) (tn:Nat->Heap->Prop):Prop where
 mem:it∈fp
 obj:∀i h,tn i h->∀b∈fp,∃o,h.get? b=Y2 o/\∀v,o.data≠.cell v
 keep:∀i h h',tn i h->(∀b∈fp,∀o,h.get? b=Y2 o->h'.get? b=Y2 o)->tn i h'
 item:∀(X:Cx),X.prog=P->X.w=w->X.K=K->X.calm=U2->∀(i:Nat) (π:zP) (s:ae) (σ:St) (H:Hp) (E:ac->ae->Prop),Inv X π σ H s->(∀b∈fp,FpOk X π H b)->tn i s.heap->J.go i H ->
  af (ah P w) X.A (i7 (.ref it)) (λr s1=>∃u,r=Y2 u ∧
   af (ah P w) X.A (mK tg (.ref it) u) (λ_ s2=>∃x H',Inv X π σ H' s2/\RelV x u/\J.yld i H x H'/\tn (i+1) s2.heap/\∀b∈fp,H' b=X2) E s1) E s
 done:∀(X:Cx),X.prog=P->X.w=w->X.K=K->X.calm=U2->∀(i:Nat) (π:zP) (s:ae) (σ:St) (H:Hp) (E:ac->ae->Prop),Inv X π σ H s->(∀b∈fp,FpOk X π H b)->tn i s.heap->J.stop i H ->
  af (ah P w) X.A (i7 (.ref it)) (λr s1=>r=X2/\Inv X π σ H s1) E s
 self:∀(A:ar) (i:Nat) (s:ae) (Q:ac->ae->Prop) (E:ac->ae->Prop),tn i s.heap->Q (.ref it) s->af (ah P w) A (pyIter (.ref it)) Q E s
abbrev TI:=St->Hp->(It->Hp->Prop)->Prop
def PIE(X:Cx)(r:zP)(y:St)(z:Expr)(R:It->Hp->Prop)(d:ac)(S:ae):Prop:=
 ∃(it:Addr) (fp:List Addr) (v:Nat->Heap->Prop) (J:It) (g:Hp),d=.ref it/\Inv X r y g S/\Turn X.prog X.w X.K z J fp it v/\v 0 S.heap/\(∀b∈fp,FpOk X r g b)/\R J g
def PI(X:Cx)(z d:Expr)(y:TI):Prop:=
 ∀(r:zP) (s:ae) (g:St) (H:Hp) (R:It->Hp->Prop),Inv X r g H s->y g H R ->
  af (ah X.prog X.w) X.A (eval d X.env) (λv F=>af (ah X.prog X.w) X.A (pyIter v) (PIE X r g z R) X.xe F) X.xe s
theorem Og{A:ar}{n:String}{vs:Array ac}{Q:Unit->ae->Prop}(y:s.heap.get? it=Y2 o)(I:o.cls=.type n)(z:o.data=.fields vs)(d:["enumerate","zip","dict_itemiterator","dict_reverseitemiterator","odict_iterator","itertools.zip_longest","itertools.pairwise"].contains n=T2)(r:Q () s):af M A (mK tg (.ref it) u) Q E s:=by
  unfold mK;cases tg<;>first
    |exact ay r
    | (cases u<;>first
        |exact ay r
        | (refine am (nY y ?_)
           rw[I,z];show af M A (if (["enumerate","zip","dict_itemiterator","dict_reverseitemiterator","odict_iterator","itertools.zip_longest","itertools.pairwise"].contains n&&vs[0]?==Y2 (kI _))=U2 then _ else _) Q E s;rw[if_neg (by intro h;rw[d,Bool.false_and] at h;cases h)];exact ay r))
def Itl(K:av)(a:Addr):It:=
 ⟨λi H=>∃xs x,SqL K H a xs/\xs[i]?=Y2 x,λi H x d=>d=H/\∀xs,SqL K H a xs->xs[i]?=Y2 x,λi H=>∃xs,SqL K H a xs/\xs.length<=i⟩
def Itt(K:av)(a:Addr):It:=
 ⟨λi H=>∃xs x,SqT K H a xs/\xs[i]?=Y2 x,λi H x d=>d=H/\∀xs,SqT K H a xs->xs[i]?=Y2 x,λi H=>∃xs,SqT K H a xs/\xs.length<=i⟩
def Itr(z:Int)(n:Nat):It:=⟨λi _=>i<n,λi H x d=>d=H/\x=.int (z+i),λi _=>n<=i⟩
theorem V2{w:ag}{K:av}(a it:Addr):Turn P w K tg (Itl K a) [it] it (λi h=>h.IsListIter it a i) where
 mem:=by simp
 obj:=λi h U b g=>by
  have e:b=it:=by simpa using g
  subst e;obtain⟨o,e,c,d⟩:=U;exact⟨o,e,λv z=>by rw[d] at z;cases z⟩
 keep:=λi h G U k=>U.at λo e=>k it (by simp) o e
 item:=by
  intro X W O Y hc i π s σ H E I F U T;subst W O Y;obtain⟨xs,x,S,L⟩:=T;obtain⟨J,y,p,hz⟩:=I.list S;obtain⟨u,hu,ru⟩:=y.get L;obtain⟨f0,f1,f2,f3,f4,Z⟩:=F it (by simp);refine pV U p.isList (x:=u) (by simpa using hu) λG r sb=>?_;have I1:Inv X π σ H { s with heap:=G }:=I.turned (t':=s.toks) (λb o g e=>(sb.2 b g).trans e) f0 f1 f3 f4 Z;obtain⟨o,e,c,d⟩:=id r;exact⟨u,rfl,Og (s:={ s with heap:=G }) e c d (by decide) ⟨x,H,I1,ru,⟨rfl,λys hy=>by rw[I.list_inj hy S];exact L⟩,r,λb g=>(F b g).1⟩⟩
 done:=by
  intro X W O Y hc i π s σ H E I F U T;subst W O Y;obtain⟨xs,S,L⟩:=T;obtain⟨J,y,p,hz⟩:=I.list S;obtain⟨f0,f1,f2,f3,f4,Z⟩:=F it (by simp);have hl:=y.length;exact pW (I.ok.hd hc) U p.isList (by simp;omega) λG eb=>⟨rfl,I.turned (t':=s.toks) (λb o g e=>eb b o g e) f0 f1 f3 f4 Z⟩
 self:=λ_ _ _ _ _ U h=>wpAny_pyIter_listiter U h
theorem SQ{w:ag}{K:av}(a it:Addr):Turn P w K tg (Itt K a) [it] it (λi h=>h.IsTupleIter it a i) where
 mem:=by simp
 obj:=λi h U b r=>by
  have e:b=it:=by simpa using r
  subst e;obtain⟨o,e,c,d⟩:=U;exact⟨o,e,λv z=>by rw[d] at z;cases z⟩
 keep:=λi h G U k=>U.at λo e=>k it (by simp) o e
 item:=by
  intro X W O Y hc i π s σ H E I F U T;subst W O Y;obtain⟨xs,x,S,L⟩:=T;obtain⟨g,J,p,hz⟩:=I.tuple S;obtain⟨u,hu,ru⟩:=J.get L;obtain⟨f0,f1,f2,f3,f4,Z⟩:=F it (by simp);refine wpAny_pyNext_tuple_item U (show s.heap.IsTuple a g.toArray from p) (x:=u) (by simpa using hu) λG y sb=>?_;have I1:Inv X π σ H { s with heap:=G }:=I.turned (t':=s.toks) (λb o r e=>(sb.2 b r).trans e) f0 f1 f3 f4 Z;obtain⟨o,e,c,d⟩:=id y;exact⟨u,rfl,Og (s:={ s with heap:=G }) e c d (by decide) ⟨x,H,I1,ru,⟨rfl,λys hy=>by rw[I.tuple_inj hy S];exact L⟩,y,λb r=>(F b r).1⟩⟩
 done:=by
  intro X W O Y hc i π s σ H E I F U T;subst W O Y;obtain⟨xs,S,L⟩:=T;obtain⟨g,J,p,hz⟩:=I.tuple S;obtain⟨f0,f1,f2,f3,f4,Z⟩:=F it (by simp);have hl:=J.length;exact wpAny_pyNext_tuple_end (I.ok.hd hc) U (show s.heap.IsTuple a g.toArray from p) (by simp;omega) λG eb=>⟨rfl,I.turned (t':=s.toks) (λb o r e=>eb b o r e) f0 f1 f3 f4 Z⟩
 self:=λ_ _ _ _ _ U h=>wpAny_pyIter_tupleiter U h
theorem SX{w:ag}{K:av}(it:Addr)(g:Int)(n:Nat):Turn P w K tg (Itr g n) [it] it (λi h=>IsRangeIter h it (g+(i:Nat)*1) ((n:Int)-(i:Nat)) 1) where
 mem:=by simp
 obj:=λi h U b d=>by
  have e:b=it:=by simpa using d
  subst e;exact⟨_,U,λv z=>by
   have z':pX _=Data.cell v:=z;cases z'⟩
 keep:=λi h G U k=>k it (by simp) _ U
 item:=by
  intro X L y Y J i π s σ H E I F U T;subst L y Y;obtain⟨f0,f1,f2,S,O,Z⟩:=F it (by simp);have W:=Walks.range (prog:=X.prog) (w:=X.w) (I.ok.hd J) it g 1 n;refine W.item i s _ _ T U λv G tk hv r kk=>?_;obtain⟨t,rfl⟩:=hv;have I1:Inv X π σ H { s with heap:=G,toks:=tk }:=I.turned (λb o d e=>kk b o (by simpa using d) e) f0 f1 S O Z;refine⟨_,rfl,Og (s:={ s with heap:=G,toks:=tk }) (n:="range_iterator") r rfl rfl (by decide) ⟨.int (g+i),H,I1,⟨t,?_⟩,⟨rfl,rfl⟩,r,λb d=>(F b d).1⟩⟩;rw[Int.mul_one]
 done:=by
  intro X L y Y J i π s σ H E I F U T;subst L y Y;obtain⟨f0,f1,f2,S,O,Z⟩:=F it (by simp);exact wpAny_pyNext_range_end (I.ok.hd J) U (by have:n<=i:=T;omega) λG eb=>⟨rfl,I.turned (t':=s.toks) (λb o d e=>eb b o d e) f0 f1 S O Z⟩
 self:=λ_ _ _ _ _ U h=>wpAny_pyIter_rangeiter U h
section
variable {X:Cx}
def jA(K:av)(d:TE):TI:=λg H R=>d g H λx z=>∃a,x=.ref a/\(∃xs,SqL K z a xs)/\R (Itl K a) z
def iTup(K:av)(d:TE):TI:=λg H R=>d g H λx z=>∃a,x=.ref a/\(∃xs,SqT K z a xs)/\R (Itt K a) z
theorem Pn{g:TE}(Y:PE X l g):PI X tg l (jA X.K g):=by
 intro z s r H R I h;refine thn (Y z s r H _ I h) λv y ⟨x,L,d,F,q1⟩=>?_;obtain⟨a,e,⟨O,S⟩,q⟩:=q1;subst e;cases F;obtain⟨G,T,p,U⟩:=d.list S;refine nZ p.isList ?_;refine⟨y.heap.objs.size,[y.heap.objs.size],_,_,L,rfl,d.kept (t':=y.toks) λb o e=>bq _ e,V2 a _,⟨_,cb _ rfl,rfl,rfl⟩,λb J=>?_,q⟩;have e:b=y.heap.objs.size:=by simpa using J
 subst e;exact d.fpOk (ax _) (d.hok.fresh (ax _))
theorem eY{r:TE}(Y:PE X l r):PI X tg l (iTup X.K r):=by
 intro F s z H R I h;refine thn (Y F s z H _ I h) λv y ⟨x,L,d,G,q1⟩=>?_;obtain⟨a,e,⟨O,S⟩,q⟩:=q1;subst e;cases G;obtain⟨g,T,p,U⟩:=d.tuple S;refine wpAny_pyIter_tuple (show y.heap.IsTuple a g.toArray from p) ?_;refine⟨y.heap.objs.size,[y.heap.objs.size],_,_,L,rfl,d.kept (t':=y.toks) λb o e=>bq _ e,SQ a _,⟨_,cb _ rfl,rfl,rfl⟩,λb J=>?_,q⟩;have e:b=y.heap.objs.size:=by simpa using J
 subst e;exact d.fpOk (ax _) (d.hok.fresh (ax _))
theorem Ww{g:St}{H:Hp}{R:It->Hp->Prop}{lo G:Int}{t u v:Tok}{tk:Nat}(I:Inv X π g H s)(h1 : -(2^62)<=lo)(z:lo<2^62)(O : -(2^62)<=G)(y:G<2^62)(q:R (Itr lo (G-lo).toNat) H):af (ah X.prog X.w) X.A (pyIter (.ref s.heap.objs.size)) (PIE X π g tg R) E { s with heap:=s.heap.push { cls:=.type "range",data:=.fields #[.int lo t,.int G u,.int 1 v] },toks:=tk }:=by
 refine wpAny_pyIter_range (IsRange.new ..) (small_one h1 z O y) ?_;have d:Inv X π g H { s with heap:=s.heap.push { cls:=.type "range",data:=.fields #[.int lo t,.int G u,.int 1 v] },toks:=tk }:=I.kept λb o e=>bq _ e;refine⟨(s.heap.push { cls:=.type "range",data:=.fields #[.int lo t,.int G u,.int 1 v] }).objs.size,[(s.heap.push { cls:=.type "range",data:=.fields #[.int lo t,.int G u,.int 1 v] }).objs.size],_,_,H,rfl,
  d.kept (t':=tk) λb o e=>bq _ e,SX _ lo (G-lo).toNat,?_,λb r=>?_,q⟩
 .have J:lo+((0:Nat):Int)*1=lo:=by simp
  have F:(((G-lo).toNat:Nat):Int)-((0:Nat):Int)=Builtin.Range.rangeSize lo G 1:=by rw[rangeSize_one];split<;>omega
  show IsRangeIter _ _ (lo+((0:Nat):Int)*1) ((((G-lo).toNat:Nat):Int)-((0:Nat):Int)) 1;rw[J,F];exact cb _ rfl
 .have e:b=(s.heap.push { cls:=.type "range",data:=.fields #[.int lo t,.int G u,.int 1 v] }).objs.size:=by simpa using r
  subst e;exact d.fpOk (ax _) (d.hok.fresh (ax _))
def jB(r:TA):TI:=λg H R=>r g H λvs z=>∃j:Int,vs=[.int j]/\-(2^62)<=j/\j<2^62/\R (Itr 0 j.toNat) z
theorem V3{a:Expr}{d:TA}{p:Pos}(T:Gl X "range")(G:X.mg "range"=X2)(J:PA X [a] d)(z:ai [a] X.env=[(T2,eval a X.env)]:=by rfl):PI X tg (.Call (.Name "range" p) [a] [] pos) (jB d):=by
 intro v s g H R I h;refine Call_ (Mm I T G boot_range (o6 (thn (J pos v s g H _ I h) λS U ⟨O,W,L,y,q1⟩=>?_) z rfl));obtain⟨j,e,q1,q2,q⟩:=q1;subst e;cases y with
 |cons r F=>
  cases F;obtain⟨t,rfl⟩:=r;exact call_range_1 (Ww L (by omega) (by omega) q1 q2 (by simpa using q))
def tFor(z:TI)(g:TG)(F:TS):TS:=λD d H=>z d H λJ I=>∃W:Nat->Nat->St->Hp->Prop,(∃m,W 0 m d I)/\∀i m d H,W i m d H ->
 (J.stop i H/\D.nx d H)∨(J.go i H/\∃N:St->Hp->Prop,(∀r v,N r v->∃U,U<m/\W (i+1) U r v)/\∀x v,J.yld i H x v->g x d v λy G=>F { D with nx:=N,ct:=N,bk:=D.nx } y G)
def Mp(fp:List Addr)(h:Heap):List (Addr×Obj):=fp.filterMap λb=>(h.get? b).map λo=>(b,o)
theorem HF(H:b∈fp)(e:h.get? b=Y2 o):(b,o)∈Mp fp h:=pZ.mpr ⟨b,H,by rw[e];rfl⟩
theorem V4{p:Addr×Obj}(r:p∈Mp fp h):p.1∈fp/\h.get? p.1=Y2 p.2:=by
 obtain⟨b,H,e⟩:=pZ.mp r;cases q:h.get? b with
 |none=>rw[q] at e;cases e
 |some o=>
  rw[q] at e;have L:(b,o)=p:=bE e;subst L;exact⟨H,q⟩
theorem Inv.pinned{g:St}{H:Hp}(I:Inv X π g H s)(G:∀b∈fp,FpOk X π H b)(F:∀b∈fp,∃o,s.heap.get? b=Y2 o/\∀v,o.data≠.cell v):Inv X (π++Mp fp s.heap) g H s:=
 I.pins_of λp y=>(dv.mp y).elim (λz=>I.pin p (eK _ z)) λz=>by
  obtain⟨r,e⟩:=V4 z;obtain⟨S,O,J,_⟩:=G p.1 r;obtain⟨o,L,d⟩:=F p.1 r;rw[e] at L;cases L;exact⟨e,S,O,J,d⟩
theorem Inv.unpinned{pl:zP}{g:St}{H:Hp}(I:Inv X (π++pl) g H s):Inv X π g H s:=I.pins_of λp r=>I.pin p (eK _ (fE _ r))
theorem Kf{L:Expr}{u0:List Stmt}{wi:TI}{g:TG}{tb:TS}(hp:kJ (ah X.prog X.w) X.A X.env X.xe)(hc:X.calm=U2)(hi:PI X tg L wi)(hg:PG X tg g)(O:PSs X u0 tb)(hs:∀x,gL L X.env x=pure x:=by intro _;rfl):PS X (.For tg L u0 [] pos) (tFor wi g tb):=by
 intro π s σ H D I h;refine wpAny_For (thn (hi π s σ H _ I h) λv s1 h1=>thn h1 λM0 s2 h2=>?_) hs;obtain⟨it,fp,tn,J,H2,e,I2,T,G0,f2,W,⟨m0,w0⟩,y0⟩:=h2;subst e;have G:∀{H':Hp},(∀b∈fp,H' b=X2)->∀b∈fp,FpOk X π H' b:=λhn b O=>⟨hn b O,(f2 b O).2⟩;refine codeAny_forLoop_any (λn s'=>∃i F H',Inv X π F H' s'/\tn i s'.heap/\(∀b∈fp,H' b=X2)/\W i n F H') ?_ m0 ⟨0,σ,H2,I2,G0,λb O=>(f2 b O).1,w0⟩;rintro n s3 ⟨i,z,H3,I3,C0,D0,w3⟩
 rcases y0 i n z H3 w3 with ⟨B0,qn⟩ | ⟨go,N,hN,step⟩
 .refine lU hp (thn (T.done X rfl rfl rfl hc i π s3 z H3 X.xe I3 (G D0) C0 B0) λr s4 ⟨hr,I4⟩=>?_);subst hr;exact nX ⟨z,H3,I4,qn⟩
 .refine lU hp (thn (T.item X rfl rfl rfl hc i π s3 z H3 X.xe I3 (G D0) C0 go) λr s4 ⟨u,hr,h4⟩=>?_);subst hr;refine lU hp (thn h4 λ_ s5 ⟨x,H5,I5,r5,y5,v0,K0⟩=>?_);have L0:=I5.pinned (G K0) (T.obj _ _ v0);refine lU hp (thn (hg _ s5 z H5 x u _ L0 r5 (step x H5 y5)) λ_ s6 ⟨F0,H6,I6,q6⟩=>?_);refine lU hp (thn (O _ s6 F0 H6 _ I6 q6) λf s7 Z=>?_);have S:∀{y:St}{Y:Hp},Inv X (π++Mp fp s5.heap) y Y s7->N y Y->∃m,m<n/\∃i F H',Inv X π F H' s7/\tn i s7.heap/\(∀b∈fp,H' b=X2)/\W i m F H':=λ{y Y} U n7=>by
   obtain⟨m',hm,w7⟩:=hN y Y n7;refine⟨m',hm,i+1,y,Y,U.unpinned,T.keep _ _ _ v0 λb O o e=>(U.pin (b,o) (eK _ (eK _ (HF O e)))).1,λb O=>?_,w7⟩;obtain⟨o,e,d⟩:=T.obj _ _ v0 b O;exact (U.pin (b,o) (eK _ (eK _ (HF O e)))).2.1
  cases f with
  |next=>obtain⟨y,Y,U,n7⟩:=Z;exact S U n7
  |cont=>obtain⟨y,Y,U,n7⟩:=Z;exact S U n7
  |brk=>obtain⟨y,Y,U,Z⟩:=Z;exact⟨y,Y,U.unpinned,Z⟩
  |ret v=>obtain⟨x7,y,Y,U,r7,Z⟩:=Z;exact⟨x7,y,Y,U.unpinned,r7,Z⟩
end
abbrev R2:=V->V->Hp->VK->Prop
def OpR(X:Cx)(f:ac->ac->Sem ac)(r:R2):Prop:=
 ∀(d:zP) (s:ae) (g:St) (H:Hp) (x y:V) (v u:ac) (Q:VK),Inv X d g H s->RelV x v->RelV y u->r x y H Q ->
  af (ah X.prog X.w) X.A (f v u) (EP X d g Q) X.xe s
def Df(X:Cx)(f:ac)(r:List V->Hp->VK->Prop):Prop:=
 ∀(d:zP) (s:ae) (g:St) (H:Hp) (xs:List V) (us:List ac) (Q:VK),Inv X d g H s->Vals xs us->r xs H Q ->
  af (ah X.prog X.w) X.A (call f us) (EP X d g Q) X.xe s
def TruR(X:Cx)(r:V->Hp->(Bool->Hp->Prop)->Prop):Prop:=
 ∀(d:zP) (s:ae) (g:St) (H:Hp) (x:V) (v:ac) (Q:Bool->Hp->Prop),Inv X d g H s->RelV x v->r x H Q ->
  af (ah X.prog X.w) X.A (truthy v) (TP X d g Q) X.xe s
def tOp(r:R2)(v d:TE):TE:=λg H Q=>v g H λx F=>d g F λy z=>r x y z Q
def rI(C:Int->Int->Prop)(g:Int->Int->V):R2:=λx y H Q=>∃i j,x=.int i/\y=.int j/\C i j/\Q (g i j) H
def rI0(g:Int->Int->V):R2:=λx y H Q=>∃i j,x=.int i/\y=.int j/\Q (g i j) H
section
variable {X:Cx}{a b:Expr}{ta tb:TE}
theorem binT(U:PE X a ta)(T:PE X b tb){z:zP}{s:ae}{g:St}{H:Hp}{R:V->V->Hp->Prop}(I:Inv X z g H s)(h:ta g H λx G=>tb g G λy d=>R x y d){Q:ac->ae->Prop}{f:ac->ac->Sem ac}(S:∀v u s2 x y d,Inv X z g d s2->RelV x v->RelV y u->R x y d->af (ah X.prog X.w) X.A (f v u) Q X.xe s2):
  af (ah X.prog X.w) X.A (eval a X.env) (λv r=>af (ah X.prog X.w) X.A (eval b X.env) (λu F=>af (ah X.prog X.w) X.A (f v u) Q X.xe F) X.xe r) X.xe s:=by
 refine thn (U z s g H _ I h) λv J ⟨x,G,Y,O,q1⟩=>?_;refine thn (T z J g G _ Y q1) λu s2 ⟨y,d,W,L,q2⟩=>?_;exact S v u s2 x y d W O L q2
theorem jC{op:Operator}{r:R2}(F:OpR X (g9 op) r)(J:PE X a ta)(G:PE X b tb):PE X (.BinOp a op b pos) (tOp r ta tb):=by
 intro d s g H Q I h;exact wpAny_BinOp (binT J G I h λv u S x y O L rx z q=>F d S g O x y v u Q L rx z q)
theorem opI{f:ac->ac->Sem ac}{C:Int->Int->Prop}{g:Int->Int->Int}(d:∀(i j:Int) (t u:Tok) (s:ae) (Q:ac->ae->Prop) (E:ac->ae->Prop),C i j->Q (.int (g i j) s.toks) { s with toks:=s.toks+1 }->af (ah X.prog X.w) X.A (f (.int i t) (.int j u)) Q E s):
  OpR X f (rI C λi j=>.int (g i j)):=by
 intro J s G H x y v u Q I rx z h;obtain⟨i,j,rfl,rfl,F,q⟩:=h;obtain⟨t,rfl⟩:=rx;obtain⟨r,rfl⟩:=z;exact d i j t r s _ _ F ⟨.int (g i j),H,I.tok _,⟨_,rfl⟩,q⟩
theorem opI0{f:ac->ac->Sem ac}{g:Int->Int->Int}(d:∀(i j:Int) (t u:Tok) (s:ae) (Q:ac->ae->Prop) (E:ac->ae->Prop),Q (.int (g i j) s.toks) { s with toks:=s.toks+1 }->af (ah X.prog X.w) X.A (f (.int i t) (.int j u)) Q E s):
  OpR X f (rI0 λi j=>.int (g i j)):=by
 intro G s F H x y v u Q I rx z h;obtain⟨i,j,rfl,rfl,q⟩:=h;obtain⟨t,rfl⟩:=rx;obtain⟨r,rfl⟩:=z;exact d i j t r s _ _ ⟨.int (g i j),H,I.tok _,⟨_,rfl⟩,q⟩
theorem opB0{f:ac->ac->Sem ac}{g:Int->Int->Bool}(d:∀(i j:Int) (t u:Tok) (s:ae) (Q:ac->ae->Prop) (E:ac->ae->Prop),Q (.bool (g i j)) s->af (ah X.prog X.w) X.A (f (.int i t) (.int j u)) Q E s):
  OpR X f (rI0 λi j=>.bl (g i j)):=by
 intro G s F H x y v u Q I rx z h;obtain⟨i,j,rfl,rfl,q⟩:=h;obtain⟨t,rfl⟩:=rx;obtain⟨r,rfl⟩:=z;exact d i j t r s _ _ ⟨.bl (g i j),H,I,rfl,q⟩
def CDiv(i j:Int):Prop:=0<j/\j<1073741824
def CPow(i j:Int):Prop:=0<=j/\j<=1000000/\i.natAbs<2^64
def CMul(i j:Int):Prop:=(-(2^64)<i/\i<2^64)∨(-(2^64)<j/\j<2^64)
theorem CMul.ok{i j:Int}(h:CMul i j):IntMulOk i j:=by
 rcases h with ⟨g,d⟩ | ⟨g,d⟩
 .exact .of_left (intBits_le_64 g d)
 .exact .of_right (intBits_le_64 g d)
theorem eZ:OpR X (g9 .Add) (rI0 λi j=>.int (i+j)):=opI0 λ_ _ _ _ _ _ _ q=>add_int q
theorem e_:OpR X (g9 .Sub) (rI0 λi j=>.int (i-j)):=opI0 λ_ _ _ _ _ _ _ q=>sub_int q
theorem Zt:OpR X (g9 .FloorDiv) (rI CDiv λi j=>.int (i/j)):=opI λi j _ _ _ _ _ I q=>by
 have g:(0:Int)<j:=I.1;have d:j<1073741824:=I.2;exact floordiv_int (by omega) (by rw[Int.fdiv_eq_ediv_of_nonneg i (by omega)];exact q) (.inl (PyProof.noPylong_small (by omega)))
theorem fB:OpR X (g9 .Mod) (rI (λ_ j=>0<j) λi j=>.int (i%j)):=opI λi j _ _ _ _ _ I q=>by
 have g:(0:Int)<j:=I;exact mod_int' (by omega) (by rw[Int.fmod_eq_emod_of_nonneg i (by omega)];exact q)
end
def scal:V->V->Bool
 |.non,.non=>U2 | .non,.int _=>U2 | .int _,.non=>U2 | .non,.bl _=>U2 | .bl _,.non=>U2 | .non,.str _=>U2 | .str _,.non=>U2
 |.int _,.int _=>U2 | .bl _,.bl _=>U2 | .str _,.str _=>U2 | .byt _,.byt _=>U2
 |.int _,.str _=>U2 | .str _,.int _=>U2 | .bl _,.str _=>U2 | .str _,.bl _=>U2
 |_,_=>T2
def rEq:R2:=λx y H Q=>scal x y=U2/\Q (.bl (decide (x=y))) H
def rNe:R2:=λx y H Q=>scal x y=U2/\Q (.bl (!decide (x=y))) H
theorem UT{i j:Int}:decide (V.int i=V.int j)=(i==j):=by
 rw[i8];simp
theorem Wx{i j:Bool}:decide (V.bl i=V.bl j)=(i==j):=by
 rw[i8];simp
theorem UV{i j:Str}:decide (V.str i=V.str j)=(i==j):=by
 rw[i8];simp
theorem UW{i j:Array UInt8}:decide (V.byt i=V.byt j)=(i.toList==j.toList):=by
 rw[i8];cases i;cases j;simp
section
variable {X:Cx}{a b c:Expr}{ta tb tc:TE}
theorem Az{g:St}{H:Hp}{Q:VK}{k d:Bool}(I:Inv X π g H s)(q:Q (.bl k) H)(e:k=d):EP X π g Q (.bool d) s:=by
 subst e;exact⟨.bl k,H,I,rfl,q⟩
theorem jD:OpR X (bX .Eq) rEq:=by
 intro F s r H x y v u Q I rx z h;obtain⟨g,q⟩:=h;cases x with
 |non=>
  cases rx;cases y with
  |non=>cases z;exact PySem.EqNone.eq_none_none (Az I q (by simp))
  |bl j=>cases z;exact PySem.EqNone.eq_none_bool (Az I q (by simp))
  |int j=>obtain⟨d,rfl⟩:=z;exact PySem.EqNone.eq_none_int (Az I q (by simp))
  |str j=>obtain⟨d,rfl⟩:=z;exact PySem.EqNone.eq_none_str (Az I q (by simp))
  |_=>exact absurd (show T2=U2 from g) cp
 |bl i=>
  cases rx;cases y with
  |non=>cases z;exact PySem.EqNone.eq_bool_none (Az I q (by simp))
  |bl j=>cases z;exact eq_bool (Az I q Wx)
  |str j=>obtain⟨d,rfl⟩:=z;exact PySem.EqMixed.eq_bool_str (Az I q (by simp))
  |_=>exact absurd (show T2=U2 from g) cp
 |int i=>
  obtain⟨t,rfl⟩:=rx;cases y with
  |non=>cases z;exact PySem.EqNone.eq_int_none (Az I q (by simp))
  |int j=>obtain⟨d,rfl⟩:=z;exact eq_int (Az I q UT)
  |str j=>obtain⟨d,rfl⟩:=z;exact PySem.EqMixed.eq_int_str (Az I q (by simp))
  |_=>exact absurd (show T2=U2 from g) cp
 |str i=>
  obtain⟨t,rfl⟩:=rx;cases y with
  |non=>cases z;exact PySem.EqNone.eq_str_none (Az I q (by simp))
  |bl j=>cases z;exact PySem.EqMixed.eq_str_bool (Az I q (by simp))
  |int j=>obtain⟨d,rfl⟩:=z;exact PySem.EqMixed.eq_str_int (Az I q (by simp))
  |str j=>obtain⟨d,rfl⟩:=z;exact eq_str (Az I q UV)
  |_=>exact absurd (show T2=U2 from g) cp
 |byt i=>
  obtain⟨t,rfl⟩:=rx;cases y with
  |byt j=>obtain⟨d,rfl⟩:=z;exact PySem.W.eq_bytes (Az I q UW)
  |_=>exact absurd (show T2=U2 from g) cp
 |_=>cases y<;>exact absurd (show T2=U2 from g) cp
theorem jE:OpR X (bX .NotEq) rNe:=by
 intro F s r H x y v u Q I rx z h;obtain⟨g,q⟩:=h;cases x with
 |non=>
  cases rx;cases y with
  |non=>cases z;exact PySem.EqNone.ne_none_none (Az I q (by simp))
  |bl j=>cases z;exact PySem.EqNone.ne_none_bool (Az I q (by simp))
  |int j=>obtain⟨d,rfl⟩:=z;exact PySem.EqNone.ne_none_int (Az I q (by simp))
  |str j=>obtain⟨d,rfl⟩:=z;exact PySem.EqNone.ne_none_str (Az I q (by simp))
  |_=>exact absurd (show T2=U2 from g) cp
 |bl i=>
  cases rx;cases y with
  |non=>cases z;exact PySem.EqNone.ne_bool_none (Az I q (by simp))
  |bl j=>cases z;exact ne_bool (Az I q (congrArg not Wx))
  |str j=>obtain⟨d,rfl⟩:=z;exact PySem.EqMixed.ne_bool_str (Az I q (by simp))
  |_=>exact absurd (show T2=U2 from g) cp
 |int i=>
  obtain⟨t,rfl⟩:=rx;cases y with
  |non=>cases z;exact PySem.EqNone.ne_int_none (Az I q (by simp))
  |int j=>obtain⟨d,rfl⟩:=z;exact ne_int (Az I q (congrArg not UT))
  |str j=>obtain⟨d,rfl⟩:=z;exact PySem.EqMixed.ne_int_str (Az I q (by simp))
  |_=>exact absurd (show T2=U2 from g) cp
 |str i=>
  obtain⟨t,rfl⟩:=rx;cases y with
  |non=>cases z;exact PySem.EqNone.ne_str_none (Az I q (by simp))
  |bl j=>cases z;exact PySem.EqMixed.ne_str_bool (Az I q (by simp))
  |int j=>obtain⟨d,rfl⟩:=z;exact PySem.EqMixed.ne_str_int (Az I q (by simp))
  |str j=>obtain⟨d,rfl⟩:=z;exact ne_str (Az I q (congrArg not UV))
  |_=>exact absurd (show T2=U2 from g) cp
 |byt i=>
  obtain⟨t,rfl⟩:=rx;cases y with
  |byt j=>obtain⟨d,rfl⟩:=z;exact PySem.W.ne_bytes (Az I q (congrArg not UW))
  |_=>exact absurd (show T2=U2 from g) cp
 |_=>cases y<;>exact absurd (show T2=U2 from g) cp
theorem jF:OpR X (bX .Lt) (rI0 λi j=>.bl (decide (i<j))):=opB0 λ_ _ _ _ _ _ _ q=>lt_int q
theorem jG:OpR X (bX .Gt) (rI0 λi j=>.bl (decide (j<i))):=opB0 λ_ _ _ _ _ _ _ q=>gt_int q
theorem jH:OpR X (bX .GtE) (rI0 λi j=>.bl (decide (j<=i))):=opB0 λ_ _ _ _ _ _ _ q=>ge_int q
theorem V5:OpR X (bX .In) (λx y H Q=>∃i j,x=.str i/\y=.str j/\Q (.bl (!(jI j i 0 j.length 1).isEmpty)) H):=by
 intro r s g H x y v u Q I rx z h;obtain⟨i,j,rfl,rfl,q⟩:=h;obtain⟨t,rfl⟩:=rx;obtain⟨d,rfl⟩:=z;exact in_str (Az I q rfl)
theorem Pq:OpR X (bX .NotIn) (λx y H Q=>∃i j,x=.str i/\y=.str j/\Q (.bl (!(!(jI j i 0 j.length 1).isEmpty))) H):=by
 intro r s g H x y v u Q I rx z h;obtain⟨i,j,rfl,rfl,q⟩:=h;obtain⟨t,rfl⟩:=rx;obtain⟨d,rfl⟩:=z;exact notIn_str (Az I q rfl)
theorem OpR.or{f:ac->ac->Sem ac}{r J:R2}(h:OpR X f r)(h':OpR X f J):OpR X f (λx y H Q=>r x y H Q∨J x y H Q):=by
 intro d s g H x y v u Q I rx z q
 rcases q with q | q
 .exact h d s g H x y v u Q I rx z q
 .exact h' d s g H x y v u Q I rx z q
theorem Jb(b:Expr){op:CmpOp}(h:op≠.In:=by decide)(d:op≠.NotIn:=by decide):gg op b=T2:=by
 have r:(op==CmpOp.In)=T2:=by cases op<;>first | rfl | exact absurd rfl h
 have g:(op==CmpOp.NotIn)=T2:=by cases op<;>first | rfl | exact absurd rfl d
 cases b<;>simp[gg,r,g]
theorem Ua{op:CmpOp}{r:R2}(F:OpR X (bX op) r)(L:PE X a ta)(J:PE X b tb)(G:gg op b=T2):PE X (.Compare a [op] [b] pos) (tOp r ta tb):=by
 intro d s g H Q I h;exact wpAny_Compare1 (binT L J I h λv u S x y T O rx z q=>F d S g T x y v u Q O rx z q) G
def jJ(t:TE):TT:=λg H Q=>t g H λx d=>∃k,x=.bl k/\Q k d
theorem Ub{op:CmpOp}{r:R2}(O:OpR X (bX op) r)(W:PE X a ta)(U:PE X b tb)(T:gg op b=T2):PT X (.Compare a [op] [b] pos) (jJ (tOp r ta tb)):=by
 intro d s g H Q I h;refine wpAny_isTrue_Compare1 (thn (W d s g H _ I h) λv F ⟨x,H1,I1,J,q1⟩=>thn (U d F g H1 _ I1 q1) λu S ⟨y,H2,Z,L,q2⟩=>
  thn (O d S g H2 x y v u _ Z J L q2) λc s3 ⟨z,H3,Y,G,k,e,q3⟩=>?_) T
 subst e;cases G;exact ky ⟨H3,Y,q3⟩
def TruV(K:av)(x:V)(H:Hp)(k:Bool):Prop:=
 match x with
 |.non=>k=T2
 |.bl b=>k=b
 |.int i=>k=(i != 0)
 |.str y=>y.length<=sizeLine/\k=((y.length:Int) != 0)
 |.byt y=>y.size<=sizeLine/\k=((y.size:Int) != 0)
 |.ref p=>(∃xs,SqL K H p xs/\k=!xs.isEmpty)∨(∃xs,SqT K H p xs/\k=!xs.isEmpty)∨∃kvs,H p=Y2 (.dK kvs)/\k=!kvs.isEmpty
 |_=>False
theorem Sd{d:Type}{kvs:List (d×V)}{vs:List (d×ac)}(r:KV kvs vs):(!vs.isEmpty)=!kvs.isEmpty:=by
 cases r<;>rfl
theorem Mq{xs:List V}(r:Vals xs its):(!its.toArray.isEmpty)=!xs.isEmpty:=by
 cases r<;>simp
theorem Mr:(sizeLine:Nat)<2^63:=by rw[lV];decide
theorem fC:TruR X (λx H Q=>∃k,TruV X.K x H k/\Q k H):=by
 intro Y s U H x v Q I rx h;obtain⟨k,e,q⟩:=h;have hl:=Mr;have Z:sizeLine=16777216:=lV;cases x with
 |non=>
  cases rx;have L:k=T2:=e;subst L;exact truthy_none ⟨H,I,q⟩
 |bl b=>
  cases rx;have L:k=b:=e;subst L;exact ky ⟨H,I,q⟩
 |int i=>
  obtain⟨t,rfl⟩:=rx;have L:k=(i != 0):=e;subst L;exact PySem.P.truthy_int ⟨H,I,q⟩
 |str y=>
  obtain⟨t,rfl⟩:=rx;obtain⟨S,L⟩:y.length<=sizeLine/\k=((y.length:Int) != 0):=e;subst L;exact PySem.P.truthy_str (by omega) ⟨H,I.tok _,q⟩
 |byt y=>
  obtain⟨t,rfl⟩:=rx;obtain⟨S,L⟩:y.size<=sizeLine/\k=((y.size:Int) != 0):=e;subst L;exact PySem.W.truthy_bytes (by omega) ⟨H,I.tok _,q⟩
 |ref p=>
  cases rx;have L:(∃z,SqL X.K H p z/\k=!z.isEmpty)∨(∃z,SqT X.K H p z/\k=!z.isEmpty)∨∃d,H p=Y2 (.dK d)/\k=!d.isEmpty:=e
  rcases L with ⟨z,F,L⟩ | ⟨z,F,L⟩ | ⟨d,F,L⟩
  .subst L;obtain⟨J,r,G,O⟩:=I.list F;have g:=r.length;exact wpAny_truthy_list G.isList (by simp only[bP];omega) ⟨H,I.tok _,by rw[Mq r];exact q⟩
  .subst L;obtain⟨J,r,G,O⟩:=I.tuple F;have g:=r.length;exact truthy_tuple G (by simp only[bP];omega) ⟨H,I.tok _,by rw[Mq r];exact q⟩
  .subst L;obtain⟨O,T,vs,r,m⟩:d.length<=sizeLine/\(p==eI)=T2/\∃vs,KV d vs/\s.heap.DictOf (Ar X.prog X.w) p vs:=I.hok p _ F;have g:d.length=vs.length:=mH r;exact wpAny_truthy_dict T m (by omega) ⟨H,I.tok _,by rw[Sd r];exact q⟩
 |_=>exact (show False from e).elim
theorem Wy(z:PE X a ta)(G:∀whole,kH a X.env whole=(do let v <-whole;kK a.pos;kL [v] (truthy v))):
  PT X a (λg H Q=>ta g H λx d=>∃k,TruV X.K x d k/\Q k d):=by
 intro r s g H Q I h;exact isTrue_plain (thn (z r s g H _ I h) λv y ⟨x,L,J,F,q1⟩=>fC r y g L x v Q J F q1) (G _)
theorem Sg:OpR X (g9 .Add) (λx y H Q=>∃i j,x=.str i/\y=.str j/\i.length+j.length<=sizeLine/\Q (.str (i++j)) H):=by
 intro r s g H x y v u Q I rx z h;obtain⟨i,j,rfl,rfl,O,q⟩:=h;obtain⟨t,rfl⟩:=rx;obtain⟨d,rfl⟩:=z;exact add_str (λd tk=>⟨.str (i++j),H,I.tok _,⟨_,rfl⟩,q⟩) O
theorem vals1{x:V}(r:Vals [x] us):∃u,us=[u]/\RelV x u:=by
 cases r with
 |cons F L=>cases L;exact⟨_,rfl,F⟩
theorem vals2{x y:V}(r:Vals [x,y] us):∃u w',us=[u,w']/\RelV x u/\RelV y w':=by
 cases r with
 |cons F L=>
  cases L with
  |cons G d=>cases d;exact⟨_,_,rfl,F,G⟩
theorem Oh:Df X (.type "int") (λxs H Q=>(∃i,xs=[.int i]/\Q (.int i) H)∨∃k,xs=[.bl k]/\Q (.int (if k then 1 else 0)) H):=by
 intro d s g H xs G Q I r h
 rcases h with ⟨i,rfl,q⟩ | ⟨k,rfl,q⟩
 .obtain⟨u,rfl,t,rfl⟩:=vals1 r;exact call_int_int ⟨.int i,H,I,⟨_,rfl⟩,q⟩
 .obtain⟨u,rfl,F⟩:=vals1 r;cases F;exact call_int_bool ⟨.int (if k then 1 else 0),H,I.tok _,⟨_,rfl⟩,q⟩
def LenV(K:av)(x:V)(H:Hp)(n:Nat):Prop:=
 match x with
 |.str y=>y.length<=sizeLine/\n=y.length
 |.byt y=>y.size<=sizeLine/\n=y.size
 |.ref p=>(∃xs,SqL K H p xs/\n=xs.length)∨∃xs,SqT K H p xs/\n=xs.length
 |_=>False
theorem Wz:Df X (.builtin "len") (λxs H Q=>∃x n,xs=[x]/\LenV X.K x H n/\Q (.int n) H):=by
 intro S s F H xs T Q I r h;obtain⟨x,n,rfl,e,q⟩:=h;obtain⟨u,rfl,rx⟩:=vals1 r;have Y:=Mr;have U:sizeLine=16777216:=lV;cases x with
 |str y=>
  obtain⟨t,rfl⟩:=rx;obtain⟨z,L⟩:y.length<=sizeLine/\n=y.length:=e;subst L;exact len_str (by omega) ⟨.int _,H,I.tok _,⟨_,rfl⟩,q⟩
 |byt y=>
  obtain⟨t,rfl⟩:=rx;obtain⟨z,L⟩:y.size<=sizeLine/\n=y.size:=e;subst L;exact PySem.W.len_bytes (by omega) ⟨.int _,H,I.tok _,⟨_,rfl⟩,q⟩
 |ref p=>
  cases rx;have L:(∃xs,SqL X.K H p xs/\n=xs.length)∨∃xs,SqT X.K H p xs/\n=xs.length:=e
  rcases L with ⟨xs,v,L⟩ | ⟨xs,v,L⟩
  .subst L;obtain⟨d,J,G,O⟩:=I.list v;have g:=J.length;exact Calls.call_len_list G.isList (by simp only[bP];omega) ⟨.int xs.length,H,I.tok _,⟨_,by simp only[bP];rw[g]⟩,q⟩
  .subst L;obtain⟨d,J,G,O⟩:=I.tuple v;have g:=J.length;exact len_tuple G (by simp only[bP];omega) ⟨.int xs.length,H,I.tok _,⟨_,by simp only[bP];rw[g]⟩,q⟩
 |_=>exact (show False from e).elim
end
structure ObjM (h:Heap) (x dx C:Addr) (mA:Str->Option ac):Prop where
 obj:h.get? x=Y2 (jv C dx)
 ns:h.Ns1 dx mA
 ne:dx≠x
theorem V6{dx:Addr}{mA:Str->Option ac}(n:h.Ns1 dx mA):∃od,h.get? dx=Y2 od/\∀name,mL name od=Y2 (mA name):=by
 obtain⟨o,g,J,v,G,I,_,F⟩:=n;refine⟨o,v,λname=>?_⟩;have e:=F name;unfold nsFind findBy at e;rw[<-Array.find?_toList] at e;unfold mL;rw[G];dsimp only;split
 .rename_i y q;rw[q] at e;exact congrArg Y2 e
 .rename_i q;rw[q] at e;have a:g.toList.any (·.refKey)=T2:=by
   rw[q0];intro y r;obtain⟨z,t,d⟩:=I y (Array.mem_toList_iff.mp r);simp[DictEntry.refKey,d]
  have H:¬ g.toList.any (·.refKey)=U2:=by rw[a];exact cp
  rw[if_neg H];exact congrArg Y2 e
theorem ObjM.look{x dx:Addr}{mA:Str->Option ac}(I:ObjM h x dx C mA):∃od,PySem.W.InstAt h x (jv C dx) C (Y2 od)/\∀name,mL name od=Y2 (mA name):=
 let ⟨od,ho,hl⟩:=V6 I.ns
 ⟨od,⟨I.obj,rfl,rfl,ho⟩,hl⟩
section
variable {w:ag}{A:ar}{K:av}{x dx:Addr}{mA:Str->Option ac}{v:ac}
theorem Zu{d:Bool}(X:K.In s.heap)(I:ObjM s.heap x dx C mA)(T:lW K C name=U2)(y:mN K C=U2)(z:dP K (.ref C) name=Y2 X2)(r:mA name=Y2 v)(g:q8 v=U2)(h:Q v { s with toks:=s.toks+1 }):
  af (ah prog w) A (getAttr (.ref x) name d) Q E s:=by
 obtain⟨F,J,Y⟩:=I.look;exact PySem.W.get_value X J (o7 T).1 (PySem.W.findObj_own y z rfl (by rw[Y,r])) g h
theorem W0{pl:Sem Bool}{Q:ac×List ac->ae->Prop}(X:K.In s.heap)(I:ObjM s.heap x dx C mA)(T:lW K C name=U2)(F:dP K (.ref C) name=Y2 (Y2 (.ref f)))(O:lx K (.ref f)=U2)(g:mA name=X2)(h:Q (.ref f,[.ref x]) s):
  af (ah prog w) A (kN (.ref x) name pl) Q E s:=by
 obtain⟨d,J,Y⟩:=I.look;exact PySem.W.method_fn X J (o7 T).1 (o7 T).2 F (beq_iff_eq.mp O) (by show (mL name d).map (·.isSome)=Y2 T2;rw[Y,g];rfl) h
theorem Zv{L:List Str}{Q:Unit->ae->Prop}(X:K.In s.heap)(I:ObjM s.heap x dx C mA)(U:dP K (.ref C) "__setattr__"=Y2 (Y2 (.builtin "object.__setattr__")))(Y:o8 K C=U2)(T:o9 K C name=Y2 X2)(Z:mN K C=U2)(S:nR mA L)(hsz:L.length<=sizeLine)(h:∀h',ObjM h' x dx C (λy=>if y=name then Y2 v else mA y)->iO dx s.heap h'->Q () { s with heap:=h',toks:=s.toks+2 }):
  af (ah prog w) A (setAttr (.ref x) name v) Q E s:=by
 obtain⟨od,J,hl⟩:=I.look;refine PySem.W.set_plain X J U (PySem.W.osa_open (s:={ s with toks:=s.toks+1 }) (r:=X2) X J Y T λb=>?_);obtain⟨cd,hc,G⟩:=PySem.W.any_some Z;have O:s.heap.get? x=Y2 ⟨.ref C,Y2 dx,.plain,#[]⟩:=I.obj;refine am (ay (am (am (wpAny_loadPart O (am (PySem.W.Looks.here (s:={ s with toks:=s.toks+1 }) (PySem.W.looks_clsIn X hc) ?_))))));rw[G];refine ay (a:=Y2 dx) (am (ay (am ?_)));refine wpAny_nsSet1 (s:={ s with toks:=s.toks+1 }) I.ns λh' g d=>?_;obtain⟨oD,u0,v0,z,F,H⟩:=g.count (PySem.Within.cons name v S);refine am (wpAny_lookBehind z (by rw[F];exact pastItsLine_dict (cE H (by rw[df];omega))) ?_);exact ay (h _ ⟨(d.2 _ (bv I.ne)).trans I.obj,g,I.ne⟩ d)
theorem W2{R:gT->ae->Prop}{vs:List ac}(X:K.In s.heap)(y:oa K C=U2)(G:dP K (.ref C) "__init__"=Y2 (Y2 (.ref f)))(F:PySem.W.typeIn K (.ref f)=Y2 (.type "function"))(h:gX (ah prog w) (A.under (.builtin "type.__call__" ⟨.ref C::vs,kw⟩)) (.call (.ref f) ⟨.ref (s.heap.objs.size+1)::vs,kw⟩) (PySem.W.InitBack (s.heap.objs.size+1) R)
   { s with heap:=(s.heap.push ia).push (jv C s.heap.objs.size) }):
  gX (ah prog w) A (.call (.ref C) ⟨vs,kw⟩) R s:=by
 obtain⟨H,g,d,t,z⟩:=s;exact PySem.W.make_core (PySem.W.makes_of X y) (PySem.W.looks_findIn X G) (λr=>PySem.W.bind_fn X r F) (.inl rfl) h
end
def putF(f:Str)(v:V):List (Str×V)->List (Str×V)
 |[]=>[(f,v)]
 | (g,x)::r=>if g=f then (g,v)::r else (g,x)::putF f v r
theorem K6(f g:Str)(v:V):∀fs:List (Str×V),(putF f v fs).lookup g=if g=f then Y2 v else fs.lookup g
 |[]=>by
  show bn g [(f,v)]=_
  by_cases h:g=f
  .have H:(g==f)=U2:=beq_iff_eq.mpr h;simp only[bn,H,if_pos h]
  .have H:(g==f)=T2:=beq_eq_false_iff_ne.mpr h;simp only[bn,H,if_neg h]
 | (k,x)::r=>by
  have d:=K6 f g v r;rw[show putF f v ((k,x)::r)=(if k=f then (k,v)::r else (k,x)::putF f v r) from rfl]
  by_cases I:k=f
  .rw[if_pos I]
   by_cases h:g=k
   .have H:(g==k)=U2:=beq_iff_eq.mpr h;simp only[bn,H,if_pos (h.trans I)]
   .have H:(g==k)=T2:=beq_eq_false_iff_ne.mpr h;simp only[bn,H,if_neg (λe:g=f=>h (e.trans I.symm))]
  .rw[if_neg I]
   by_cases h:g=k
   .have H:(g==k)=U2:=beq_iff_eq.mpr h;simp only[bn,H,if_neg (λe:g=f=>I (h.symm.trans e))]
   .have H:(g==k)=T2:=beq_eq_false_iff_ne.mpr h;simp only[bn,H];exact d
theorem Kg(f:Str)(v:V):∀fs:List (Str×V),f∈(putF f v fs).map (·.1)/\∀g,g∈fs.map (·.1)->g∈(putF f v fs).map (·.1)
 |[]=>⟨by simp[putF],λg h=>by simp at h⟩
 | (k,x)::r=>by
  obtain⟨y,d⟩:=Kg f v r;rw[show putF f v ((k,x)::r)=(if k=f then (k,v)::r else (k,x)::putF f v r) from rfl]
  by_cases I:k=f
  .rw[if_pos I];subst I;exact⟨by simp,λg h=>by simpa using h⟩
  .rw[if_neg I];refine⟨?_,λg h=>?_⟩
   .rw[bb];exact aI _ y
   .rw[bb] at h ⊢
    rcases ba.mp h with e | e
    .exact ba.mpr (.inl e)
    .exact aI _ (d g e)
theorem K7(f:Str)(v:V):∀fs:List (Str×V),(putF f v fs).length<=fs.length+1
 |[]=>by simp[putF]
 | (k,x)::r=>by
  have d:=K7 f v r;rw[show putF f v ((k,x)::r)=(if k=f then (k,v)::r else (k,x)::putF f v r) from rfl]
  by_cases I:k=f
  .rw[if_pos I,df,df];omega
  .rw[if_neg I,df,df];omega
theorem RelO.some_of{v:V}{o:Option ac}(r:RelO (Y2 v) o):∃u,o=Y2 u/\RelV v u:=by
 cases o with
 |none=>exact (show False from r).elim
 |some u=>exact⟨u,rfl,r⟩
theorem RelO.none_of{o:Option ac}(r:RelO X2 o):o=X2:=by
 cases o with
 |none=>rfl
 |some u=>exact (show False from r).elim
theorem V7{v:V}(r:RelV v u):q8 u=U2:=by
 cases v with
 |non=>cases (show u=lP from r);rfl
 |bl b=>cases (show u=kB b from r);rfl
 |int i=>obtain⟨t,e⟩:=(show ∃t,u=lR i t from r);cases e;rfl
 |str x=>obtain⟨t,e⟩:=(show ∃t,u=lp x t from r);cases e;rfl
 |byt b=>obtain⟨t,e⟩:=(show ∃t,u=pM b t from r);cases e;rfl
 |flt b=>obtain⟨t,e⟩:=(show ∃t,u=nQ b t from r);cases e;rfl
 |ref a=>cases (show u=bS a from r);rfl
 |ty n=>cases (show u=pO n from r);rfl
section
variable {w:ag}{H:Hp}{dx:Addr}{fs:List (Str×V)}
theorem Ly(g:HOk P w H h)(e:H a=Y2 (.ins C dx fs)):∃mA,ObjM h a dx C mA/\(∀f,RelO (fs.lookup f) (mA f))/\nR mA (fs.map (·.1))/\fs.length<=1000/\H dx=Y2 (.own a):=by
 obtain⟨d,z,ne,ob,mA,n,r,q⟩:=(show BK P w H h a (.ins C dx fs) from g a _ e);exact⟨mA,⟨ob,n,ne⟩,r,q,z,d⟩
end
structure Cls (K:av) (C:Addr):Prop where
 pg:lW K C ib=U2
 hd:mN K C=U2
 po:o8 K C=U2
 sa:dP K (.ref C) "__setattr__"=Y2 (Y2 (.builtin "object.__setattr__"))
theorem Cls.get{K:av}(c:Cls K C)(f:Str):lW K C f=U2:=c.pg
def Ci(K:av)(C:Addr)(f:Str):Prop:=dP K (.ref C) f=Y2 X2
theorem Ci.taker{K:av}{f:Str}(n:Ci K C f):o9 K C f=Y2 X2:=by
 unfold o9;rw[show dP K (.ref C) f=Y2 X2 from n];rfl
structure Meth (K:av) (C:Addr) (m:Str) (f:Addr):Prop where
 at_:dP K (.ref C) m=Y2 (Y2 (.ref f))
 fn:lx K (.ref f)=U2
 kp:dS K (.ref f)=U2
section
variable {X:Cx}{H:Hp}{dx:Addr}{fs:List (Str×V)}{f:Str}{v:V}{A:ar}
theorem Sh{b:Bool}(I:Inv X π σ H s)(e:H a=Y2 (.ins C dx fs))(c:Cls X.K C)(n:Ci X.K C f)(l:fs.lookup f=Y2 v)(h:∀u d,Inv X π σ H d->RelV v u->Q u d):af (ah X.prog X.w) A (getAttr (.ref a) f b) Q E s:=by
 obtain⟨mA,O,r,_,_,_⟩:=Ly I.hok e;obtain⟨u,S,g⟩:=RelO.some_of (v:=v) (o:=mA f) (by rw[<-l];exact r f);exact Zu I.kIn O (c.get f) c.hd n S (V7 g) (h u _ (I.tok _) g)
theorem Ms{g:Addr}{pl:Sem Bool}{Q:ac×List ac->ae->Prop}(I:Inv X π σ H s)(e:H a=Y2 (.ins C dx fs))(c:Cls X.K C)(k:Meth X.K C m g)(l:fs.lookup m=X2)(h:Q (.ref g,[.ref a]) s):af (ah X.prog X.w) A (kN (.ref a) m pl) Q E s:=by
 obtain⟨mA,O,r,_,_,_⟩:=Ly I.hok e;have d:mA m=X2:=RelO.none_of (by rw[<-l];exact r m);exact W0 I.kIn O (c.get m) k.at_ k.fn d h
theorem Sq{y:V}{Q:Unit->ae->Prop}(I:Inv X π σ H s)(e:H a=Y2 (.ins C dx fs))(c:Cls X.K C)(n:Ci X.K C f)(hl:fs.length<1000)(S:RelV y u)(h:∀G,Inv X π σ (upd H a (.ins C dx (putF f y fs))) G->Q () G):af (ah X.prog X.w) A (setAttr (.ref a) f u) Q E s:=by
 obtain⟨mA,O,r,F,_,J⟩:=Ly I.hok e;have T:(fs.map (·.1)).length<=sizeLine:=by rw[aw,lV];omega
 refine Zv I.kIn O c.sa c.po n.taker c.hd F T λZ d L=>h _ ?_;have W:∃o,Z.get? dx=Y2 o:=let ⟨o,_,_,e',_⟩:=d.ns;⟨o,e'⟩;refine I.write (x:=a) (e:=dx) (by rw[e];exact fh) (.inr J) (λb q Y z=>(L.2 b Y).trans z) W ?_;refine⟨by rw[Ag O.ne];exact J,?_,O.ne,d.obj,_,d.ns,λg=>?_,λg U=>?_⟩
 .have:=K7 f y fs;omega
 .show RelO ((putF f y fs).lookup g) (if g=f then Y2 u else mA g);rw[K6]
  by_cases q:g=f
  .rw[if_pos q,if_pos q];exact S
  .rw[if_neg q,if_neg q];exact r g
 .by_cases q:g=f
  .rw[q];exact (Kg f y fs).1
  .refine (Kg f y fs).2 g (F g λz=>U ?_);show (if g=f then Y2 u else mA g)=X2;rw[if_neg q];exact z
theorem Inv.made(I:Inv X π σ H s):Inv X π σ (upd (upd H s.heap.objs.size (.own (s.heap.objs.size+1))) (s.heap.objs.size+1) (.ins C s.heap.objs.size []))
  { s with heap:=(s.heap.push ia).push (jv C s.heap.objs.size) }:=by
 have d:(s.heap.push ia).get? s.heap.objs.size=Y2 ia:=cb s.heap rfl;have z:((s.heap.push ia).push (jv C s.heap.objs.size)).get? (s.heap.objs.size+1)=Y2 (jv C s.heap.objs.size):=by
  have:=cb (s.heap.push ia) (o:=jv C s.heap.objs.size) rfl
  rwa [mP] at this
 have r:(s.heap.push ia).Ns s.heap.objs.size (λ_=>X2):=⟨ia,#[],_,d,rfl,(λe G=>absurd G (by simp)),λ_=>rfl⟩;have F:=I.laid (a:=s.heap.objs.size) (o:=.own (s.heap.objs.size+1)) (h':=s.heap.push ia) (t':=s.toks) (λb u q=>bq _ q) (ax _) ⟨_,d⟩;refine F.laid (a:=s.heap.objs.size+1) (o:=.ins C s.heap.objs.size []) (t':=s.toks) (λb u q=>bq _ q) (q9 (mP _ _)) ?_;have ne:s.heap.objs.size≠s.heap.objs.size+1:=ca (oe _);refine⟨by rw[Ag ne,Ah],eA _,ne,z,λ_=>X2,(Heap.Ns1.of_empty r).at λo q=>bq _ q,λ_=>fh,λy g=>absurd rfl g⟩
theorem Zw{w:ag}{f:Str}(d:d4 e f env (eval e env)=eval e env)(h:af (ah prog w) A (eval e env) (λo r=>af (ah prog w) A (getAttr o f U2) Q E r) E s):af (ah prog w) A (eval (.Attribute e f pos) env) Q E s:=
 Attribute_any_ h (by rw[arm_eval_Attribute,d])
end
def tFld(K:av)(r:TE)(f:Str):TE:=λg H Q=>r g H λx z=>∃a C dx fs v,x=.ref a/\z a=Y2 (.ins C dx fs)/\Cls K C/\Ci K C f/\fs.lookup f=Y2 v/\Q v z
def sFld(K:av)(r d:TE)(f:Str):TS:=λD g H=>d g H λy z=>r g z λx v=>∃a C dx fs,x=.ref a/\v a=Y2 (.ins C dx fs)/\Cls K C/\Ci K C f/\fs.length<1000 ∧
 D.nx g (upd v a (.ins C dx (putF f y fs)))
section
variable {X:Cx}{o value:Expr}{f:Str}{tpos:Pos}{ta tv:TE}
theorem Pu(G:PE X e ta)(y:d4 e f X.env (eval e X.env)=eval e X.env):PE X (.Attribute e f pos) (tFld X.K ta f):=by
 intro r s g H Q I h;refine Zw y (thn (G r s g H _ I h) λu U ⟨x,L,J,rx,a,C,dx,fs,v,z,F,c,n,l,q⟩=>?_);subst z;obtain rfl:u=bS a:=rx;exact Sh J F c n l λO T S d=>⟨v,L,S,d,q⟩
theorem W3(J:PE X o ta)(F:PE X value tv)(G:dA value (Y2 (.Attribute o f pos')) pos.line X.env=pure T2):PS X (.Assign [.Attribute o f pos'] value pos) (sFld X.K ta tv f):=by
 intro r s g H D I h;refine plainObj_wpAny_Assign_Attribute (thn (F r s g H _ I h) λu d ⟨y,U,T,z,q⟩=>thn (J r d g U _ T q) λv Z ⟨x,H2,S,rx,a,C,dx,fs,L,O,c,n,l,q2⟩=>?_) G;subst L;obtain rfl:v=bS a:=rx;exact Sq S O c n l z λW Y=>⟨g,_,Y,q2⟩
def rAdd:V->V->Hp->VK->Prop:=λx y H Q=>∃i j,x=.int i/\y=.int j/\Q (.int (i+j)) H
end
section
variable {X:Cx}{H:Hp}{A:ar}{c:ac}{b:Bool}
inductive TyOf (K:av) (H:Hp):V->ac->Prop where
  |non:TyOf K H .non (.type "NoneType")
  |bl (x:Bool):TyOf K H (.bl x) (.type "bool")
  |int (i:Int):TyOf K H (.int i) (.type "int")
  |str (x:Str):TyOf K H (.str x) (.type "str")
  |flt (x:UInt64):TyOf K H (.flt x) (.type "float")
  |lst {a:Addr}{xs:List V}(e:H a=Y2 (.lst xs)):TyOf K H (.ref a) (.type "list")
  |frz {a:Addr}{o:Obj}{xs:List V}(e:H a=Y2 (.frz o (.lst xs))):TyOf K H (.ref a) (.type "list")
  |tup {a:Addr}{xs:List V}(e:H a=Y2 (.tup xs)):TyOf K H (.ref a) (.type "tuple")
  |dK {a:Addr}{kvs:List (Key×V)}(e:H a=Y2 (.dK kvs)):TyOf K H (.ref a) (.type "dict")
  |dT {a:Addr}{kvs:List (List Key×V)}(e:H a=Y2 (.dT kvs)):TyOf K H (.ref a) (.type "dict")
  |ins {a C dx:Addr}{fs:List (Str×V)}(e:H a=Y2 (.ins C dx fs)) (cl:Cls K C) (ha:dP K (.ref C) "__class__"=Y2 (Y2 (.builtin "object.__class__")))
      (hn:og K (.builtin "object.__class__") "__get__"=Y2 (Y2 (.builtin "getset_descriptor.__get__"))) (htk:PySem.W.takesIn K (.builtin "object.__class__")=Y2 U2)
      (hm:PySem.W.mroIn K C (.type "object")=Y2 U2):TyOf K H (.ref a) (.ref C)
theorem V8{x:V}{t:ac}(I:Inv X π σ H s)(rx:RelV x u)(ty:TyOf X.K H x t)(e:ly X.K t c=Y2 b)(h:∀tk,Q (.bool b) { s with toks:=tk }):
  af (ah X.prog X.w) A (call (.builtin "isinstance") [u,c]) Q E s:=by
 cases ty with
 |non=>cases (show u=lP from rx);exact fw PySem.W.kitx_none I.kIn fh e (λz=>nomatch z) h
 |bl y=>cases (show u=kB y from rx);exact fw PySem.W.kitx_bool I.kIn fh e (λz=>nomatch z) h
 |int i=>obtain⟨t,q⟩:=(show ∃t,u=lR i t from rx);cases q;exact fw PySem.W.kitx_int I.kIn fh e (λz=>nomatch z) h
 |str y=>obtain⟨t,q⟩:=(show ∃t,u=lp y t from rx);cases q;exact fw PySem.W.kitx_str I.kIn fh e (λz=>nomatch z) h
 |flt y=>obtain⟨t,q⟩:=(show ∃t,u=nQ y t from rx);cases q;exact fw PySem.W.kitx_float I.kIn fh e (λz=>nomatch z) h
 | @lst a r F=>
  cases (show u=bS a from rx);obtain⟨_,_,n,_,g⟩:=(show BK X.prog X.w H s.heap a (.lst r) from I.hok a _ F);exact fw oh I.kIn ⟨_,g,rfl⟩ e (λz=>nomatch z) h
 | @frz a ob r F=>
  cases (show u=bS a from rx);obtain⟨_,_,_,n,_,g⟩:=(show BK X.prog X.w H s.heap a (.frz ob (.lst r)) from I.hok a _ F);exact fw oh I.kIn ⟨_,g,rfl⟩ e (λz=>nomatch z) h
 | @tup a r F=>
  cases (show u=bS a from rx);obtain⟨_,_,_,p⟩:=(show BK X.prog X.w H s.heap a (.tup r) from I.hok a _ F);obtain⟨o,g,v,_⟩:=p;exact fw qa I.kIn ⟨o,g,v⟩ e (λz=>nomatch z) h
 | @dK a d F=>
  cases (show u=bS a from rx);obtain⟨_,_,vs,_,p⟩:=(show BK X.prog X.w H s.heap a (.dK d) from I.hok a _ F);obtain⟨o,Y,Z,g,v,_⟩:=p;exact fw qb I.kIn ⟨o,g,v.1⟩ e (λz=>nomatch z) h
 | @dT a d F=>
  cases (show u=bS a from rx);obtain⟨_,_,r,_,o,Y,Z,g,v,_⟩:=(show BK X.prog X.w H s.heap a (.dT d) from I.hok a _ F);exact fw qb I.kIn ⟨o,g,v.1⟩ e (λz=>nomatch z) h
 | @ins a C dx fs F L U S G T=>
  cases (show u=bS a from rx);obtain⟨mA,O,_⟩:=Ly I.hok F;obtain⟨od,J,_⟩:=O.look;exact fw (PySem.W.kitx_own (L.get _) L.hd U S G T) I.kIn J e (λz=>nomatch z) h
end
structure Room (k:Nat) (A:ar):Prop where
 hd:A.handled=X2
 dp:A.depth+3*k+5<recursionLimit
 un:A.units+16*k+200<aE
theorem Room.mono{k:Nat}{A:ar}(r:Room k A)(h:j<=k):Room j A:=⟨r.hd,by have:=r.dp;omega,by have:=r.un;omega⟩
theorem Room.deeper{k:Nat}{A:ar}(r:Room (k+1) A)(env:Env):Room k (A.deeper env):=
 ⟨r.hd,by have:=r.dp;show A.depth+1+3*k+5<_;omega,by have:=r.un;show A.units+3+16*k+200<_;omega⟩
theorem Ss{A:ar}:(A.under (.builtin "type.__call__" ⟨.ref C::us,kw⟩)).depth=A.depth+1:=by
 first | rfl | simp[oi,Code.weight,Code.isCreation,Code.isGuard,Code.isCaller,qc,oj,guardIds]
theorem Su{A:ar}:(A.under (.builtin "type.__call__" ⟨.ref C::us,kw⟩)).units=A.units+1:=by
 first | rfl | simp[oi,Code.cUnits,qc,oj]
theorem Room.make{k:Nat}{A:ar}(r:Room (k+1) A)(C:Addr)(us:List ac)(d:List (Str×ac)):Room k (A.under (.builtin "type.__call__" ⟨.ref C::us,d⟩)):=
 ⟨r.hd,by have:=r.dp;rw[Ss];omega,by have:=r.un;rw[Su];omega⟩
theorem Room.depth{k:Nat}{A:ar}(r:Room k A):A.depth<recursionLimit:=by have:=r.dp;omega
theorem Room.units{k:Nat}{A:ar}(r:Room k A):A.units+64<aE:=by have:=r.un;omega
def tNil:TA:=λ_ H Q=>Q [] H
def cA(r:TE)(tr:TA):TA:=λg H Q=>r g H λx z=>tr g z λxs v=>Q (x::xs) v
section
variable {X:Cx}{te:TE}{t:TA}
theorem Ep:PA X [] tNil:=λ_ _ _ _ H Q I h=>Calls.spliced_nil ⟨[],H,I,.nil,h⟩
theorem CQ(J:PE X e te)(G:PA X es t)(z:ai (e::es) X.env=(T2,eval e X.env)::ai es X.env:=by rfl):PA X (e::es) (cA te t):=by
 intro d r s g H Q I h;rw[z];show af _ _ (spliced ((T2,eval e X.env)::br d (ai es X.env))) _ _ s;refine Calls.spliced_cons (thn (J r s g H _ I h) λu y ⟨x,U,O,F,q1⟩=>?_);exact thn (G d r y g U _ O q1) λW Y ⟨v,T,S,L,q2⟩=>⟨x::v,T,S,.cons F L,q2⟩
def tTup(t:TA):TE:=λg H Q=>t g H λxs z=>xs.length<=sizeLine/\∀p,z p=X2->Q (.ref p) (upd z p (.tup xs))
def tLst(t:TA):TE:=λg H Q=>t g H λxs z=>xs.length<=sizeLine/\∀p,z p=X2->Q (.ref p) (upd z p (.lst xs))
theorem Sv{x1}(h:PA X es t):PE X (.Tuple es x1 pos) (tTup t):=by
 intro F s v H Q I S;refine wpAny_Tuple_spliced (thn (h pos F s v H _ I S) λJ y ⟨G,g,d,r,z,q⟩=>⟨by rw[<-r.length];exact z,?_⟩);have L:g y.heap.objs.size=X2:=d.hok.fresh (ax _);refine⟨.ref y.heap.objs.size,upd g y.heap.objs.size (.tup G),d.laid (t':=y.toks) (λb u e=>bq _ e) (ax _) ?_,rfl,q _ L⟩;exact⟨z,J,r,⟨_,cb _ rfl,rfl,_,rfl⟩⟩
theorem Sw(h:PA X es t):PE X (.List es pos) (tLst t):=by
 intro F s v H Q I S;refine wpAny_List_spliced (thn (h pos F s v H _ I S) λJ y ⟨G,g,d,r,z,q⟩=>⟨by rw[<-r.length];exact z,?_⟩);have L:g y.heap.objs.size=X2:=d.hok.fresh (ax _);refine⟨.ref y.heap.objs.size,upd g y.heap.objs.size (.lst G),d.laid (t':=y.toks) (λb u e=>bq _ e) (ax _) ?_,rfl,q _ L⟩;exact⟨z,J,0,r,cb _ rfl⟩
end
abbrev Sp:=List V->Hp->VK->XK->Prop
abbrev CXT:=List Env->Hp->ae->XK->ac->ae->Prop
structure Env0 (P:cq) (w:ag) (K:av) (mg:Str->Option ac) (base:Heap) (A:ar) (outer:List Env) (s:ae) (H:Hp):Prop where
 frames:A.frames=Y2 outer
 mod:Mod K mg base
 bs:∀b o,base.get? b=Y2 o->s.heap.get? b=Y2 o/\H b=X2
 bsz:base.objs.size<=s.heap.objs.size
 funs:s.heap.FunFrames base outer
 frf:∀b∈frs outer,H b=X2
 hok:HOk P w H s.heap
 bare:i6 s.gens
def CE(d:List Env)(P:cq)(w:ag)(H:Hp)(s:ae)(Q:VK)(u:ac)(g:ae):Prop:=
 ∃v r,g.os=s.os/\i6 g.gens/\Un (frs d) [] H r s.heap g.heap/\HOk P w r g.heap/\RelV v u/\Q v r
def CR(CX:CXT)(d:List Env)(P:cq)(w:ag)(H:Hp)(s:ae)(Q:VK)(E:XK)(r:gT)(g:ae):Prop:=
 match r with
 |.ok (.ret u)=>CE d P w H s Q u g
 |.ok _=>False
 |.error e=>CX d H s E e g
structure FnOk (P:cq) (w:ag) (K:av) (mg:Str->Option ac) (base:Heap) (CX:CXT) (k:Nat) (f:Addr) (fd:ii) (ps:List Str) (sp:Sp):Prop where
 len:∀vs H Q E,sp vs H Q E->vs.length=ps.length
 run:∀(A:ar) (outer:List Env) (s:ae) (H:Hp) (args:Args) (us:List ac) (vs:List V) (Q:VK) (E:XK),Room k A->Env0 P w K mg base A outer s H->lX s fd args (ps.zip us)->Vals vs us->sp vs H Q E ->
  gX (ah P w) A (.call (.ref f) args) (CR CX outer P w H s Q E) s
theorem FnOk.imp{w:ag}{K:av}{base:Heap}{CX:CXT}{k:Nat}{sp sp':Sp}(F:FnOk P w K mg base CX k f fd ps sp)(h:∀vs H Q E,sp' vs H Q E->sp vs H Q E):FnOk P w K mg base CX k f fd ps sp':=
 ⟨λvs H Q E q=>F.len vs H Q E (h _ _ _ _ q),λA d s H g G vs Q E y z I r v=>F.run A d s H g G vs Q E y z I r (h _ _ _ _ v)⟩
theorem Env0.make{w:ag}{K:av}{base:Heap}{A:ar}{d:List Env}{H:Hp}(e:Env0 P w K mg base A d s H)(C:Addr)(us:List ac)(g:List (Str×ac)):
  Env0 P w K mg base (A.under (.builtin "type.__call__" ⟨.ref C::us,g⟩)) d s H:=⟨by first | exact e.frames | (simpa [oi,Code.envs,oj,pushEnvs] using e.frames),e.mod,e.bs,e.bsz,e.funs,e.frf,e.hok,e.bare⟩
section
variable {X:Cx}{H:Hp}{s':ae}
theorem Inv.env0(I:Inv X π σ H s):Env0 X.prog X.w X.K X.mg X.base X.A X.stack s H:=
 ⟨I.ok.frames,I.ok.mod,I.bs,cE I.ok.bsz I.sz,I.stack,I.stkFree,I.hok,I.bare⟩
theorem Inv.after{Q:VK}(I:Inv X π σ H s)(h:CE X.stack X.prog X.w H s Q u s'):EP X π σ Q u s':=by
 obtain⟨v,L,os,y,un,G,r,q⟩:=h;obtain⟨J,g,d,t,F⟩:=s';obtain rfl:F=s.os:=os;exact⟨v,L,I.call (h':=J) (g':=g) (d':=d) (t':=t) (ch:=[]) un G y (λb z=>absurd z (by simp)),r,q⟩
end
def jK(sp:Sp)(d:List V)(E:XK)(t:TA):TE:=λg H Q=>t g H λvs z=>sp (vs++d) z Q E
def cB(C:Addr)(m:Str)(sp:Sp)(d:List V)(E:XK)(r:TE)(t:TA):TE:=λg H Q=>r g H λx z=>∃a dx fs,x=.ref a/\z a=Y2 (.ins C dx fs)/\fs.lookup m=X2 ∧
 t g z λvs v=>sp (x::(vs++d)) v Q E
def jL(C:Addr)(sp:Sp)(d:List V)(E:XK)(t:TA):TE:=λg H Q=>t g H λvs z=>∀x dx,z x=X2->z dx=X2->dx≠x ->
 sp (.ref x::(vs++d)) (upd (upd z dx (.own x)) x (.ins C dx [])) (λv r=>v=.non/\Q (.ref x) r) E
def Binds(K:av)(g:ii)(d:List Str)(ds:List ac):Prop:=
 ∀(s:ae) (us:List ac),K.In s.heap->(us++ds).length=d.length->lX s g ⟨us,[]⟩ (d.zip (us++ds))
theorem Binds.all{K:av}(h:∀us:List ac,us.length=ps.length->lY fd ⟨us,[]⟩=pure (ps.zip us)):Binds K fd ps []:=λs us _ Y=>by
 rw[dL] at Y ⊢;exact .of_eq (h us Y)
def Jc(CX:CXT)(X:Cx)(E:XK):Prop:=∀(r:zP) (g:St) (H:Hp) (s:ae) (e:ac) (d:ae),Inv X r g H s->CX X.stack H s E e d->X.xe e d
section
variable {X:Cx}{CX:CXT}{k:Nat}{sp:Sp}{dvs:List V}{ds:List ac}{E:XK}{p:Pos}{o:Expr}{ta:TE}{t:TA}
theorem Sy{g:St}{H:Hp}{Q:VK}{vs:List V}(F:FnOk X.prog X.w X.K X.mg X.base CX k f fd ps sp)(G:Room k X.A)(y:Binds X.K fd ps ds)(z:Vals dvs ds)(v:Jc CX X E)(I:Inv X π g H s)(r:Vals vs us)(h:sp (vs++dvs) H Q E):af (ah X.prog X.w) X.A (call (.ref f) us) (EP X π g Q) X.xe s:=by
 have L:Vals (vs++dvs) (us++ds):=r.append z;have Y:(us++ds).length=ps.length:=by rw[<-L.length];exact F.len _ _ _ _ h
 refine ol (lZ (F.run X.A X.stack s H ⟨us,[]⟩ (us++ds) (vs++dvs) Q E G I.env0 (y s us I.kIn Y) L h) λr d S=>?_);cases r with
 |error e=>exact v π g H s e d I S
 |ok J=>
  cases J with
  |ret u=>exact I.after S
  |next=>exact fq S
  |brk=>exact fq S
  |cont=>exact fq S
theorem Jk(F:FnOk X.prog X.w X.K X.mg X.base CX k f fd ps sp)(J:Room k X.A)(T:Gl X x)(L:X.mg x=Y2 (.ref f))(O:dS X.K (.ref f)=U2)(W:Binds X.K fd ps ds)(U:Vals dvs ds)(G:Jc CX X E)(Y:PA X (e::es) t)(g:(x==("__debug__":Str))=T2:=by decide)(S:ai (e::es) X.env=(T2,eval e X.env)::ai es X.env:=by rfl)(d:(br pos (ai es X.env)).any (·.1)=T2:=by rfl):
  PE X (.Call (.Name x p) (e::es) [] pos) (jK sp dvs E t):=by
 intro z s y H Q I h;refine mQ (Pk I T L ?_ g);refine om (h₀:=X.base) I.ok.mod.kin O (thn (Y pos z s y H _ I h) λus s1 ⟨Z,H1,v,r,q⟩=>⟨v.kIn,?_⟩) S d;exact Sy F J W U G v r q
theorem Zx{pl:Sem Bool}(Y:PE X o ta)(c:Cls X.K C)(J:Meth X.K C m f)(F:FnOk X.prog X.w X.K X.mg X.base CX k f fd ps sp)(W:Room k X.A)(hb:Binds X.K fd ps ds)(Z:Vals dvs ds)(T:Jc CX X E)(ha:PA X (e::es) t)(g:ai (e::es) X.env=(T2,eval e X.env)::ai es X.env:=by rfl)(d:(br pos (ai es X.env)).any (·.1)=T2:=by rfl)(U:eval (.Call (.Attribute o m apos) (e::es) [] pos) X.env=(do
   let ov <-eval o X.env
   kK apos.atName
   let (f,first) <-kL [ov] (kN ov m pl)
   kO pos f first (br pos (ai (e::es) X.env)) (fF pos (fI [] X.env))):=by rfl):
  PE X (.Call (.Attribute o m apos) (e::es) [] pos) (cB C m sp dvs E ta t):=by
 intro y s v H Q I h;refine qe (pl:=pl) (thn (Y y s v H _ I h) λu O ⟨x,H1,L,rx,a,dx,fs,ex,ea,l,q⟩=>?_) U;subst ex;obtain rfl:u=bS a:=rx;refine Ms L ea c J l ?_;refine om (first:=[.ref a]) (h₀:=X.base) I.ok.mod.kin J.kp (thn (ha pos y O v H1 _ L q) λG s2 ⟨z,H2,S,r,q2⟩=>⟨S.kIn,?_⟩) g d;exact Sy (us:=.ref a::G) (vs:=.ref a::z) F W hb Z T S (.cons rfl r) q2
theorem Qu{pl:Sem Bool}(z:PE X o ta)(c:Cls X.K C)(g:Meth X.K C m f)(F:FnOk X.prog X.w X.K X.mg X.base CX k f fd ps sp)(G:Room k X.A)(L:Binds X.K fd ps ds)(J:Vals dvs ds)(y:Jc CX X E)(O:eval (.Call (.Attribute o m apos) [] [] pos) X.env=(do
   let ov <-eval o X.env
   kK apos.atName
   let (f,first) <-kL [ov] (kN ov m pl)
   kO pos f first (br pos (ai [] X.env)) (fF pos (fI [] X.env))):=by rfl):
  PE X (.Call (.Attribute o m apos) [] [] pos) (cB C m sp dvs E ta tNil):=by
 intro v s r H Q I h;refine qe (pl:=pl) (thn (z v s r H _ I h) λu U ⟨x,Y,d,rx,a,dx,fs,S,T,l,q⟩=>?_) O;subst S;obtain rfl:u=bS a:=rx;refine Ms d T c g l ?_;exact PySem.W.callWith_K0 (first:=[.ref a]) d.kIn g.kp (Sy (us:=[.ref a]) (vs:=[.ref a]) F G L J y d (.cons rfl .nil) q)
structure Mk (K:av) (C f:Addr):Prop where
 makes:oa K C=U2
 init:dP K (.ref C) "__init__"=Y2 (Y2 (.ref f))
 fn:lx K (.ref f)=U2
 kp:dS K (.ref C)=U2
theorem W4{g:St}{H:Hp}{Q:VK}{vs:List V}(M:Mk X.K C f)(F:FnOk X.prog X.w X.K X.mg X.base CX k f fd ps sp)(O:Room (k+1) X.A)(U:Binds X.K fd ps ds)(T:Vals dvs ds)(J:Jc CX X E)(I:Inv X π g H s)(r:Vals vs us)(h:∀x dx,H x=X2->H dx=X2->dx≠x->sp (.ref x::(vs++dvs)) (upd (upd H dx (.own x)) x (.ins C dx [])) (λv H2=>v=.non/\Q (.ref x) H2) E):
  af (ah X.prog X.w) X.A (call (.ref C) us) (EP X π g Q) X.xe s:=by
 have y:=h (s.heap.objs.size+1) s.heap.objs.size (I.hok.fresh (lz _)) (I.hok.fresh (ax _)) (ca (oe _));have S:=Inv.made (C:=C) I;have L:Vals (V.ref (s.heap.objs.size+1)::(vs++dvs)) (bS (s.heap.objs.size+1)::(us++ds)):=.cons rfl (r.append T);have Y:(bS (s.heap.objs.size+1)::us++ds).length=ps.length:=by
  have e:=L.length;rw[F.len _ _ _ _ y] at e;exact e.symm
 refine ol (W2 (f:=f) I.kIn M.makes M.init (beq_iff_eq.mp M.fn) (lZ (F.run _ X.stack _ _ ⟨bS (s.heap.objs.size+1)::us,[]⟩ (bS (s.heap.objs.size+1)::(us++ds)) _ _ E (O.make C us [])
  (S.env0.make C us []) (U _ (bS (s.heap.objs.size+1)::us) S.kIn Y) L y) λr z d=>?_))
 cases r with
 |error e=>exact J π g _ _ e z S d
 |ok W=>
  cases W with
  |ret u=>
   obtain⟨v,H',I3,G,Z,q3⟩:=S.after d;subst Z;exact⟨G,⟨V.ref (s.heap.objs.size+1),H',I3,rfl,q3⟩⟩
  |next=>exact fq d
  |brk=>exact fq d
  |cont=>exact fq d
theorem Uc(M:Mk X.K C f)(F:FnOk X.prog X.w X.K X.mg X.base CX k f fd ps sp)(J:Room (k+1) X.A)(T:Gl X x)(L:X.mg x=Y2 (.ref C))(U:Binds X.K fd ps ds)(S:Vals dvs ds)(G:Jc CX X E)(W:PA X (e::es) t)(g:(x==("__debug__":Str))=T2:=by decide)(O:ai (e::es) X.env=(T2,eval e X.env)::ai es X.env:=by rfl)(d:(br pos (ai es X.env)).any (·.1)=T2:=by rfl):
  PE X (.Call (.Name x p) (e::es) [] pos) (jL C sp dvs E t):=by
 intro z s y H Q I h;refine mQ (Pk I T L ?_ g);refine om (h₀:=X.base) I.ok.mod.kin M.kp (thn (W pos z s y H _ I h) λZ s1 ⟨Y,H1,v,r,q⟩=>⟨v.kIn,?_⟩) O d;exact W4 M F J U S G v r q
end
section
variable {X:Cx}{CX:CXT}{k:Nat}{ks:List Str}{sp:Sp}{E:XK}{p kpos:Pos}{kws:List eL}{te:TE}{t tk:TA}{nm:Option Str}
variable {g:List ac->List ac->List ac}{gV:List V->List V->List V}
end
structure FnScope (N P:List Str) (sc:g7):Prop where
 kind:sc.kind=.function
 co:sc.isCoroutine=T2
 gen:sc.isGenerator=T2
 nd:N.Nodup
 pre:N.take P.length=P
 par:∀x∈P,sc.names.lookup x=Y2 .local ∨sc.names.lookup x=Y2 .cell
 nofree:∀y∈sc.names,y.2≠.free
theorem Oi{d:Str->Option gi}{x:Str}:∀{binds:List (Str×ac)}{m:Str->Option ac},(∀v,(x,v)∉binds)->jS d binds m x=m x
 |[],_,_=>rfl
 | (n,v)::r,m,h=>by
  unfold jS;rw[Oi λw g=>h w (aI _ g)];split
  .have:x≠n:=by rintro rfl;exact h v bg
   simp[this]
  .rfl
theorem Oj{d:Str->Option gi}{x:Str}:∀{binds:List (Str×ac)}{m:Str->Option ac},(∀v,(x,v)∉binds)->ke d binds m x=m x
 |[],_,_=>rfl
 | (n,v)::r,m,h=>by
  unfold ke;rw[Oj λw g=>h w (aI _ g)];split
  .rfl
  .have:x≠n:=by rintro rfl;exact h v bg
   simp[this]
theorem Ol{d:Str->Option gi}{x:Str}{v:ac}:∀{P:List Str}{vs:List ac}{i:Nat}{m:Str->Option ac},P.Nodup->P[i]?=Y2 x->vs[i]?=Y2 v->d x=Y2 .local ->
  jS d (P.zip vs) m x=Y2 v
 |[],_,_,_,_,h,_,_=>by simp at h
 |_::_,[],_,_,_,_,h,_=>by simp at h
 |p::P,w::vs,0,m,y,r,g,I=>by
  simp at r g;subst r;subst g;show jS d ((p,w)::P.zip vs) m p=_;unfold jS;rw[Oi λv z=>(hJ.mp y).1 (oq z).1,if_pos I];simp
 |p::P,w::vs,i+1,m,y,r,g,I=>by
  show jS d ((p,w)::P.zip vs) m x=_;unfold jS;exact Ol (i:=i) (hJ.mp y).2 (by simpa using r) (by simpa using g) I
theorem Om{d:Str->Option gi}{x:Str}{v:ac}:∀{P:List Str}{vs:List ac}{i:Nat}{m:Str->Option ac},P.Nodup->P[i]?=Y2 x->vs[i]?=Y2 v->d x≠Y2 .local ->
  ke d (P.zip vs) m x=Y2 v
 |[],_,_,_,_,h,_,_=>by simp at h
 |_::_,[],_,_,_,_,h,_=>by simp at h
 |p::P,w::vs,0,m,y,r,g,I=>by
  simp at r g;subst r;subst g;show ke d ((p,w)::P.zip vs) m p=_;unfold ke;rw[Oj λv z=>(hJ.mp y).1 (oq z).1,if_neg I];simp
 |p::P,w::vs,i+1,m,y,r,g,I=>by
  show ke d ((p,w)::P.zip vs) m x=_;unfold ke;exact Om (i:=i) (hJ.mp y).2 (by simpa using r) (by simpa using g) I
def start(N:List Str)(vs:List V):St:=vs.map Y2++m4 (N.length-vs.length) X2
def cxOf(CX:CXT)(P:cq)(w:ag)(K:av)(mg:Str->Option ac)(base:Heap)(N:List Str)(g:Str)(d:g7)(f:Addr)(v:ac)(A:ar)(outer:List Env)(s:ae)(H:Hp)(E:XK):Cx where
 prog:=P
 w:=w
 K:=K
 mg:=mg
 base:=base
 A:=A.deeper (dn g d s.heap.objs.size f v)
 N:=N
 s₀:=s
 H₀:=H
 env:=dn g d s.heap.objs.size f v
 outer:=outer
 stack:=dn g d s.heap.objs.size f v::outer
 ex:=[]
 calm:=U2
 fn:=λ_=>U2
 pn:=[]
 xe:=λe y=>af (ah P w) (A.deeper (dn g d s.heap.objs.size f v)) (leaving (dn g d s.heap.objs.size f v) e) (λ_ r=>CX outer H s E e r) (λL r=>CX outer H s E L r) y
theorem Qv(h:sc.names.lookup x=Y2 .cell):∃c,(cellsFrom n sc.names []).lookup x=Y2 c:=by
 have q:=qf sc.names n [] (.inl h);exact qg.mp q
theorem V9{CX:CXT}{w:ag}{K:av}{base:Heap}{U:ac}{A:ar}{d:List Env}{s1:ae}{H:Hp}{E:XK}{vs:List V}(S:FnScope N ps scope)(hd:A.handled=X2)(F:Env0 P w K mg base A d s H)(hl:vs.length=ps.length)(r:Vals vs us)(x:InCallC s s.heap.objs.size (jS (dn qual scope s.heap.objs.size f U).kindOf (ps.zip us) λ_=>X2) (cellsFrom (s.heap.objs.size+1) scope.names []) (ke (dn qual scope s.heap.objs.size f U).kindOf (ps.zip us) λ_=>X2) s1):
  Inv (cxOf CX P w K mg base N qual scope f U A d s H E) [] (start N vs) H s1:=by
 have Z:ps.length<=N.length:=by have:=congrArg cw S.pre;rw[ij] at this;omega
 obtain⟨T,tk,rfl,X⟩:=x.done;have G:∀b:Addr,b∉(cxOf CX P w K mg base N qual scope f U A d s H E).ex:=λb z=>absurd (show b∈([]:List Addr) from z) (by simp);refine⟨⟨F.mod,S.kind,rfl,rfl,ax _,λy z c T g=>?_,λy I=>?_,λy c _ h=>?_,λ_=>hd,Around.frames_deeper F.frames,.inr ⟨rfl,rfl⟩,λb z=>absurd z (G b),F.bs,F.bsz,λb _ _=>G b,λb z=>absurd z (G b),F.funs,F.frf⟩,
  rfl,F.bare,Un.kept X,⟨_,x.toInCall.ns,λi y v T g h3=>?_⟩,λy c h=>⟨_,x.cell y c h⟩,F.hok.fresh (ax _),λy c h=>?_,λp L=>absurd (show p∈([]:zP) from L) (by simp),F.hok.kept X,?_⟩
 .exact name_of_addr x.apart (m5 T) (m5 g)
 .have I:scope.names.lookup y=Y2 .cell ∨scope.names.lookup y=Y2 .free :=I
  rcases I with I | I
  .exact Qv I
  .exact absurd rfl (S.nofree _ (m5 I))
 .exact lS (x.above y c (m5 h))
 .have O:i<vs.length:=by
   unfold start at g
   by_cases O:i<vs.length
   .exact O
   .rw[hU (by simpa using O)] at g;rw[mR] at g;split at g<;>cases g
  have ha:vs[i]?=Y2 v:=by
   unfold start at g;rw[gu (by simpa using O),be] at g;cases e:vs[i]? with
   |none=>rw[e] at g;cases g
   |some a=>rw[e] at g;cases g;rfl
  obtain⟨u,W,Y⟩:=r.get ha;have L:ps[i]?=Y2 y:=by
   rw[<-S.pre,List.getElem?_take_of_lt (by omega)];exact T
  have J:ps.Nodup:=by rw[<-S.pre];exact S.nd.sublist (List.take_sublist _ _)
  refine⟨u,Y,?_⟩
  rcases S.par y (lA L) with k | k
  .exact .inl ⟨k,Ol J L W k⟩
  .obtain⟨c,e⟩:=Qv (n:=s.heap.objs.size+1) k;refine .inr ⟨.inl k,c,e,?_⟩;have q:=x.cell y c e;rw[Om J L W (by show scope.names.lookup y≠_;rw[k];decide)] at q;exact q
 .exact F.hok.fresh (lS (x.above y c (m5 h)))
 .unfold start;show _=N.length;rw[eP,aw,m6];omega
theorem Ud{CX:CXT}{w:ag}{K:av}{base:Heap}{k:Nat}{g:Arguments}{z:List Stmt}{dV kV:ac}{sp:Sp}(lk:K.lookup f=Y2 ⟨oc,od,.func (eS name qual g z scope dV kV doc pm an cdv ct),osl⟩)(u0:kf K cdv qual=U2)(S:FnScope N ps scope)(len:∀vs H Q E,sp vs H Q E->vs.length=ps.length)(O:∀(A:ar) (d:List Env) (s:ae) (H:Hp) (vs:List V) (Q:VK) (E:XK),Room k (A.deeper (dn qual scope s.heap.objs.size f cdv))->sp vs H Q E ->
   ∃t,PSs (cxOf CX P w K mg base N qual scope f cdv A d s H E) z t/\t { nx:=λ_ G=>Q .non G,rt:=Q } (start N vs) H):
  FnOk P w K mg base CX (k+1) f (eS name qual g z scope dV kV doc pm an cdv ct) ps sp:=by
 refine⟨len,λA d s H v0 us vs Q E hr X hb r U=>?_⟩;have hl:=len _ _ _ _ U;have KX:K.In s.heap:=X.mod.kin.keeps λb o e=>(X.bs b o e).1;have Z:s.heap.NoLimit:=X.mod.nolimit.keeps λb o e=>(X.bs b o e).1;have L:∀y∈ps.zip us,scope.names.lookup y.1=Y2 .local ∨(scope.names.lookup y.1=Y2 .cell /\((cellsFrom (s.heap.objs.size+1) scope.names []).lookup y.1).isSome=U2):=λ⟨n,v⟩ hy=>by
  rcases S.par n (oq hy).1 with q | q
  .exact .inl q
  .exact .inr ⟨q,qf _ _ _ (.inl q)⟩
 refine codeAny_call_function hr.depth (KX _ _ lk) rfl S.co S.gen rfl (PySem.W.codeRec_of KX u0) (hb _ _ _ _ ?_);refine wpAny_newFunctionEnv_cells S.kind L λy0 he s1 x=>?_;subst he;refine⟨Z.keeps x.toInCall.keep,codeAny_func ?_⟩;obtain⟨t,ht,hq⟩:=O A d s H vs Q E (hr.deeper _) U;have I:Inv (cxOf CX P w K mg base N qual scope f cdv A d s H E) [] (start N vs) H s1:=V9 S hr.hd X hl r x;refine f6 (ht [] s1 (start N vs) H _ I hq) (λfl s' T=>?_) λe s' T=>T;have fin:∀{F:St}{G:Hp}{v:V}{u:ac},Inv (cxOf CX P w K mg base N qual scope f cdv A d s H E) [] F G s'->RelV v u->Q v G->CE d P w H s Q u s':=
  λ{F G v u} J Y q=>⟨v,G,J.os,J.bare,J.base,J.hok,Y,q⟩
 cases fl with
 |ret u=>
  obtain⟨v,F,G,J,Y,q⟩:=T;exact fin J Y q
 |next=>
  obtain⟨F,G,J,q⟩:=T;exact fin (v:=V.non) (u:=lP) J rfl q
 |brk=>
  obtain⟨_,_,_,q⟩:=T;exact fq q
 |cont=>
  obtain⟨_,_,_,q⟩:=T;exact fq q
end L2
variable {vs xs ys:List L2.V}{H H' H1 H2 F2 F1 He Hf:L2.Hp}{v y:L2.V}{X:L2.Cx}{σ:L2.St}{te:L2.TE}{CX:L2.CXT}{sp:L2.Sp}{r:List L2.V->L2.Hp->L2.VK->Prop}{kvs:List (L2.Key×L2.V)}
namespace L2
open PySem PySem.Spec PyProof.Rows
section
variable {p:Pos}{t:TA}{id T:String}
def tCB(r:List V->Hp->VK->Prop)(t:TA):TE:=λg H Q=>t g H λvs z=>r vs z Q
theorem Jl(hc:Df X (.builtin id) r)(Y:Gl X x)(W:X.mg x=X2)(S:dc x=Y2 (.builtin id))(ha:PA X (e::es) t)(U:x≠"__name__":=by decide)(g:(x==("__debug__":Str))=T2:=by decide)(Z:ai (e::es) X.env=(T2,eval e X.env)::ai es X.env:=by rfl)(d:(br pos (ai es X.env)).any (·.1)=T2:=by rfl):PE X (.Call (.Name x p) (e::es) [] pos) (tCB r t):=by
 intro F s z H Q I h;refine mQ (Mm I Y W S ?_ U g);exact PyProof.Rows.callWith_builtin1 (thn (ha pos F s z H _ I h) λJ L ⟨G,H1,I1,O,q1⟩=>hc F L z H1 G J Q I1 O q1) Z d
theorem Kh(hc:Df X (.type T) r)(Y:Gl X x)(W:X.mg x=X2)(S:dc x=Y2 (.type T))(ha:PA X (e::es) t)(U:x≠"__name__":=by decide)(g:(x==("__debug__":Str))=T2:=by decide)(Z:ai (e::es) X.env=(T2,eval e X.env)::ai es X.env:=by rfl)(d:(br pos (ai es X.env)).any (·.1)=T2:=by rfl):PE X (.Call (.Name x p) (e::es) [] pos) (tCB r t):=by
 intro F s z H Q I h;refine mQ (Mm I Y W S ?_ U g);exact o6 (thn (ha pos F s z H _ I h) λJ L ⟨G,H1,I1,O,q1⟩=>hc F L z H1 G J Q I1 O q1) Z d
end
end L2
namespace HT
open PySem PyProof.Rows
section
open PySem.SeqAt
open PySem.AutoSeq1 (wpAny_loadPart')
open PySem.MeetsSeq PySem.MeetsSeq2 PySem.MeetsSeq3
end
section
variable {w:ag}{A:ar}
def sIx(n d:Nat):Option Int->Nat
 |none=>d
 |some v=>if v<0 then (v+(n:Int)).toNat else min v.toNat n
theorem fD(n d:Nat)(z:d<=n)(o:Option Int):sIx n d o<=n:=by
 cases o with
 |none=>exact z
 |some v=>
  show (if v<0 then (v+(n:Int)).toNat else min v.toNat n)<=n
  by_cases g:v<0
  .rw[if_pos g];omega
  .rw[if_neg g];exact Nat.min_le_right _ _
theorem Ue(v:Int)(n d:Nat):(if v<0 then max (v+(n:Int)) 0 else min v (n:Int))=((sIx n d (Y2 v):Nat):Int):=by
 show (if v<0 then max (v+(n:Int)) 0 else min v (n:Int))=(((if v<0 then (v+(n:Int)).toNat else min v.toNat n):Nat):Int)
 by_cases g:v<0
 .simp only[if_pos g];omega
 .simp only[if_neg g];omega
theorem S5(z G:Option Int)(n:Nat):ot z G 1 (n:Int)=(((sIx n 0 z:Nat):Int),((sIx n n G:Nat):Int)):=by
 have g:¬ ((1:Int)<0):=by omega
 unfold ot;simp only[g,if_false];refine Prod.ext ?_ ?_
 .cases z with
  |none=>rfl
  |some v=>exact Ue v n 0
 .cases G with
  |none=>rfl
  |some v=>exact Ue v n n
theorem S6(i j:Nat):mS (i:Int) (j:Int) 1=j-i:=by
 unfold mS;have g:(1:Int) > 0:=by omega
 simp only[g,if_true,qh];split<;>omega
theorem Mt{v:ac}{o:Option Int}{Q:Option Int->ae->Prop}(p:kg v o)(h:Q o s):af (ah prog w) A (Builtin.Slice.slicePartIndex v) Q E s:=by
 cases p with
 |none=>exact slicePart_none h
 |int i t=>exact slicePart_int h
theorem Kl{J:Addr}{I F:ac}{z G:Option Int}{Q:Int×Int×Nat->ae->Prop}(L:s.heap.IsSliceOf J I F .none)(pl:kg I z)(pu:kg F G)(h:Q (((sIx n 0 z:Nat):Int),1,sIx n n G-sIx n 0 z) s):af (ah prog w) A (qi (.ref J) (pure (n:Int))) Q E s:=by
 obtain⟨S,d,O,g⟩:=id L;unfold qi Builtin.Slice.sliceFields;refine am (am (ou d g (x:=I) rfl (am (ou d g (x:=F) rfl (am (ou d g (x:=.none) rfl (ay ?_)))))));refine am (slicePart_none ?_);show af _ _ (if ((1:Int)==0)=U2 then _ else _) _ _ s;rw[if_neg (by decide)];refine am (Mt pl (am (Mt pu (am (ay ?_)))));show af _ _ (match ot z G 1 (n:Int) with | (z,G)=>pure (z,(1:Int),mS z G 1)) _ _ s;rw[S5 z G n];show af _ _ (pure (((sIx n 0 z:Nat):Int),(1:Int),mS ((sIx n 0 z:Nat):Int) ((sIx n n G:Nat):Int) 1)) _ _ s;rw[S6];exact ay h
theorem W5(xs:Array ac)(i k:Nat):((bp k).filterMap λ(m:Nat)=>xs[((i:Int)+(m:Int)*1).toNat]?).toArray=((xs.toList.drop i).take k).toArray:=by
 have e:(λ(m:Nat)=>xs[((i:Int)+(m:Int)*1).toNat]?)=λm=>xs[i+m]?:=by
  funext m;have:((i:Int)+(m:Int)*1).toNat=i+m:=by omega
  rw[this]
 rw[e];have:=pick_run xs i k;rw[qj] at this;have d:((λx=>xs[x]?) ∘ λx=>i+x)=λm=>xs[i+m]?:=rfl;rw[d] at this;rw[this]
theorem Jm{t F:Addr}{d:Array ac}{U T:ac}{z G:Option Int}(O:IsTup s.heap t d)(W:s.heap.IsSliceOf F U T .none)(pl:kg U z)(pu:kg T G)(Z:¬ (sIx d.size 0 z=0/\sIx d.size d.size G=d.size))(h:Q (.ref s.heap.objs.size) { s with heap:=s.heap.push { cls:=.type "tuple",data:=.seq ((d.toList.drop (sIx d.size 0 z)).take (sIx d.size d.size G-sIx d.size 0 z)).toArray } })(hsz:d.size<=sizeLine):af (ah prog w) A (kh (.ref t) (.ref F)) Q E s:=by
 have g:sizeOk (.seq ((d.toList.drop (sIx d.size 0 z)).take (sIx d.size d.size G-sIx d.size 0 z)).toArray):=by
  show ((d.toList.drop (sIx d.size 0 z)).take (sIx d.size d.size G-sIx d.size 0 z)).toArray.size<=sizeLine;rw[bP,ij,io,lr];omega
 have hj:sIx d.size d.size G<=d.size:=fD _ _ (ax _) G;obtain⟨Y,I,L,u0⟩:=id W;have S:s.TypeIs (.ref F) "slice":=⟨Y,I,L⟩;unfold kh
 try with_reducible refine wpAny_holding ?_
 first | refine am (ay ?_) | skip
 refine am (wpAny_sequenceKey O.typeIs (by decide) ?_);refine am (oy (name:=m7 "__getitem__") O.typeIs oz
  (lh oz O.typeIs entry_tuple_getitem ?_ (args_tuple_getitem _ _)))
 show af _ _ (pE (.ref t) >>= _) _ _ s;refine am (tupleItemsOf_ O ?_);refine am (wpAny_typeOf S ?_);rw[if_pos (by decide)];refine am (Kl W pl pu ?_);have J:¬ ((((sIx d.size 0 z:Nat):Int)==0&&(1:Int)==1&&(sIx d.size d.size G-sIx d.size 0 z)==d.size)=U2):=by
  intro q;rw[eD,eD] at q;have q1:((sIx d.size 0 z:Nat):Int)=0:=eq_of_beq q.1.1;have q2:sIx d.size d.size G-sIx d.size 0 z=d.size:=eq_of_beq q.2;exact Z ⟨by omega,by omega⟩
 show af _ _ (if (((sIx d.size 0 z:Nat):Int)==0&&(1:Int)==1&&(sIx d.size d.size G-sIx d.size 0 z)==d.size)=U2 then _ else _) _ _ s;rw[if_neg J,W5]
 first
  |exact am (m:=mT _) (lB (ay ⟨_,rfl,ay h⟩) g)
  |exact am (m:=mT _) (lB (am (ay (ay ⟨_,rfl,ay h⟩))) g)
  |exact am (am (m:=mT _) (lB (ay (ay ⟨_,rfl,ay h⟩)) g))
  |exact am (am (m:=mT _) (lB (ay ⟨_,rfl,ay h⟩) g))
end
end HT
namespace L2
open PySem PySem.Spec PyProof.Rows
abbrev TO:=St->Hp->(Option Int->Hp->Prop)->Prop
def PO(X:Cx)(e:Option Expr)(t:TO):Prop:=
 ∀(d:zP) (s:ae) (g:St) (H:Hp) (Q:Option Int->Hp->Prop),Inv X d g H s->t g H Q ->
  af (ah X.prog X.w) X.A (evalPart e X.env) (λu F=>∃o z,Inv X d g z F/\kg u o/\Q o z) X.xe s
def jM(t:TE):TO:=λg H Q=>t g H λx z=>∃i,x=.int i/\Q (Y2 i) z
section
variable {lo hi:Option Expr}{tl th:TO}{p2:Pos}
theorem Zy(h:PE X e te):PO X (Y2 e) (jM te):=by
 intro d s g H Q I z;rw[evalPart_some];refine thn (h d s g H _ I z) λu L ⟨x,J,G,F,q1⟩=>?_;obtain⟨i,rfl,q⟩:=q1;obtain⟨t,rfl⟩:=F;exact⟨Y2 i,J,G,.int i t,q⟩
def SlR(X:Cx)(r:V->Option Int->Option Int->Hp->VK->Prop):Prop:=
 ∀(d:zP) (s:ae) (g:St) (H:Hp) (x:V) (v I F:ac) (G J:Option Int) (z:Addr) (Q:VK),Inv X d g H s->RelV x v->s.heap.IsSliceOf z I F .none->kg I G->kg F J->r x G J H Q ->
  ∃T id,typeLookup (.type T) "__getitem__"=pure (Y2 (.builtin id))/\s.TypeIs v T/\af (ah X.prog X.w) X.A (kh v (.ref z)) (EP X d g Q) X.xe s
theorem SlR.or{r J:V->Option Int->Option Int->Hp->VK->Prop}(h:SlR X r)(h':SlR X J):SlR X (λx lo hi H Q=>r x lo hi H Q∨J x lo hi H Q):=by
 intro d s g H x v z F lo hi G Q I rx O L pu q
 rcases q with q | q
 .exact h d s g H x v z F lo hi G Q I rx O L pu q
 .exact h' d s g H x v z F lo hi G Q I rx O L pu q
def tSl(r:V->Option Int->Option Int->Hp->VK->Prop)(te:TE)(d z:TO):TE:=λg H Q=>te g H λx I=>d g I λl G=>z g G λu F=>r x l u F Q
theorem W6{r:V->Option Int->Option Int->Hp->VK->Prop}(Y:SlR X r)(he:PE X e te)(Z:PO X lo tl)(U:PO X hi th):PE X (.Subscript e (.Slice lo hi X2 p2) pos) (tSl r te tl th):=by
 intro d s g H Q I h;refine oA (thn (he d s g H _ I h) λv J ⟨x,H1,I1,L,q1⟩=>?_);refine wpAny_Slice (thn (Z d J g H1 _ I1 q1) λz S ⟨l,H2,I2,O,q2⟩=>thn (U d S g H2 _ I2 q2) λF W ⟨u,G,I3,pu,q3⟩=>?_);rw[evalPart_none];refine ay ?_;have I4:Inv X d g G { W with heap:=W.heap.push { cls:=.type "slice",data:=.fields #[z,F,.none] } }:=I3.kept (t':=W.toks) λb ob q=>bq _ q;obtain⟨T,id,hT,ht,hg⟩:=Y d { W with heap:=W.heap.push { cls:=.type "slice",data:=.fields #[z,F,.none] } } g G x v z F l u W.heap.objs.size Q I4 L (Heap.IsSliceOf.new ..) O pu q3;show af (ah X.prog X.w) X.A (mU e (.Slice lo hi X2 p2) v (.ref W.heap.objs.size)) (EP X d g Q) X.xe { W with heap:=W.heap.push { cls:=.type "slice",data:=.fields #[z,F,.none] } };exact tail_any (ops:=[.ref W.heap.objs.size,v]) ht hT hg (by with_unfolding_all rfl)
def cutV(xs:List V)(z G:Option Int):List V:=(xs.drop (HT.sIx xs.length 0 z)).take (HT.sIx xs.length xs.length G-HT.sIx xs.length 0 z)
theorem K8(xs:List V)(z G:Option Int):(cutV xs z G).length<=xs.length:=by
 unfold cutV;rw[ij,io];omega
def rSlT(K:av):V->Option Int->Option Int->Hp->VK->Prop:=λx z G H Q=>∃a xs,x=.ref a/\SqT K H a xs ∧
 ¬ (HT.sIx xs.length 0 z=0/\HT.sIx xs.length xs.length G=xs.length)/\∀p,H p=X2->Q (.ref p) (upd H p (.tup (cutV xs z G)))
theorem fG:SlR X (rSlT X.K):=by
 intro Y s W H x v vl Z z G sl Q I rx U L pu h;obtain⟨a,d,rfl,S,T,q⟩:=h;cases rx;obtain⟨F,r,J,O⟩:=I.tuple S;have g:F.toArray.size=d.length:=by rw[bP];exact r.length.symm
 refine⟨"tuple",_,oz.lookup,J.typeIs,?_⟩;refine HT.Jm J U L pu (by rw[g];exact T) ?_ (by rw[g];exact O);rw[g];refine⟨.ref s.heap.objs.size,_,I.laid (t':=s.toks) (o:=.tup (cutV d z G)) (λb ob q=>bq _ q) (ax _) ?_,rfl,q _ (I.hok.fresh (ax _))⟩;exact⟨cE (K8 d z G) O,_,(r.drop (HT.sIx d.length 0 z)).take (HT.sIx d.length d.length G-HT.sIx d.length 0 z),IsTup.new _ _⟩
end
def ixN(n:Nat)(i:Int):Option Nat:=if 0<=i then (if i<n then Y2 i.toNat else X2) else if -(n:Int)<=i then Y2 (i+n).toNat else X2
def atI{α:Type}(xs:List α)(i:Int):Option α:=(ixN xs.length i).bind λj=>xs[j]?
theorem Zz{i:Int}(h:ixN n i=Y2 j):seqIndex? i n=Y2 j/\j<n/\-(n:Int)<=i/\i<n:=by
 unfold ixN at h
 by_cases I:0<=i
 .rw[if_pos I] at h
  by_cases g:i<n
  .rw[if_pos g] at h;have e:i.toNat=j:=bE h;exact⟨by rw[seqIndex_of I g,e],by omega,by omega,g⟩
  .rw[if_neg g] at h;cases h
 .rw[if_neg I] at h
  by_cases g : -(n:Int)<=i
  .rw[if_pos g] at h;have e:(i+n).toNat=j:=bE h;exact⟨by rw[seqIndex_neg (by omega) g,e],by omega,g,by omega⟩
  .rw[if_neg g] at h;cases h
theorem Px{d:Type}{xs:List d}{i:Int}{v:d}(h:atI xs i=Y2 v):∃j,seqIndex? i xs.length=Y2 j/\xs[j]?=Y2 v/\j<xs.length/\-(xs.length:Int)<=i/\i<xs.length:=by
 unfold atI at h;cases e:ixN xs.length i with
 |none=>rw[e] at h;cases h
 |some j=>
  rw[e] at h;obtain⟨F,z,O,g⟩:=Zz e;exact⟨j,F,h,z,O,g⟩
def Jo(b:Expr):Prop:=∀o i,m8 b T2 o i=operate [o,i] (kh o i)
def IxR(X:Cx)(r:R2):Prop:=
 ∀(g d:Expr) (F:zP) (s:ae) (z:St) (H:Hp) (x y:V) (v u:ac) (Q:VK),Inv X F z H s->RelV x v->RelV y u->r x y H Q ->
  m8 d T2 v u=operate [v,u] (kh v u)->af (ah X.prog X.w) X.A (mU g d v u) (EP X F z Q) X.xe s
def MtR(X:Cx)(id:String)(r:V->List V->Hp->VK->Prop):Prop:=
 ∀(d:zP) (s:ae) (g:St) (H:Hp) (x:V) (xs:List V) (v:ac) (us:List ac) (Q:VK),Inv X d g H s->RelV x v->Vals xs us->r x xs H Q ->
  af (ah X.prog X.w) X.A (call (.builtin id) (v::us)) (EP X d g Q) X.xe s
section
variable {a b:Expr}{ta tb:TE}
theorem IxR.or{r J:R2}(h:IxR X r)(h':IxR X J):IxR X (λx y H Q=>r x y H Q∨J x y H Q):=by
 intro g d F s z H x y v u Q I rx G q L
 rcases q with q | q
 .exact h g d F s z H x y v u Q I rx G q L
 .exact h' g d F s z H x y v u Q I rx G q L
theorem cC{r:R2}(G:IxR X r)(L:PE X a ta)(J:PE X b tb)(F:Jo b):PE X (.Subscript a b pos) (tOp r ta tb):=by
 intro d s g H Q I h;exact oA (binT L J I h λv u S x y T O rx z q=>G a b d S g T x y v u Q O rx z q (F _ _))
def rIxL(K:av):R2:=λx y H Q=>∃p xs i v,x=.ref p/\y=.int i/\SqL K H p xs/\atI xs i=Y2 v/\Q v H
def rIxT(K:av):R2:=λx y H Q=>∃p xs i v,x=.ref p/\y=.int i/\SqT K H p xs/\atI xs i=Y2 v/\Q v H
def rIxS:R2:=λx y H Q=>∃z i c,x=.str z/\y=.int i/\z.length<=sizeLine/\atI z.cps.toList i=Y2 c/\Q (.str ⟨#[c]⟩) H
theorem Z0:IxR X (rIxL X.K):=by
 intro d F S s O H x y v u Q I rx ry h T;obtain⟨p,xs,i,z,rfl,rfl,hq,he,q⟩:=h;cases rx;obtain⟨t,rfl⟩:=ry;obtain⟨L,r,J,hz⟩:=I.list hq;obtain⟨j,g,h2,h3,h4,h5⟩:=Px he;obtain⟨w,Y,G⟩:=r.get h2;have hl:=r.length;have hn:=Mr;have fin:EP X S O Q w s:=⟨z,H,I,G,q⟩
 by_cases U:0<=i
 .have W:i.toNat=j:=by
   rw[seqIndex_of U h5] at g;exact bE g
  exact item_listR J.isList U (by omega) (by rw[W];simpa using Y) fin T
 .have W:(i+(L.toArray.size:Int)).toNat=j:=by
   rw[seqIndex_neg (by omega) h4] at g;rw[bP,<-hl];exact bE g
  exact qk (x:=w) J.isList.typeIs ql.lookup
   (wpAny_getItem_list_neg (Q:=λr Z=>r=w/\EP X S O Q r Z) J.isList (by omega) (by rw[bP]<;>omega) (by omega) (by rw[W];simpa using Y) ⟨rfl,fin⟩) T
theorem fH:IxR X (rIxT X.K):=by
 intro g d J s F H x y v u Q I rx S h U;obtain⟨p,xs,i,z,rfl,rfl,W,Z,q⟩:=h;cases rx;obtain⟨t,rfl⟩:=S;obtain⟨T,r,L,hz⟩:=I.tuple W;obtain⟨j,h1,h2,h3,h4,h5⟩:=Px Z;obtain⟨w,ew,G⟩:=r.get h2;have Y:=r.length;have hn:=Mr;have fin:EP X J F Q w s:=⟨z,H,I,G,q⟩;exact qk (x:=w) L.typeIs slot_tuple_getitem.lookup
  (getItem_tuple (j:=j) (Q:=λr O=>r=w/\EP X J F Q r O) L (by omega) (by omega) (by rw[bP,<-Y];exact h1) (by simpa using ew) ⟨rfl,fin⟩) U
theorem Py:IxR X rIxS:=by
 intro g d π s Z H x y v u Q I rx G h J;obtain⟨z,i,c,rfl,rfl,hz,L,q⟩:=h;obtain⟨t,rfl⟩:=rx;obtain⟨t',rfl⟩:=G;obtain⟨j,F,T,h3,S,O⟩:=Px L;have Y:z.cps.toList.length=z.length:=by simp[ip]
 rw[Y] at F S O;have hn:=Mr;exact tail_any (oB s z t) slot_str_getitem.lookup (getItem_str (c:=c) (by
  have W:decide (i < -(2^63:Int))=T2:=decide_eq_false (by omega);have U:decide (i≥2^63)=T2:=decide_eq_false (by omega);rw[W,U,Bool.or_false]) (by rw[F];simpa using T) ⟨.str ⟨#[c]⟩,H,I.tok _,⟨_,rfl⟩,q⟩) J
def rIx(K:av):R2:=λx y H Q=>rIxL K x y H Q∨rIxT K x y H Q∨rIxS x y H Q
theorem W7:IxR X (rIx X.K):=Z0.or (fH.or Py)
theorem Pz(z G:Option Int)(n:Nat):(kP z G X2 n).1=((HT.sIx n 0 z:Nat):Int)/\(kP z G X2 n).2.1=((HT.sIx n n G:Nat):Int)/\(kP z G X2 n).2.2=1:=by
 refine⟨?_,?_,rfl⟩
 .cases z with
  |none=>simp[kP,HT.sIx]
  |some i=>
   simp only[kP,HT.sIx,qo,show (1:Int) > 0 by decide,if_true]
   by_cases h:i<0
   .simp only[h,if_true]<;>omega
   .simp only[h,if_false]<;>omega
 .cases G with
  |none=>simp[kP,HT.sIx]
  |some i=>
   simp only[kP,HT.sIx,qo,show (1:Int) > 0 by decide,if_true]
   by_cases h:i<0
   .simp only[h,if_true]<;>omega
   .simp only[h,if_false]<;>omega
theorem N8(d:List ac)(z G:Option Int):slicePick d.toArray z G X2=((d.drop (HT.sIx d.length 0 z)).take (HT.sIx d.length d.length G-HT.sIx d.length 0 z)).toArray:=by
 obtain⟨F,g,O⟩:=Pz z G d.toArray.size;unfold slicePick;rw[F,g,O];simp only[sliceRange_one,pick_run,bP]<;>rfl
def rSlL(K:av):V->Option Int->Option Int->Hp->VK->Prop:=λx z G H Q=>∃a xs,x=.ref a/\SqL K H a xs/\∀p,H p=X2->Q (.ref p) (upd H p (.lst (cutV xs z G)))
theorem Z1:SlR X (rSlL X.K):=by
 intro W s U H x v Z Y z G sl Q I rx T F pu h;obtain⟨a,g,rfl,S,q⟩:=h;cases rx;obtain⟨J,r,O,L⟩:=I.list S;have d:=r.length;refine⟨"list",_,ql.lookup,O.isList.typeIs,?_⟩;refine wpAny_getItem_list_slice O.isList T F pu .none (by simp) ?_ (by rw[bP]<;>omega);rw[N8,<-d];refine⟨.ref s.heap.objs.size,_,I.laid (t':=s.toks) (o:=.lst (cutV g z G)) (λb ob q=>bq _ q) (ax _) ?_,rfl,q _ (I.hok.fresh (ax _))⟩;exact⟨cE (K8 g z G) L,_,0,(r.drop (HT.sIx g.length 0 z)).take (HT.sIx g.length g.length G-HT.sIx g.length 0 z),cb _ rfl⟩
def Hn:V->Bool
 |.non=>U2
 |.bl _=>U2
 |.int _=>U2
 |.str _=>U2
 |_=>T2
def eqV:V->V->Bool
 |.non,.non=>U2
 |.bl a,.bl b=>a==b
 |.bl a,.int b=>(if a then 1 else 0)==b
 |.int a,.bl b=>a==(if b then 1 else 0)
 |.int a,.int b=>a==b
 |.str a,.str b=>a==b
 |_,_=>T2
theorem W8{A:ar}{x:V}{v:ac}(z:RelV y u)(rx:RelV x v)(F:Hn y=U2)(g:Hn x=U2):gv A s u v (eqV y x):=by
 cases y with
 |non=>
  cases z;cases x with
  |non=>cases rx;exact oC _
  |bl b=>cases rx;exact SeqAt.EqAt.none_bool b
  |int b=>obtain⟨t,rfl⟩:=rx;exact SeqAt.EqAt.none_int b t
  |str b=>obtain⟨t,rfl⟩:=rx;exact SeqAt.EqAt.none_str b t
  |_=>exact absurd (show T2=U2 from g) cp
 |bl a=>
  cases z;cases x with
  |non=>cases rx;exact SeqAt.EqAt.bool_none a
  |bl b=>cases rx;exact SeqAt.EqAt.bool_bool a b
  |int b=>obtain⟨t,rfl⟩:=rx;exact SeqAt.EqAt.bool_int a b t
  |str b=>obtain⟨t,rfl⟩:=rx;exact SeqAt.EqAt.bool_str a b t
  |_=>exact absurd (show T2=U2 from g) cp
 |int a=>
  obtain⟨d,rfl⟩:=z;cases x with
  |non=>cases rx;exact SeqAt.EqAt.int_none a d
  |bl b=>cases rx;exact SeqAt.EqAt.int_bool a d b
  |int b=>obtain⟨t,rfl⟩:=rx;exact SeqAt.EqAt.int_int a d b t
  |str b=>obtain⟨t,rfl⟩:=rx;exact pK a d b t
  |_=>exact absurd (show T2=U2 from g) cp
 |str a=>
  obtain⟨d,rfl⟩:=z;cases x with
  |non=>cases rx;exact SeqAt.EqAt.str_none a d
  |bl b=>cases rx;exact SeqAt.EqAt.str_bool a d b
  |int b=>obtain⟨t,rfl⟩:=rx;exact pL a d b t
  |str b=>obtain⟨t,rfl⟩:=rx;exact SeqAt.EqAt.str_str a d b t
  |_=>exact absurd (show T2=U2 from g) cp
 |_=>exact absurd (show T2=U2 from F) cp
def eqU(x:V)(u:ac):Bool:=match u with
 |.none=>eqV .non x
 |.bool b=>eqV (.bl b) x
 |.int i _=>eqV (.int i) x
 |.str z _=>eqV (.str z) x
 |_=>T2
theorem W9{x:V}(r:RelV y u)(f:Hn y=U2):eqU x u=eqV y x:=by
 cases y with
 |non=>cases r;rfl
 |bl b=>cases r;rfl
 |int i=>obtain⟨t,rfl⟩:=r;rfl
 |str z=>obtain⟨t,rfl⟩:=r;rfl
 |_=>exact absurd (show T2=U2 from f) cp
theorem Jp{x:V}:∀{xs:List V}{us:List ac},Vals xs us->xs.all Hn=U2->us.any (eqU x)=xs.any λy=>eqV y x
 |_,_,.nil,_=>rfl
 |y::xs,u::us,.cons r t,f=>by
  rw[mV,eD] at f;rw[kQ,kQ,W9 r f.1,Jp t f.2]
theorem Ht{A:ar}{s:ae}{x:V}{v:ac}(rx:RelV x v)(g:Hn x=U2):∀{xs:List V}{us:List ac},Vals xs us->xs.all Hn=U2->∀u∈us,gv A s u v (eqU x u)
 |_,_,.nil,_=>λu S=>by cases S
 |y::xs,u::us,.cons r t,f=>λO S=>by
  rw[mV,eD] at f
  rcases ba.mp S with rfl | S
  .rw[W9 r f.1];exact W8 r rx f.1 g
  .exact Ht rx g t f.2 O S
def inV(x:V)(xs:List V):Bool:=xs.any λy=>eqV y x
def rIn(K:av)(d:Bool):R2:=λx y H Q=>∃p xs,y=.ref p/\(SqL K H p xs∨SqT K H p xs)/\Hn x=U2/\xs.all Hn=U2/\Q (.bl (if d then !inV x xs else inV x xs)) H
theorem V_:OpR X (bX .In) (rIn X.K T2):=by
 intro L s J H x y v u Q I rx F h;obtain⟨p,T,rfl,S,z,fs,q⟩:=h;cases F
 rcases S with S | S
 .obtain⟨d,r,G,O⟩:=I.list S;refine qp (eqU x) G.isList (λw g=>Ht rx z r fs w (by simpa using g)) ⟨.bl _,H,I,rfl,?_⟩;rw[show d.toArray.any (eqU x)=d.any (eqU x) by simp,Jp r fs];exact q
 .obtain⟨d,r,G,O⟩:=I.tuple S;refine SeqAt.in_tupleAt (eqU x) G (λw g=>Ht rx z r fs w (by simpa using g)) ⟨.bl _,H,I,rfl,?_⟩;rw[show d.toArray.any (eqU x)=d.any (eqU x) by simp,Jp r fs];exact q
theorem P0:OpR X (bX .NotIn) (rIn X.K U2):=by
 intro L s J H x y v u Q I rx F h;obtain⟨p,T,rfl,S,z,fs,q⟩:=h;cases F
 rcases S with S | S
 .obtain⟨d,r,G,O⟩:=I.list S;refine qr (eqU x) G.isList (λw g=>Ht rx z r fs w (by simpa using g)) ⟨.bl _,H,I,rfl,?_⟩;rw[show d.toArray.any (eqU x)=d.any (eqU x) by simp,Jp r fs];exact q
 .obtain⟨d,r,G,O⟩:=I.tuple S;refine SeqAt.notIn_tupleAt (eqU x) G (λw g=>Ht rx z r fs w (by simpa using g)) ⟨.bl _,H,I,rfl,?_⟩;rw[show d.toArray.any (eqU x)=d.any (eqU x) by simp,Jp r fs];exact q
theorem Df.or{f:ac}{J:List V->Hp->VK->Prop}(h:Df X f r)(h':Df X f J):Df X f (λxs H Q=>r xs H Q∨J xs H Q):=by
 intro d s g H xs G Q I z q
 rcases q with q | q
 .exact h d s g H xs G Q I z q
 .exact h' d s g H xs G Q I z q
theorem HH:Df X (.type "list") (λxs H Q=>∃p ys,xs=[.ref p]/\(SqL X.K H p ys∨SqT X.K H p ys)/\∀l,H l=X2->Q (.ref l) (upd H l (.lst ys))):=by
  intro Z s Y H xs us Q I r h;obtain⟨p,ys,rfl,S,q⟩:=h;obtain⟨u,rfl,rx⟩:=vals1 r;cases rx;have fin:∀(d:List ac),Vals ys d->ys.length<=sizeLine->∀(G:Heap) (g:Nat),(∀b W,s.heap.get? b=Y2 W->G.get? b=Y2 W) ->
      G.get? s.heap.objs.size=Y2 { cls:=.type "list",dict:=X2,data:=.seq d.toArray g,slots:=#[] }->EP X Z Y Q (.ref s.heap.objs.size) { s with heap:=G }:=λd J O G g kp e=>
    ⟨.ref s.heap.objs.size,_,I.laid (t':=s.toks) kp (ax _) (show BK X.prog X.w _ G _ (.lst ys) from⟨O,d,g,J,e⟩),rfl,q _ (I.hok.fresh (ax _))⟩
  rcases S with S | S
  . obtain⟨d,J,F,O⟩:=I.list S
    have z:=J.length;obtain⟨o,L,U,n,T⟩:=F.isList;exact call_list_seq p (.inl rfl) L U T (λG g kp e=>fin d J O G g kp e) (by simp only[bP]<;>omega)
  . obtain⟨d,J,F,O⟩:=I.tuple S
    have z:=J.length;obtain⟨o,L,U,n,T⟩:=F;exact call_list_seq p (.inr rfl) L U T (λG g kp e=>fin d J O G g kp e) (by simp only[bP]<;>omega)
def tyV(K:av)(T:String)(x:V)(H:Hp):Prop:=match x with
  |.str _=>T="str"
  |.int _=>T="int"
  |.ref p=>(T="list"/\∃xs,SqL K H p xs)∨(T="tuple"/\∃o,K.lookup p=Y2 o/\o.cls=.type "tuple"/\o.dict=X2) ∨
      (T="dict"/\((∃kvs,H p=Y2 (.dK kvs))∨∃kvs,H p=Y2 (.dT kvs)))∨(T="set"/\∃S n,H p=Y2 (.set S n))
  |_=>False
theorem W_{T:String}{x:V}{v:ac}(I:Inv X π σ H s)(r:RelV x v)(ty:tyV X.K T x H):
  s.TypeIs v T/\∀a,v=.ref a->∃ob,s.heap.get? a=Y2 ob/\ob.dict=X2:=by
 cases x with
 |str z=>
  obtain⟨t,rfl⟩:=r;cases (show T="str" from ty);exact⟨oB s z t,λ_ e=>nomatch e⟩
 |int i=>
  obtain⟨t,rfl⟩:=r;cases (show T="int" from ty);exact⟨typeIs_int s i t,λ_ e=>nomatch e⟩
 |ref p=>
  cases r
  rcases ty with ⟨rfl,Y,U⟩ | ⟨rfl,o,d,W,G⟩ | ⟨rfl,d⟩ | ⟨rfl,S,n,d⟩
  .obtain⟨O,_,L,_⟩:=I.list U;refine⟨L.isList.typeIs,λa e=>?_⟩;cases e;obtain⟨o,n,e,c,G,_⟩:=L;exact⟨o,e,G⟩
  .refine⟨⟨o,I.kIn p o d,W⟩,λa e=>?_⟩;cases e;exact⟨o,I.kIn _ o d,G⟩
  .have z:∃o,s.heap.get? p=Y2 o/\o.ExactDict:=by
    rcases d with ⟨F,d⟩ | ⟨F,d⟩
    .obtain⟨_,_,_,_,o,_,_,e,g,_⟩:=I.hok p _ d;exact⟨o,e,g⟩
    .obtain⟨_,_,_,_,o,_,_,e,g,_⟩:=I.hok p _ d;exact⟨o,e,g⟩
   obtain⟨o,e,g⟩:=z;refine⟨⟨o,e,g.1⟩,λa J=>?_⟩;cases J;exact⟨o,e,g.2.1⟩
  .obtain⟨o,_,_,_,e,g,_⟩:=I.hok p _ d;refine⟨⟨o,e,g.1⟩,λa J=>?_⟩;cases J;exact⟨o,e,g.2.1⟩
 |_=>exact fq ty
def tBM0(K:av)(T:String)(r:V->List V->Hp->VK->Prop)(d:TE):TE:=λg H Q=>d g H λx z=>tyV K T x z/\r x [] z Q
def tBM(K:av)(T:String)(r:V->List V->Hp->VK->Prop)(d:TE)(t:TA):TE:=λg H Q=>d g H λx z=>tyV K T x z/\t g z λxs F=>r x xs F Q
variable {o:Expr}{to:TE}{t:TA}{T id:String}{r:V->List V->Hp->VK->Prop}
theorem XD(U:mW T)(O:Slot T name id)(z:typeOf (.builtin id)=pure (.type "method_descriptor"))(Y:MtR X id r)(W:PE X o to)(g:d4 o name X.env (eval o X.env)=eval o X.env:=by rfl)(d:(apos.endLine==cpos.line)=U2:=by rfl):PE X (.Call (.Attribute o name apos) [] [] cpos) (tBM0 X.K T r to):=by
 intro G s F H Q I h;refine wpAny_Call_method0_late g d (thn (W G s F H _ I h) λv S ⟨x,H1,L,J,ty,q1⟩=>?_);obtain⟨h1,Z⟩:=W_ L J ty;exact⟨T,id,U,O,z,h1,Z,qt rfl (oE (Y G S F H1 x [] v [] Q L J .nil q1))⟩
theorem XF(pa:mW T)(O:Slot T name id)(L:typeOf (.builtin id)=pure (.type "method_descriptor"))(hm:MtR X id r)(ho:PE X o to)(ha:PA X (e::es) t)(z:d4 o name X.env (eval o X.env)=eval o X.env:=by rfl)(F:((br cpos (ai (e::es) X.env)).all (λx=>!x.1)&&(fF cpos (fI [] X.env)).all (λx=>x.1.isSome)
   && decide ((e::es).length+([]:List eL).length+(if ([]:List eL).isEmpty then 0 else 1)<30))=U2:=by rfl)(g:(apos.endLine==cpos.line)=U2:=by rfl)(hs:ai (e::es) X.env=(T2,eval e X.env)::ai es X.env:=by rfl)(d:(br cpos (ai es X.env)).any (·.1)=T2:=by rfl):
  PE X (.Call (.Attribute o name apos) (e::es) [] cpos) (tBM X.K T r to t):=by
 intro J s G H Q I h;refine wpAny_Call_method_late z F g rfl (thn (ho J s G H _ I h) λv s1 ⟨x,H1,W,S,ty,q1⟩=>?_);obtain⟨h1,h2⟩:=W_ W S ty;refine⟨T,id,pa,O,L,h1,h2,?_⟩;have U:=ha cpos J s1 G H1 _ W q1;rw[hs] at U ⊢;refine qt (by show (T2||(br cpos (ai es X.env)).any (·.1))=T2;rw[d]<;>rfl) (Calls.evalArgs_plain ?_);exact thn U λZ s2 ⟨Y,H2,I2,r2,q2⟩=>hm J s2 G H2 x Y v Z Q I2 S r2 q2
end
def MtM(X:Cx)(id:String)(r:V->List V->Hp->VK->Prop):Prop:=
 ∀(d:zP) (s:ae) (g:St) (H:Hp) (x:V) (xs:List V) (v:ac) (us:List ac) (Q:VK),Inv X d g H s->RelV x v->Vals xs us->r x xs H Q ->
  af (ah X.prog X.w) X.A (call (.builtin id) (v::us)) (EP X d g Q) X.xe s
theorem Vals.one:∀{x:V}{us:List ac},Vals [x] us->∃u,us=[u]/\RelV x u
 |_,_,.cons r .nil=>⟨_,rfl,r⟩
theorem Vals.two:∀{x y:V}{us:List ac},Vals [x,y] us->∃u v,us=[u,v]/\RelV x u/\RelV y v
 |_,_,_,.cons r (.cons q .nil)=>⟨_,_,rfl,r,q⟩
theorem Vals.zero:∀{us:List ac},Vals [] us->us=[]
 |_,.nil=>rfl
section
variable {l:Addr}
theorem Inv.lset{its':List ac}{f:Array ac->Array ac}(I:Inv X π σ H s)(z:H l=Y2 (.lst xs))(e:s.heap.get? l=Y2 { cls:=.type "list",data:=.seq its.toArray n })(F:f its.toArray=its'.toArray)(g:Vals ys its')(O:ys.length<=sizeLine):
  Inv X π σ (upd H l (.lst ys)) { s with heap:=s.heap.update l (Obj.mapSeq f),toks:=t' }:=by
 have q:=PySem.IsL.update e f;rw[F] at q;refine I.write (x:=l) (e:=l) (by rw[z];exact trivial) (.inl rfl) (λG u d S=>(oF s.heap (Obj.mapSeq f) (bv d)).trans S) ⟨_,q⟩ ?_;exact⟨O,its',_,g,q⟩
theorem Inv.lnew(I:Inv X π σ H s)(g:Vals ys its)(O:ys.length<=sizeLine):
  Inv X π σ (upd H s.heap.objs.size (.lst ys)) { s with heap:=s.heap.push { cls:=.type "list",data:=.seq its.toArray },toks:=t' }:=
 I.laid (λ_ _ q=>bq _ q) (ax _) ⟨O,its,0,g,cb _ rfl⟩
theorem Inv.fresh(I:Inv X π σ H s):H s.heap.objs.size=X2:=I.hok.fresh (ax _)
theorem Inv.lstM(I:Inv X π σ H s)(d:H l=Y2 (.lst xs)):xs.length<=sizeLine/\∃(its:List ac) (n:Nat),Vals xs its/\xs.length=its.length/\s.heap.get? l=Y2 { cls:=.type "list",data:=.seq its.toArray n }:=by
 obtain⟨z,its,n,r,e⟩:=I.hok l _ d;exact⟨z,its,n,r,r.length,e⟩
end
section
def Ug:V->List V->Hp->VK->Prop:=λx vs H Q=>∃l xs y,x=.ref l/\vs=[y]/\H l=Y2 (.lst xs)/\xs.length<sizeLine/\Q .non (upd H l (.lst (xs++[y])))
theorem I_:MtM X "list.append" Ug:=by
 intro O s L H x T v U Q I rx G h;obtain⟨l,S,y,rfl,rfl,g,W,q⟩:=h;cases rx;obtain⟨u,rfl,J⟩:=G.one;obtain⟨z,d,n,r,Y,e⟩:=I.lstM g;refine mX F.slot_list_append ⟨_,e,rfl⟩ F.entry_list_append (F.args_list_append_2 _ _) (PySem.list_append l d.toArray n u (by rw[bP];omega)) ⟨e,?_⟩;refine⟨.non,_,I.lset (its':=d++[u]) g e (by simp) (r.append (.cons J .nil)) ?_,rfl,q⟩;rw[eP,List.length_singleton];omega
def fJ:V->List V->Hp->VK->Prop:=λx vs H Q=>∃l xs,x=.ref l/\vs=[]/\H l=Y2 (.lst xs)/\Q .non (upd H l (.lst []))
theorem XH:MtM X "list.clear" fJ:=by
 intro O s L H x T v U Q I rx J h;obtain⟨l,S,rfl,rfl,G,q⟩:=h;cases rx;have g:=J.zero;subst g;obtain⟨z,d,n,r,Y,e⟩:=I.lstM G;refine mX F.slot_list_clear ⟨_,e,rfl⟩ F.entry_list_clear (F.args_list_clear_1 _) (AutoSeq1.list_clear_list_0 l d.toArray n (by rw[bP];omega)) ⟨e,?_⟩;exact⟨.non,_,I.lset (its':=[]) (ys:=[]) G e rfl .nil (eA _),rfl,q⟩
end
section
variable {w:ag}{A:ar}
end
section
end
section
variable {κ:Type} [DecidableEq κ]
def valV(kvs:List (κ×V))(k:κ):Option V:=(kvs.find? λd=>decide (d.1=k)).map (·.2)
def putK(kvs:List (κ×V))(k:κ)(v:V):List (κ×V):=
 if (kvs.any λd=>decide (d.1=k))=U2 then kvs.map (λd=>if d.1=k then (d.1,v) else d) else kvs++[(k,v)]
theorem Jq{p:κ×V}{r:List (κ×V)}{k:κ}(e:p.1=k):valV (p::r) k=Y2 p.2:=by simp[valV,kR,e]
theorem Jr{p:κ×V}{r:List (κ×V)}{k:κ}(e:¬ p.1=k):valV (p::r) k=valV r k:=by simp[valV,kR,e]
theorem Mv(k:κ):∀kvs:List (κ×V),(kvs.any λd=>decide (d.1=k))=(valV kvs k).isSome
 |[]=>rfl
 |p::r=>by
  rw[kQ]
  by_cases e:p.1=k
  .simp only[Jq e,decide_eq_true e,Bool.true_or,Option.isSome_some]
  .rw[Jr e,decide_eq_false e,qu];exact Mv k r
theorem K9(kvs:List (κ×V))(k:κ)(v:V):(putK kvs k v).length<=kvs.length+1:=by
 unfold putK;split
 .rw[aw];omega
 .rw[eP,df,List.length_nil];omega
theorem RelO.isSome_eq{o:Option V}{u:Option ac}(r:RelO o u):o.isSome=u.isSome:=by
 cases o with
 |none=>cases u with
  |none=>rfl
  |some _=>exact (show False from r).elim
 |some _=>cases u with
  |none=>exact (show False from r).elim
  |some _=>rfl
theorem KV.val{kvs:List (κ×V)}{vs:List (κ×ac)}(r:KV kvs vs)(k:κ):RelO (valV kvs k) (ki vs k):=by
 unfold KV at r
 induction r with
 |nil=>exact fh
 | @cons p q I d h t F=>
  obtain⟨g,G⟩:=h
  by_cases e:p.1=k
  .have L:q.1=k:=g.symm.trans e;have b:ki (q::d) k=Y2 q.2:=by simp[ki,kR,L]
   rw[Jq e,b];exact G
  .have L:¬ q.1=k:=λz=>e (g.trans z);have b:ki (q::d) k=ki d k:=by simp[ki,kR,L]
   rw[Jr e,b];exact F
theorem KV.any{kvs:List (κ×V)}{vs:List (κ×ac)}(r:KV kvs vs)(k:κ):(kvs.any λd=>decide (d.1=k))=vs.any λd=>decide (d.1=k):=by
 unfold KV at r
 induction r with
 |nil=>rfl
 |cons h t g=>rw[kQ,kQ,g,h.1]
theorem KV.repl{kvs:List (κ×V)}{vs:List (κ×ac)}(r:KV kvs vs)(k:κ){y:V}{u:ac}(F:RelV y u):
  KV (kvs.map λd=>if d.1=k then (d.1,y) else d) (vs.map λd=>if d.1=k then (d.1,u) else d):=by
 unfold KV at r ⊢
 induction r with
 |nil=>exact .nil
 | @cons p q L J h t G=>
  rw[bb,bb];refine .cons ?_ G;obtain⟨g,I⟩:=h
  by_cases e:p.1=k
  .rw[if_pos e,if_pos (g.symm.trans e)];exact⟨g,F⟩
  .rw[if_neg e,if_neg (λz=>e (g.trans z))];exact⟨g,I⟩
theorem KV.put{kvs:List (κ×V)}{vs:List (κ×ac)}(r:KV kvs vs)(k:κ){y:V}{u:ac}(z:RelV y u):KV (putK kvs k y) (stored vs k u):=by
 unfold putK stored;rw[r.any k]
 by_cases e:(vs.any λd=>decide (d.1=k))=U2
 .rw[if_pos e,if_pos e];exact r.repl k z
 .rw[if_neg e,if_neg e];exact qv r ⟨rfl,z⟩
theorem KV.length{kvs:List (κ×V)}{vs:List (κ×ac)}(r:KV kvs vs):kvs.length=vs.length:=mH r
end
theorem Qw{w:ag}{k:Key}(r:RelV (kV k) u):(Ar P w).is k u=U2:=by
 cases k with
 |inl i=>obtain⟨t,e⟩:=(show ∃t,u=lR i t from r);subst e;exact Qq P w i t
 |inr x=>obtain⟨t,e⟩:=(show ∃t,u=lp x t from r);subst e;exact Qs P w x t
theorem Oo{P:cq}{w:ag}:∀{ks:List Key}{us:List ac},Vals (ks.map kV) us->ItemsAre (Ar P w) ks us
 |[],_,r=>by rw[mY] at r;cases r;exact .nil
 |k::ks,_,r=>by
  rw[bb] at r;cases r with
  |cons h t=>exact .cons (Qw h) (Oo t)
abbrev KT (H:Hp):List (List Key×V)->List (List Key×Addr×ac)->Prop:=jp λp q=>p.1=q.1/\H q.2.1=Y2 (.tup (p.1.map kV))/\RelV p.2 q.2.2
theorem KT.val{kvs:List (List Key×V)}{xs:List (List Key×Addr×ac)}(r:KT H kvs xs)(k:List Key):RelO (valV kvs k) ((iq xs k).map (·.2)):=by
 induction r with
 |nil=>exact fh
 | @cons p q I d h t F=>
  obtain⟨g,_,G⟩:=h
  by_cases e:p.1=k
  .have L:q.1=k:=g.symm.trans e;have b:iq (q::d) k=Y2 q.2:=by simp[iq,kR,L]
   rw[Jq e,b];exact G
  .have L:¬ q.1=k:=λz=>e (g.trans z);have b:iq (q::d) k=iq d k:=by simp[iq,kR,L]
   rw[Jr e,b];exact F
theorem KT.repl{kvs:List (List Key×V)}{xs:List (List Key×Addr×ac)}(r:KT H kvs xs)(k:List Key){y:V}{u:ac}(G:RelV y u):
  KT H (kvs.map λd=>if d.1=k then (d.1,y) else d) (xs.map (putAt k u)):=by
 induction r with
 |nil=>exact .nil
 | @cons p q L J h t I=>
  rw[bb,bb];refine .cons ?_ I;obtain⟨g,F,O⟩:=h;unfold putAt
  by_cases e:p.1=k
  .rw[if_pos e,if_pos (g.symm.trans e)];exact⟨g,F,G⟩
  .rw[if_neg e,if_neg (λz=>e (g.trans z))];exact⟨g,F,O⟩
theorem KT.put{kvs:List (List Key×V)}{xs:List (List Key×Addr×ac)}(r:KT H kvs xs)(k:List Key){b:Addr}{y:V}{u:ac}(g:H b=Y2 (.tup (k.map kV)))(z:RelV y u):
  KT H (putK kvs k y) (storedH xs k b u):=by
 have e:(kvs.any λd=>decide (d.1=k))=(iq xs k).isSome:=by
  rw[Mv,(r.val k).isSome_eq,oG]
 unfold putK storedH;rw[e]
 by_cases q:(iq xs k).isSome=U2
 .rw[if_pos q,if_pos q];exact r.repl k z
 .rw[if_neg q,if_neg q];exact qv r ⟨rfl,g,z⟩
theorem KT.keeps{kvs:List (List Key×V)}{xs:List (List Key×Addr×ac)}(r:KT H kvs xs)(O:∀b ys,H b=Y2 (.tup ys)->H' b=Y2 (.tup ys)):KT H' kvs xs:=
 Paired.mapP r λ_ _ z=>⟨z.1,O _ _ z.2.1,z.2.2⟩
section
variable {w:ag}
theorem XJ{u:HO}(ok:HOk P w H h)(e:Rd H a u):BK P w H h a u:=e.ok ok
theorem Ho(ok:HOk P w H h)(e:Rd H a (.dK kvs)):kvs.length<=sizeLine/\(a==eI)=T2/\∃vs,KV kvs vs/\h.DictOf (Ar P w) a vs:=
 show BK P w H h a (.dK kvs) from XJ ok e
theorem XM(ok:HOk P w H h)(e:H a=Y2 (.dK kvs)):kvs.length<=sizeLine/\(a==eI)=T2/\∃vs,KV kvs vs/\h.DictOf (Ar P w) a vs:=Ho ok (.inl e)
theorem Mw{ks:List Key}(ok:HOk P w H h)(e:H a=Y2 (.tup (ks.map kV))):(kD (Ar P w)).is h ks a:=by
 obtain⟨_,d,r,o,z,g,n,O⟩:=(show BK P w H h a (.tup (ks.map kV)) from ok a _ e);exact⟨o,d.toArray,n,z,g,O,by simpa using Oo r⟩
theorem Qx{kvs:List (List Key×V)}(ok:HOk P w H h)(e:Rd H a (.dT kvs)):kvs.length<=sizeLine/\(a==eI)=T2 ∧
  ∃xs,KT H kvs xs/\h.DictOfH (kD (Ar P w)) a xs:=by
 obtain⟨z,y,xs,r,o,L,T,J,I,G,F,O⟩:=(show BK P w H h a (.dT kvs) from XJ ok e);refine⟨z,y,xs,r,o,L,T,J,I,G,F,λx d=>?_,O⟩;have all:∀{l:List (List Key×V)}{m:List (List Key×Addr×ac)},KT H l m->∀x∈m,(kD (Ar P w)).is h x.1 x.2.1:=by
  intro l m q
  induction q with
  |nil=>intro x d;exact nomatch d
  | @cons p q W U S t g=>
   intro x d
   rcases ba.mp d with e | d
   .subst e;exact Mw ok (by rw[<-S.1];exact S.2.1)
   .exact g x d
 exact all r x d
theorem jN{kvs:List (List Key×V)}(ok:HOk P w H h)(e:H a=Y2 (.dT kvs)):kvs.length<=sizeLine/\(a==eI)=T2 ∧
  ∃xs,KT H kvs xs/\h.DictOfH (kD (Ar P w)) a xs:=Qx ok (.inl e)
end
def DGet(H:Hp)(a:Addr)(y:V)(r:Option V):Prop:=
 (∃kvs k,Rd H a (.dK kvs)/\y=kV k/\r=valV kvs k)∨∃kvs k b,Rd H a (.dT kvs)/\y=.ref b/\H b=Y2 (.tup (k.map kV))/\r=valV kvs k
def DPut(H:Hp)(a:Addr)(y v:V)(d:Hp):Prop:=
 (∃kvs k,H a=Y2 (.dK kvs)/\y=kV k/\kvs.length<sizeLine/\d=upd H a (.dK (putK kvs k v))) ∨
 ∃kvs k b,H a=Y2 (.dT kvs)/\y=.ref b/\H b=Y2 (.tup (k.map kV))/\kvs.length<sizeLine/\d=upd H a (.dT (putK kvs k v))
theorem DPut.k{H:Hp}{a:Addr}{kvs:List (Key×V)}{k:Key}{v:V}(e:H a=Y2 (.dK kvs))(Y:kvs.length<sizeLine):DPut H a (kV k) v (upd H a (.dK (putK kvs k v))):=.inl ⟨kvs,k,e,rfl,Y,rfl⟩
theorem DPut.t{kvs:List (List Key×V)}{k:List Key}(e:H a=Y2 (.dT kvs))(d:H b=Y2 (.tup (k.map kV)))(Y:kvs.length<sizeLine):
  DPut H a (.ref b) v (upd H a (.dT (putK kvs k v))):=.inr ⟨kvs,k,b,e,rfl,d,Y,rfl⟩
section
variable {r:ac}{o:Option V}{A:ar}
theorem Inv.big(I:Inv X π σ H s):eI<s.heap.objs.size:=by
 have h:dQ<s.heap.objs.size:=(I.mod.glob.keeps I.bk).lt;exact Nat.lt_trans (by decide) h
theorem Oq(hu:A.units+1<aE)(I:Inv X π σ H s)(g:DGet H a y (Y2 v))(W:RelV y u)(h:∀F U,Inv X π σ H U->RelV v F->Q F U):
  af (ah X.prog X.w) A (kh (.ref a) u) Q E s:=by
 rcases g with ⟨J,k,e,S,l⟩ | ⟨J,k,b,e,S,eb,l⟩
 .subst S;obtain⟨z,hd,Z,d,T⟩:=Ho I.hok e;obtain⟨F,L,G⟩:=RelO.some_of (v:=v) (o:=ki Z k) (by rw[l];exact d.val k);exact wpAny_getItem_of (Qw W) T.mapOf L (h F _ (I.tok _) G)
 .subst S;cases (show u=bS b from W);obtain⟨z,hd,Y,d,T⟩:=Qx I.hok e;obtain⟨F,L,G⟩:=RelO.some_of (v:=v) (o:=(iq Y k).map (·.2)) (by rw[l];exact d.val k);obtain⟨p,hp,O⟩:=mG.mp L;refine wpAny_getItem_heap (mZ hu) (Mw I.hok eb) T hp ?_;rw[O];exact h F _ (I.tok _) G
theorem d_in(O:A.units+1<aE)(I:Inv X π σ H s)(g:DGet H a y o)(L:RelV y u)(h:∀J,Inv X π σ H J->Q (.bool o.isSome) J):
  af (ah X.prog X.w) A (bX .In u (.ref a)) Q E s:=by
 rcases g with ⟨F,k,e,S,l⟩ | ⟨F,k,b,e,S,U,l⟩
 .subst S;obtain⟨z,G,Y,d,T⟩:=Ho I.hok e;refine wpAny_in_of (Qw L) G T.mapOf ?_;rw[<-(d.val k).isSome_eq,<-l];exact h _ (I.tok _)
 .subst S;cases (show u=bS b from L);obtain⟨z,G,W,d,T⟩:=Qx I.hok e;refine wpAny_in_heap (mZ O) (Mw I.hok U) G T ?_;have q:=(d.val k).isSome_eq;rw[oG] at q;rw[<-q,<-l];exact h _ (I.tok _)
theorem Z2(O:A.units+1<aE)(I:Inv X π σ H s)(g:DGet H a y o)(L:RelV y u)(h:∀J,Inv X π σ H J->Q (.bool (!o.isSome)) J):
  af (ah X.prog X.w) A (bX .NotIn u (.ref a)) Q E s:=by
 rcases g with ⟨F,k,e,S,l⟩ | ⟨F,k,b,e,S,U,l⟩
 .subst S;obtain⟨z,G,Y,d,T⟩:=Ho I.hok e;refine wpAny_notIn_of (Qw L) G T.mapOf ?_;rw[<-(d.val k).isSome_eq,<-l];exact h _ (I.tok _)
 .subst S;cases (show u=bS b from L);obtain⟨z,G,W,d,T⟩:=Qx I.hok e;refine wpAny_notIn_heap (mZ O) (Mw I.hok U) G T ?_;have q:=(d.val k).isSome_eq;rw[oG] at q;rw[<-q,<-l];exact h _ (I.tok _)
theorem Js{h':Heap}{ob:HO}(I:Inv X π σ H s)(G:Mut (H a))(d:iO a s.heap h')(g:∃q,h'.get? a=Y2 q)(new:BK X.prog X.w (upd H a ob) h' a ob):
  Inv X π σ (upd H a ob) { s with heap:=h',toks:=t' }:=
 I.write (x:=a) (e:=a) G (.inl rfl) (λb q F z=>(d.2 b F).trans z) g new
theorem XN{w:ag}{h':Heap}{vs:List (Key×ac)}(z:kvs.length<=sizeLine)(g:(a==eI)=T2)(d:KV kvs vs)(T:h'.DictOf (Ar P w) a vs):
  BK P w H' h' a (.dK kvs):=⟨z,g,vs,d,T⟩
theorem WD{Q:Unit->ae->Prop}(hu:A.units+1<aE)(I:Inv X π σ H s)(g:DPut H a y v H')(ry:RelV y u)(rv:RelV v r)(h:∀Z,Inv X π σ H' Z->Q () Z):
  af (ah X.prog X.w) A (setItem (.ref a) u r) Q E s:=by
 rcases g with ⟨F,k,e,T,l,U⟩ | ⟨F,k,b,e,T,eb,l,U⟩
 .subst T U;obtain⟨z,L,vs,d,W⟩:=XM I.hok e;have O:vs.length<=sizeLine:=by rw[<-d.length];exact z
  have Y:(putK F k v).length<=sizeLine:=by have:=K9 F k v;omega
  refine wpAny_setItem_pairs (hsz:=O) (Qw ry) W λh' G J=>h _ ?_;have he:∃q,h'.get? a=Y2 q:=let ⟨q,_,_,S,_⟩:=G;⟨q,S⟩;exact Js I (by rw[e];exact fh) J he (XN Y L (d.put k rv) G)
 .subst T U;cases (show u=bS b from ry);obtain⟨z,L,xs,d,W⟩:=jN I.hok e;have O:xs.length<=sizeLine:=by rw[<-mH d];exact z
  have Y:(putK F k v).length<=sizeLine:=by have:=K9 F k v;omega
  refine wpAny_setItem_heap (hsz:=O) (mZ hu) (Mw I.hok eb) W λh' G J=>h _ ?_;obtain⟨q,es,ep,S,h2,h3,h4,_,h5⟩:=G;refine Js I (by rw[e];exact fh) J ⟨q,S⟩ ⟨Y,L,_,(d.put k eb rv).keeps λc ys ec=>?_,q,es,ep,S,h2,h3,h4,h5⟩;rw[Ag (bz ec e (λz=>nomatch z))];exact ec
end
section
variable {k:Key}{A:ar}
theorem Z3(I:Inv X π σ H s)(e:H a=Y2 (.dK kvs))(h:∀g,Inv X π σ (upd H a (.dK [])) g->Q .none g):af (ah X.prog X.w) A (call (.builtin "dict.clear") [.ref a]) Q E s:=by
 obtain⟨z,S,J,d,T⟩:=XM I.hok e;refine call_meetsIn qx T.typeIs PySem.F.entry_dict_clear (PySem.F.args_dict_clear_1 _) (meets_dict_clear (Ar X.prog X.w) a) ⟨J,T,by rw[<-d.length];exact z,λU G L=>h _ ?_⟩;have O:∃q,U.get? a=Y2 q:=let ⟨q,_,_,hq,_⟩:=G;⟨q,hq⟩;exact Js (t':=s.toks) I (by rw[e];exact fh) L O (XN (eA _) S .nil G)
theorem jO(I:Inv X π σ H s)(e:Rd H a (.dK kvs))(h:∀t g,Inv X π σ H g->Q (.int kvs.length t) g):af (ah X.prog X.w) A (call (.builtin "len") [.ref a]) Q E s:=by
 obtain⟨z,F,G,d,T⟩:=Ho I.hok e;refine call_len_dict F T (by rw[<-d.length];rw[lV] at z;omega) ?_;rw[<-d.length];exact h _ _ (I.tok _)
end
def NoSl(i:Expr):Prop:=∀d g,m8 i T2 d g=operate [d,g] (kh d g)
theorem Z4{w:ag}{A:ar}{g d:Expr}{T id:String}(Y:typeLookup (.type T) "__getitem__"=pure (Y2 (.builtin id)))(O:NoSl d)(h:af (ah prog w) A (eval g env) (λo G=>af (ah prog w) A (eval d env) (λi s₂=>s₂.TypeIs o T/\af (ah prog w) A (kh o i) Q E s₂) E G) E s):
  af (ah prog w) A (eval (.Subscript g d pos) env) Q E s:=by
 refine oA (f6 h (λo G J=>f6 J (λi s₂ z=>?_) λ_ _ x=>x) λ_ _ x=>x);obtain⟨L,z⟩:=z;unfold mU;refine am ?_;rw[qy L.not_modules];refine am (kt L Y ?_);have fin:af (ah prog w) A (m8 d T2 o i) (λr F=>af (ah prog w) A (letTemporaryGo g o r >>= λ_=>pure r) Q E F) E s₂:=by
  rw[O o i];exact wpAny_operating (f6 z (λr F I=>am (qz (ay I))) λ_ _ x=>x)
 first
  |exact ay (am fin)
  |exact am (ay (am fin))
  |exact am fin
theorem K_{o:Option V}(I:Inv X π σ H s)(g:DGet H a y o):s.TypeIs (.ref a) "dict":=by
 rcases g with ⟨d,k,e,_,_⟩ | ⟨d,k,b,e,_,_,_⟩
 .obtain⟨_,_,F,_,T⟩:=Ho I.hok e;exact T.typeIs
 .obtain⟨_,_,z,_,T⟩:=Qx I.hok e;exact T.typeIs
def jP(z ty:TE):TE:=λg H Q=>z g H λx F=>ty g F λy d=>∃a v,x=.ref a/\DGet d a y (Y2 v)/\Q v d
def jQ(F ty z:TE):TS:=λD g H=>z g H λv J=>F g J λx I=>ty g I λy G=>∃a d,x=.ref a/\DPut G a y v d/\D.nx g d
section
variable {o i value:Expr}{tpos:Pos}{td ty tv:TE}
theorem Z5(L:X.A.units+1<aE)(T:PE X o td)(U:PE X i ty)(O:NoSl i):PE X (.Subscript o i pos) (jP td ty):=by
 intro z s d H Q I h;refine Z4 qA.lookup O (thn (T z s d H _ I h) λu F ⟨x,H1,Z,rx,q1⟩=>thn (U z F d H1 _ Z q1) λiv s2 ⟨y,H2,S,J,a,v,W,g,q2⟩=>?_);subst W;obtain rfl:u=bS a:=rx;exact⟨K_ S g,Oq L S g J λw' s3 Y G=>⟨v,H2,Y,G,q2⟩⟩
theorem JB(O:X.A.units+1<aE)(U:PE X o td)(W:PE X i ty)(L:PE X value tv)(T:dA value (Y2 (.Subscript o i pos')) pos.line X.env=pure T2):
  PS X (.Assign [.Subscript o i pos'] value pos) (jQ td ty tv):=by
 intro z s d H D I h;refine wpAny_Assign_Subscript (thn (L z s d H _ I h) λr F ⟨v,H1,I1,J,q1⟩=>thn (U z F d H1 _ I1 q1) λu S ⟨x,H2,I2,rx,q2⟩=>thn (W z S d H2 _ I2 q2) λiv s3 ⟨y,H3,I3,G,a,H4,Y,g,q3⟩=>?_) T;subst Y;obtain rfl:u=bS a:=rx;exact WD O I3 g G J λs4 Z=>⟨d,H4,Z,q3⟩
end
theorem XQ{w:ag}(h:Heap)(d:eI<h.objs.size):BK P w H (h.push { cls:=.type "dict",data:=.dict #[] }) h.objs.size (.dK []):=
 ⟨eA _,beq_eq_false_iff_ne.mpr (bv (ca d)),[],.nil,Heap.DictOf.new h⟩
theorem XR{w:ag}(h:Heap)(d:eI<h.objs.size):BK P w H (h.push { cls:=.type "dict",data:=.dict #[] }) h.objs.size (.dT []):=
 ⟨eA _,beq_eq_false_iff_ne.mpr (bv (ca d)),[],.nil,_,#[],0,cb _ rfl,⟨rfl,rfl,rfl⟩,rfl,rfl,n6⟩
def fK:TE:=λ_ H Q=>∀p,H p=X2->Q (.ref p) (upd H p (.dK []))
def fL:TE:=λ_ H Q=>∀p,H p=X2->Q (.ref p) (upd H p (.dT []))
section
theorem XS:PE X (.Dict [] [] pos) fK:=λd s g H Q I h=>
 qB ⟨.ref s.heap.objs.size,_,I.laid (a:=s.heap.objs.size) (o:=.dK []) (t':=s.toks) (λ_ _ q=>bq _ q) (ax _) (XQ s.heap I.big),rfl,h _ (I.hok.fresh (ax _))⟩
theorem XX:PE X (.Dict [] [] pos) fL:=λd s g H Q I h=>
 qB ⟨.ref s.heap.objs.size,_,I.laid (a:=s.heap.objs.size) (o:=.dT []) (t':=s.toks) (λ_ _ q=>bq _ q) (ax _) (XR s.heap I.big),rfl,h _ (I.hok.fresh (ax _))⟩
end
section
variable {d:V}{r:ac}{o:Option V}{A:ar}
end
section
variable {o f:Expr}{td ty tx:TE}
end
section
variable {A:ar}
end
section
variable {A:ar}
end
end L2
namespace Att
open PySem PySem.W PySem.Calls PyProof.Rows
theorem Lq{P:Params}:∀(ns:List Int) (vs:List ac),WellAll P h vs (ns.map WData.int)->m9 vs ns:=by
 intro ns
 induction ns with
 |nil=>
  intro vs w;rw[mY] at w;cases w;exact .nil
 |cons n ns d=>
  intro vs w;rw[bb] at w;cases w with
  |cons a b=>
   cases a;exact .cons _ _ (d _ b)
theorem WF{l:OpenLaw}(hn:l.most=Y2 n){P:Params}{h:Heap}{args:List WData}{g:List ac}(z:l.row.toRowW.claim.pre args=U2)(J:WellAll P h g args):
  ∃a vs L,g=[bS a]/\args=[WData.list (L.map WData.int)]/\h.get? a=Y2 { cls:=.type "list",data:=.seq vs.toArray }/\m9 vs L/\L.length<=n:=by
 have S:WShape.hasAll [] args [.list .int]=U2:=(pre_splitW z).1;have T:l.pre.holds [] { args:=args }=U2:=(pre_splitW z).2;obtain⟨d,r,rfl,h1,h2⟩:=hasAllW_cons S;obtain rfl:=hasAllW_nil h2;obtain⟨xs,rfl,h3⟩:=hasW_list h1;obtain⟨L,rfl⟩:=items_int h3;have F:L.length<=n:=by
  unfold OpenLaw.pre at T;have I:(WTm.not (.lt (.lit (.int (n:Int))) (.len (.arg 0)))).holds [] { args:=[.list (L.map .int)] }=U2:=by
   have I:=(holds_andW T).1;rw[hn] at I;exact I
  have O:=condW_of I (w_not (w_lt w_lit (w_len_list (w_arg rfl))));rw[aw] at O;refine Nat.le_of_not_lt λq=>?_;have Y:(n:Int)<((L.length:Nat):Int):=by omega
  first
   | (rw[decide_eq_true Y] at O;exact absurd O (by decide))
   | (simp at O;omega)
 cases J with
 |cons W U=>
  cases U;cases W with
  |list Z G=>exact⟨_,_,L,rfl,rfl,Z,Lq L _ G,F⟩
theorem WK(l:OpenLaw)(args:List WData):l.row.toRowW.claim.post args (.bool U2) args=U2:=
 postW_of (r:=l.row.toRowW) (X:=(U2==U2))
  (show qC [] (.bool U2) .bool=U2 by first | rfl | decide | simp[qC,WShape.arms,WShape.armsAll])
  (show (WTm.eq .res (.lit (.bool U2))).value [] { args:=args,res:=Y2 (.bool U2),after:=args }=Y2 (.bool (U2==U2)) from w_eq_bool (w_res rfl) w_lit) rfl
theorem Qy{l:OpenLaw}{q:cq}{XP:(Str->Option ac)->Heap->Prop}{YP:ag->Heap->Prop}{d:DefRec}(hn:l.most=Y2 n)(v0:d.params.defaults=[])(call:∀(w:ag) (z g:ae) (mg W:Str->Option ac) (O:Addr) (o:Obj) (pm U doc:ac) (a:Addr) (vs:List ac) (T:List Int),
   Ground q loose [] XP w z mg W g.heap->YP w g.heap ->
   g.heap.get? O=Y2 o->o.data=.func (docDef d.name d.params d.body d.scope pm U doc)->g.heap.CodeRec U d.name->mg d.name=Y2 (.ref O) ->
   g.heap.get? a=Y2 { cls:=.type "list",data:=.seq vs.toArray }->m9 vs T->T.length<=n->g.gens=#[] ->
   gX (ah l.prog w) kS (.call (.ref O) ⟨[.ref a],[]⟩) (λr S=>r=.ok (.ret (.bool U2))/\OldK g.heap S.heap/\S.os=g.os/\i6 S.gens) g):
  WalkO q loose XP YP l.row.toRowW d [] (λf vs=>oH f vs):=by
 intro w z g mg W G Y O o pm U doc dV kV ho hd y0 hD u0 hg D0 B0 as I C0 F0 Z G0;obtain rfl:dV=.none:=Dflts.none hD v0;obtain rfl:kV=.none:=Dflts.noKw hD;obtain⟨a,vs,T,rfl,rfl,J,F,L⟩:=WF hn I Z;refine enter_call (lZ (call w z g mg W O o pm U doc a vs T G Y ho (fd_plain hd) y0 u0 J F L hg) λr S hq=>?_);obtain⟨rfl,h2,h3,h4⟩:=hq;exact⟨.inl ⟨.bool U2,.bool U2,[],rfl,λ_=>rfl,.bool U2,WK l _,λ_=>⟨oI,λ_ hm=>(nomatch hm)⟩⟩,h2,h3,h4⟩
section
variable {w:ag}{A:ar}{K:Frag}
end
end Att
namespace L2
open PySem PySem.Spec PyProof.Rows
theorem Ot:∀{vs:List ac}{L:List Int},m9 vs L->Vals (L.map V.int) vs
 |_,_,.nil=>.nil
 |_,_,.cons n t h=>.cons ⟨t,rfl⟩ (Ot h)
def Only(H:Hp):Prop:=∀b,H b=X2∨∃o xs,H b=Y2 (.frz o (.lst xs))
theorem Xa{w:ag}{K:av}{mb:Str->Option ac}{k:Nat}{fa:Addr}{s₁:ae}{vs:List ac}{T:List Int}(KX:K.In s₁.heap)(Z:s₁.heap.Ns dQ mg)(G:s₁.heap.Ns nU mb)(D0:∀x:Str,x≠"__name__"->mb x=dc x)(u0:s₁.heap.NoLimit)(hg:s₁.gens=#[])(ha:s₁.heap.get? a=Y2 { cls:=.type "list",data:=.seq vs.toArray })(hi:m9 vs T)(hl:T.length<=sizeLine)(hr:Room k kS)(F:∀base:Heap,K.In base->base.Ns dQ mg->FnOk P w K mg base CX k fa fd [x] sp)(O:∀(s:ae) (u:ac),lX s fd ⟨[u],[]⟩ [(x,u)])(C0:∀H:Hp,Only H->SqL K H a (T.map V.int)->sp [.ref a] H (λv _=>v=.bl U2) λ_ _ _=>False)(F0:∀H e I,CX [] H s₁ (λ_ _ _=>False) e I->False):
    gX (ah P w) kS (.call (.ref fa) ⟨[.ref a],[]⟩) (λr I=>r=.ok (.ret (.bool U2))/\OldK s₁.heap I.heap/\I.os=s₁.os/\i6 I.gens) s₁:=by
  have rv:=Ot hi;have U:=hi.length;have L:∀H:Hp,Only H->SqL K H a (T.map V.int)->HOk P w H s₁.heap->(∀b,H b≠X2->b=a)->(H a≠X2->K.lookup a=X2) ->
      gX (ah P w) kS (.call (.ref fa) ⟨[.ref a],[]⟩) (λr I=>r=.ok (.ret (.bool U2))/\OldK s₁.heap I.heap/\I.os=s₁.os/\i6 I.gens) s₁:=by
    intro H hO hS Y hA hK;have g:∀{b:Addr}{o:Obj},s₁.heap.get? b=Y2 o->H b=X2->(hidT s₁.heap H).get? b=Y2 o:=λe n=>Ws e n;have B0:∀{b:Addr}{o:Obj}{es:Array iA}{ep:Nat},s₁.heap.get? b=Y2 o->o.data=.dict es ep->H b=X2:=λ{b o es ep} e d=>by
      cases q:H b with
      |none=>rfl
      |some u=>
        have e':b=a:=hA b (by rw[q];simp);subst e';rw[ha] at e;cases e;have d':Data.seq vs.toArray _=Data.dict es ep:=d;cases d'
    have J:∀{b:Addr}{m:Str->Option ac},s₁.heap.Ns b m->(hidT s₁.heap H).Ns b m:=λ{b m} ⟨o,es,ep,e,d,r⟩=>⟨o,es,ep,g e (B0 e d),d,r⟩;have v0:K.In (hidT s₁.heap H):=λb o e=>g (KX b o e) (by
      cases q:H b with
      |none=>rfl
      |some u=>
        have e':b=a:=hA b (by rw[q];simp);subst e';rw[hK (by rw[q];simp)] at e;cases e)
    have hM:Mod K mg (hidT s₁.heap H):=⟨v0,J Z,⟨mb,J G,D0⟩,let ⟨mc,h1,h2⟩:=u0;⟨mc,J h1,h2⟩⟩;have e0:Env0 P w K mg (hidT s₁.heap H) kS [] s₁ H:=⟨rfl,hM,λb o e=>Zm e,q9 (V0 _ _),trivial,λb G=>absurd (show b∈([]:List Addr) from G) (by simp),Y,.of_eq hg⟩;refine lZ ((F _ v0 (J Z)).run kS [] s₁ H ⟨[.ref a],[]⟩ [.ref a] [.ref a] _ _ hr e0 (O s₁ (.ref a)) (.cons rfl .nil) (C0 H hO hS)) λr I h=>?_;cases r with
    |error e=>exact (F0 H e I h).elim
    |ok fl=>
      cases fl with
      |next=>exact fq h
      |brk=>exact fq h
      |cont=>exact fq h
      |ret u=>
        obtain⟨v,H',os,y0,un,W,r',q⟩:=h;have q':v=.bl U2:=q;subst q';obtain rfl:u=kB U2:=r';refine⟨rfl,OldK.of_keep λb o e=>?_,os,y0⟩;cases q:H b with
        |none=>exact un.keep b o e q (by intro z;exact absurd (show b∈([]:List Addr) from z) (by simp)) (by simp)
        |some u=>
          rcases hO b with z | ⟨ob,xs,z⟩
          . rw[q] at z;cases z
          . have z2:=un.frzs b ob _ z
            obtain⟨e1,_⟩:=Y b _ z;obtain⟨e2,_⟩:=W b _ z2;rw[e] at e1;cases e1;exact e2
  cases hk:K.lookup a with
  |some o=>
    have e:=KX a o hk;rw[ha] at e;cases e;refine L (λ_=>X2) (λ_=>.inl rfl) (.inr ⟨_,vs.toArray,_,hk,rfl,rfl,rfl,by rw[bP,U];exact hl,by simpa using rv⟩) (λb u z=>by have S:(X2:Option HO)=Y2 u:=z;cases S) (λb z=>absurd rfl z) λz=>absurd rfl z
  |none=>
    refine L (λb=>if b=a then Y2 (.frz { cls:=.type "list",data:=.seq vs.toArray } (.lst (T.map V.int))) else X2) (λb=>?_) (.inl (.inr ⟨{ cls:=.type "list",data:=.seq vs.toArray },if_pos rfl⟩)) (λb u z=>?_) (λb z=>?_) λ_=>hk
    . by_cases G:b=a
      . exact .inr ⟨_,_,if_pos G⟩
      . exact .inl (if_neg G)
    . by_cases G:b=a
      . have S:=(if_pos G).symm.trans z
        cases S;subst G;exact⟨ha,by rw[aw];exact hl,vs,_,rv,ha⟩
      . have S:=(if_neg G).symm.trans z
        cases S
    . by_cases G:b=a
      . exact G
      . exact absurd (if_neg G) z
abbrev KOf {K:av}{h:Heap}(_:K.In h):av:=K
theorem Z6{l:PySem.W.OpenLaw}{k:Nat}{q:cq}{XP:(Str->Option ac)->Heap->Prop}{YP:ag->Heap->Prop}{d:DefRec}{K:Params->av}{CX:ag->CXT}{sp:ag->Sp}(hn:l.most=Y2 n)(u0:n<=sizeLine)(y0:d.params.defaults=[])(hr:Room k kS)(hY:∀(w:ag) (h:Heap),YP w h->(K w.params).In h)(F:∀(w:ag) (mg:Str->Option ac) (S:Addr) (h:Heap),(K w.params).In h->h.Ns dQ mg->mg d.name=Y2 (.ref S) ->
   ∃fd:ii,(∀(s:ae) (u:ac),lX s fd ⟨[u],[]⟩ [(x,u)]) ∧
    ∀base:Heap,(K w.params).In base->base.Ns dQ mg->FnOk l.prog w (K w.params) mg base (CX w) k S fd [x] (sp w))(Z:∀(w:ag) (H:Hp) (a:Addr) (O:List Int),O.length<=n->Only H->SqL (K w.params) H a (O.map V.int)->sp w [.ref a] H (λv _=>v=.bl U2) λ_ _ _=>False)(B0:∀(w:ag) (H:Hp) (s:ae) (e:ac) (U:ae),CX w [] H s (λ_ _ _=>False) e U->False):
  PySem.W.WalkO q loose XP YP l.row.toRowW d [] (λf vs=>oH f vs):=by
 refine Att.Qy hn y0 λw C0 J mg mb S o pm cd F0 a vs O G Y ho hd D0 v0 L I z hg=>?_;have KX:=hY w _ Y;obtain⟨fd,hb,hF⟩:=F w mg S _ KX G.T.g v0;exact Xa KX G.T.g G.T.b G.T.builtins G.T.nolimit hg L I (cE z u0) hr hF hb (λH hO hS=>Z w H a O z hO hS) λH e U=>B0 w H J e U
def inClass(s:Stmt)(j:Nat):Stmt:=match s with
 |.ClassDef _ _ _ z _ _ _ _ _ _ _=>z.getD j (.Pass ⟨0,0,0,0⟩)
 |_=>.Pass ⟨0,0,0,0⟩
def Cu(s:Stmt):Arguments:=match s with
 |.FunctionDef _ a _ _ _ _ _ _ _ _=>a
 |_=>{ posonlyargs:=[],args:=[],vararg:=X2,kwonlyargs:=[],kw_defaults:=[],kwarg:=X2,defaults:=[] }
def A_(s:Stmt):List Stmt:=match s with
 |.FunctionDef _ _ b _ _ _ _ _ _ _=>b
 |_=>[]
def Ab(s:Stmt):g7:=match s with
 |.FunctionDef _ _ _ _ _ _ sc _ _ _=>sc
 |_=>{ kind:=.function,names:=[],isGenerator:=T2,isCoroutine:=T2 }
abbrev CX0:CXT:=λ_ _ _ _ _ _=>False
abbrev E0:XK:=λ_ _ _=>False
theorem JM:Jc CX0 X E0:=λ_ _ _ _ _ _ _ h=>h.elim
structure Fun (K:av) (x qual:Str) (st:Stmt) (f:Addr) (fd:ii):Prop where
 ex:∃(oc:ac) (od:Option Addr) (kV doc pm:ac) (an:Option Addr) (cdv ct:ac) (osl:Array (Option ac)),
  fd=eS x qual (Cu st) (A_ st) (Ab st) .none kV doc pm an cdv ct/\K.lookup f=Y2 ⟨oc,od,.func fd,osl⟩/\kf K cdv qual=U2
 kp:dS K (.ref f)=U2
section
variable {w:ag}{K:av}{base:Heap}
theorem Fun.ok{k:Nat}(F:Fun K x qual st f fd)(S:FnScope N ps (Ab st))(len:∀vs H Q E,sp vs H Q E->vs.length=ps.length)(O:∀(cdv:ac) (A:ar) (d:List Env) (s:ae) (H:Hp) (vs:List V) (Q:VK) (E:XK),Room k (A.deeper (dn qual (Ab st) s.heap.objs.size f cdv))->sp vs H Q E ->
   ∃t,PSs (cxOf CX0 P w K mg base N qual (Ab st) f cdv A d s H E).nox (A_ st) t/\t { nx:=λ_ H'=>Q .non H',rt:=Q } (start N vs) H):FnOk P w K mg base CX0 (k+1) f fd ps sp:=by
 obtain⟨W,T,kV,J,L,Z,cdv,Y,z,rfl,G,g⟩:=F.ex;refine Ud G g S len λA d s H vs Q E I U=>?_;obtain⟨t,h,q⟩:=O cdv A d s H vs Q E I U;exact⟨t,h.nox,q⟩
theorem Fun.binds(F:Fun K x qual st f fd)(h:∀(kV doc pm:ac) (an:Option Addr) (cdv ct:ac) (us:List ac),us.length=ps.length->lY (eS x qual (Cu st) (A_ st) (Ab st) .none kV doc pm an cdv ct) ⟨us,[]⟩=pure (ps.zip us)):Binds K fd ps []:=by
 obtain⟨W,J,kV,doc,pm,an,cdv,ct,z,rfl,G,d⟩:=F.ex;exact .all (h kV doc pm an cdv ct)
theorem My{kV:ac}(l:K.lookup f=Y2 ⟨oc,od,.func (eS x qual (Cu st) (A_ st) (Ab st) .none kV doc pm an cdv ct),osl⟩)(c:kf K cdv qual=U2)(k:dS K (.ref f)=U2):Fun K x qual st f (eS x qual (Cu st) (A_ st) (Ab st) .none kV doc pm an cdv ct):=⟨⟨oc,od,kV,doc,pm,an,cdv,ct,osl,rfl,l,c⟩,k⟩
end
theorem Cw{A:ar}{k:Nat}(G:Room k A):A.units+1<aE:=km (Nat.add_le_add_left (by decide:1<=64) _) G.units
section
theorem pv(i:Nat){x:Str}{d:Pos}(G:X.N[i]?=Y2 x:=by rfl)(z:Vis X.env.scope x:=by first | exact fm rfl | exact dE (fm rfl) | exact dE (dE rfl))(F:(x==("__debug__":Str))=T2:=by decide)(g:(x==("__classdict__":Str))=T2:=by decide):PE X (.Name x d) (tVar i):=d_ G z F g
end
theorem iteF{A B:Prop}(h:B):if T2=U2 then A else B:=by
 rw[if_neg cp];exact h
theorem iteT{A B:Prop}(h:A):if U2=U2 then A else B:=by
 rw[if_pos rfl];exact h
def Same(H d:Hp):Prop:=∀b o,H b=Y2 o->d b=Y2 o
theorem Same.refl(H:Hp):Same H H:=λ_ _ h=>h
theorem Same.trans(a:Same H H1)(b:Same H1 H2):Same H H2:=λc o h=>b c o (a c o h)
theorem Same.free(e:Same H H'){l:Addr}(h:H' l=qD):H l=qD:=by
 cases q:H l with
 |none=>rfl
 |some o=>
  rw[e l o q] at h;cases h
theorem Same.seq{K:av}(e:Same H H')(h:SqL K H a xs):SqL K H' a xs:=by
 rcases h with (h | ⟨o,h⟩) | h
 .exact .inl (.inl (e _ _ h))
 .exact .inl (.inr ⟨o,e _ _ h⟩)
 .exact .inr h
section
variable {κ:Type} [DecidableEq κ]
end
def clOf(cells:List (Str×Addr)):List (Str×gi)->List (Str×Addr)->List (Str×Addr)
 |[],cs=>cs
 |y::r,cs=>if y.2==.free then clOf cells r ((y.1,(cells.lookup y.1).getD 0)::cs) else clOf cells r cs
theorem Mz{cells:List (Str×Addr)}{x:Str}{c:Addr}:∀{names:List (Str×gi)}{cs:List (Str×Addr)},(∀y∈names,y.2=.free ->∃c,cells.lookup y.1=Y2 c) ->
  (clOf cells names cs).lookup x=Y2 c->cs.lookup x=Y2 c∨cells.lookup x=Y2 c
 |[],_,_,h=>.inl h
 |y::r,cs,F,h=>by
  unfold clOf at h;split at h
  .rename_i g;have d:y.2=.free :=by simpa using g
   obtain⟨G,I⟩:=F y bg d
   rcases Mz (λz O=>F z (aI _ O)) h with q | q
   .rw[bi] at q;split at q
    .rename_i e;have L:x=y.1:=by simpa using e
     rw[I] at q;subst L;right;rw[I];simpa using q
    .exact .inl q
   .exact .inr q
  .exact Mz (λz O=>F z (aI _ O)) h
theorem Km{cells:List (Str×Addr)}{x:Str}:∀{names:List (Str×gi)}{cs:List (Str×Addr)},(∃c,cs.lookup x=Y2 c)->∃c,(clOf cells names cs).lookup x=Y2 c
 |[],_,h=>h
 |y::r,cs,h=>by
  unfold clOf;split
  .apply Km;rw[bi];split
   .exact⟨_,rfl⟩
   .exact h
  .exact Km h
theorem Hu{cells:List (Str×Addr)}{x:Str}:∀{names:List (Str×gi)}{cs:List (Str×Addr)},(x,lC)∈names->∃c,(clOf cells names cs).lookup x=Y2 c
 |[],_,h=>by cases h
 |y::r,cs,h=>by
  unfold clOf
  rcases ba.mp h with e | h
  .subst e;rw[if_pos (by rfl)];apply Km;rw[bi];simp
  .split
   .exact Hu h
   .exact Hu h
theorem Uh{env:Env}:∀(names:List (Str×gi)) (cs:List (Str×Addr)),(∀y∈names,y.2=.free ->∃c,env.cells.lookup y.1=Y2 c) ->
  (forIn names cs (λx r=>match x with
   | (name,d)=>if (d==lC)=U2 then do let a <-cellOf env name;pure (lD ((name,a)::r)) else pure (lD r)):Sem (List (Str×Addr)))=pure (clOf env.cells names cs)
 |[],_,_=>rfl
 | (n,k)::r,cs,G=>by
  have F:=λcs=>Uh r cs (λz O=>G z (aI _ O));rw[List.forIn_cons]
  by_cases I:(k==lC)=U2
  .obtain⟨c,J⟩:=G (n,k) bg (by simpa using I);have g:env.cells.lookup n=Y2 c:=J;have e:cellOf env n=pure c:=by unfold cellOf;rw[g]
   simp only[I,if_true,e];show (forIn r ((n,c)::cs) _:Sem _)=_;rw[F]
   conv=>rhs;unfold clOf
   simp only[I,if_true,g,Option.getD_some]
  .simp only[I,if_false];show (forIn r cs _:Sem _)=_;rw[F]
   conv=>rhs;unfold clOf
   simp only[I,if_false];rfl
theorem N_(F:∀y∈scope.names,y.2=.free ->∃c,env.cells.lookup y.1=Y2 c):closureFor scope env=pure (clOf env.cells scope.names []):=by
 have h:=Uh (env:=env) scope.names [] F;unfold closureFor;show ((forIn scope.names [] _:Sem _) >>= λr=>pure r)=_;exact (congrArg (λm=>m >>= λr=>pure r) h)
theorem Dg{env:Env}{x:Str}{k:gi}:∀{names:List (Str×gi)},(names.map λ(n,k)=>if (k==lC&&env.scope.kind==.function&&env.kindOf n==Y2 .cell) then (n,NameKind.cell) else (n,k)).lookup x=Y2 k ->
  ∃k',(x,k')∈names/\(k'=k∨(k'=.free /\k=.cell))
 |[],h=>by simp at h
 | (n,d)::r,h=>by
  rw[bb] at h;have G:=@Dg env x k r
  by_cases I:(d==lC&&env.scope.kind==.function&&env.kindOf n==Y2 .cell)=U2
  .simp only[I,if_true] at h;rw[bi] at h;split at h
   .rename_i e;have L:x=n:=by simpa using e
    subst L;have g:d=.free :=by
     rw[eD,eD] at I;simpa using I.1.1
    cases h;exact⟨d,bg,.inr ⟨g,rfl⟩⟩
   .obtain⟨k',F,z⟩:=G h;exact⟨k',aI _ F,z⟩
  .simp only[I,if_false] at h;rw[bi] at h;split at h
   .rename_i e;have L:x=n:=by simpa using e
    subst L;cases h;exact⟨d,bg,.inl rfl⟩
   .obtain⟨k',F,z⟩:=G h;exact⟨k',aI _ F,z⟩
def CP(d N:List Str):List Str:=N.map λy=>if y∈d then ib else y
abbrev LC (t:Str) (N:List Str):List Str:=CP [t] N
abbrev Cj (X:Cx) (scope:g7) (N2:List Str) (s2:ae) (H2:Hp) (fp:List Addr):Cx:=
 { X with N:=N2,s₀:=s2,H₀:=H2,env:=compEnvC scope (clOf X.env.cells scope.names []) (s2.heap.objs.size+1) X.env,outer:=X.stack,ex:=fp,fn:=λ_=>T2,pn:=[],xe:=λ_ _=>False }
structure CompOkL (X:Cx) (scope:g7) (ts:List Str):Prop where
 nocell:∀y∈scope.names,y.2≠.cell
 kind:scope.kind=.function
 names:∀y∈scope.names,y.2=.local ->scope.names.lookup y.1=Y2 .local
 tl:∀t∈ts,scope.names.lookup t=Y2 .local
 loc:∀y∈scope.names,y.2=.local ->y.1∈ts∨y.1∉X.N
 fre:∀y∈scope.names,y.2=.free ->X.env.kindOf y.1=Y2 .cell ∨X.env.kindOf y.1=Y2 .free
 emp:∀y∈scope.names,y.1≠ib
 nd:∀t∈ts,Uq (CP ts X.N++ts) t
section
variable {t:Str}{ts:List Str}
theorem CompOkL.cells(c:CompOkL X scope ts)(ok:X.Ok):∀y∈scope.names,y.2=.free ->∃c,X.env.cells.lookup y.1=Y2 c:=λy g F=>ok.has y.1 (c.fre y g F)
theorem CompOkL.sub(c:CompOkL X scope ts)(ok:X.Ok){x:Str}{a:Addr}(h:(clOf X.env.cells scope.names []).lookup x=Y2 a):X.env.cells.lookup x=Y2 a:=by
 rcases Mz (c.cells ok) h with q | q
 .simp at q
 .exact q
theorem CompOkL.inv{h1:Heap}{tk:Nat}(c:CompOkL X scope ts)(I:Inv X π σ H s)(hf:∀b∈fp,FpOk X π H b)(ho:∀b∈fp,∃o,s.heap.get? b=Y2 o)(B0:h1.Ns (s.heap.objs.size+1) (λ_=>X2))(kp:∀b o,s.heap.get? b=Y2 o->h1.get? b=Y2 o)(Y:h1.get? s.heap.objs.size=Y2 { cls:=.type "list",data:=.seq #[] }):
  Inv (Cj X scope (CP ts X.N++ts) s H fp) [] (σ++m4 ts.length X2) (upd H s.heap.objs.size (.lst [])) { s with heap:=h1,toks:=tk }:=by
 have J:∀b o,s.heap.get? b=Y2 o->b<s.heap.objs.size:=λb o e=>aT e;have v0:(Cj X scope (CP ts X.N++ts) s H fp).Ok:=by
  refine⟨I.ok.mod,c.kind,I.ok.glob,I.ok.blt,lz _,λx y a h1 h2=>I.ok.inj x y a (c.sub I.ok h1) (c.sub I.ok h2),λx hx=>?_,λx a h _=>absurd (show T2=U2 from h) cp,I.ok.hd,I.ok.frames,.inl rfl,λb U=>⟨?_,λx a h=>?_⟩,I.bs,cE I.ok.bsz I.sz,λb o e U=>?_,λb U hs=>?_,I.stack,I.stkFree⟩
  .have y0:(iE scope X.env).names.lookup x=Y2 .cell ∨(iE scope X.env).names.lookup x=Y2 .free :=hx;have go:∀k,(iE scope X.env).names.lookup x=Y2 k->(k=.cell ∨k=.free)->(x,lC)∈scope.names:=λk hk T=>by
    obtain⟨G,m,e⟩:=Dg hk
    rcases e with e | ⟨e,_⟩
    .subst e
     rcases T with z | z
     .exact absurd z (c.nocell _ m)
     .rw[<-z];exact m
    .rw[<-e];exact m
   rcases y0 with h | h
   .exact Hu (go _ h (.inl rfl))
   .exact Hu (go _ h (.inr rfl))
  .obtain⟨o,e⟩:=ho b U;exact ca (md (J b o e))
  .exact (hf b U).2.2.2.2.1 x a (c.sub I.ok h)
  .rcases (hf b U).2.2.2.1 with z | z
   .exact I.ok.noex b o e z
   .exact absurd (eJ (aT e) (cE I.ok.bsz z)) (kG _)
  .rcases ba.mp (I.stkSub b hs) with z | z
   .exact (hf b U).2.1 z
   .exact (hf b U).2.2.1 z
 have fr:H s.heap.objs.size=X2:=I.hok.fresh (ax _);have new:BK X.prog X.w (upd H s.heap.objs.size (.lst [])) h1 s.heap.objs.size (.lst []):=⟨eA _,[],0,.nil,Y⟩;refine⟨v0,rfl,I.bare,Un.laid kp (ax _) fr,⟨_,B0,λi x v e1 e2 e3=>?_⟩,λx a h=>?_,?_,λx a h=>?_,λp hp=>absurd (show p∈([]:zP) from hp) (by simp),I.hok.laid kp (ax _) new,?_⟩
 .have u0:(CP ts X.N++ts)[i]?=Y2 x:=e1;have W:i<σ.length:=by
   by_cases z:i<σ.length
   .exact z
   .rw[hU (by omega),mR] at e2;split at e2<;>cases e2
  have G0:σ[i]?=Y2 (Y2 v):=by rw[gu W] at e2;exact e2
  have hN:i<X.N.length:=by rw[<-I.len];exact W
  have g:(CP ts X.N)[i]?=Y2 x:=by rw[gu (by unfold CP;rw[aw];exact hN)] at u0;exact u0
  unfold CP at g;rw[be] at g;have F0:(iE scope X.env).names.lookup x=Y2 .local ∨(iE scope X.env).names.lookup x=Y2 .cell ∨(iE scope X.env).names.lookup x=Y2 .free :=e3;have C0:∃G,(x,G)∈scope.names/\(G=.local ∨G=.free)/\(G=.free ->(iE scope X.env).names.lookup x=Y2 .cell ∨(iE scope X.env).names.lookup x=Y2 .free):=by
   rcases F0 with z | z | z
   .obtain⟨G,m,e⟩:=Dg z
    rcases e with e | ⟨_,e⟩
    .exact⟨G,m,.inl e,λq=>by rw[q] at e;cases e⟩
    .cases e
   .obtain⟨G,m,e⟩:=Dg z
    rcases e with e | ⟨e,_⟩
    .exact absurd e (c.nocell _ m)
    .exact⟨G,m,.inr e,λ_=>.inl z⟩
   .obtain⟨G,m,e⟩:=Dg z
    rcases e with e | ⟨e,q⟩
    .exact⟨G,m,.inr e,λ_=>.inr z⟩
    .cases q
  cases ey:X.N[i]? with
  |none=>rw[ey] at g;cases g
  |some y=>
   rw[ey] at g;have L:(if y∈ts then ib else y)=x:=bE g;obtain⟨G,m,F,D0⟩:=C0
   by_cases S:y∈ts
   .rw[if_pos S] at L;exact absurd L.symm (c.emp _ m)
   .rw[if_neg S] at L;subst L
    rcases F with F | F
    .rcases c.loc _ m F with z | z
     .exact absurd z S
     .exact absurd (lA ey) z
    .have T:=c.fre _ m F;have O:X.env.kindOf y=Y2 .cell ∨X.env.kindOf y=Y2 .free :=T;obtain⟨mm,hn,hl⟩:=I.loc;have hv:Vis X.env.scope y:=by
      rcases O with z | z
      .exact .inr (.inl z)
      .exact .inr (.inr z)
     obtain⟨u,r,l⟩:=hl i y v ey G0 hv;refine⟨u,r,.inr ⟨D0 F,?_⟩⟩
     rcases l with ⟨kl,_⟩ | ⟨_,a,ea,hc⟩
     .rcases O with z | z
      .rw[kl] at z;cases z
      .rw[kl] at z;cases z
     .rw[F] at m;obtain⟨a',Z⟩:=Hu (cells:=X.env.cells) (cs:=[]) m;refine⟨a',Z,?_⟩;have:=c.sub I.ok Z;rw[ea] at this;cases this;obtain⟨o,e,d⟩:=hc;exact⟨o,kp _ _ e,d⟩
 .obtain⟨v,o,e,d⟩:=I.cell x a (c.sub I.ok h);exact⟨v,o,kp _ _ e,d⟩
 .show upd H s.heap.objs.size (.lst []) (s.heap.objs.size+1)=X2;rw[Ag (Nat.succ_ne_self _)];exact I.hok.fresh (lz _)
 .have ha:=c.sub I.ok h;obtain⟨v,o,e,d⟩:=I.cell x a ha;rw[Ag (ca (J _ _ e))];exact I.freeC x a ha
 .show (σ++m4 ts.length X2).length=(CP ts X.N++ts).length;unfold CP;rw[eP,eP,aw,I.len,m6]
def Xb(n:Nat)(T:TI)(g:TG)(tc:TT)(te:TE):TE:=λF H Q=>T F H λJ z=>∀p,z p=X2->∃W:Nat->Nat->List V->Hp->Prop,(∃m,W 0 m [] (upd z p (.lst []))) ∧
 ∀i m ys H,W i m ys H->(J.stop i H/\Q (.ref p) H)∨(J.go i H/\∀x S,J.yld i H x S->∀G:List (Option V),G.length=n->g x (F++G) S λd z=>(∃I,d=F++I/\I.length=n)/\tc d z λb O=>
  if b=U2 then te d O λy L=>L p=Y2 (.lst ys)/\ys.length<sizeLine/\∃U,U<m/\W (i+1) U (ys++[y]) (upd L p (.lst (ys++[y]))) else ∃U,U<m/\W (i+1) U ys O)
def PTs(X:Cx)(d:List Expr)(tc:TT):Prop:=
 ∀(z:zP) (s:ae) (g:St) (H:Hp) (Q:Bool->Hp->Prop),Inv X z g H s->tc g H Q ->
  af (ah X.prog X.w) X.A (forIn d U2 λc r=>if r=U2 then do let ok <-kH c X.env (eval c X.env);pure (lD ok) else pure (lD r)) (TP X z g Q) X.xe s
theorem Z7:PTs X [] (λ_ H Q=>Q U2 H):=λ_ _ _ H _ I h=>wpAny_tests_nil ⟨H,I,h⟩
theorem Z8{tc:TT}(h:PT X e tc):PTs X [e] tc:=λd s g H Q I q=>wpAny_tests_one (h d s g H Q I q)
variable {elt iter:Expr}{ifs:List Expr}{px:Pos}{wi:TI}{tc:TT}{g:TG}
theorem S7{w:ag}{A:ar}{R:gT->ae->Prop}{d z:ac}(J:Nat->ae->Prop)(E:ac->ae->Prop)(Z:E=notedBy (ah prog w) A env λe O=>R (.error e) O)(go:∀n s,J n s->af (ah prog w) A (i7 d) (λr s1=>match r with
      |none=>R (.ok .next) s1
      |some v=>af (ah prog w) A (mK tg d v) (λ_ s2=>af (ah prog w) A (lu tg env v) (λ_ W=>
          af (ah prog w) A (forIn ifs U2 λc r=>if r=U2 then do let ok <-kH c env (eval c env);pure (lD ok) else pure (lD r)) (λok F=>
            if ok=U2 then af (ah prog w) A (eval elt env) (λx I=>af (ah prog w) A (call (.builtin "list.append") [z,x]) (λ_ G=>∃m,m<n/\J m G) E I) E F else ∃m,m<n/\J m F) E W) E s2) E s1) E s)(n:Nat)(Y:J n s):gX (ah prog w) A (.compLoop (.ListComp elt [⟨tg,iter,ifs,0⟩] scope pos) 0 d z env) R s:=by
  subst Z;refine codeAny_loop rfl J (λn s U=>?_) n Y;show af _ A (Sem.onRaise (compTurn (.ListComp elt [⟨tg,iter,ifs,0⟩] scope pos) 0 d z env) (λx=>do noteFrame x env;theTreesLotGoes x)) _ _ s;refine wpAny_noted ?_;rw[compTurn_list];refine am (wpAny_standAt (am (thn (go n s U) λr s1 q1=>?_)));cases r with
  |none=>exact ay q1
  |some v=>
    refine am (thn q1 λ_ s2 q2=>am (thn q2 λ_ W q3=>am (thn q3 λok F L=>?_)));cases ok with
    |false=>exact ay ⟨rfl,L⟩
    |true=>exact am (am (thn L λx I T=>am (thn T λ_ G S=>ay (ay ⟨rfl,S⟩))))
theorem S8{Q:VK}{tn:Nat->Heap->Prop}{J:It}{RR:ac->Addr->gT->ae->Prop}(c:CompOkL X scope ts)(hc:X.calm=U2)(I:Inv X π σ H s)(T:Turn X.prog X.w X.K tg J fp it tn)(T0:tn 0 s.heap)(hf:∀b∈fp,FpOk X π H b)(hG:∀s2 H2 fp,PG (Cj X scope (CP ts X.N++ts) s2 H2 fp) tg g)(hI:∀s2 H2 fp,PTs (Cj X scope (CP ts X.N++ts) s2 H2 fp) ifs tc)(hE:∀s2 H2 fp,PE (Cj X scope (CP ts X.N++ts) s2 H2 fp) elt te)(h:∀p,H p=X2->∃W:Nat->Nat->List V->Hp->Prop,(∃m,W 0 m [] (upd H p (.lst []))) ∧
      ∀i m ys H,W i m ys H->(J.stop i H/\Q (.ref p) H)∨(J.go i H/\∀x H',J.yld i H x H'->∀os:List (Option V),os.length=ts.length->g x (σ++os) H' λB0 H1=>(∃o2,B0=σ++o2/\o2.length=ts.length)/\tc B0 H1 λb H2=>
        if b=U2 then te B0 H2 λy Z=>Z p=Y2 (.lst ys)/\ys.length<sizeLine/\∃m',m'<m/\W (i+1) m' (ys++[y]) (upd Z p (.lst (ys++[y]))) else ∃m',m'<m/\W (i+1) m' ys H2))(U1:∀p C s' H' m,Inv X π σ H' s'->H' C=X2->C≠X.env.locals->X.s₀.heap.objs.size<=C->(∀x a,X.env.cells.lookup x=Y2 a->a≠C)->(∀q∈X.pn++π,q.1≠C)->s'.heap.Ns C m->Q (.ref p) H'->RR (.ref p) C (.ok .next) s'):
    af (ah X.prog X.w) X.A (newList []) (λL1 s₃=>af (ah X.prog X.w) X.A (newFunctionEnv scope X.env.globals (clOf X.env.cells scope.names []) [] X.env.qual X2 .none (Y2 X.env)) (λv0 M0=>
      gX (ah X.prog X.w) X.A (.compStart (.ListComp elt [⟨tg,iter,ifs,0⟩] scope pos) 0 (.ref it) L1 { v0 with scope:=iE scope X.env }) (RR L1 v0.locals) M0) E s₃) E s:=by
  refine lB (wpAny_newFunctionEnv c.nocell (by intro y hy;simp at hy) (λh₁ G F=>?_) c.kind);dsimp only at G F ⊢;generalize F0:s.heap.push { cls:=.type "list",dict:=X2,data:=.seq ([]:List ac).toArray }=G2 at G F ⊢;have hC:G2.objs.size=s.heap.objs.size+1:=by rw[<-F0,mP]
  rw[hC] at G F ⊢;have kp:∀b o,s.heap.get? b=Y2 o->h₁.get? b=Y2 o:=λb o e=>F.extBut b o (ca (md (aT e))) (bq _ (F0▸bq _ e));have D1:h₁.get? s.heap.objs.size=Y2 { cls:=.type "list",data:=.seq #[] }:=F.extBut _ _ (ca (oe _)) (bq _ (F0▸cb _ rfl));have D0:∀b∈fp,∃o,s.heap.get? b=Y2 o:=λb L=>let ⟨o,e,_⟩:=T.obj 0 _ T0 b L;⟨o,e⟩;have I0:=c.inv (fp:=fp) (h1:=h₁) (tk:=s.toks+([]:List (Str×ac)).length) I hf D0 (by simpa using G) kp D1;have fr:H s.heap.objs.size=X2:=I.hok.fresh (ax _);obtain⟨W,⟨m0,w0⟩,K0⟩:=h _ fr;have S0:tn 0 h₁:=T.keep 0 _ _ T0 λb _ o e=>kp b o e;generalize O:Cj X scope (CP ts X.N++ts) s H fp=Y at I0;have B1:Y.calm=U2:=by rw[<-O];exact hc
  have S:∀{H':Hp},(∀b∈fp,H' b=X2)->∀b∈fp,FpOk Y [] H' b:=λ{H'} hn b L=>by
    obtain⟨o,e⟩:=D0 b L;refine⟨hn b L,?_,?_,.inl ?_,λx a e'=>?_,λp hp=>?_⟩
    . rw[<-O];exact ca (md (aT e))
    . intro z
      exact I0.ok.exfs b (by rw[<-O];exact L) z
    . rw[<-O];exact L
    . exact (I0.ok.exf b (by rw[<-O];exact L)).2 x a e'
    . rw[<-O] at hp
      exact absurd (show p∈([]:zP) from hp) (by simp)
  have C2:∀b∈fp,upd H s.heap.objs.size (.lst []) b=X2:=λb L=>by
    obtain⟨o,e⟩:=D0 b L;rw[Ag (ca (aT e))];exact (hf b L).1
  have U:Y.env=compEnvC scope (clOf X.env.cells scope.names []) (s.heap.objs.size+1) X.env:=by rw[<-O]
  have pY:Y.prog=X.prog:=by rw[<-O]
  have wY:Y.w=X.w:=by rw[<-O]
  have aY:Y.A=X.A:=by rw[<-O]
  have kY:Y.K=X.K:=by rw[<-O]
  have xY:Y.xe=λ_ _=>False:=by rw[<-O]
  have W1:PTs Y ifs tc:=by rw[<-O];exact hI s H fp
  have Y1:PE Y elt te:=by rw[<-O];exact hE s H fp
  have X1:PG Y tg g:=by rw[<-O];exact hG s H fp
  have u0:∀s₃:ae,s₃={ s with heap:=h₁,toks:=s.toks+([]:List (Str×ac)).length } ->
      gX (ah X.prog X.w) X.A (.compLoop (.ListComp elt [⟨tg,iter,ifs,0⟩] scope pos) 0 (.ref it) (.ref s.heap.objs.size) (compEnvC scope (clOf X.env.cells scope.names []) (s.heap.objs.size+1) X.env)) (RR (.ref s.heap.objs.size) (s.heap.objs.size+1)) s₃:=by
    rintro s₃ rfl;rw[<-U];refine S7 (λn s'=>∃i ys os H',os.length=ts.length/\Inv Y [] (σ++os) H' s'/\tn i s'.heap/\(∀b∈fp,H' b=X2)/\W i n ys H') _ rfl ?_ m0 ⟨0,[],_,_,m6,I0,S0,C2,w0⟩;rintro n s3 ⟨i,ys,os,Z,S1,I3,O0,E1,w3⟩
    rcases K0 i n ys Z w3 with ⟨N0,qn⟩ | ⟨go,step⟩
    . have d:=T.done Y pY wY kY B1 i [] s3 _ Z (λ_ _=>False) I3 (S E1) O0 N0
      rw[aY] at d;refine f6 d (λr s4 ⟨hr,I4⟩=>?_) λ_ _ z=>z.elim;subst hr;have cN:=I4.free;have D2:Z (s.heap.objs.size+1)=X2:=by rw[U] at cN;exact cN
      have un:=I4.base;obtain⟨m,hm,_⟩:=I4.loc;have T1:s4.heap.Ns (s.heap.objs.size+1) m:=by rw[U] at hm;exact hm
      have M1:Un (frs X.stack) fp H Z s.heap s4.heap:=by rw[<-O] at un;exact un
      have N1:s4.os=s.os:=by have:=I4.os;rw[<-O] at this;exact this
      have X0:HOk X.prog X.w Z s4.heap:=by have:=I4.hok;rw[<-O] at this;exact this
      have G0:=I4.bare;have IX:Inv X π σ Z s4:=I.call' N1 M1 X0 G0 λb L=>⟨(hf b L).2.2.2.1,(hf b L).2.1,(hf b L).2.2.2.2.1,(hf b L).2.2.2.2.2⟩;refine U1 _ _ _ _ m IX D2 (mJ (md I.lt)) (cE I.sz (lz _)) (λx a e z=>?_) (λq hq z=>?_) T1 qn
      . obtain⟨v,oc,e',_⟩:=I.cell x a e
        have q2:a<s.heap.objs.size:=aT e';have z':a=s.heap.objs.size+1:=z;exact absurd (z'▸q2) (gy.mpr (lz _))
      . have q2:q.1<s.heap.objs.size:=aT (I.pin q hq).1
        have z':q.1=s.heap.objs.size+1:=z;exact absurd (z'▸q2) (gy.mpr (lz _))
    . have d:=T.item Y pY wY kY B1 i [] s3 _ Z (λ_ _=>False) I3 (S E1) O0 go
      rw[aY] at d;refine f6 d (λr s4 ⟨u,hr,h4⟩=>?_) λ_ _ z=>z.elim;subst hr;refine f6 h4 (λ_ s4 ⟨x,H5,I5,r5,y5,C0,B2⟩=>?_) λ_ _ z=>z.elim;have E2:=I5.pinned (S B2) (T.obj _ _ C0);have G1:=X1 _ s4 _ H5 x u _ E2 r5 (step x H5 y5 os S1);rw[aY,pY,wY,xY] at G1;refine f6 G1 (λ_ s6 ⟨K2,H6,I6,⟨o2,e6,l6⟩,q⟩=>?_) λ_ _ z=>z.elim;subst e6;have L0:=W1 _ s6 _ H6 _ I6 q;rw[aY,pY,wY,xY] at L0;refine f6 L0 (λb s7 ⟨H7,I7,q7⟩=>?_) λ_ _ z=>z.elim;have y0:∀{H8:Hp}{s8:ae},Inv Y ([]++Mp fp s4.heap) (σ++o2) H8 s8->tn (i+1) s8.heap/\∀b∈fp,H8 b=X2:=λ{H8 s8} I8=>by
        refine⟨T.keep _ _ _ C0 λb L ob e=>(I8.pin (b,ob) (eK _ (eK _ (HF L e)))).1,λb L=>?_⟩;obtain⟨ob,e,d⟩:=T.obj _ _ C0 b L;exact (I8.pin (b,ob) (eK _ (eK _ (HF L e)))).2.1
      cases b with
      |false=>
        rw[if_neg cp] at q7 ⊢;obtain⟨m',hm,w7⟩:=q7;obtain⟨t7,f7⟩:=y0 I7;exact⟨m',hm,i+1,ys,o2,H7,l6,I7.unpinned,t7,f7,w7⟩
      |true=>
        rw[if_pos rfl] at q7 ⊢;have ev:=Y1 _ s7 _ H7 _ I7 q7;rw[aY,pY,wY,xY] at ev;refine f6 ev (λy s8 ⟨yv,H8,I8,r8,Q1,P1,m',hm,w8⟩=>?_) λ_ _ z=>z.elim;have ap:=I_ (X:=Y) _ s8 _ H8 (.ref s.heap.objs.size) [yv] (.ref s.heap.objs.size) [y] (λ_ H9=>H9=upd H8 s.heap.objs.size (.lst (ys++[yv]))) I8 rfl (.cons r8 .nil) ⟨_,ys,yv,rfl,rfl,Q1,P1,rfl⟩;rw[aY,pY,wY,xY] at ap;refine f6 ap (λ_ s9 ⟨_,H9,I9,_,e9⟩=>?_) λ_ _ z=>z.elim;subst e9;obtain⟨t9,f9⟩:=y0 I9;exact⟨m',hm,i+1,_,o2,_,l6,I9.unpinned,t9,f9,w8⟩
  exact codeAny_compStart_list (u0 _ rfl) (T.self X.A 0 _ _ _ S0 (u0 _ rfl))
theorem Xc(c:CompOkL X scope ts)(hc:X.calm=U2)(hi:PI X tg iter wi)(hG:∀s2 H2 fp,PG (Cj X scope (CP ts X.N++ts) s2 H2 fp) tg g)(hI:∀s2 H2 fp,PTs (Cj X scope (CP ts X.N++ts) s2 H2 fp) ifs tc)(hE:∀s2 H2 fp,PE (Cj X scope (CP ts X.N++ts) s2 H2 fp) elt te)(Y:∀x,gL iter X.env x=pure x:=by intro _;rfl):PE X (.ListComp elt [⟨tg,iter,ifs,0⟩] scope pos) (Xb ts.length wi g tc te):=by
 intro F s z H Q I h;rw[eval_ListComp];refine wpAny_comprehension_free (use:=X2) rfl Y (N_ (c.cells I.ok)) c.kind c.names (thn (hi F s z H _ I h) λv s1 h1=>thn h1 λW s2 h2=>?_);obtain⟨it,fp,tn,J,H2,e,I2,T,d,f2,q⟩:=h2;subst e;refine S8 (Q:=Q) c hc I2 T d f2 hG hI hE q λp C G H' m I' n1 n2 n3 U S Z O=>?_;exact⟨m,Z,λh' L=>⟨.ref p,H',I'.turned (t':=G.toks) (λb o hb e=>(L.2 b hb).trans e) n1 (bv (bv n2)) (.inr n3) U S,rfl,O⟩⟩
abbrev M3 (X:Cx) (scope:g7) (t:Str):Prop:=CompOkL X scope [t]
abbrev S9 (X:Cx) (scope:g7) (t:Str) (s2:ae) (H2:Hp) (fp:List Addr):Cx:=Cj X scope (LC t X.N++[t]) s2 H2 fp
theorem Xd(z:Uq X.N x)(G:X.N[i]?=Y2 x)(d:Loc X.env.scope x)(F:X.fn x=U2∨X.env.scope.names.lookup x=Y2 .local):PG X (.Name x pos) (GR i):=by
 intro O s L H v u Q I r h;exact pT (Ml I z G d r (λS J _=>⟨_,H,J,h⟩) F)
theorem gOne(c:M3 X scope t)(S:ae)(d:Hp)(fp:List Addr):PG (S9 X scope t S d fp) (.Name t px) (GR X.N.length):=
 Xd (c.nd t (fN.mpr rfl)) (by show (LC t X.N++[t])[X.N.length]?=Y2 t;unfold LC CP;rw[hU (by rw[aw];exact ax _),aw,oJ];rfl) (.inl (qE (c.tl t (fN.mpr rfl)))) (.inr (qE (c.tl t (fN.mpr rfl))))
def cD(X:Cx)(G:TI):TI:=λd H R=>∃z,G d H z/\∀J F,d.length=X.N.length->z J F->R J F
theorem Z9(W:PI X tg iter wi):PI X tg iter (cD X wi):=λF s z H R I ⟨R0,Z,S⟩=>
 thn (W F s z H R0 I Z) λv s1 Y=>thn Y λL s2 ⟨O,fp,G,J,d,e,I',T,U,f,r⟩=>⟨O,fp,G,J,d,e,I',T,U,f,S J d I.len r⟩
end
end L2
namespace PV
open PySem L2
inductive D where
 |non | bl (b:Bool) | int (i:Int) | str (x:Str) | tup (ds:List D) | lst (ds:List D)
 |dk (kvs:List (Key×D)) | dt (kvs:List (List Key×D)) | ob (c:Str) (fs:List (Str×D)) | adr (a:Addr) | exc (c:Str) (fs:List (Str×D)) | err (c:Str) (fs:List (Str×D)) | mem (F:List (List Key)->Int)
inductive Slot where
 |un | fz (d:D) | ow (d:D)
abbrev Rho:=List Slot
abbrev FE:=Rho->Option D
abbrev FA:=Rho->Option (List D)
abbrev FT:=Rho->Option Bool
abbrev FO:=Rho->Option (Option Int)
abbrev FI:=Rho->Option (List D)
def vF(i:Nat):FE:=λρ=>match ρ[i]? with | some (.fz d)=>Y2 d | _=>X2
def vU(i:Nat):FE:=λρ=>match ρ[i]? with | some (.fz d)=>Y2 d | some (.ow d)=>Y2 d | _=>X2
def kF(d:D):FE:=λ_=>Y2 d
def bF(g:D->D->Option D)(O d:FE):FE:=λρ=>(O ρ).bind λx=>(d ρ).bind λy=>g x y
def uF(g:D->Option D)(O:FE):FE:=λρ=>(O ρ).bind g
def blF(f:FE):FT:=λρ=>match f ρ with | some (.bl b)=>Y2 b | _=>X2
def iiD(g:Int->Int->Option D):D->D->Option D:=λx y=>match x,y with | .int i,.int j=>g i j | _,_=>X2
instance (i j:Int):Decidable (CMul i j):=by unfold CMul;infer_instance
instance (i j:Int):Decidable (CDiv i j):=by unfold CDiv;infer_instance
instance (i j:Int):Decidable (CPow i j):=by unfold CPow;infer_instance
def subD:=iiD λi j=>Y2 (.int (i-j))
def Jt(i j:Int):Prop:=CMul i j∨(oK i<=4194304/\oK j<=4194304)
instance (i j:Int):Decidable (Jt i j):=by unfold Jt;infer_instance
def CShl(i j:Int):Prop:=0<=j/\j<=1000000/\oK i<=4194304
instance (i j:Int):Decidable (CShl i j):=by unfold CShl;infer_instance
def mulD:=iiD λi j=>if Jt i j then Y2 (.int (i*j)) else X2
def Ew:=iiD λi j=>if CDiv i j then Y2 (.int (i/j)) else X2
def modD:=iiD λi j=>if 0<j then Y2 (.int (i%j)) else X2
def shlD:=iiD λi j=>if CShl i j then Y2 (.int (i*2^j.toNat)) else X2
def ltD:=iiD λi j=>Y2 (.bl (decide (i<j)))
def gtD:=iiD λi j=>Y2 (.bl (decide (j<i)))
def geD:=iiD λi j=>Y2 (.bl (decide (j<=i)))
def addD:D->D->Option D:=λx y=>match x,y with
 |.int i,.int j=>Y2 (.int (i+j))
 |.str i,.str j=>if i.length+j.length<=sizeLine then Y2 (.str (i++j)) else X2
 |.lst i,.lst j=>if i.length+j.length<=sizeLine then Y2 (.lst (i++j)) else X2
 |_,_=>X2
def andF(O d:FE):FE:=λρ=>match O ρ with | some (.bl U2)=>d ρ | some (.bl T2)=>Y2 (.bl T2) | _=>X2
def notF(O:FE):FE:=λρ=>match O ρ with | some (.bl b)=>Y2 (.bl (!b)) | _=>X2
def andT(O d:FT):FT:=λρ=>match O ρ with | some U2=>d ρ | some T2=>Y2 T2 | none=>X2
def orT(O d:FT):FT:=λρ=>match O ρ with | some U2=>Y2 U2 | some T2=>d ρ | none=>X2
def notT(O:FT):FT:=λρ=>(O ρ).map (!·)
def truD:D->Option Bool
 |.non=>Y2 T2
 |.bl b=>Y2 b
 |.int i=>Y2 (i != 0)
 |.str y=>if y.length<=sizeLine then Y2 ((y.length:Int) != 0) else X2
 |.lst ds=>Y2 (!ds.isEmpty)
 |.tup ds=>Y2 (!ds.isEmpty)
 |_=>X2
def trF(f:FE):FT:=λρ=>(f ρ).bind truD
def nilA:FA:=λ_=>Y2 []
def Aa(O:FE)(fs:FA):FA:=λρ=>(O ρ).bind λd=>(fs ρ).map (d::·)
def tupF(fs:FA):FE:=λρ=>(fs ρ).bind λds=>if ds.length<=sizeLine then Y2 (.tup ds) else X2
def lstF(fs:FA):FE:=λρ=>(fs ρ).bind λds=>if ds.length<=sizeLine then Y2 (.lst ds) else X2
def ixD:D->D->Option D:=λx y=>match x,y with
 |.lst ds,.int i=>atI ds i
 |.tup ds,.int i=>atI ds i
 |.str z,.int i=>if z.length<=sizeLine then (atI z.cps.toList i).map λc=>.str ⟨#[c]⟩ else X2
 |_,_=>X2
def someO(f:FE):FO:=λρ=>match f ρ with | some (.int i)=>Y2 (Y2 i) | _=>X2
def cutD{α:Type}(ds:List α)(z G:Option Int):List α:=(ds.drop (HT.sIx ds.length 0 z)).take (HT.sIx ds.length ds.length G-HT.sIx ds.length 0 z)
def cutS(z:Str)(d G:Option Int):Str:=⟨(cutD z.cps.toList d G).toArray⟩
def slD(x:D)(d G:Option Int):Option D:=match x with
 |.lst ds=>Y2 (.lst (cutD ds d G))
 |.tup ds=>if HT.sIx ds.length 0 d=0/\HT.sIx ds.length ds.length G=ds.length then X2 else Y2 (.tup (cutD ds d G))
 |.str z=>if z.length<=sizeLine then Y2 (.str (cutS z d G)) else X2
 |_=>X2
def slF(f:FE)(l h:FO):FE:=λρ=>(f ρ).bind λx=>(l ρ).bind λz=>(h ρ).bind λG=>slD x z G
def flV:D->Option V
 |.non=>Y2 .non
 |.bl b=>Y2 (.bl b)
 |.int i=>Y2 (.int i)
 |.str x=>Y2 (.str x)
 |_=>X2
def flVs:List D->Option (List V)
 |[]=>Y2 []
 |d::r=>(flV d).bind λv=>(flVs r).map (v::·)
def inD(d:Bool):D->D->Option D:=λx y=>match x,y with
 |.str i,.str j=>Y2 (.bl (if d then !(!(jI j i 0 j.length 1).isEmpty) else !(jI j i 0 j.length 1).isEmpty))
 |x,.lst ds=>(flV x).bind λv=>(flVs ds).map λvs=>.bl (if d then !inV v vs else inV v vs)
 |x,.tup ds=>(flV x).bind λv=>(flVs ds).map λvs=>.bl (if d then !inV v vs else inV v vs)
 |_,_=>X2
def allO(f:D->D->Option Bool):List D->List D->Option Bool
 |[],[]=>Y2 U2
 |x::xs,y::ys=>match f x y,allO f xs ys with | some a,Y2 b=>Y2 (a&&b) | _,_=>X2
 |_,_=>X2
def flD(x y:D):Option Bool:=(flV x).bind λu=>(flV y).map λv=>eqV u v
def eqS(f:D->D->Option Bool):D->D->Option Bool
 |.lst xs,.lst ys=>if xs.length=ys.length then allO f xs ys else Y2 T2
 |.tup xs,.tup ys=>if xs.length=ys.length then allO f xs ys else X2
 |x,y=>flD x y
def eqK:Nat->D->D->Option Bool
 |0=>flD
 |n+1=>eqS (eqK n)
def eqvD(x y:D):Option Bool:=match x,y with
 |.int i,.int j=>Y2 (decide (i=j))
 |.str i,.str j=>Y2 (decide (i=j))
 |.bl i,.bl j=>Y2 (decide (i=j))
 |.lst xs,.lst ys=>if xs.length=ys.length then allO (eqK 180) xs ys else Y2 T2
 |.tup xs,.tup ys=>if xs.length=ys.length then allO (eqK 180) xs ys else X2
 |_,_=>X2
def eqD(d:Bool)(x y:D):Option D:=(eqvD x y).map λb=>.bl (if d then !b else b)
def lenD:D->Option D
 |.str y=>if y.length<=sizeLine then Y2 (.int y.length) else X2
 |.lst ds=>Y2 (.int ds.length)
 |.tup ds=>Y2 (.int ds.length)
 |_=>X2
def Xe:D->Option D
 |.lst ds=>Y2 (.lst ds)
 |.tup ds=>Y2 (.lst ds)
 |_=>X2
def intD:D->Option D
 |.int i=>Y2 (.int i)
 |.bl k=>Y2 (.int (if k then 1 else 0))
 |_=>X2
def seqI(f:FE):FI:=λρ=>match f ρ with | some (.lst ds)=>Y2 ds | some (.tup ds)=>Y2 ds | _=>X2
def rngD(n:Nat):List D:=(bp n).map λ(i:Nat)=>.int i
def rngI(f:FE):FI:=λρ=>match f ρ with | some (.int j)=>if -(2^62)<=j/\j<2^62 then Y2 (rngD j.toNat) else X2 | _=>X2
inductive Out where
 |nx (ρ:Rho) | rt (d:D) (ρ:Rho) | bk (ρ:Rho) | ct (ρ:Rho)
abbrev FS:=Rho->Option Out
def nxF:FS:=λρ=>Y2 (.nx ρ)
def seqF(g J:FS):FS:=λρ=>match g ρ with | some (.nx ρ')=>J ρ' | o=>o
def ifS(t:FT)(g J:FS):FS:=λρ=>match t ρ with | some U2=>g ρ | some T2=>J ρ | none=>X2
def setF(i:Nat)(f:FE):FS:=λρ=>(f ρ).map λd=>.nx (ρ.set i (.fz d))
def retF(f:FE):FS:=λρ=>(f ρ).map λd=>.rt d ρ
def Dh(f:FE):FS:=λρ=>(f ρ).map λ_=>.nx ρ
def badF:FS:=λ_=>X2
def forF(b:D->FS):List D->FS
 |[],ρ=>Y2 (.nx ρ)
 |d::r,ρ=>match b d ρ with
  |some (.nx ρ')=>forF b r ρ'
  |some (.ct ρ')=>forF b r ρ'
  |some (.bk ρ')=>Y2 (.nx ρ')
  |some (.rt e ρ')=>Y2 (.rt e ρ')
  |none=>X2
abbrev FG:=D->Rho->Option Rho
def BV(i:Nat):FG:=λd ρ=>Y2 (ρ.set i (.fz d))
def tgB(z:FG)(b:FS):D->FS:=λd ρ=>(z d ρ).bind b
def forS(d:FI)(z:FG)(b:FS):FS:=λρ=>(d ρ).bind λds=>forF (tgB z b) ds ρ
def Am(g:List D->Option D)(fs:FA):FE:=λρ=>(fs ρ).bind g
def Ba(n:Nat)(ds:List D):Rho:=ds.map .fz++m4 (n-ds.length) .un
def runF(n g:Nat)(b:FS)(ds:List D):Option D:=if ds.length=g then (match b (Ba n ds) with | some (.rt d _)=>Y2 d | some (.nx _)=>Y2 .non | _=>X2) else X2
def Hv(ρ:Rho)(g:FT)(z:FE):List D->Option (List D)
 |[]=>Y2 []
 |d::r=>match g (ρ++[.fz d]) with
  |some U2=>(z (ρ++[.fz d])).bind λy=>(Hv ρ g z r).map (y::·)
  |some T2=>Hv ρ g z r
  |none=>X2
def Hq(d:FI)(g:FT)(z:FE):FE:=λρ=>(d ρ).bind λds=>if ds.length<=sizeLine then (Hv ρ g z ds).map .lst else X2
def allT:FT:=λ_=>Y2 U2
def mxN(val:Nat->Int):Nat->Int
 |0=>val 0
 |k+1=>if val (k+1) > mxN val k then val (k+1) else mxN val k
def cF:List D->Option (List Int)
 |[]=>Y2 []
 |.int i::r=>(cF r).map (i::·)
 |_::_=>X2
def kE(x y:D):Option D:=match x with
 |.lst ds=>(cF ds).map λL=>if L=[] then y else .int (mxN (λi=>L.getD i 0) (L.length-1))
 |_=>X2
def Hw:List D->Option (List Str)
 |[]=>Y2 []
 |.str i::r=>(Hw r).map (i::·)
 |_::_=>X2
def tyD:D->Option String
 |.non=>Y2 "NoneType"
 |.bl _=>Y2 "bool"
 |.int _=>Y2 "int"
 |.str _=>Y2 "str"
 |.lst _=>Y2 "list"
 |.tup _=>Y2 "tuple"
 |_=>X2
def isiD(T:String)(x:D):Option D:=(tyD x).map λn=>.bl (n==T||(n=="bool"&&T=="int"))
def ltS(a b:Str):Bool:=decide (a.cps.toList<b.cps.toList)
def insS(x:Str):List Str->List Str
 |[]=>[x]
 |y::r=>if ltS x y then x::y::r else if x=y then y::r else y::insS x r
def Bf(xs:List Str):List Str:=xs.foldr insS []
def setW(i:Nat)(f:FE):FS:=λρ=>(f ρ).map λd=>.nx (ρ.set i (.ow d))
def ownO(ρ:Rho)(i:Nat):Option D:=match ρ[i]? with | some (.ow d)=>Y2 d | _=>X2
def appL(x v:D):Option D:=match x with | .lst ds=>if ds.length<sizeLine then Y2 (.lst (ds++[v])) else X2 | _=>X2
def mutF(g:D->D->Option D)(i:Nat)(f:FE):FS:=λρ=>(f ρ).bind λv=>(ownO ρ i).bind λx=>(g x v).map λy=>.nx (ρ.set i (.ow y))
def frz1(ρ:Rho)(i:Nat):Rho:=match ρ[i]? with | some (.ow d)=>ρ.set i (.fz d) | _=>ρ
def fzS(is:List Nat)(g:FS):FS:=λρ=>g (is.foldl frz1 ρ)
end PV
namespace EX
open PySem PySem.Spec L2
open PyProof.Rows hiding St
def tbV:Option Addr->ac
 |none=>.none
 |some T=>.ref T
def ExcP(a C:Addr)(J g:Option Addr):Heap->Prop:=λh=>∃o vs,h.get? a=Y2 o/\o.cls=.ref C/\o.dict=J/\o.data=.fields vs/\vs.size=6/\vs[1]?=Y2 (tbV g)
abbrev excO (a C:Addr) (od tb:Option Addr):HO:=.ext (ExcP a C od tb)
section
variable {e:Addr}{tb:Option Addr}
end
end EX
namespace PV
open PySem PySem.Spec L2
open PyProof.Rows hiding St
structure Gx where
 K:av
 cl:Str->Option Addr
 xcl:Str->Option Addr:=λ_=>X2
 lent:Option Addr:=X2
theorem Fo{K:av}(e:Same H H')(h:SqT K H a xs):SqT K H' a xs:=by
 rcases h with (h | ⟨o,h⟩) | h
 .exact .inl (.inl (e _ _ h))
 .exact .inl (.inr ⟨o,e _ _ h⟩)
 .exact .inr h
theorem Ak(h:H p=X2)(o:HO):Same H (upd H p o):=λb u q=>by rw[Ag (Bw q h)];exact q
def FsV(fs:List (Str×V))(J:List (Str×D)):Prop:=fs.map (λp=>(p.1,Y2 p.2))=J.map λp=>(p.1,flV p.2)
def XdA(H:Hp)(J:Option Addr)(fs:List (Str×V)):Prop:=match J with | some dx=>H dx=Y2 (.xd fs) | none=>fs=[]
theorem XdA.mono{fs:List (Str×V)}(h:XdA H od fs)(s:Same H H'):XdA H' od fs:=by
 cases od with
 |none=>exact h
 |some dx=>exact s _ _ h
inductive Rep (G:Gx) (H:Hp):V->D->Prop
 |non:Rep G H .non .non
 |bl (b:Bool):Rep G H (.bl b) (.bl b)
 |int (i:Int):Rep G H (.int i) (.int i)
 |str (x:Str):Rep G H (.str x) (.str x)
 |tup {a:Addr}{xs:List V}{ds:List D}:SqT G.K H a xs->xs.length=ds.length->(∀(i:Nat) x d,xs[i]?=Y2 x->ds[i]?=Y2 d->Rep G H x d)->Rep G H (.ref a) (.tup ds)
 |lst {a:Addr}{xs:List V}{ds:List D}:SqL G.K H a xs->xs.length=ds.length->(∀(i:Nat) x d,xs[i]?=Y2 x->ds[i]?=Y2 d->Rep G H x d)->Rep G H (.ref a) (.lst ds)
 |dk {a:Addr}{o:Obj}{kvs:List (Key×V)}{kds:List (Key×D)}:H a=Y2 (.frz o (.dK kvs))->kvs.map (·.1)=kds.map (·.1)->(∀(i:Nat) x d,(kvs.map (·.2))[i]?=Y2 x->(kds.map (·.2))[i]?=Y2 d->Rep G H x d)->Rep G H (.ref a) (.dk kds)
 |dt {a:Addr}{o:Obj}{kvs:List (List Key×V)}{kds:List (List Key×D)}:H a=Y2 (.frz o (.dT kvs))->kvs.map (·.1)=kds.map (·.1)->(∀(i:Nat) x d,(kvs.map (·.2))[i]?=Y2 x->(kds.map (·.2))[i]?=Y2 d->Rep G H x d)->Rep G H (.ref a) (.dt kds)
 |adr (a:Addr):Rep G H (.ref a) (.adr a)
 |ob {a C dx:Addr}{c:Str}{fs:List (Str×V)}{gs:List (Str×D)}:G.cl c=Y2 C->H a=Y2 (.ins C dx fs)->fs.map (·.1)=gs.map (·.1)->(∀(i:Nat) x d,(fs.map (·.2))[i]?=Y2 x->(gs.map (·.2))[i]?=Y2 d->Rep G H x d)->Rep G H (.ref a) (.ob c gs)
 |err {a C:Addr}{od tb:Option Addr}{c:Str}{fs:List (Str×V)}{gs:List (Str×D)}:G.xcl c=Y2 C->H a=Y2 (EX.excO a C od tb)->XdA H od fs->FsV fs gs->Rep G H (.ref a) (.err c gs)
 |mem {a:Addr}{F:List (List Key)->Int}:H a=Y2 (.mem F G.K)->Rep G H (.ref a) (.mem F)
def RepL(G:Gx)(H:Hp)(xs:List V)(ds:List D):Prop:=xs.length=ds.length/\∀(i:Nat) x d,xs[i]?=Y2 x->ds[i]?=Y2 d->Rep G H x d
theorem Rep.mono{G:Gx}{H z:Hp}{v:V}{d:D}(r:Rep G H v d)(s:Same H z):Rep G z v d:=by
 induction r with
 |non=>exact .non
 |bl b=>exact .bl b
 |int i=>exact .int i
 |str x=>exact .str x
 |tup h l _ g=>exact .tup (Fo s h) l g
 |lst h l _ g=>exact .lst (s.seq h) l g
 |dk h l _ g=>exact .dk (s _ _ h) l g
 |dt h l _ g=>exact .dt (s _ _ h) l g
 |adr a=>exact .adr a
 |ob c h l _ g=>exact .ob c (s _ _ h) l g
 |err c h q f=>exact .err c (s _ _ h) (q.mono s) f
 |mem h=>exact .mem (s _ _ h)
theorem RepL.mono{G:Gx}{H g:Hp}{xs:List V}{ds:List D}(r:RepL G H xs ds)(s:Same H g):RepL G g xs ds:=⟨r.1,λi x d a b=>(r.2 i x d a b).mono s⟩
theorem RepL.nil{G:Gx}:RepL G H [] []:=⟨rfl,λi x d h=>by simp at h⟩
theorem RepL.cons{G:Gx}{H:Hp}{x:V}{d:D}{xs:List V}{ds:List D}(r:Rep G H x d)(F:RepL G H xs ds):RepL G H (x::xs) (d::ds):=
 ⟨by simp[F.1],λi y e z g=>by
  cases i with
  |zero=>simp at z g;subst z;subst g;exact r
  |succ i=>simp at z g;exact F.2 i y e z g⟩
theorem RepL.uncons{G:Gx}{d:D}{ds:List D}(r:RepL G H xs (d::ds)):∃x ys,xs=x::ys/\Rep G H x d/\RepL G H ys ds:=by
 obtain⟨l,h⟩:=r;cases xs with
 |nil=>simp at l
 |cons x ys=>exact⟨x,ys,rfl,h 0 x d rfl rfl,by simpa using l,λi y e z g=>h (i+1) y e (by simpa using z) (by simpa using g)⟩
theorem RepL.nil_inv{G:Gx}(r:RepL G H xs []):xs=[]:=by
 have:=r.1;cases xs with
 |nil=>rfl
 |cons x d=>simp at this
theorem RepL.append{G:Gx}{ds I:List D}(a:RepL G H xs ds)(b:RepL G H ys I):RepL G H (xs++ys) (ds++I):=by
 refine⟨by rw[eP,eP,a.1,b.1],λi x d F z=>?_⟩
 by_cases g:i<xs.length
 .rw[gu g] at F;rw[gu (by rw[<-a.1];exact g)] at z;exact a.2 i x d F z
 .rw[hU (gy.mp g)] at F;rw[hU (by rw[<-a.1];exact gy.mp g),<-a.1] at z;exact b.2 _ x d F z
theorem RepL.drop{G:Gx}{ds:List D}(a:RepL G H xs ds)(n:Nat):RepL G H (xs.drop n) (ds.drop n):=
 ⟨by rw[io,io,a.1],λi x d z g=>by rw[qF] at z g;exact a.2 _ x d z g⟩
theorem RepL.take{G:Gx}{ds:List D}(a:RepL G H xs ds)(n:Nat):RepL G H (xs.take n) (ds.take n):=
 ⟨by rw[ij,ij,a.1],λi x d g F=>by
  rw[List.getElem?_take] at g F;split at g
  .rename_i z;rw[if_pos z] at F;exact a.2 _ x d g F
  .cases g⟩
theorem RepL.get{G:Gx}{ds:List D}(a:RepL G H xs ds){i:Nat}{d:D}(h:ds[i]?=Y2 d):∃x,xs[i]?=Y2 x/\Rep G H x d:=by
 have z:i<ds.length:=(de.mp h).1;have g:i<xs.length:=by rw[a.1];exact z
 exact⟨xs[i],by simp[g],a.2 i _ d (by simp[g]) h⟩
theorem RepL.atI{G:Gx}{H:Hp}{xs:List V}{ds:List D}(a:RepL G H xs ds){i:Int}{d:D}(h:L2.atI ds i=Y2 d):∃x,L2.atI xs i=Y2 x/\Rep G H x d:=by
 unfold L2.atI at h ⊢;rw[<-a.1] at h;cases e:ixN xs.length i with
 |none=>rw[e] at h;cases h
 |some j=>
  rw[e] at h;obtain⟨x,z,g⟩:=a.get (show ds[j]?=Y2 d from h);exact⟨x,z,g⟩
def hid(A:List Addr)(H:Hp):Hp:=λb=>if b∈A then X2 else H b
theorem Al(s:Same H H'):Same (hid A H) (hid A H'):=λb o h=>by
 unfold hid at h ⊢;split at h
 .cases h
 .rename_i d;rw[if_neg d];exact s b o h
theorem Aj:Same (hid A H) H:=λb o h=>by
 unfold hid at h;split at h
 .cases h
 .exact h
theorem DQ(h:∀a∈A,a∈B):Same (hid B H) (hid A H):=λb o q=>by
 unfold hid at q ⊢;split at q
 .cases q
 .rename_i d;rw[if_neg (λz=>d (h b z))];exact q
theorem Ao(h:p∉A):hid A H p=H p:=by unfold hid;rw[if_neg h]
theorem CT{o:HO}(h:p∈A):hid A (upd H p o)=hid A H:=by
 funext b;unfold hid
 by_cases d:b∈A
 .rw[if_pos d,if_pos d]
 .rw[if_neg d,if_neg d,Ag (λe:b=p=>d (by rw[e];exact h))]
def Top(G:Gx)(A:List Addr)(H:Hp)(a:Addr):D->Prop
 |.lst ds=>∃xs,H a=Y2 (.lst xs)/\RepL G (hid A H) xs ds
 |.dk d=>∃kvs,H a=Y2 (.dK kvs)/\kvs.map (·.1)=d.map (·.1)/\RepL G (hid A H) (kvs.map (·.2)) (d.map (·.2))
 |.dt d=>∃kvs,H a=Y2 (.dT kvs)/\kvs.map (·.1)=d.map (·.1)/\RepL G (hid A H) (kvs.map (·.2)) (d.map (·.2))
 |.ob c J=>∃C dx fs,H a=Y2 (.ins C dx fs)/\(G.cl c=Y2 C/\fs.map (·.1)=J.map (·.1))/\RepL G (hid A H) (fs.map (·.2)) (J.map (·.2))
 |_=>False
theorem Top.mono{G:Gx}{A:List Addr}{H F:Hp}{a:Addr}{d:D}(t:Top G A H a d)(s:Same H F):Top G A F a d:=by
 cases d with
 |lst z=>obtain⟨g,h,r⟩:=t;exact⟨g,s _ _ h,r.mono (Al s)⟩
 |dk z=>obtain⟨g,h,k,r⟩:=t;exact⟨g,s _ _ h,k,r.mono (Al s)⟩
 |dt z=>obtain⟨g,h,k,r⟩:=t;exact⟨g,s _ _ h,k,r.mono (Al s)⟩
 |ob c J=>obtain⟨C,dx,g,h,k,r⟩:=t;exact⟨C,dx,g,s _ _ h,k,r.mono (Al s)⟩
 |_=>exact t.elim
structure Nt (x:Option HO):Prop where
 ne:x≠X2
 tup:∀xs,x≠Y2 (.tup xs)
theorem Nt.mono{x y:Option HO}(h:Nt x)(k:∀u,x=Y2 u->y=Y2 u):Nt y:=by
 cases x with
 |none=>exact absurd rfl h.ne
 |some u=>rw[k u rfl];exact h
theorem Nt.lst{xs:List V}:Nt (Y2 (.lst xs)):=⟨λz=>(nomatch z),λ_ z=>(nomatch z)⟩
theorem Nt.dK{xs:List (Key×V)}:Nt (Y2 (.dK xs)):=⟨λz=>(nomatch z),λ_ z=>(nomatch z)⟩
theorem Nt.dT{xs:List (List Key×V)}:Nt (Y2 (.dT xs)):=⟨λz=>(nomatch z),λ_ z=>(nomatch z)⟩
theorem Nt.ins{C dx:Addr}{xs:List (Str×V)}:Nt (Y2 (.ins C dx xs)):=⟨λz=>(nomatch z),λ_ z=>(nomatch z)⟩
structure Okp (G:Gx) (A:List Addr) (σ:St) (H:Hp) (ρ:Rho):Prop where
 len:σ.length=ρ.length
 live:∀a∈A,Nt (H a)
 fz:∀(i:Nat) (d:D),ρ[i]?=Y2 (.fz d)->∃v,σ[i]?=Y2 (Y2 v)/\Rep G (hid A H) v d
 ow:∀(i:Nat) (d:D),ρ[i]?=Y2 (.ow d)->∃a,σ[i]?=Y2 (Y2 (.ref a))/\a∈A/\Top G A H a d
 inj:∀(i j:Nat) (d e:D) (a:Addr),ρ[i]?=Y2 (.ow d)->ρ[j]?=Y2 (.ow e)->σ[i]?=Y2 (Y2 (.ref a))->σ[j]?=Y2 (Y2 (.ref a))->i=j
theorem Okp.mono{G:Gx}{A:List Addr}{g:St}{H z:Hp}{ρ:Rho}(o:Okp G A g H ρ)(s:Same H z):Okp G A g z ρ:=
 ⟨o.len,λa F=>(o.live a F).mono λu e=>s _ _ e,
  λi d h=>let ⟨v,h1,h2⟩:=o.fz i d h;⟨v,h1,h2.mono (Al s)⟩,λi d h=>let ⟨a,h1,h2,h3⟩:=o.ow i d h;⟨a,h1,h2,h3.mono s⟩,o.inj⟩
def RepT(G:Gx)(A:List Addr)(H:Hp)(v:V)(d:D):Prop:=Rep G (hid A H) v d∨∃a,v=.ref a/\Top G A H a d
theorem RepT.mono{G:Gx}{A:List Addr}{H g:Hp}{v:V}{d:D}(r:RepT G A H v d)(s:Same H g):RepT G A g v d:=by
 rcases r with r | ⟨a,e,r⟩
 .exact .inl (r.mono (Al s))
 .exact .inr ⟨a,e,r.mono s⟩
theorem RepT.lst{G:Gx}{A:List Addr}{H:Hp}{v:V}{ds:List D}(r:RepT G A H v (.lst ds)):∃a xs,v=.ref a/\SqL G.K H a xs/\RepL G (hid A H) xs ds:=by
 rcases r with r | ⟨a,e,xs,h,r⟩
 .cases r with
  |lst h l r=>exact⟨_,_,rfl,Aj.seq h,l,r⟩
 .exact⟨a,xs,e,.of h,r⟩
theorem RepT.tup{G:Gx}{A:List Addr}{H:Hp}{v:V}{ds:List D}(r:RepT G A H v (.tup ds)):∃a xs,v=.ref a/\SqT G.K H a xs/\RepL G (hid A H) xs ds:=by
 rcases r with r | ⟨a,e,r⟩
 .cases r with
  |tup h l r=>exact⟨_,_,rfl,Fo Aj h,l,r⟩
 .exact r.elim
theorem RepT.int{G:Gx}{i:Int}(r:RepT G A H v (.int i)):v=.int i:=by
 rcases r with r | ⟨a,e,r⟩
 .cases r;rfl
 .exact r.elim
theorem RepT.str{G:Gx}{i:Str}(r:RepT G A H v (.str i)):v=.str i:=by
 rcases r with r | ⟨a,e,r⟩
 .cases r;rfl
 .exact r.elim
theorem RepT.bl{G:Gx}{i:Bool}(r:RepT G A H v (.bl i)):v=.bl i:=by
 rcases r with r | ⟨a,e,r⟩
 .cases r;rfl
 .exact r.elim
theorem RepT.non{G:Gx}(r:RepT G A H v .non):v=.non:=by
 rcases r with r | ⟨a,e,r⟩
 .cases r;rfl
 .exact r.elim
theorem RepT.dk{G:Gx}{A:List Addr}{H:Hp}{v:V}{d:List (Key×D)}(r:RepT G A H v (.dk d)):∃a kvs,v=.ref a/\Rd H a (.dK kvs)/\kvs.map (·.1)=d.map (·.1)/\RepL G (hid A H) (kvs.map (·.2)) (d.map (·.2)):=by
 rcases r with r | ⟨a,e,kvs,h,k,r⟩
 .cases r with
  |dk h k r=>
   refine⟨_,_,rfl,.inr ⟨_,Aj _ _ h⟩,k,?_,r⟩;have:=congrArg cw k;rw[aw,aw] at this ⊢;exact this
 .exact⟨a,kvs,e,.of h,k,r⟩
theorem Ou(live:∀a∈A,Nt (H a))(d:H p=X2)(o:HO):hid A (upd H p o) p=Y2 o:=by
 rw[Ao (λz=>(live p z).ne d),Ah]
theorem Bb{G:Gx}{ds:List D}(live:∀a∈A,Nt (H a))(d:H p=X2)(r:RepL G (hid A H) xs ds):Rep G (hid A (upd H p (.lst xs))) (.ref p) (.lst ds):=
 let q:=r.mono (Al (Ak d (.lst xs)));.lst (.of (Ou live d _)) q.1 q.2
theorem Hx{G:Gx}{ds:List D}(live:∀a∈A,Nt (H a))(d:H p=X2)(r:RepL G (hid A H) xs ds):Rep G (hid A (upd H p (.tup xs))) (.ref p) (.tup ds):=
 let q:=r.mono (Al (Ak d (.tup xs)));.tup (.of (Ou live d _)) q.1 q.2
def tF(G:Gx)(A:List Addr)(f:FE):TE:=λz H Q=>∃ρ d,Okp G A z H ρ/\f ρ=Y2 d/\∀v g,Same H g->Rep G (hid A g) v d->Q v g
def tT(G:Gx)(A:List Addr)(f:FE):TE:=λz H Q=>∃ρ d,Okp G A z H ρ/\f ρ=Y2 d/\∀v g,Same H g->RepT G A g v d->Q v g
def PF(X:Cx)(G:Gx)(e:Expr)(f:FE):Prop:=∀⦃A⦄,PE X e (tF G A f)
def PU(X:Cx)(G:Gx)(e:Expr)(f:FE):Prop:=∀⦃A⦄,PE X e (tT G A f)
theorem Bt{t t':TE}(h:PE X e t)(w:∀σ H Q,t' σ H Q->t σ H Q):PE X e t':=λd s σ H Q I q=>h d s σ H Q I (w σ H Q q)
theorem PF.pu{G:Gx}{f:FE}(h:PF X G e f):PU X G e f:=λA=>Bt (@h A) λF H Q ⟨g,d,o,e,k⟩=>⟨g,d,o,e,λv z s r=>k v z s (.inl r)⟩
def tFA(G:Gx)(A:List Addr)(f:FA):TA:=λg H Q=>∃ρ ds,Okp G A g H ρ/\f ρ=Y2 ds/\∀vs d,Same H d->RepL G (hid A d) vs ds->Q vs d
def PFA(X:Cx)(G:Gx)(g:List Expr)(f:FA):Prop:=∀⦃A⦄,PA X g (tFA G A f)
theorem cG{e:List Expr}{t t':TA}(h:PA X e t)(w:∀σ H Q,t' σ H Q->t σ H Q):PA X e t':=λd g s σ H Q I q=>h d g s σ H Q I (w σ H Q q)
def tFT(G:Gx)(A:List Addr)(f:FT):TT:=λg H Q=>∃ρ b,Okp G A g H ρ/\f ρ=Y2 b/\∀d,Same H d->Q b d
def PFT(X:Cx)(G:Gx)(e:Expr)(f:FT):Prop:=∀⦃A⦄,PT X e (tFT G A f)
def PFW(X:Cx)(G:Gx)(e:Expr)(f:FT):Prop:=∀⦃A⦄,PW X e (tFT G A f)
theorem Xf{t t':TT}(h:PT X e t)(w:∀σ H Q,t' σ H Q->t σ H Q):PT X e t':=λd s σ H Q I q=>h d s σ H Q I (w σ H Q q)
theorem cH{t t':TT}(h:PW X e t)(w:∀σ H Q,t' σ H Q->t σ H Q):PW X e t':=λg d s σ H Q I q=>h g d s σ H Q I (w σ H Q q)
section
variable {G:Gx}{a b c:Expr}{fa fb:FE}
theorem fO(i:Nat){x:Str}(h:PE X (.Name x pos) (tVar i)):PF X G (.Name x pos) (vF i):=λA=>Bt h λI H Q ⟨J,d,o,e,k⟩=>by
 unfold vF at e;split at e
 .rename_i L F;cases e;obtain⟨v,z,g⟩:=o.fz i _ F;exact⟨v,z,k v H (Same.refl H) g⟩
 .cases e
theorem fP(i:Nat){x:Str}(h:PE X (.Name x pos) (tVar i)):PU X G (.Name x pos) (vU i):=λA=>Bt h λJ H Q ⟨L,d,o,e,k⟩=>by
 unfold vU at e;split at e
 .rename_i I F;cases e;obtain⟨v,z,g⟩:=o.fz i _ F;exact⟨v,z,k v H (Same.refl H) (.inl g)⟩
 .rename_i I F;cases e;obtain⟨p,z,_,g⟩:=o.ow i _ F;exact⟨.ref p,z,k _ H (Same.refl H) (.inr ⟨p,rfl,g⟩)⟩
 .cases e
theorem Er{d:D}(h:PE X a (tC v))(r:Rep G (λ_=>X2) v d):PF X G a (kF d):=λA=>Bt h λg H Q ⟨F,I,o,e,k⟩=>by
 cases e;exact k v H (Same.refl H) (r.mono λb o z=>nomatch z)
theorem S_{i j}:PF X G (.Constant (.int i) j pos) (kF (.int i)):=Er eE (.int i)
theorem Hy{b j}:PF X G (.Constant (.bool b) j pos) (kF (.bl b)):=Er ir (.bl b)
theorem M4{x j}:PF X G (.Constant (.str x) j pos) (kF (.str x)):=Er eF (.str x)
def Cy(G:Gx)(r:R2)(g:D->D->Option D):Prop:=∀(A:List Addr) (H:Hp) (x y:V) (dx F d:D) (Q:VK),(∀a∈A,Nt (H a))->RepT G A H x dx->RepT G A H y F->g dx F=Y2 d->(∀v z,Same H z->Rep G (hid A z) v d->Q v z)->r x y H Q
theorem Z_{g:D->D->Option D}{ρ:Rho}{d:D}(h:bF g fa fb ρ=Y2 d):∃x y,fa ρ=Y2 x/\fb ρ=Y2 y/\g x y=Y2 d:=by
 unfold bF at h;cases F:fa ρ with
 |none=>rw[F] at h;cases h
 |some x=>
  rw[F] at h;cases z:fb ρ with
  |none=>simp[z] at h
  |some y=>simp[z] at h;exact⟨x,y,rfl,rfl,h⟩
theorem M5{r:R2}{g:D->D->Option D}(s:Cy G r g){A:List Addr}{F:St}{H:Hp}{Q:VK}(h:tF G A (bF g fa fb) F H Q):tOp r (tT G A fa) (tT G A fb) F H Q:=by
 obtain⟨I,d,o,e,k⟩:=h;obtain⟨x,y,Y,U,T⟩:=Z_ e;exact⟨I,x,o,Y,λv H1 z O=>⟨I,y,o.mono z,U,λu H2 S L=>s A H2 v u x y d Q ((o.mono z).mono S).live (O.mono S) L T λw Z W J=>k w Z (z.trans (S.trans W)) J⟩⟩
theorem Ko{op:Operator}{r:R2}{g:D->D->Option D}(d:OpR X (g9 op) r)(s:Cy G r g)(ha:PU X G a fa)(hb:PU X G b fb):PF X G (.BinOp a op b pos) (bF g fa fb):=
 λA=>Bt (jC d (@ha A) (@hb A)) λ_ _ _ h=>M5 s h
theorem Xg{op:CmpOp}{r:R2}{g:D->D->Option D}(d:OpR X (bX op) r)(s:Cy G r g)(ha:PU X G a fa)(hb:PU X G b fb)(z:gg op b=T2):PF X G (.Compare a [op] [b] pos) (bF g fa fb):=
 λA=>Bt (Ua d (@ha A) (@hb A) z) λ_ _ _ h=>M5 s h
theorem Xh{f:FE}{ρ:Rho}{b:Bool}(h:blF f ρ=Y2 b):f ρ=Y2 (.bl b):=by
 unfold blF at h;split at h
 .rename_i e;cases h;exact e
 .cases h
theorem Ei{op:CmpOp}{r:R2}{g:D->D->Option D}(I:OpR X (bX op) r)(s:Cy G r g)(ha:PU X G a fa)(hb:PU X G b fb)(L:gg op b=T2):PFT X G (.Compare a [op] [b] pos) (blF (bF g fa fb)):=
 λA=>Xf (Ub I (@ha A) (@hb A) L) λS H Q ⟨z,d,o,e,k⟩=>M5 s ⟨z,.bl d,o,Xh e,λv O F J=>by cases J;exact⟨d,rfl,k O F⟩⟩
theorem Qz{g:Int->Int->Option D}{x y d:D}(h:iiD g x y=Y2 d):∃i j,x=.int i/\y=.int j/\g i j=Y2 d:=by
 unfold iiD at h;split at h
 .exact⟨_,_,rfl,rfl,h⟩
 .cases h
theorem P_{g:Int->Int->V}{g':Int->Int->D}(e:∀i j H,Rep G H (g i j) (g' i j)):Cy G (rI0 g) (iiD λi j=>Y2 (g' i j)):=by
 intro A H x y dx I d Q F rx z h k;obtain⟨i,j,rfl,rfl,h⟩:=Qz h;cases h;exact⟨i,j,rx.int,z.int,k _ H (Same.refl H) (e i j _)⟩
theorem QB{C:Int->Int->Prop}{g:Int->Int->V}{g':Int->Int->D}[∀i j,Decidable (C i j)](e:∀i j H,Rep G H (g i j) (g' i j)):Cy G (rI C g) (iiD λi j=>if C i j then Y2 (g' i j) else X2):=by
 intro A H x y dx L d Q J rx F h k;obtain⟨i,j,rfl,rfl,z⟩:=Qz h
 by_cases I:C i j
 .rw[if_pos I] at z;cases z;exact⟨i,j,rx.int,F.int,I,k _ H (Same.refl H) (e i j _)⟩
 .rw[if_neg I] at z;cases z
theorem aA:Cy G (rI0 λi j=>.int (i-j)) subD:=P_ λi j H=>.int _
theorem Jt.ok{i j:Int}(h:Jt i j):IntMulOk i j:=by
 rcases h with h | h
 .exact h.ok
 .exact IntMulOk.of_le h.1 h.2 (by decide)
theorem aB:OpR X (g9 .Mult) (rI Jt λi j=>.int (i*j)):=opI λ_ _ _ _ _ _ _ I q=>mul_int q I.ok
theorem aC:OpR X (g9 .LShift) (rI CShl λi j=>.int (i*2^j.toNat)):=opI λi j _ _ _ _ _ I q=>lshift_int I.1 (by have g:=I.2.1;have d:=I.2.2;omega) q
theorem aD:Cy G (rI Jt λi j=>.int (i*j)) mulD:=QB λi j H=>.int _
theorem Xi:Cy G (rI CDiv λi j=>.int (i/j)) Ew:=QB λi j H=>.int _
theorem aF:Cy G (rI (λ_ j=>0<j) λi j=>.int (i%j)) modD:=QB (C:=λ_ j=>0<j) λi j H=>.int _
theorem aG:Cy G (rI CShl λi j=>.int (i*2^j.toNat)) shlD:=QB λi j H=>.int _
theorem fQ:Cy G (rI0 λi j=>.bl (decide (i<j))) ltD:=P_ λi j H=>.bl _
theorem fU:Cy G (rI0 λi j=>.bl (decide (j<i))) gtD:=P_ λi j H=>.bl _
theorem fV:Cy G (rI0 λi j=>.bl (decide (j<=i))) geD:=P_ λi j H=>.bl _
def cI(K:av):R2:=λx y H Q=>∃l b xs d,x=.ref l/\y=.ref b/\SqL K H l xs/\SqL K H b d/\xs.length+d.length<=sizeLine/\∀p,H p=X2->Q (.ref p) (upd H p (.lst (xs++d)))
theorem aH:OpR X (g9 .Add) (cI X.K):=by
 intro π s σ H x y v u Q I rx ry h;obtain⟨l,b,xs,zs,rfl,rfl,hl,hb,hz,q⟩:=h;cases rx;cases ry;obtain⟨g,r,pl,z⟩:=I.list hl;obtain⟨d,Y,T,z2⟩:=I.list hb;have e1:=r.length;have e2:=Y.length;obtain⟨⟨cls,dd,u0,sl⟩,Z,hc,n,hd⟩:=pl.isList;obtain⟨⟨v0,U,W,S⟩,J,O,n2,L⟩:=T.isList;simp only at hc hd O L;subst hc hd O L;refine concat_meets ⟨_,Z,rfl⟩ ⟨_,J,rfl⟩ noFill_list_add seq_list_add PySem.F.slot_list_add PySem.F.entry_list_add (PySem.F.args_list_add_2 _ _) (list_addW l b g.toArray d.toArray n n2 dd U sl S (by rw[bP,bP];omega)) ⟨Z,J,?_⟩;have ea:g.toArray++d.toArray=(g++d).toArray:=by simp
 rw[ea];exact⟨.ref _,_,I.lnew (t':=s.toks) (r.append Y) (by rw[eP];omega),rfl,q _ I.fresh⟩
def rAdd(K:av):R2:=λx y H Q=>(rI0 λi j=>.int (i+j)) x y H Q∨((λx y H Q=>∃i j,x=.str i/\y=.str j/\i.length+j.length<=sizeLine/\Q (.str (i++j)) H) x y H Q∨cI K x y H Q)
theorem aJ:OpR X (g9 .Add) (rAdd X.K):=eZ.or (Sg.or aH)
theorem aK:Cy G (rAdd G.K) addD:=by
 intro A H x y dx W d Q S rx z h k;unfold addD at h;split at h
 .cases h;exact .inl ⟨_,_,rx.int,z.int,k _ H (Same.refl H) (.int _)⟩
 .split at h
  .rename_i O;cases h;exact .inr (.inl ⟨_,_,rx.str,z.str,O,k _ H (Same.refl H) (.str _)⟩)
  .cases h
 .split at h
  .rename_i O;cases h;obtain⟨l,J,rfl,U,F⟩:=rx.lst;obtain⟨m,I,rfl,T,L⟩:=z.lst;exact .inr (.inr ⟨l,m,J,I,rfl,rfl,U,T,by rw[F.1,L.1];exact O,λp g=>k _ _ (Ak g _) (Bb S g (F.append L))⟩)
  .cases h
 .cases h
theorem TF{op:BoolOp}(h:PF X G a fa):PF X G (.BoolOp op [a] pos) fa:=λA=>eO (@h A)
theorem TJ{rest:List Expr}(ha:PF X G a fa)(hb:PF X G (.BoolOp .And (b::rest) pos) fb):PF X G (.BoolOp .And (a::b::rest) pos) (andF fa fb):=λA=>Bt (eQ (@ha A) (@hb A)) λT H Q ⟨z,d,o,e,k⟩=>by
 unfold andF at e;split at e
 .rename_i I;refine⟨z,_,o,I,λv J g F=>?_⟩;cases F;refine⟨U2,rfl,?_⟩;rw[if_pos rfl];exact⟨z,d,o.mono g,e,λv O S L=>k v O (g.trans S) L⟩
 .rename_i I;refine⟨z,_,o,I,λv J g F=>?_⟩;cases F;refine⟨T2,rfl,?_⟩;rw[if_neg cp];cases e;exact k _ J g (.bl T2)
 .cases e
theorem fW(ha:PF X G a fa):PF X G (.UnaryOp .Not a pos) (notF fa):=λA=>Bt (eU (@ha A)) λL H Q ⟨g,d,o,e,k⟩=>by
 unfold notF at e;split at e
 .rename_i b I;refine⟨g,_,o,I,λv J z F=>?_⟩;cases F;cases e;exact⟨b,rfl,k _ J z (.bl _)⟩
 .cases e
variable {ga gb:FT}
theorem PFW.pt(h:PFW X G a ga):PFT X G a ga:=λA=>(@h A).pt
theorem Gz(h:PFT X G a ga):PFW X G (.BoolOp .Or [a] pos) ga:=λA=>Wt (@h A)
theorem Kp{rest:List Expr}(ha:PFT X G a ga)(hb:PFW X G (.BoolOp .Or (b::rest) pos) gb):PFW X G (.BoolOp .Or (a::b::rest) pos) (orT ga gb):=λA=>cH (b_ (@ha A) (@hb A)) λL H Q ⟨z,d,o,e,k⟩=>by
 unfold orT at e;split at e
 .rename_i F;cases e;exact⟨z,_,o,F,λI g=>iteT (k I g)⟩
 .rename_i F;exact⟨z,_,o,F,λI g=>iteF ⟨z,d,o.mono g,e,λJ S=>k J (g.trans S)⟩⟩
 .cases e
theorem GX(ha:PFT X G a ga):PFT X G (.UnaryOp .Not a pos) (notT ga):=λA=>Xf (eG (@ha A)) λJ H Q ⟨z,d,o,e,k⟩=>by
 unfold notT at e;cases g:ga z with
 |none=>rw[g] at e;cases e
 |some b=>rw[g] at e;cases e;exact⟨z,b,o,g,λI F=>k I F⟩
theorem LK{g d:Type}{xs:List g}{ys:List d}(h:xs.length=ys.length):xs.isEmpty=ys.isEmpty:=by
 cases xs<;>cases ys<;>simp at h ⊢
theorem EY(ha:PU X G a fa)(U:G.K=X.K)(T:∀whole,kH a X.env whole=(do let v <-whole;kK a.pos;kL [v] (truthy v)):=by intro _;rfl):PFT X G a (λρ=>(fa ρ).bind truD):=λA=>Xf (Wy (@ha A) T) λZ H Q ⟨ρ,b,o,e,k⟩=>by
 cases J:fa ρ with
 |none=>simp[J] at e
 |some d=>
  have L:truD d=Y2 b:=by simpa [J] using e
  refine⟨ρ,d,o,J,λv Y O F=>⟨b,?_,k Y O⟩⟩;rw[<-U];cases d with
  |non=>rw[F.non];exact (bE L).symm
  |bl b'=>rw[F.bl];exact (bE L).symm
  |int i=>rw[F.int];exact (bE L).symm
  |str y=>
   rw[F.str];simp only[truD] at L;split at L
   .rename_i S;exact⟨S,(bE L).symm⟩
   .cases L
  |lst W=>
   obtain⟨p,g,rfl,I,z⟩:=F.lst;refine .inl ⟨g,I,?_⟩;rw[LK z.1];exact (bE L).symm
  |tup W=>
   obtain⟨p,g,rfl,I,z⟩:=F.tup;refine .inr (.inl ⟨g,I,?_⟩);rw[LK z.1];exact (bE L).symm
  |_=>cases L
variable {fs:FA}
theorem Ac:PFA X G [] nilA:=λA=>cG Ep λg H Q ⟨d,z,o,e,k⟩=>by cases e;exact k [] H (Same.refl H) RepL.nil
theorem Af(ha:PF X G a fa)(hr:PFA X G es fs)(T:ai (a::es) X.env=(T2,eval a X.env)::ai es X.env:=by rfl):PFA X G (a::es) (Aa fa fs):=λA=>cG (CQ (@ha A) (@hr A) T) λW H Q ⟨g,Z,o,e,k⟩=>by
 unfold Aa at e;cases z:fa g with
 |none=>simp[z] at e
 |some d=>
  cases F:fs g with
  |none=>simp[z,F] at e
  |some I=>
   simp[z,F] at e;subst e;exact⟨g,d,o,z,λv H1 J O=>⟨g,I,o.mono J,F,λY U S L=>k _ U (J.trans S) (.cons (O.mono (Al S)) L)⟩⟩
theorem Xj{x1}(h:PFA X G es fs):PF X G (.Tuple es x1 pos) (tupF fs):=λA=>Bt (Sv (@h A)) λT H Q ⟨F,d,o,e,k⟩=>by
 unfold tupF at e;cases g:fs F with
 |none=>simp[g] at e
 |some z=>
  rw[g] at e;have L:(if z.length<=sizeLine then Y2 (D.tup z) else X2)=Y2 d:=e;split at L
  .rename_i S;cases L;exact⟨F,z,o,g,λU W I J=>⟨by rw[J.1];exact S,λp O=>k _ _ (I.trans (Ak O _)) (Hx (o.mono I).live O J)⟩⟩
  .cases L
theorem M6(h:PFA X G es fs):PF X G (.List es pos) (lstF fs):=λA=>Bt (Sw (@h A)) λT H Q ⟨F,d,o,e,k⟩=>by
 unfold lstF at e;cases g:fs F with
 |none=>simp[g] at e
 |some z=>
  rw[g] at e;have L:(if z.length<=sizeLine then Y2 (D.lst z) else X2)=Y2 d:=e;split at L
  .rename_i S;cases L;exact⟨F,z,o,g,λU W I J=>⟨by rw[J.1];exact S,λp O=>k _ _ (I.trans (Ak O _)) (Bb (o.mono I).live O J)⟩⟩
  .cases L
theorem Xk:Cy G (rIx G.K) ixD:=by
 intro A H x y dx U d Q T rx F h k;unfold ixD at h;split at h
 .obtain⟨p,g,rfl,O,I⟩:=rx.lst;obtain⟨v,J,L⟩:=I.atI h;exact .inl ⟨p,g,_,v,rfl,F.int,O,J,k v H (Same.refl H) L⟩
 .obtain⟨p,g,rfl,O,I⟩:=rx.tup;obtain⟨v,J,L⟩:=I.atI h;exact .inr (.inl ⟨p,g,_,v,rfl,F.int,O,J,k v H (Same.refl H) L⟩)
 .split at h
  .rename_i z i S;cases e:atI z.cps.toList i with
   |none=>rw[e] at h;cases h
   |some c=>
    rw[e] at h;cases h;exact .inr (.inr ⟨z,i,c,rx.str,F.int,S,e,k _ H (Same.refl H) (.str _)⟩)
  .cases h
 .cases h
theorem jR(U:G.K=X.K)(ha:PU X G a fa)(hb:PU X G b fb)(d:Jo b):PF X G (.Subscript a b pos) (bF ixD fa fb):=
 λA=>Bt (cC (r:=rIx X.K) W7 (@ha A) (@hb A) d) λ_ _ _ h=>M5 (by rw[<-U];exact Xk) h
def tFO(G:Gx)(A:List Addr)(f:FO):TO:=λg H Q=>∃ρ o,Okp G A g H ρ/\f ρ=Y2 o/\∀d,Same H d->Q o d
def PFO(X:Cx)(G:Gx)(e:Option Expr)(f:FO):Prop:=∀⦃A⦄,PO X e (tFO G A f)
theorem jT{e:Option Expr}{t t':TO}(h:PO X e t)(w:∀σ H Q,t' σ H Q->t σ H Q):PO X e t':=λd s σ H Q I q=>h d s σ H Q I (w σ H Q q)
theorem Q0(h:PU X G a fa):PFO X G (Y2 a) (someO fa):=λA=>jT (Zy (@h A)) λJ H Q ⟨g,o,ok,e,k⟩=>by
 unfold someO at e;split at e
 .rename_i i z;cases e;exact⟨g,_,ok,z,λv I d F=>⟨i,F.int,k I d⟩⟩
 .cases e
theorem RepL.cut{ds:List D}(r:RepL G H xs ds)(z d:Option Int):RepL G H (cutV xs z d) (cutD ds z d):=by
 unfold cutV cutD;rw[r.1];exact (r.drop _).take _
end
end PV
theorem L2.Room.unitsW{k:Nat}{A:PySem.Around}(r:L2.Room k A):A.units+190<PySem.cLine:=by have:=r.un;omega
namespace PV
open PySem PySem.Spec L2
open PyProof.Rows hiding St
section
variable {G:Gx}{a b c:Expr}{fa fb:FE}{p2:Pos}
section
open Builtin.Str
theorem Q3(n:Nat)(v:Option Int)(d:Nat)(z:d<=n):(match v with | none=>(d:Int) | some i=>max 0 (min (if i<0 then i+(n:Int) else i) (n:Int)))=(HT.sIx n d v:Int):=by
 cases v with
 |none=>rfl
 |some i=>
  simp only[HT.sIx];split<;>omega
theorem aL(n d:Nat)(v:Option Int)(z:d<=n):HT.sIx n d v<=n:=by
 cases v with
 |none=>exact z
 |some i=>simp only[HT.sIx];split<;>omega
theorem TQ(z d:Option Int)(n:Nat):strSliceIndices z d 1 n=(bp (HT.sIx n n d-HT.sIx n 0 z)).map (λk=>HT.sIx n 0 z+k):=by
 have J:=Q3 n z 0 (eA _);have F:=Q3 n d n (ax _);have g:((1:Int) > 0):=by decide
 have e:strSliceIndices z d 1 n=oN (HT.sIx n 0 z:Int) (HT.sIx n n d:Int) 1:=by
  unfold strSliceIndices;simp only[g,if_true];exact congrFun (congr (congrArg oN J) F) 1
 rw[e];unfold oN;simp only[g,if_true];generalize HT.sIx n 0 z=a;generalize HT.sIx n n d=b;have I:(if (a:Int)<(b:Int) then ((b:Int)-a+1-1)/1 else 0).toNat=b-a:=by
  split
  .rw[qh];omega
  .omega
 rw[I];apply lE;intro k _;omega
theorem WL(x:Str)(z hi:Option Int):n8 x z hi=cutS x z hi:=by
 have S:=aL x.length x.length hi (ax _);have I:x.cps.toList.length=x.length:=by simp[ip]
 unfold n8 cutS cutD;rw[TQ,I];generalize HT.sIx x.length 0 z=a at *;generalize HT.sIx x.length x.length hi=b at *;rw[aw,oO];split
 .rename_i h;simp only[eD,beq_iff_eq] at h;have J:b-a=x.length:=h.2
  by_cases T:x.length=0
  .have:x.cps.toList=[]:=List.length_eq_zero_iff.mp (by omega);cases x with
   |mk c=>
    simp at this;subst this;simp
  .have L:a=0:=by omega
   subst L;have:b=x.length:=by omega
   subst this;rw[qG,Nat.sub_zero,oP (by omega)]
 .congr 1;apply congrArg;apply List.ext_getElem?;intro i;rw[qj];have d:∀m,m<=b-a->(List.filterMap ((λk=>x.cps[k]?) ∘ λk=>a+k) (bp m))=((x.cps.toList.drop a).take m):=by
   intro m
   induction m with
   |zero=>intro _;simp
   |succ m F=>
    intro O;rw[oQ,List.filterMap_append,F (by omega)];have g:a+m<x.cps.size:=by have:x.length=x.cps.size:=rfl;omega
    rw[List.take_succ_eq_append_getElem (by simp;omega)];simp[g]
  rw[d _ (ax _)]
end
def rSlS:V->Option Int->Option Int->Hp->VK->Prop:=λx d g H Q=>∃z,x=.str z/\z.length<=sizeLine/\Q (.str (n8 z d g)) H
theorem fY:SlR X rSlS:=by
 intro Z s W H x v vl vu T U sl Q I rx hs pl pu h;obtain⟨z,rfl,hz,q⟩:=h;obtain⟨t,rfl⟩:=rx;obtain⟨o,J,g,d⟩:=hs;have fin:∀O k,EP X Z W Q (.str (n8 z T U) O) { s with toks:=k }:=λO k=>⟨.str _,H,I.tok _,⟨O,rfl⟩,q⟩;have Y:=cE (Txt.slice_le z T U) hz;refine⟨"str",_,PySem.F.slot_str_getitem.lookup,oB _ _ _,?_⟩;cases pl with
 |none=>
  cases pu with
  |none=>exact n9 (l:=X2) (u:=X2) (st:=X2) ⟨o,J,g,d⟩ rfl (nc ⟨Y,fin⟩)
  |int j L=>exact n9 (l:=X2) (u:=Y2 (j,L)) (st:=X2) ⟨o,J,g,d⟩ rfl (nc ⟨Y,fin⟩)
 |int i S=>
  cases pu with
  |none=>exact n9 (l:=Y2 (i,S)) (u:=X2) (st:=X2) ⟨o,J,g,d⟩ rfl (nc ⟨Y,fin⟩)
  |int j L=>exact n9 (l:=Y2 (i,S)) (u:=Y2 (j,L)) (st:=X2) ⟨o,J,g,d⟩ rfl (nc ⟨Y,fin⟩)
def rSl(K:av):V->Option Int->Option Int->Hp->VK->Prop:=λx z d H Q=>rSlL K x z d H Q∨(rSlT K x z d H Q∨rSlS x z d H Q)
theorem fZ:SlR X (rSl X.K):=Z1.or (fG.or fY)
theorem Xl{lo hi:Option Expr}{Z gh:FO}(hG:G.K=X.K)(ha:PU X G a fa)(hl:PFO X G lo Z)(hh:PFO X G hi gh):PF X G (.Subscript a (.Slice lo hi X2 p2) pos) (slF fa Z gh):=λA=>Bt (W6 (fZ (X:=X)) (@ha A) (@hl A) (@hh A)) λσ H Q ⟨g,d,o,e,k⟩=>by
 unfold slF at e;cases z:fa g with
 |none=>simp[z] at e
 |some x=>
  cases J:Z g with
  |none=>simp[z,J] at e
  |some l=>
   cases e3:gh g with
   |none=>simp[z,J,e3] at e
   |some h=>
    have L:slD x l h=Y2 d:=by simpa [z,J,e3] using e
    refine⟨g,x,o,z,λv H1 I r1=>⟨g,l,o.mono I,J,λH2 F=>⟨g,h,(o.mono I).mono F,e3,λH3 W=>?_⟩⟩⟩;have U:=(r1.mono F).mono W;have o3:=((o.mono I).mono F).mono W;have T:=I.trans (F.trans W);unfold slD at L;split at L
    .cases L;obtain⟨p,O,rfl,Y,r⟩:=U.lst;exact .inl ⟨p,O,rfl,by rw[<-hG];exact Y,λq S=>k _ _ (T.trans (Ak S _)) (Bb o3.live S (r.cut _ _))⟩
    .split at L
     .cases L
     .rename_i hw;cases L;obtain⟨p,O,rfl,Y,r⟩:=U.tup;exact .inr (.inl ⟨p,O,rfl,by rw[<-hG];exact Y,by rw[r.1];exact hw,λq S=>k _ _ (T.trans (Ak S _)) (Hx o3.live S (r.cut _ _))⟩)
    .split at L
     .rename_i hz;cases L;refine .inr (.inr ⟨_,U.str,hz,?_⟩);rw[WL];exact k _ _ T (.str _)
     .cases L
    .cases L
theorem QC{u:V}{d:D}(r:RepT G A H v d)(h:flV d=Y2 u):v=u/\Hn v=U2:=by
 cases d with
 |non=>cases h;rw[r.non];exact⟨rfl,rfl⟩
 |bl b=>cases h;rw[r.bl];exact⟨rfl,rfl⟩
 |int b=>cases h;rw[r.int];exact⟨rfl,rfl⟩
 |str b=>cases h;rw[r.str];exact⟨rfl,rfl⟩
 |_=>cases h
theorem Q4{H:Hp}:∀{ds:List D}{xs us:List V},RepL G H xs ds->flVs ds=Y2 us->xs=us/\xs.all Hn=U2
 |[],xs,us,r,h=>by cases h;rw[r.nil_inv];exact⟨rfl,rfl⟩
 |d::ds,xs,us,r,h=>by
  obtain⟨x,S,rfl,O,L⟩:=r.uncons;unfold flVs at h;cases g:flV d with
  |none=>simp[g] at h
  |some v=>
   cases F:flVs ds with
   |none=>simp[g,F] at h
   |some T=>
    simp[g,F] at h;subst h;have q:Rep G (hid [] H) x d:=O.mono λb o z=>z;obtain⟨Z,Y⟩:=QC (A:=[]) (.inl q) g;obtain⟨J,I⟩:=Q4 L F;subst Z;subst J;exact⟨rfl,by rw[mV,Y,I];rfl⟩
def rInA(K:av)(d:Bool):R2:=λx y H Q=>rIn K d x y H Q∨∃i j,x=.str i/\y=.str j/\Q (.bl (if d then !(!(jI j i 0 j.length 1).isEmpty) else !(jI j i 0 j.length 1).isEmpty)) H
theorem Xm:OpR X (bX .In) (rInA X.K T2):=V_.or V5
theorem WM:OpR X (bX .NotIn) (rInA X.K U2):=P0.or Pq
theorem fj(g:Bool):Cy G (rInA G.K g) (inD g):=by
 intro A H x y dx dy d Q lv rx L h k;have seq:∀{I:List D}{p:Addr}{z:List V},y=.ref p->(SqL G.K H p z∨SqT G.K H p z)->RepL G (hid A H) z I->((flV dx).bind λv=>(flVs I).map λJ=>D.bl (if g then !inV v J else inV v J))=Y2 d->rIn G.K g x y H Q:=λ{I p z} ey W r h=>by
  cases F:flV dx with
  |none=>simp[F] at h
  |some v=>
   cases S:flVs I with
   |none=>simp[F,S] at h
   |some J=>
    rw[F,S] at h;cases h;obtain⟨Z,Y⟩:=QC rx F;obtain⟨U,T⟩:=Q4 r S;subst Z;subst U;exact⟨p,z,ey,W,Y,T,k _ H (Same.refl H) (.bl _)⟩
 unfold inD at h;split at h
 .cases h;exact .inr ⟨_,_,rx.str,L.str,k _ H (Same.refl H) (.bl _)⟩
 .obtain⟨p,z,e,O,r⟩:=L.lst;exact .inl (seq e (.inl O) r h)
 .obtain⟨p,z,e,O,r⟩:=L.tup;exact .inl (seq e (.inr O) r h)
 .cases h
def eAt(f:D->D->Option Bool)(xs ys:List D)(j:Nat):Bool:=match xs[j]?,ys[j]? with | some x,Y2 y=>(f x y).getD T2 | _,_=>T2
theorem Kq{f:D->D->Option Bool}:∀{xs ys:List D}{b:Bool},allO f xs ys=Y2 b->xs.length=ys.length/\(∀(j:Nat) x y,xs[j]?=Y2 x->ys[j]?=Y2 y->f x y=Y2 (eAt f xs ys j))/\b=(bp xs.length).all (eAt f xs ys)
 |[],[],b,h=>by cases h;exact⟨rfl,λj x y h=>by simp at h,rfl⟩
 |[],_::_,b,h=>by cases h
 |_::_,[],b,h=>by cases h
 |x::xs,y::ys,b,h=>by
  unfold allO at h;split at h
  .rename_i a c d J;cases h;obtain⟨I,F,O⟩:=Kq J;refine⟨by simp[I],λj u v S g=>?_,?_⟩
   .cases j with
    |zero=>simp at S g;subst S;subst g;rw[d];simp[eAt,d]
    |succ j=>
     have:=F j u v (by simpa using S) (by simpa using g);rw[this];simp[eAt]
   .rw[df,List.range_succ_eq_map,mV,List.all_map];have z:eAt f (x::xs) (y::ys) 0=a:=by simp[eAt,d]
    rw[z,O];rfl
  .cases h
theorem Xn{u:V}(h:Hn u=U2):eqV u u=U2:=by
 cases u<;>simp[eqV]<;>cases h
theorem Lz{d:D}{u:V}(r:Rep G H v d)(h:flV d=Y2 u):v=u/\Hn v=U2:=QC (A:=[]) (.inl (r.mono λb o z=>by rw[Ao List.not_mem_nil];exact z)) h
section
theorem Q5(I:Inv X π σ H s)(U:G.K=X.K):∀(n:Nat) {x y:D}{v:V}{b:Bool},eqK n x y=Y2 b->Rep G H v x->Rep G H v y->b=U2:=by
 have g:∀{x y:D}{v:V}{b:Bool},flD x y=Y2 b->Rep G H v x->Rep G H v y->b=U2:=λ{x y v b} h rx z=>by
  unfold flD at h;cases e1:flV x with
  |none=>simp[e1] at h
  |some u=>
   cases e2:flV y with
   |none=>simp[e1,e2] at h
   |some w=>
    simp[e1,e2] at h;obtain⟨z1,z2⟩:=Lz rx e1;obtain⟨z3,_⟩:=Lz z e2;rw[<-h,<-z1,<-z3];exact Xn z2
 intro n
 induction n with
 |zero=>intro x y v b h rx z;exact g h rx z
 |succ n ih=>
  have d:∀{W:List V}{T es:List D}{b:Bool},allO (eqK n) T es=Y2 b->RepL G H W T->RepL G H W es->b=U2:=λ{W T es b} h F O=>by
   obtain⟨S,L,h3⟩:=Kq h;rw[h3,gz];intro j hj;have J:j<T.length:=eW.mp hj;have hx:W[j]?=Y2 (W[j]'(by rw[F.1];exact J)):=by simp[F.1,J]
   have hd:T[j]?=Y2 T[j]:=by simp[J]
   have he:es[j]?=Y2 (es[j]'(by omega)):=cy (by omega);exact ih (L j _ _ hd he) (F.2 j _ _ hx hd) (O.2 j _ _ hx he)
  intro x y v b h rx z;unfold eqK eqS at h;split at h
  .split at h
   .cases rx with
    |lst S Z F=>
     cases z with
     |lst L Y O=>
      have e:=I.list_inj (by rw[<-U];exact S) (by rw[<-U];exact L);subst e;exact d h ⟨Z,F⟩ ⟨Y,O⟩
   .rename_i u0;cases rx with
    |lst S Z F=>
     cases z with
     |lst L Y O=>
      have e:=I.list_inj (by rw[<-U];exact S) (by rw[<-U];exact L);subst e;exact absurd (Z.symm.trans Y) u0
  .split at h
   .cases rx with
    |tup S Z F=>
     cases z with
     |tup L Y O=>
      have e:=I.tuple_inj (by rw[<-U];exact S) (by rw[<-U];exact L);subst e;exact d h ⟨Z,F⟩ ⟨Y,O⟩
   .cases h
  .exact g h rx z
theorem G3{A:ar}{ds g:List D}{b:Bool}{d:List ac}(ih:∀{x y:D}{v w:V}{L J:ac}{b:Bool},eqK n x y=Y2 b->Rep G H v x->Rep G H w y->RelV v L->RelV w J->gv A s L J b)(h:allO (eqK n) ds g=Y2 b)(S:RepL G H xs ds)(O:RepL G H ys g)(I:Vals xs its)(F:Vals ys d):
  its.toArray.size=d.toArray.size/\b=(bp its.toArray.size).all (eAt (eqK n) ds g)/\∀j (h1:j<its.toArray.size) (h2:j<d.toArray.size),gv A s its.toArray[j] d.toArray[j] (eAt (eqK n) ds g j):=by
 obtain⟨h1,h2,h3⟩:=Kq h;have l1:=I.length;have l2:=F.length;have q1:=S.1;have q2:=O.1;have z1:its.toArray.size=ds.length:=by rw[bP];omega
 refine⟨by rw[bP,bP];omega,by rw[z1];exact h3,λj U T=>?_⟩;rw[bP] at U T;have jx:j<xs.length:=by omega
 have jy:j<ys.length:=by omega
 have Y:xs[j]?=Y2 xs[j]:=by simp[jx]
 have W:ys[j]?=Y2 ys[j]:=by simp[jy]
 have hd:ds[j]?=Y2 (ds[j]'(by omega)):=cy (by omega);have Z:g[j]?=Y2 (g[j]'(by omega)):=cy (by omega);obtain⟨u,eu,ru⟩:=I.get Y;obtain⟨w,ew,z⟩:=F.get W;have a1:its.toArray[j]=u:=by simpa [cy U] using eu
 have a2:d.toArray[j]=w:=by simpa [cy T] using ew
 rw[a1,a2];exact ih (h2 j _ _ hd Z) (S.2 j _ _ Y hd) (O.2 j _ _ W Z) ru z
theorem QD{ds g:List D}{d:List ac}(h:ds.length≠g.length)(z:RepL G H xs ds)(L:RepL G H ys g)(I:Vals xs its)(F:Vals ys d):(its.toArray.size != d.toArray.size)=U2:=by
 have Z:=I.length;have Y:=F.length;have q1:=z.1;have q2:=L.1;rw[bP,bP];exact bne_iff_ne.mpr (by omega)
theorem Kr(I:Inv X π σ H s)(U:G.K=X.K):∀(n:Nat) (A:ar),A.units+n<aE->∀{x y:D}{v w:V}{L J:ac}{b:Bool},eqK n x y=Y2 b->Rep G H v x->Rep G H w y->RelV v L->RelV w J->gv A s L J b:=by
 have g:∀{A:ar}{x y:D}{v w:V}{L J:ac}{b:Bool},flD x y=Y2 b->Rep G H v x->Rep G H w y->RelV v L->RelV w J->gv A s L J b:=λ{A x y v w L J b} h rx z q1 q2=>by
  unfold flD at h;cases e1:flV x with
  |none=>simp[e1] at h
  |some u=>
   cases e2:flV y with
   |none=>simp[e1,e2] at h
   |some w=>
    simp[e1,e2] at h;obtain⟨Z,z2⟩:=Lz rx e1;obtain⟨W,z4⟩:=Lz z e2;rw[<-h,<-Z,<-W];exact W8 q1 q2 z2 z4
 intro n
 induction n with
 |zero=>intro A hu x y v w L J b h rx z q1 q2;exact g h rx z q1 q2
 |succ n ih=>
  intro A hu x y v w L J b h rx z q1 q2;have h':=h;have y0:A.in1.units+n<aE:=by show A.units+1+n<aE;omega
  have F:A.units<aE:=by omega
  unfold eqK eqS at h;split at h
  .cases rx with
   | @lst a _ _ h1 T S=>
    cases z with
    | @lst c _ _ h2 Y O=>
     obtain rfl:L=.ref a:=q1;obtain rfl:J=.ref c:=q2;obtain⟨v0,v1,p1,_⟩:=I.list (by rw[<-U];exact h1);obtain⟨u0,v2,p2,_⟩:=I.list (by rw[<-U];exact h2)
     by_cases d:a=c
     .subst d;have:=Q5 I U (n+1) h' (.lst h1 T S) (.lst h2 Y O);subst this;exact oC _
     .split at h
      .obtain⟨Z,z2,W⟩:=G3 (λq=>ih A.in1 y0 q) h ⟨T,S⟩ ⟨Y,O⟩ v1 v2;rw[z2];exact oR d (qH p1.isList p2.isList Z F W)
      .rename_i B0;cases h;exact oR d (qI p1.isList p2.isList (QD B0 ⟨T,S⟩ ⟨Y,O⟩ v1 v2) F)
  .cases rx with
   | @tup a _ _ h1 T S=>
    cases z with
    | @tup c _ _ h2 Y O=>
     obtain rfl:L=.ref a:=q1;obtain rfl:J=.ref c:=q2;obtain⟨v0,v1,p1,_⟩:=I.tuple (by rw[<-U];exact h1);obtain⟨u0,v2,p2,_⟩:=I.tuple (by rw[<-U];exact h2)
     by_cases d:a=c
     .subst d;have:=Q5 I U (n+1) h' (.tup h1 T S) (.tup h2 Y O);subst this;exact oC _
     .split at h
      .obtain⟨Z,z2,W⟩:=G3 (λq=>ih A.in1 y0 q) h ⟨T,S⟩ ⟨Y,O⟩ v1 v2;have q:=qJ (show s.heap.IsTuple a v0.toArray from p1) (show s.heap.IsTuple c u0.toArray from p2) F W;rw[Z,oS,beq_self_eq_true,oU,<-Z,<-z2] at q;exact oR d q
      .cases h
  .exact g h rx z q1 q2
end
def rEqP(G:Gx)(d:Bool):R2:=λx y H Q=>∃(A:List Addr) (ds g:List D) (b:Bool),eqvD (.lst ds) (.lst g)=Y2 b/\((RepT G A H x (.lst ds)/\RepT G A H y (.lst g))∨(ds.length=g.length/\RepT G A H x (.tup ds)/\RepT G A H y (.tup g)))/\Q (.bl (if d then !b else b)) H
theorem fu(U:G.K=X.K)(hu:X.A.units+190<aE):OpR X (bX .Eq) (rEqP G T2):=by
 intro π s σ H x y v u Q I rx ry h;obtain⟨A,ds,es,b,e,hr,k⟩:=h;have fin:EP X π σ Q (.bool b) s:=⟨.bl b,H,I,rfl,k⟩;simp only[eqvD] at e
 rcases hr with ⟨T,S⟩ | ⟨hl,T,S⟩
 .obtain⟨a,xs,rfl,h1,q1⟩:=T.lst;obtain⟨c,ys,rfl,h2,q2⟩:=S.lst;cases rx;cases ry;obtain⟨g,z,L,_⟩:=I.list (by rw[<-U];exact h1);obtain⟨d,F,J,_⟩:=I.list (by rw[<-U];exact h2);split at e
  .obtain⟨Z,Y,O⟩:=G3 (λq=>Kr I U 180 X.A.in1 (by show X.A.units+1+180<aE;omega) q) e (q1.mono Aj) (q2.mono Aj) z F;exact qH L.isList J.isList Z (by omega) O _ _ _ _ (by rw[<-Y];exact fin)
  .rename_i W;cases e;exact qI L.isList J.isList (QD W q1 q2 z F) (by omega) _ _ _ _ fin
 .obtain⟨a,xs,rfl,h1,q1⟩:=T.tup;obtain⟨c,ys,rfl,h2,q2⟩:=S.tup;cases rx;cases ry;obtain⟨g,z,L,_⟩:=I.tuple (by rw[<-U];exact h1);obtain⟨d,F,J,_⟩:=I.tuple (by rw[<-U];exact h2);rw[if_pos hl] at e;obtain⟨Z,Y,O⟩:=G3 (λq=>Kr I U 180 X.A.in1 (by show X.A.units+1+180<aE;omega) q) e (q1.mono Aj) (q2.mono Aj) z F;have q:=qJ (show s.heap.IsTuple a g.toArray from L) (show s.heap.IsTuple c d.toArray from J) (by omega) O;rw[Z,oS,beq_self_eq_true,oU,<-Z,<-Y] at q;exact q _ _ _ _ fin
theorem gA(U:G.K=X.K)(hu:X.A.units+190<aE):OpR X (bX .NotEq) (rEqP G U2):=by
 intro π s σ H x y v u Q I rx ry h;obtain⟨A,ds,es,b,e,hr,k⟩:=h;have fin:EP X π σ Q (.bool (!b)) s:=⟨.bl (!b),H,I,rfl,k⟩;simp only[eqvD] at e
 rcases hr with ⟨T,S⟩ | ⟨hl,T,S⟩
 .obtain⟨a,xs,rfl,h1,q1⟩:=T.lst;obtain⟨c,ys,rfl,h2,q2⟩:=S.lst;cases rx;cases ry;obtain⟨g,z,L,_⟩:=I.list (by rw[<-U];exact h1);obtain⟨d,F,J,_⟩:=I.list (by rw[<-U];exact h2);split at e
  .obtain⟨Z,Y,O⟩:=G3 (λq=>Kr I U 180 X.A.in1 (by show X.A.units+1+180<aE;omega) q) e (q1.mono Aj) (q2.mono Aj) z F;exact SeqAt.RcNeAt.lists L.isList J.isList Z (by omega) O _ _ _ _ (by rw[<-Y];exact fin)
  .rename_i W;cases e;exact SeqAt.RcNeAt.lists_lengths L.isList J.isList (QD W q1 q2 z F) (by omega) _ _ _ _ fin
 .obtain⟨a,xs,rfl,h1,q1⟩:=T.tup;obtain⟨c,ys,rfl,h2,q2⟩:=S.tup;cases rx;cases ry;obtain⟨g,z,L,_⟩:=I.tuple (by rw[<-U];exact h1);obtain⟨d,F,J,_⟩:=I.tuple (by rw[<-U];exact h2);rw[if_pos hl] at e;obtain⟨Z,Y,O⟩:=G3 (λq=>Kr I U 180 X.A.in1 (by show X.A.units+1+180<aE;omega) q) e (q1.mono Aj) (q2.mono Aj) z F;have q:=SeqAt.RcNeAt.tuples (show s.heap.IsTuple a g.toArray from L) (show s.heap.IsTuple c d.toArray from J) (by omega) O;rw[Z,oS,beq_self_eq_true,oU,<-Z,<-Y] at q;exact q _ _ _ _ fin
def rEqA(G:Gx)(d:Bool):R2:=λx y H Q=>(λx y H Q=>scal x y=U2/\Q (.bl (if d then !decide (x=y) else decide (x=y))) H) x y H Q∨rEqP G d x y H Q
theorem Xo(U:G.K=X.K)(S:X.A.units+190<aE):OpR X (bX .Eq) (rEqA G T2):=jD.or (fu U S)
theorem gB(U:G.K=X.K)(S:X.A.units+190<aE):OpR X (bX .NotEq) (rEqA G U2):=jE.or (gA U S)
theorem QF{d g:Type}[DecidableEq d][DecidableEq g]{f:d->g}(h:∀a b,f a=f b->a=b)(a b:d):decide (f a=f b)=decide (a=b):=by
 by_cases e:a=b
 .subst e;simp
 .rw[decide_eq_false e,decide_eq_false λz=>e (h a b z)]
theorem TV(F:Bool):Cy G (rEqA G F) (eqD F):=by
 intro A H x y dx I d Q J rx g h k;unfold eqD at h;cases e:eqvD dx I with
 |none=>simp[e] at h
 |some b=>
  simp only[e,eB] at h;cases h;unfold eqvD at e;split at e
  .cases e;rw[rx.int,g.int];refine .inl ⟨rfl,?_⟩;rw[QF (f:=V.int) (λa b z=>by cases z;rfl)];exact k _ H (Same.refl H) (.bl _)
  .cases e;rw[rx.str,g.str];refine .inl ⟨rfl,?_⟩;rw[QF (f:=V.str) (λa b z=>by cases z;rfl)];exact k _ H (Same.refl H) (.bl _)
  .cases e;rw[rx.bl,g.bl];refine .inl ⟨rfl,?_⟩;rw[QF (f:=V.bl) (λa b z=>by cases z;rfl)];exact k _ H (Same.refl H) (.bl _)
  .exact .inr ⟨A,_,_,b,e,.inl ⟨rx,g⟩,k _ H (Same.refl H) (.bl _)⟩
  .split at e
   .rename_i Y;exact .inr ⟨A,_,_,b,(by simp only[eqvD];rw[if_pos Y];exact e),.inr ⟨Y,rx,g⟩,k _ H (Same.refl H) (.bl _)⟩
   .cases e
  .cases e
def SndC(G:Gx)(r:List V->Hp->VK->Prop)(g:D->Option D):Prop:=∀(A:List Addr) (H:Hp) (x:V) (dx d:D) (Q:VK),(∀a∈A,Nt (H a))->RepT G A H x dx->g dx=Y2 d->(∀v z,Same H z->Rep G (hid A z) v d->Q v z)->r [x] H Q
theorem Ju{g:D->Option D}{ρ:Rho}{d:D}(h:uF g fa ρ=Y2 d):∃x,fa ρ=Y2 x/\g x=Y2 d:=by
 unfold uF at h;cases e:fa ρ with
 |none=>simp[e] at h
 |some x=>exact⟨x,rfl,by simpa [e] using h⟩
theorem Xp{g:D->Option D}(s:SndC G r g){A:List Addr}{z:St}{H:Hp}{Q:VK}(h:tF G A (uF g fa) z H Q):tCB r (cA (tT G A fa) tNil) z H Q:=by
 obtain⟨I,d,o,e,k⟩:=h;obtain⟨x,T,O⟩:=Ju e;exact⟨I,x,o,T,λv W F J=>s A W v x d Q (o.mono F).live J O λw U S L=>k w U (F.trans S) L⟩
theorem Bl{p:Pos}{id:String}{g:D->Option D}(L:Df X (.builtin id) r)(s:SndC G r g)(T:Gl X x)(J:X.mg x=X2)(F:dc x=Y2 (.builtin id))(ha:PU X G a fa)(I:x≠"__name__":=by decide)(d:(x==("__debug__":Str))=T2:=by decide)(z:ai [a] X.env=[(T2,eval a X.env)]:=by rfl):PF X G (.Call (.Name x p) [a] [] pos) (uF g fa):=
 λA=>Bt (Jl L T J F (CQ (@ha A) Ep z) I d z rfl) λ_ _ _ h=>Xp s h
theorem JC{p:Pos}{T:String}{g:D->Option D}(O:Df X (.type T) r)(s:SndC G r g)(L:Gl X x)(J:X.mg x=X2)(F:dc x=Y2 (.type T))(ha:PU X G a fa)(I:x≠"__name__":=by decide)(d:(x==("__debug__":Str))=T2:=by decide)(z:ai [a] X.env=[(T2,eval a X.env)]:=by rfl):PF X G (.Call (.Name x p) [a] [] pos) (uF g fa):=
 λA=>Bt (Kh O L J F (CQ (@ha A) Ep z) I d z rfl) λ_ _ _ h=>Xp s h
theorem JD:SndC G (λxs H Q=>∃x n,xs=[x]/\LenV G.K x H n/\Q (.int n) H) lenD:=by
 intro A H x dx d Q F rx h k;unfold lenD at h;split at h
 .split at h
  .rename_i O;cases h;rw[rx.str];exact⟨_,_,rfl,⟨O,rfl⟩,k _ H (Same.refl H) (.int _)⟩
  .cases h
 .cases h;obtain⟨p,xs,rfl,g,r⟩:=rx.lst;exact⟨_,_,rfl,.inl ⟨xs,g,rfl⟩,by rw[r.1];exact k _ H (Same.refl H) (.int _)⟩
 .cases h;obtain⟨p,xs,rfl,g,r⟩:=rx.tup;exact⟨_,_,rfl,.inr ⟨xs,g,rfl⟩,by rw[r.1];exact k _ H (Same.refl H) (.int _)⟩
 .cases h
theorem Cd(U:G.K=X.K):Df X (.builtin "len") (λxs H Q=>∃x n,xs=[x]/\LenV G.K x H n/\Q (.int n) H):=by rw[U];exact Wz
theorem Xq:SndC G (λxs H Q=>∃p ys,xs=[.ref p]/\(SqL G.K H p ys∨SqT G.K H p ys)/\∀l,H l=X2->Q (.ref l) (upd H l (.lst ys))) Xe:=by
 intro A H x dx d Q F rx h k;unfold Xe at h;split at h
 .cases h;obtain⟨p,xs,rfl,g,r⟩:=rx.lst;exact⟨p,xs,rfl,.inl g,λl Y=>k _ _ (Ak Y _) (Bb F Y r)⟩
 .cases h;obtain⟨p,xs,rfl,g,r⟩:=rx.tup;exact⟨p,xs,rfl,.inr g,λl Y=>k _ _ (Ak Y _) (Bb F Y r)⟩
 .cases h
theorem Ui:SndC G (λxs H Q=>(∃i,xs=[.int i]/\Q (.int i) H)∨∃k,xs=[.bl k]/\Q (.int (if k then 1 else 0)) H) intD:=by
 intro A H x dx d Q F rx h k;unfold intD at h;split at h
 .cases h;exact .inl ⟨_,by rw[rx.int],k _ H (Same.refl H) (.int _)⟩
 .cases h;exact .inr ⟨_,by rw[rx.bl],k _ H (Same.refl H) (.int _)⟩
 .cases h
end
def cJ(G:Gx)(z H g:Hp)(x:V)(d:D):Prop:=Same H g/\∀B:List Addr,(∀a∈B,Nt (H a))->Same z (hid B H)->Rep G (hid B g) x d
theorem Jd{G:Gx}{x:V}{d:D}(h:H'=H/\Rep G F2 x d):cJ G F2 H H' x d:=by
 obtain⟨rfl,r⟩:=h;exact⟨Same.refl _,λB _ g=>r.mono g⟩
structure Src (G:Gx) (J:It) (ds:List D) (F1 F2:Hp):Prop where
 go:∀i H,Same F1 H->i<ds.length->J.go i H
 yld:∀i H x H' d,Same F1 H->ds[i]?=Y2 d->J.yld i H x H'->cJ G F2 H H' x d
 stop:∀i H,Same F1 H->ds.length<=i->J.stop i H
def tI(G:Gx)(A:List Addr)(top:Bool)(f:FI):TI:=λg H R=>∃ρ ds,Okp G A g H ρ/\f ρ=Y2 ds/\∀J z,Same H z->Src G J ds (if top then z else hid A z) (hid A z)->R J z
def PFI(X:Cx)(G:Gx)(top:Bool)(z e:Expr)(f:FI):Prop:=∀⦃A⦄,PI X z e (tI G A top f)
theorem M7{t t':TI}(h:PI X tg e t)(w:∀σ H Q,t' σ H Q->t σ H Q):PI X tg e t':=λd s σ H Q I q=>h d s σ H Q I (w σ H Q q)
theorem piOr{t t':TI}(h:PI X tg e t)(h':PI X tg e t'):PI X tg e (λσ H R=>t σ H R∨t' σ H R):=λd s σ H Q I q=>by
 rcases q with q | q
 .exact h d s σ H Q I q
 .exact h' d s σ H Q I q
section
variable {G:Gx}{a:Expr}{fa:FE}
theorem aM{ds:List D}(h:SqT G.K F1 p xs)(r:RepL G F2 xs ds):Src G (Itt G.K p) ds F1 F2 where
 go:=λi H s g=>⟨xs,xs[i]'(by rw[r.1];exact g),Fo s h,by simp[r.1,g]⟩
 yld:=λi H x F d s z y=>Jd ⟨y.1,r.2 i x d (y.2 xs (Fo s h)) z⟩
 stop:=λi H s g=>⟨xs,Fo s h,by rw[r.1];exact g⟩
theorem aN(U:G.K=X.K)(h:PF X G a fa):PFI X G T2 tg a (seqI fa):=λA=>M7 (piOr (Pn (@h A)) (eY (@h A))) λT H R ⟨O,W,o,e,k⟩=>by
 unfold seqI at e;split at e
 .rename_i J I;cases e;refine .inl ⟨O,_,o,I,λv L g F=>?_⟩;cases F with
  |lst h l r=>exact⟨_,rfl,⟨_,by rw[<-U];exact Aj.seq h⟩,by rw[<-U];exact k _ L g { go:=λi H s z=>⟨_,_,s.seq h,by simp[l,z];rfl⟩,yld:=λi H x Y d s S y=>Jd ⟨y.1,r i x d (y.2 _ (s.seq h)) S⟩,stop:=λi H s z=>⟨_,s.seq h,by rw[l];exact z⟩ }⟩
 .rename_i J I;cases e;refine .inr ⟨O,_,o,I,λv L g F=>?_⟩;cases F with
  |tup h l r=>exact⟨_,rfl,⟨_,by rw[<-U];exact Fo Aj h⟩,by rw[<-U];exact k _ L g (aM h ⟨l,r⟩)⟩
 .cases e
theorem Xr{d:D}(h:(rngD n)[i]?=Y2 d):d=.int i:=by
 unfold rngD at h;rw[be] at h;cases e:(bp n)[i]? with
 |none=>rw[e] at h;cases h
 |some j=>
  rw[e] at h;have:=(de.mp e);obtain⟨z,g⟩:=this;rw[List.getElem_range] at g;subst g;exact (bE h).symm
theorem aO:Src G (Itr 0 n) (rngD n) F1 F2 where
 go:=λi H s g=>by unfold rngD at g;show i<n;simpa using g
 yld:=λi H x I d s F y=>by
  obtain⟨z,Z⟩:=y;rw[Xr F,Z,Int.zero_add];exact Jd ⟨z,.int _⟩
 stop:=λi H s g=>by unfold rngD at g;show n<=i;simpa using g
theorem Ez{top:Bool}{p:Pos}(T:Gl X "range")(I:X.mg "range"=X2)(h:PU X G a fa)(d:ai [a] X.env=[(T2,eval a X.env)]:=by rfl):PFI X G top tg (.Call (.Name "range" p) [a] [] pos) (rngI fa):=λA=>M7 (V3 T I (CQ (@h A) Ep d) d) λO H R ⟨g,S,o,e,k⟩=>by
 unfold rngI at e;split at e
 .rename_i j J;split at e
  .rename_i W;cases e;exact⟨g,_,o,J,λv L z F=>⟨j,by rw[F.int],W.1,W.2,k _ L z aO⟩⟩
  .cases e
 .cases e
end
structure OkW (G:Gx) (A0:List Addr) (He:Hp) (A:List Addr) (σ:St) (H:Hp) (ρ:Rho):Prop where
 same:Same He H
 sub:∀a∈A0,a∈A
 fr:∀a∈A,a∈A0∨He a=X2
 l0:∀a∈A0,He a≠X2
 ok:Okp G A σ H ρ
 ow0:∀(i:Nat) (d:D) (a:Addr),ρ[i]?=Y2 (.ow d)->σ[i]?=Y2 (Y2 (.ref a))->a∉A0
 lt:∀(x:Addr) (d:D),G.lent=Y2 x->ρ[0]?=Y2 (.ow d)->σ[0]?=Y2 (Y2 (.ref x))
def OkS(G:Gx)(A0:List Addr)(He:Hp)(g:St)(H:Hp)(ρ:Rho):Prop:=∃A,OkW G A0 He A g H ρ
def M8(G:Gx)(A0:List Addr)(He:Hp)(D:Ends):Out->Prop
 |.nx ρ=>∀g H,OkS G A0 He g H ρ->D.nx g H
 |.rt d ρ=>∀v g H A,OkW G A0 He A g H ρ->Rep G (hid A H) v d->D.rt v H
 |.bk ρ=>∀g H,OkS G A0 He g H ρ->D.bk g H
 |.ct ρ=>∀g H,OkS G A0 He g H ρ->D.ct g H
def tS(G:Gx)(A0:List Addr)(He:Hp)(g:FS):TS:=λD d H=>∃ρ o,OkS G A0 He d H ρ/\g ρ=Y2 o/\M8 G A0 He D o
def PSD(X:Cx)(G:Gx)(st:Stmt)(g:FS):Prop:=∀⦃A0⦄ He,PS X st (tS G A0 He g)
def PSDs(X:Cx)(G:Gx)(st:List Stmt)(g:FS):Prop:=∀⦃A0⦄ He,PSs X st (tS G A0 He g)
theorem Okp.set{G:Gx}{A:List Addr}{J:St}{H:Hp}{ρ:Rho}{v:V}{d:D}(o:Okp G A J H ρ)(r:Rep G (hid A H) v d)(i:Nat):Okp G A (J.set i (Y2 v)) H (ρ.set i (.fz d)):=by
 have F:∀(j:Nat) (z:Slot),(ρ.set i (.fz d))[j]?=Y2 z->(j=i/\z=.fz d/\i<ρ.length)∨(j≠i/\ρ[j]?=Y2 z):=λj z h=>by
  by_cases W:j=i
  .subst W
   by_cases Y:j<ρ.length
   .rw[gI Y] at h;exact .inl ⟨rfl,(bE h).symm,Y⟩
   .rw[lF (by simpa using gy.mp Y)] at h;cases h
  .rw[eC (bv W)] at h;exact .inr ⟨W,h⟩
 have g:∀(j:Nat),j≠i->(J.set i (Y2 v))[j]?=J[j]?:=λj W=>eC (bv W);refine⟨by rw[kU,kU];exact o.len,o.live,λj e h=>?_,λj e h=>?_,λj k e f p Z U S L=>?_⟩
 .rcases F j _ h with ⟨W,O,Y⟩ | ⟨W,O⟩
  .cases O;subst W;exact⟨v,by rw[gI (by rw[o.len];exact Y)],r⟩
  .obtain⟨u,q1,q2⟩:=o.fz j e O;exact⟨u,by rw[g j W];exact q1,q2⟩
 .rcases F j _ h with ⟨W,O,Y⟩ | ⟨W,O⟩
  .cases O
  .obtain⟨u,q1,q2⟩:=o.ow j e O;exact⟨u,by rw[g j W];exact q1,q2⟩
 .rcases F j _ Z with ⟨_,O,_⟩ | ⟨W,O⟩
  .cases O
  .rcases F k _ U with ⟨_,I,_⟩ | ⟨T,I⟩
   .cases I
   .rw[g j W] at S;rw[g k T] at L;exact o.inj j k e f p O I S L
theorem OkW.mono{G:Gx}{A0:List Addr}{He:Hp}{A:List Addr}{g:St}{H d:Hp}{ρ:Rho}(o:OkW G A0 He A g H ρ)(s:Same H d):OkW G A0 He A g d ρ:=⟨o.same.trans s,o.sub,o.fr,o.l0,o.ok.mono s,o.ow0,o.lt⟩
theorem OkW.set{G:Gx}{A0:List Addr}{He:Hp}{A:List Addr}{F:St}{H:Hp}{ρ:Rho}{v:V}{d:D}(o:OkW G A0 He A F H ρ)(r:Rep G (hid A H) v d)(i:Nat):OkW G A0 He A (F.set i (Y2 v)) H (ρ.set i (.fz d)):=⟨o.same,o.sub,o.fr,o.l0,o.ok.set r i,λj e a g L=>by
  have W:j≠i:=by
   intro z;subst z
   by_cases Y:j<ρ.length
   .rw[gI Y] at g;cases g
   .rw[lF (by simpa using gy.mp Y)] at g;cases g
  rw[eC (bv W)] at g L;exact o.ow0 j e a g L,λx e O I=>by
  by_cases J:i=0
  .subst J;cases ρ with
   |nil=>cases I
   |cons a r=>cases I
  .rw[eC J] at I ⊢;exact o.lt x e O I⟩
theorem OkW.base{G:Gx}{ρ:Rho}(o:OkW G A0 Hf A σ H ρ)(s:Same He Hf)(d:∀a∈A0,He a≠X2):OkW G A0 He A σ H ρ:=
 ⟨s.trans o.same,o.sub,λa g=>(o.fr a g).imp id λz=>s.free z,d,o.ok,o.ow0,o.lt⟩
theorem OkW.here{G:Gx}{ρ:Rho}(o:OkW G A0 He A σ H ρ):Same He (hid (A.filter λa=>decide (a∉A0)) H)/\OkW G A0 (hid (A.filter λa=>decide (a∉A0)) H) A σ H ρ:=by
 have g:∀b,b∈(A.filter λa=>decide (a∉A0))↔b∈A/\b∉A0:=λb=>by simp[cr]
 have F:Same He (hid (A.filter λa=>decide (a∉A0)) H):=λb u h=>by
  rw[Ao]
  .exact o.same b u h
  .intro z;obtain⟨Z,Y⟩:=(g b).mp z
   rcases o.fr b Z with q | q
   .exact Y q
   .rw[q] at h;cases h
 refine⟨F,Aj,o.sub,λa d=>?_,λa d h=>?_,o.ok,o.ow0,o.lt⟩
 .by_cases O:a∈A0
  .exact .inl O
  .right;unfold hid;rw[if_pos ((g a).mpr ⟨d,O⟩)]
 .rw[Ao (λz=>((g a).mp z).2 d)] at h;exact (o.ok.live a (o.sub a d)).ne h
theorem OkW.plain{G:Gx}{ρ:Rho}(sub:∀a∈A0,a∈B)(o:OkW G A0 (hid (B.filter λa=>decide (a∉A0)) H1) A σ H ρ):Same (hid B H1) (hid A H):=λb u h=>by
 unfold hid at h;split at h
 .cases h
 .rename_i d;have e:hid (B.filter λa=>decide (a∉A0)) H1 b=Y2 u:=by
   rw[Ao (λz=>d (cr.mp z).1)];exact h
  rw[Ao]
  .exact o.same b u e
  .intro z
   rcases o.fr b z with q | q
   .exact d (sub b q)
   .rw[q] at e;cases e
section
variable {G:Gx}{a b c:Expr}{fa:FE}{ga:FT}{rest body:List Stmt}{g gs gb:FS}
theorem Di:PSDs X G [] nxF:=λL J z s d H D I ⟨F,o,ok,e,k⟩=>by
 cases e;exact Lw z s d H D I (k d H ok)
theorem Ad(h1:PSD X G st g)(h2:PSDs X G rest gs):PSDs X G (st::rest) (seqF g gs):=λS O W s U H D I ⟨L,o,ok,e,k⟩=>by
 refine Fl (@h1 S O) (@h2 S O) W s U H D I ?_;unfold seqF at e;split at e
 .rename_i z Y;exact⟨L,_,ok,Y,λT Z F=>⟨z,o,F,e,k⟩⟩
 .rename_i J;refine⟨L,o,ok,e,?_⟩;cases o with
  |nx z=>exact absurd e (J z)
  |rt d z=>exact k
  |bk z=>exact k
  |ct z=>exact k
theorem Ae(h1:PSD X G st g):PSDs X G [st] g:=λL J=>Iz (@h1 L J)
theorem Dt(ht:PFT X G c ga)(h1:PSDs X G s1 g)(h2:PSDs X G s2 gs):PSD X G (.If c s1 s2 pos) (ifS ga g gs):=λL J O s F H D I ⟨d,o,⟨A,w⟩,e,k⟩=>by
 refine UL (@ht A) (@h1 L J) (@h2 L J) O s F H D I ?_;unfold ifS at e;split at e
 .rename_i z;exact⟨d,_,w.ok,z,λS s1=>iteT ⟨d,o,⟨A,w.mono s1⟩,e,k⟩⟩
 .rename_i z;exact⟨d,_,w.ok,z,λS s1=>iteF ⟨d,o,⟨A,w.mono s1⟩,e,k⟩⟩
 .cases e
theorem gC{ρ:Rho}{o:Out}{D:Ends}(w:OkW G A0 He A σ H ρ)(e:setF i fa ρ=Y2 o)(k:M8 G A0 He D o):tAsg (tF G A fa) (GR i) D σ H:=by
 unfold setF at e;cases z:fa ρ with
 |none=>simp[z] at e
 |some d=>
  simp only[z,eB] at e;cases e;exact⟨ρ,d,w.ok,z,λv J F I=>k _ _ ⟨A,(w.mono F).set I i⟩⟩
theorem aP{p:Pos}(h:∀te,PE X a te->PS X (.Assign [.Name x p] a pos) (tAsg te (GR i)))(ha:PF X G a fa):PSD X G (.Assign [.Name x p] a pos) (setF i fa):=λL J z s d H D I ⟨F,o,⟨A,w⟩,e,k⟩=>
 h _ (@ha A) z s d H D I (gC w e k)
theorem Ax(ha:PF X G a fa):PSD X G (.Return (Y2 a) pos) (retF fa):=λW U L s F H D I ⟨J,o,⟨A,w⟩,e,k⟩=>by
 refine Wu (@ha A) L s F H D I ?_;unfold retF at e;cases z:fa J with
 |none=>simp[z] at e
 |some d=>
  simp only[z,eB] at e;cases e;exact⟨J,d,w.ok,z,λv T O S=>k v F T A (w.mono O) S⟩
theorem CG(ha:PF X G a fa)(S:dA a X2 pos.line X.env=pure T2:=by rfl):PSD X G (.Expr a pos) (Dh fa):=λY U L s J H D I ⟨F,o,⟨A,w⟩,e,k⟩=>by
 refine Lx (@ha A) S L s J H D I ?_;unfold Dh at e;cases z:fa F with
 |none=>simp[z] at e
 |some d=>
  simp only[z,eB] at e;cases e;exact⟨F,d,w.ok,z,λv W O T=>k _ _ ⟨A,w.mono O⟩⟩
theorem Dc:PSD X G st badF:=λL J F s d H D I ⟨z,o,ok,e,k⟩=>by cases e
def tGD(G:Gx)(A0:List Addr)(He:Hp)(g:FG):TG:=λv I H Q=>∃A ρ d ρ',OkW G A0 He A I H ρ/\Rep G (hid A H) v d/\g d ρ=Y2 ρ'/\∀z F,OkS G A0 He z F ρ'->Q z F
def PGD(X:Cx)(G:Gx)(z:Expr)(g:FG):Prop:=∀⦃A0⦄ He,PG X z (tGD G A0 He g)
theorem Bm(h:PG X tg (GR i)):PGD X G tg (BV i):=λT S J s z H v u Q I r ⟨A,O,d,F,w,L,e,k⟩=>by
 cases e;exact h J s z H v u Q I r (k _ _ ⟨A,w.set L i⟩)
theorem M8.base{A0:List Addr}{He J:Hp}{D:Ends}{o:Out}(k:M8 G A0 He D o)(s:Same He J)(F:∀a∈A0,He a≠X2):M8 G A0 J D o:=by
 cases o with
 |nx I=>exact λz H ⟨A,w⟩=>k z H ⟨A,w.base s F⟩
 |rt d I=>exact λv z H A w r=>k v z H A (w.base s F) r
 |bk I=>exact λz H ⟨A,w⟩=>k z H ⟨A,w.base s F⟩
 |ct I=>exact λz H ⟨A,w⟩=>k z H ⟨A,w.base s F⟩
theorem Ea{it:Expr}{y0:FI}{fg:FG}(hp:kJ (ah X.prog X.w) X.A X.env X.xe)(hc:X.calm=U2)(hi:PFI X G T2 tg it y0)(hg:PGD X G tg fg)(hb:PSDs X G body gb)(hs:∀x,gL it X.env x=pure x:=by intro _;rfl):PSD X G (.For tg it body [] pos) (forS y0 fg gb):=λO He π s Z H D I ⟨U,o,⟨A,w⟩,e,k⟩=>by
 cases e1:y0 U with
 |none=>simp[forS,e1] at e
 |some z=>
  have e':forF (λd U=>(fg d U).bind gb) z U=Y2 o:=by
   have e2:forF (tgB fg gb) z U=Y2 o:=by simpa [forS,e1] using e
   exact e2
  have K0:PSs X body (λD Z H=>∃O He,tS G O He gb D Z H):=λπ s Z H D I ⟨O,He,q⟩=>@hb O He π s Z H D I q;have G0:PG X tg (λv Z H Q=>∃O He,tGD G O He fg v Z H Q):=λπ s Z H v u Q I r ⟨O,He,q⟩=>@hg O He π s Z H v u Q I r q;refine Kf hp hc (@hi A) G0 K0 hs π s Z H D I ⟨U,z,w.ok,e1,λJ H1 s1 sr=>?_⟩;obtain⟨C0,w2⟩:=(w.mono s1).here;have k2:=k.base C0 w.l0;generalize L0:hid (A.filter λa=>decide (a∉O)) H1=Hf at C0 w2 k2;refine⟨λi m F Y=>m=z.length-i/\i<=z.length/\∃T,OkS G O Hf F Y T/\forF (λd U=>(fg d U).bind gb) (z.drop i) T=Y2 o,⟨z.length,by simp,eA _,U,⟨A,w2⟩,by simpa using e'⟩,?_⟩;rintro i m D0 H3 ⟨rfl,N0,B0,⟨B,w3⟩,L⟩;have pl:Same (hid A H1) (hid B H3):=by rw[<-L0] at w3;exact OkW.plain w.sub w3
  by_cases u0:i<z.length
  .right;have hd:z[i]?=Y2 z[i]:=by simp[u0]
   have ed:z.drop i=z[i]::z.drop (i+1):=ko u0;rw[ed] at L;unfold forF at L;refine⟨sr.go i H3 (pl.trans Aj) u0,λF Y=>∃T,OkS G O Hf F Y T/\forF (λd U=>(fg d U).bind gb) (z.drop (i+1)) T=Y2 o,λF Y q=>⟨z.length-(i+1),by omega,rfl,u0,q⟩,λx Y y=>?_⟩;obtain⟨sy,rx⟩:=sr.yld i H3 x Y _ (pl.trans Aj) hd y;refine⟨O,Hf,B,B0,z[i],?_⟩;cases e4:fg z[i] B0 with
   |none=>simp[e4] at L
   |some v0=>
    refine⟨v0,w3.mono sy,rx B w3.ok.live pl,rfl,λM0 H5 F0=>⟨O,Hf,v0,?_⟩⟩;cases e5:gb v0 with
    |none=>simp[e4,e5] at L
    |some o5=>
     refine⟨o5,F0,rfl,?_⟩;cases o5 with
     |nx S=>
      simp only[e4,e5,bo] at L;exact λF Y W=>⟨S,W,L⟩
     |ct S=>
      simp only[e4,e5,bo] at L;exact λF Y W=>⟨S,W,L⟩
     |bk S=>
      simp only[e4,e5,bo] at L;cases L;exact λF Y W=>k2 F Y W
     |rt d5 S=>
      simp only[e4,e5,bo] at L;cases L;exact k2
  .left;have ei:i=z.length:=by omega
   subst ei;rw[kW] at L;cases L;exact⟨sr.stop _ H3 (pl.trans Aj) (ax _),k2 D0 H3 ⟨B,w3⟩⟩
end
def spD(G:Gx)(g:List D->Option D):Sp:=λvs H Q _=>∃A ds d,(∀a∈A,Nt (H a))/\RepL G (hid A H) vs ds/\g ds=Y2 d/\∀v z,Same H z->Rep G (hid A z) v d->Q v z
section
variable {G:Gx}{a:Expr}{fs:FA}{p:Pos}
theorem jU{k:Nat}{g:List D->Option D}(F:FnOk X.prog X.w X.K X.mg X.base CX0 k f fd ps (spD G g))(Y:Room k X.A)(hg:Gl X x)(Z:X.mg x=Y2 (.ref f))(hk:dS X.K (.ref f)=U2)(hb:Binds X.K fd ps [])(ha:PFA X G (a::es) fs)(I:(x==("__debug__":Str))=T2:=by decide)(he:ai (a::es) X.env=(T2,eval a X.env)::ai es X.env:=by rfl)(z:(br pos (ai es X.env)).any (·.1)=T2:=by rfl):
  PF X G (.Call (.Name x p) (a::es) [] pos) (Am g fs):=λA=>Bt (Jk F Y hg Z hk hb .nil JM (@ha A) I he z) λσ H Q ⟨O,d,o,e,k⟩=>by
 unfold Am at e;cases J:fs O with
 |none=>simp[J] at e
 |some L=>
  have e':g L=Y2 d:=by simpa [J] using e
  refine⟨O,L,o,J,λvs H1 S W=>⟨A,L,d,(o.mono S).live,by rw[dL];exact W,e',λv H2 T U=>k v H2 (S.trans T) U⟩⟩
end
theorem Fp{G:Gx}{ds:List D}(live:∀a∈A,Nt (H a))(r:RepL G (hid A H) vs ds)(T:vs.length<=N.length):OkS G A H (start N vs) H (Ba N.length ds):=by
 have g:∀(i:Nat) (z:Slot),(Ba N.length ds)[i]?=Y2 z->(∃d,z=.fz d/\ds[i]?=Y2 d)∨z=.un:=λi z h=>by
  unfold Ba at h
  by_cases J:i<ds.length
  .rw[gu (by simpa using J),be] at h;cases e:ds[i]? with
   |none=>rw[e] at h;cases h
   |some d=>rw[e] at h;exact .inl ⟨d,(bE h).symm,rfl⟩
  .rw[hU (by simpa using gy.mp J),mR] at h;split at h
   .exact .inr (bE h).symm
   .cases h
 refine⟨A,Same.refl H,λ_ h=>h,λa h=>.inl h,λa O=>(live a O).ne,⟨?_,live,λi d h=>?_,λi d h=>?_,λi j d e a h _ _ _=>?_⟩,λi d a h _=>?_,λx d _ h=>?_⟩
 .unfold L2.start Ba;rw[eP,eP,aw,aw,m6,m6,r.1]
 .rcases g i _ h with ⟨I,e,F⟩ | e
  .cases e;obtain⟨v,L,S⟩:=r.get F;refine⟨v,?_,S⟩;unfold L2.start;rw[gu (by rw[aw];exact (de.mp L).1),be,L];rfl
  .cases e
 .rcases g i _ h with ⟨I,e,F⟩ | e
  .cases e
  .cases e
 .rcases g i _ h with ⟨I,e,F⟩ | e
  .cases e
  .cases e
 .rcases g i _ h with ⟨I,e,F⟩ | e
  .cases e
  .cases e
 .rcases g 0 _ h with ⟨I,e,F⟩ | e
  .cases e
  .cases e
theorem fn_D{w:ag}{G:Gx}{base:Heap}{k:Nat}{b:FS}(F:Fun G.K x qual st f fd)(S:FnScope N ps (Ab st))(hl:ps.length<=N.length)(hb:∀(cdv:ac) (A:ar) (g:List Env) (s:ae) (H:Hp) (E:XK),Room k (A.deeper (dn qual (Ab st) s.heap.objs.size f cdv))->PSDs (cxOf CX0 P w G.K mg base N qual (Ab st) f cdv A g s H E).nox G (A_ st) b):
  FnOk P w G.K mg base CX0 (k+1) f fd ps (spD G (runF N.length ps.length b)):=by
 refine F.ok S (λY H Q E h=>?_) (λcdv A g s H Y Q E hr h=>?_)
 .obtain⟨A,I,d,T,r,e,_⟩:=h;unfold runF at e;split at e
  .rename_i O;rw[r.1];exact O
  .cases e
 .obtain⟨A0,I,d,T,r,e,k⟩:=h;unfold runF at e;split at e
  .rename_i O;have hzz:=hb cdv A g s H E hr;refine⟨_,@hzz A0 H,Ba N.length I,?_⟩;cases z:b (Ba N.length I) with
   |none=>simp[z] at e
   |some o=>
    refine⟨o,Fp T r (by rw[r.1,O];exact hl),rfl,?_⟩;cases o with
    |nx L=>
     simp only[z] at e;cases e;exact λU J ⟨A,w⟩=>k _ J w.same .non
    |rt d' W=>
     simp only[z] at e;cases e;exact λv U J A w Z=>k v J w.same (Z.mono (DQ w.sub))
    |bk L=>simp[z] at e
    |ct L=>simp[z] at e
  .cases e
section
variable {G:Gx}{a b c:Expr}{px:Pos}{t:Str}{elt iter:Expr}{ifs:List Expr}{ga:FT}{fe:FE}{src:FI}
def PFTs(X:Cx)(G:Gx)(d:List Expr)(f:FT):Prop:=∀⦃A⦄,PTs X d (tFT G A f)
theorem Xu:PFTs X G [] allT:=λA d s g H Q I ⟨z,b,o,e,k⟩=>by
 cases e;exact Z7 d s g H Q I (k H (Same.refl H))
theorem Q6(h:PFT X G a ga):PFTs X G [a] ga:=λA=>Z8 (@h A)
theorem Okp.fill{Hc:Hp}{ρ:Rho}(o:Okp G A σ H ρ)(s:Same H Hc)(S:H p=X2)(T:Nt (Hc p)):Okp G (p::A) σ Hc ρ:=by
 have F:Same (hid A H) (hid (p::A) Hc):=λb u h=>by
  unfold hid at h;split at h
  .cases h
  .rename_i U;rw[Ao]
   .exact s b u h
   .intro z
    rcases ba.mp z with z | z
    .rw[z,S] at h;cases h
    .exact U z
 refine⟨o.len,λa W=>?_,λi d h=>?_,λi d h=>?_,o.inj⟩
 .rcases ba.mp W with z | z
  .rw[z];exact T
  .exact (o.mono s).live a z
 .obtain⟨v,J,I⟩:=o.fz i d h;exact⟨v,J,I.mono F⟩
 .obtain⟨a,J,I,O⟩:=o.ow i d h;refine⟨a,J,aI _ I,?_⟩;cases d with
  |lst L=>obtain⟨g,q1,q2⟩:=O;exact⟨g,s _ _ q1,q2.mono F⟩
  |dk L=>obtain⟨g,q1,q2,q3⟩:=O;exact⟨g,s _ _ q1,q2,q3.mono F⟩
  |dt L=>obtain⟨g,q1,q2,q3⟩:=O;exact⟨g,s _ _ q1,q2,q3.mono F⟩
  |ob c Y=>obtain⟨C,dx,g,q1,q2,q3⟩:=O;exact⟨C,dx,g,s _ _ q1,q2,q3.mono F⟩
  |_=>exact O.elim
theorem Okp.snoc{ρ:Rho}{d:D}(o:Okp G A σ H ρ)(r:Rep G (hid A H) v d):Okp G A (σ++[Y2 v]) H (ρ++[.fz d]):=by
 have F:∀(j:Nat) (z:Slot),(ρ++[.fz d])[j]?=Y2 z->(j=ρ.length/\z=.fz d)∨(j<ρ.length/\ρ[j]?=Y2 z):=λj z h=>by
  by_cases W:j<ρ.length
  .rw[gu W] at h;exact .inr ⟨W,h⟩
  .rw[hU (gy.mp W)] at h;cases q:j-ρ.length with
   |zero=>rw[q] at h;exact .inl ⟨by omega,(bE h).symm⟩
   |succ n=>rw[q] at h;cases h
 have g:∀(j:Nat),j<ρ.length->(σ++[Y2 v])[j]?=σ[j]?:=λj W=>gu (by rw[o.len];exact W);refine⟨by rw[eP,eP,o.len];rfl,o.live,λj e h=>?_,λj e h=>?_,λj k e f p U T L J=>?_⟩
 .rcases F j _ h with ⟨W,O⟩ | ⟨W,O⟩
  .cases O;subst W;exact⟨v,by rw[hU (by rw[o.len];exact ax _),o.len,oJ];rfl,r⟩
  .obtain⟨u,q1,q2⟩:=o.fz j e O;exact⟨u,by rw[g j W];exact q1,q2⟩
 .rcases F j _ h with ⟨W,O⟩ | ⟨W,O⟩
  .cases O
  .obtain⟨u,q1,q2⟩:=o.ow j e O;exact⟨u,by rw[g j W];exact q1,q2⟩
 .rcases F j _ U with ⟨_,O⟩ | ⟨W,O⟩
  .cases O
  .rcases F k _ T with ⟨_,I⟩ | ⟨S,I⟩
   .cases I
   .rw[g j W] at L;rw[g k S] at J;exact o.inj j k e f p O I L J
theorem Okp.snocs{A:List Addr}{H:Hp}:∀{vs:List V}{es:List D}{σ:St}{ρ:Rho},Okp G A σ H ρ->RepL G (hid A H) vs es->Okp G A (σ++vs.map Y2) H (ρ++es.map .fz)
 |[],[],σ,ρ,o,_=>by simpa using o
 |[],_::_,_,_,_,r=>by have:=r.1;simp at this
 |_::_,[],_,_,_,r=>by have:=r.1;simp at this
 |v::vs,e::es,σ,ρ,o,r=>by
  obtain⟨x,d,h,F,L⟩:=r.uncons;cases h;simpa using (o.snoc F).snocs L
def Du(F:D->Option (List D))(ρ:Rho)(g:FT)(z:FE):List D->Option (List D)
 |[]=>Y2 []
 |d::r=>(F d).bind λI=>match g (ρ++I.map .fz) with
  |some U2=>(z (ρ++I.map .fz)).bind λy=>(Du F ρ g z r).map (y::·)
  |some T2=>Du F ρ g z r
  |none=>X2
def Hz(F:D->Option (List D))(d:FI)(g:FT)(z:FE):FE:=λρ=>(d ρ).bind λds=>if ds.length<=sizeLine then (Du F ρ g z ds).map .lst else X2
def bd1(d:D):Option (List D):=Y2 [d]
theorem Q7(ρ:Rho)(g:FT)(z:FE):∀ds,Hv ρ g z ds=Du bd1 ρ g z ds
 |[]=>rfl
 |d::r=>by
  unfold Hv Du;rw[Q7 ρ g z r];rfl
theorem Xv(d:FI)(g:FT)(fe:FE):Hq d g fe=Hz bd1 d g fe:=by
 funext ρ;unfold Hq Hz;congr 1;funext ds;rw[Q7]
def Bnd(G:Gx)(N n:Nat)(J:D->Option (List D))(g:TG):Prop:=∀(A:List Addr) (z F:St) (H:Hp) (x:V) (d:D) (I:List D) (Q:St->Hp->Prop),z.length=N->F.length=n->J d=Y2 I->Rep G (hid A H) x d->(∀vs,vs.length=n->RepL G (hid A H) vs I->Q (z++vs.map Y2) H)->g x (z++F) H Q
theorem bnd1{N:Nat}:Bnd G N 1 bd1 (GR N):=λA g I H x d J Q Y F e r k=>by
 cases e;obtain⟨o,rfl⟩:=List.length_eq_one_iff.mp F;have z:(g++[o]).set N (Y2 x)=g++[Y2 x]:=by rw[<-Y,List.set_append_right _ _ (ax _),oJ];rfl
 show Q ((g++[o]).set N (Y2 x)) H;rw[z];exact k [x] rfl (.cons r .nil)
def tN(G:Gx)(A:List Addr)(f:FE):TE:=λz H Q=>∃ρ d,Okp G A z H ρ/\f ρ=Y2 d/\∀p g,Same H g->H p=X2->Top G (p::A) g p d->Q (.ref p) g
theorem Xw{N:Nat}{bd:D->Option (List D)}{g:TG}(hX:X.N.length=N)(hB:Bnd G N n bd g){A:List Addr}{U:St}{H:Hp}{Q:VK}(h:tN G A (Hz bd src ga fe) U H Q):Xb n (cD X (tI G A U2 src)) g (λU H Q=>∃A,tFT G A ga U H Q) (λU H Q=>∃A,tF G A fe U H Q) U H Q:=by
 obtain⟨ρ,d,o,e,k⟩:=h;unfold Hz at e;cases e1:src ρ with
 |none=>simp[e1] at e
 |some F=>
  rw[e1] at e;have e':(if F.length<=sizeLine then (Du bd ρ ga fe F).map D.lst else X2)=Y2 d:=e;split at e'
  .rename_i hz;cases e2:Du bd ρ ga fe F with
   |none=>simp[e2] at e'
   |some u0=>
    simp only[e2,eB] at e';cases e';refine⟨λJ H1=>Same H H1/\Src G J F H1 (hid A H1),⟨ρ,F,o,e1,λJ H1 s1 sr=>⟨s1,sr⟩⟩,λJ H1 B0 ⟨s1,sr⟩ p hp=>?_⟩;have o1:=o.mono s1;refine⟨λi m ys T=>m=F.length-i/\i<=F.length/\T p=Y2 (.lst ys)/\Same H1 T/\ys.length<=i/\∃es rest,RepL G (hid (p::A) T) ys es/\Du bd ρ ga fe (F.drop i)=Y2 rest/\es++rest=u0,
     ⟨F.length,by simp,eA _,Ah,Ak hp _,ax _,[],u0,RepL.nil,by simpa using e2,rfl⟩,?_⟩
    rintro i m ys T ⟨rfl,G0,L,S,hy,es,rest,rr,I,eo⟩
    by_cases O:i<F.length
    .right;have hd:F[i]?=Y2 F[i]:=by simp[O]
     have ed:F.drop i=F[i]::F.drop (i+1):=ko O;rw[ed] at I;unfold Du at I;refine⟨sr.go i T S O,λx H' y os ho=>?_⟩;obtain⟨sy,rx⟩:=sr.yld i T x H' _ S hd y;have v0:Okp G (p::A) U T ρ:=o1.fill S hp (by rw[L];exact Nt.lst);have sm:Same (hid A H1) (hid (p::A) T):=λb u h=>by
      unfold hid at h;split at h
      .cases h
      .rename_i hb;rw[Ao]
       .exact S b u h
       .intro z
        rcases ba.mp z with z | z
        .rw[z,hp] at h;cases h
        .exact hb z
     cases Z:bd F[i] with
     |none=>simp[Z] at I
     |some bs=>
     simp only[Z,bo] at I;refine hB (p::A) U os H' x F[i] bs _ (B0.trans hX) ho Z (rx _ v0.live sm) λvs D0 C0=>⟨⟨_,rfl,by rw[aw];exact D0⟩,?_⟩;have y0:=(v0.mono sy).snocs C0;have L:=sy _ _ L;have rr:=rr.mono (Al sy);have S:=S.trans sy;cases eg:ga (ρ++bs.map .fz) with
     |none=>simp[eg] at I
     |some b=>
      refine⟨p::A,_,b,y0,eg,λH2 W=>?_⟩;cases b with
      |false=>
       refine iteF ⟨F.length-(i+1),by omega,rfl,O,W _ _ L,S.trans W,Nat.le_succ_of_le hy,es,rest,rr.mono (Al W),by simpa [eg] using I,eo⟩
      |true=>
       simp only[eg] at I;cases ee:fe (ρ++bs.map .fz) with
       |none=>simp[ee] at I
       |some yd=>
        cases ec:Du bd ρ ga fe (F.drop (i+1)) with
        |none=>simp[ee,ec] at I
        |some Y=>
         simp only[ee,ec,bo,eB] at I;cases I;refine iteT ⟨p::A,_,yd,y0.mono W,ee,λyv H3 s3 r3=>?_⟩;have F0:=s3 _ _ (W _ _ L);refine⟨F0,by omega,F.length-(i+1),by omega,rfl,O,Ah,λb u q=>?_,by rw[eP];simp;omega,es++[yd],Y,?_,ec,by rw[List.append_assoc];exact eo⟩
         .have hb:b≠p:=Bw q hp;rw[Ag hb];exact s3 _ _ (W _ _ (S _ _ q))
         .rw[CT bg];exact (rr.mono (Al (W.trans s3))).append (.cons r3 .nil)
    .left;have ei:i=F.length:=by omega
     subst ei;rw[kW] at I;simp only[Du] at I;cases I;rw[dL] at eo;subst eo;exact⟨sr.stop _ T S (ax _),k p T (s1.trans S) (s1.free hp) ⟨ys,L,rr⟩⟩
  .cases e'
theorem jV{I:D->Option (List D)}{Q:VK}(h:tF G A (Hz I src ga fe) σ H Q):tN G A (Hz I src ga fe) σ H Q:=by
 obtain⟨F,d,o,e,k⟩:=h;have L:=e;unfold Hz at L;cases S:src F with
 |none=>simp[S] at L
 |some J=>
  rw[S] at L;have g:(if J.length<=sizeLine then (Du I F ga fe J).map D.lst else X2)=Y2 d:=L;split at g
  .cases O:Du I F ga fe J with
   |none=>rw[O] at g;cases g
   |some U=>
    rw[O] at g;cases g;refine⟨F,_,o,e,λp H' T W ⟨xs,h1,Z⟩=>k _ H' T ?_⟩;have q:=Z.mono (DQ (A:=A) λa Y=>aI _ Y);exact .lst (.of (by rw[Ao (λz=>(o.live p z).ne W)];exact h1)) q.1 q.2
  .cases g
section
variable {bd:D->Option (List D)}{g:TG}{ts:List Str}
theorem Xx(z:List Str)(T:CP ts X.N++ts=z)(c:CompOkL X scope ts)(L:X.calm=U2)(hi:PFI X G U2 tg iter src)(U:∀s2 H2 fp,PG (Cj X scope z s2 H2 fp) tg g)(S:Bnd G X.N.length ts.length bd g)(O:∀s2 H2 fp,PFTs (Cj X scope z s2 H2 fp) G ifs ga)(Z:∀s2 H2 fp,PF (Cj X scope z s2 H2 fp) G elt fe)(J:∀x,gL iter X.env x=pure x:=by intro _;rfl)(A:List Addr):PE X (.ListComp elt [⟨tg,iter,ifs,0⟩] scope pos) (tN G A (Hz bd src ga fe)):=by
 subst T;refine Bt (Xc (tc:=λd H Q=>∃A,tFT G A ga d H Q) (te:=λd H Q=>∃A,tF G A fe d H Q) c L (Z9 (@hi A)) U (λs2 H2 fp=>?_) (λs2 H2 fp=>?_) J) λ_ _ _ h=>Xw rfl S h
 .exact λF s d H Q I ⟨A,q⟩=>O s2 H2 fp F s d H Q I q
 .exact λF s d H Q I ⟨A,q⟩=>Z s2 H2 fp F s d H Q I q
end
theorem jW{z:List Str}(T:LC t X.N++[t]=z)(c:M3 X scope t)(S:ae)(d:Hp)(fp:List Addr):PG (Cj X scope z S d fp) (.Name t px) (GR X.N.length):=by
 subst T;exact gOne c S d fp
theorem QG(z:List Str)(T:LC t X.N++[t]=z)(c:M3 X scope t)(I:X.calm=U2)(g:PFI X G U2 (.Name t px) iter src)(O:∀s2 H2 fp,PFTs { S9 X scope t s2 H2 fp with N:=z } G ifs ga)(Z:∀s2 H2 fp,PF { S9 X scope t s2 H2 fp with N:=z } G elt fe)(d:∀x,gL iter X.env x=pure x:=by intro _;rfl):PF X G (.ListComp elt [⟨.Name t px,iter,ifs,0⟩] scope pos) (Hq src ga fe):=λA=>by
 rw[Xv];exact Bt (Xx z T c I g (jW T c) bnd1 O Z d A) λ_ _ _ h=>jV h
end
section
variable {w:ag}{A:ar}{R:gT->ae->Prop}{I:Addr}{wr:List Addr}{P:Nat->ac->Prop}{Sx:Nat->Heap->Prop}
end
section
variable {w:ag}{A:ar}{l:Addr}{xs:Array (Int×Tok)}
end
section
variable {G:Gx}{a b:Expr}{fa fb:FE}{p kpos:Pos}
theorem Q8{H:Hp}:∀{ds:List D}{xs:List V}{L:List Str},RepL G H xs ds->Hw ds=Y2 L->xs=L.map V.str
 |[],xs,L,r,h=>by cases h;rw[r.nil_inv];rfl
 |d::ds,xs,L,r,h=>by
  obtain⟨x,z,rfl,F,g⟩:=r.uncons;cases d with
  |str i=>
   simp only[Hw] at h;cases e:Hw ds with
   |none=>simp[e] at h
   |some I=>
    simp only[e,eB] at h;cases h;cases F;rw[Q8 g e];rfl
  |_=>simp[Hw] at h
theorem aQ(K:av)(n T:String):ly K (.type n) (.type T)=ly [] (.type n) (.type T):=rfl
def TyX(K:av)(H:Hp)(x:V)(n:String):Prop:=
 TyOf K H x (.type n)∨(n="list"/\∃a xs,x=.ref a/\SqL K H a xs)∨(n="tuple"/\∃a xs,x=.ref a/\SqT K H a xs)
theorem gD{d:D}{n:String}(r:RepT G A H v d)(h:tyD d=Y2 n):TyX G.K H v n:=by
 cases d with
 |non=>cases h;rw[r.non];exact .inl .non
 |bl b=>cases h;rw[r.bl];exact .inl (.bl b)
 |int b=>cases h;rw[r.int];exact .inl (.int b)
 |str b=>cases h;rw[r.str];exact .inl (.str b)
 |lst z=>cases h;obtain⟨a,g,e,q,_⟩:=r.lst;exact .inr (.inl ⟨rfl,a,g,e,q⟩)
 |tup z=>cases h;obtain⟨a,g,e,q,_⟩:=r.tup;exact .inr (.inr ⟨rfl,a,g,e,q⟩)
 |_=>cases h
theorem Xy(T:String):Df X (.builtin "isinstance") (λxs H Q=>∃x n b,xs=[x,.ty T]/\TyX X.K H x n/\ly X.K (.type n) (.type T)=Y2 b/\Q (.bl b) H):=by
 intro U s S H xs W Q I r h;obtain⟨x,n,b,rfl,ty,e,k⟩:=h;obtain⟨u,c,rfl,g,O⟩:=vals2 r;cases O
 rcases ty with ty | ⟨rfl,a,L,rfl,q⟩ | ⟨rfl,a,L,rfl,q⟩
 .exact V8 I g ty e λtk=>⟨.bl b,H,I.tok _,rfl,k⟩
 .cases g;obtain⟨d,_,p,_⟩:=I.list q;obtain⟨o,F,J,_⟩:=p.isList;exact fw oh I.kIn ⟨o,F,J⟩ e (λz=>nomatch z) λtk=>⟨.bl b,H,I.tok _,rfl,k⟩
 .cases g;obtain⟨d,_,p,_⟩:=I.tuple q;obtain⟨o,F,J,_⟩:=(show s.heap.IsTuple a d.toArray from p);exact fw qa I.kIn ⟨o,F,J⟩ e (λz=>nomatch z) λtk=>⟨.bl b,H,I.tok _,rfl,k⟩
def M9(T:String):Bool:=(["NoneType","bool","int","str","list","tuple"]:List String).all λn=>ly [] (.type n) (.type T)==Y2 (n==T||(n=="bool"&&T=="int"))
theorem WN{T:String}(h:M9 T=U2){d:D}{n:String}(e:tyD d=Y2 n):ly [] (.type n) (.type T)=Y2 (n==T||(n=="bool"&&T=="int")):=by
 unfold M9 at h;rw[gz] at h;have m:n∈(["NoneType","bool","int","str","list","tuple"]:List String):=by
  cases d<;>simp[tyD] at e<;>subst e<;>simp
 simpa using h n m
theorem TX{t:Str}{T:String}(hT:M9 T=U2)(hG:G.K=X.K)(hg:Gl X x)(hm:X.mg x=X2)(hv:dc x=Y2 (.builtin "isinstance"))(ht:Gl X t)(L:X.mg t=X2)(I:dc t=Y2 (.type T))(ha:PU X G a fa)(hn:x≠"__name__":=by decide)(S:(x==("__debug__":Str))=T2:=by decide)(J:t≠"__name__":=by decide)(O:(t==("__debug__":Str))=T2:=by decide)(U:ai [a,.Name t tp] X.env=(T2,eval a X.env)::ai [.Name t tp] X.env:=by rfl)(g:ai [.Name t tp] X.env=[(T2,eval (.Name t tp) X.env)]:=by rfl):
  PF X G (.Call (.Name x p) [a,.Name t tp] [] pos) (uF (isiD T) fa):=λA=>Bt (Jl (Xy T) hg hm hv (CQ (@ha A) (CQ (Zo (v:=.ty T) ht L I rfl J O) Ep g) U) hn S U (by rw[g];rfl)) λσ H Q ⟨W,d,o,e,k⟩=>by
 obtain⟨dx,e1,F⟩:=Ju e;unfold isiD at F;cases z:tyD dx with
 |none=>simp[z] at F
 |some n=>
  simp only[z,eB] at F;cases F;exact⟨W,dx,o,e1,λv H1 Y Z=>⟨v,n,_,rfl,by rw[<-hG];exact gD Z z,by rw[aQ];exact WN hT z,k _ H1 Y (.bl _)⟩⟩
theorem aR:M9 "int"=U2:=by decide +kernel
theorem Q9:M9 "bool"=U2:=by decide +kernel
end
theorem Es:dc "len"=Y2 (.builtin "len"):=by decide +kernel
theorem Gp:dc "isinstance"=Y2 (.builtin "isinstance"):=by decide +kernel
theorem Fd:dc "sorted"=Y2 (.builtin "sorted"):=by decide +kernel
theorem TY:dc "int"=Y2 (.type "int"):=by decide +kernel
theorem Uj:dc "bool"=Y2 (.type "bool"):=by decide +kernel
theorem L_:dc "list"=Y2 (.type "list"):=by decide +kernel
def M_(N:List Str)(sc d:g7)(g:List Str):Bool:=
 d.names.all (λy=>y.2 != .cell)&&d.kind==.function&&d.names.all (λy=>y.2 != .local ||d.names.lookup y.1==Y2 .local)&&g.all (λt=>d.names.lookup t==Y2 .local)
  && d.names.all (λy=>y.2 != .local ||g.contains y.1||!N.contains y.1)&&d.names.all (λy=>y.2 != .free ||sc.names.lookup y.1==Y2 .cell ||sc.names.lookup y.1==Y2 .free)&&d.names.all (λy=>y.1 != ib)&&decide g.Nodup&&g.all (λt=>t != ib)
theorem aU{d:List Str}(F:d.Nodup){t:Str}(O:t∈d)(G:t≠ib):Uq (CP d N++d) t:=by
 have g:∀i:Nat,(CP d N)[i]?≠Y2 t:=λi e=>by
  unfold CP at e;rw[be] at e;cases q:N[i]? with
  |none=>rw[q] at e;cases e
  |some y=>
   rw[q] at e;have e:(if y∈d then ib else y)=t:=bE e;split at e
   .exact G e.symm
   .rename_i z;exact z (e▸O)
 have big:∀i:Nat,(CP d N++d)[i]?=Y2 t->(CP d N).length<=i/\d[i-(CP d N).length]?=Y2 t:=λi e=>by
  rcases Nat.lt_or_ge i (CP d N).length with z | z
  .rw[gu z] at e;exact absurd e (g i)
  .rw[hU z] at e;exact⟨z,e⟩
 intro i j a b;obtain⟨J,I⟩:=big i a;obtain⟨b1,b2⟩:=big j b;have:=Mj F I b2;omega
theorem Tc{ts:List Str}(G:X.N=N)(d:X.env.scope=sc)(h:M_ N sc scope ts=U2):CompOkL X scope ts:=by
 unfold M_ at h;simp only[eD,gz,decide_eq_true_eq,beq_iff_eq,bne_iff_ne,Bool.or_eq_true,ne_eq] at h;obtain⟨⟨⟨⟨⟨⟨⟨⟨Z,Y⟩,W⟩,U⟩,T⟩,S⟩,L⟩,J⟩,F⟩:=h;refine⟨Z,Y,λy g e=>?_,U,λy g e=>?_,λy g e=>?_,L,λt O=>aU J O (F t O)⟩
 .rcases W y g with z | z
  .exact absurd e z
  .exact z
 .rcases T y g with (z | z) | z
  .exact absurd e z
  .exact .inl (by simpa using z)
  .right;rw[G];simpa using z
 .have I:∀x,X.env.kindOf x=sc.names.lookup x:=λx=>by rw[<-d];rfl
  rw[I]
  rcases S y g with (z | z) | z
  .exact absurd e z
  .exact .inl z
  .exact .inr z
abbrev Uk (N:List Str) (sc scope:g7) (t:Str):Bool:=M_ N sc scope [t]
theorem WP{t:Str}(G:X.N=N)(d:X.env.scope=sc)(h:Uk N sc scope t=U2):M3 X scope t:=Tc G d h
theorem WQ{G:Gx}{J:Array (Option ac)}{g:Array ac}{xs:List Str}(h:G.K.lookup a=Y2 ⟨.type "tuple",od,.seq g n,J⟩)(O:g.size<=sizeLine)(r:Vals (xs.map V.str) g.toList):Rep G (λ_=>X2) (.ref a) (.tup (xs.map .str)):=by
 refine .tup (xs:=xs.map V.str) (.inr ⟨_,g,n,h,rfl,rfl,O,r⟩) (by simp) λi x d F I=>?_;rw[be] at F I;cases e:xs[i]? with
 |none=>rw[e] at F;cases F
 |some z=>rw[e] at F I;cases F;cases I;exact .str z
end PV
namespace PySem
end PySem
namespace PV
open PySem PySem.Spec L2
open PyProof.Rows hiding St
section
variable {G:Gx}{a b c:Expr}{fa:FE}{p2:Pos}{fs:FA}
def PN(X:Cx)(G:Gx)(e:Expr)(f:FE):Prop:=∀⦃A⦄,PE X e (tN G A f)
theorem Fe(s:Same H H')(d:H p=X2):Same (hid A H) (hid (p::A) H'):=λb u h=>by
 unfold hid at h;split at h
 .cases h
 .rename_i g;rw[Ao]
  .exact s b u h
  .intro z
   rcases ba.mp z with z | z
   .rw[z,d] at h;cases h
   .exact g z
theorem Td(h:PFA X G es fs):PN X G (.List es pos) (lstF fs):=λA=>Bt (Sw (@h A)) λU H Q ⟨I,d,o,e,k⟩=>by
 unfold lstF at e;cases z:fs I with
 |none=>simp[z] at e
 |some F=>
  rw[z] at e;have L:(if F.length<=sizeLine then Y2 (D.lst F) else X2)=Y2 d:=e;split at L
  .rename_i T;cases L;exact⟨I,F,o,z,λS W J O=>⟨by rw[O.1];exact T,λp g=>k p _ (J.trans (Ak g _)) (J.free g) ⟨S,Ah,O.mono (Fe (Ak g _) g)⟩⟩⟩
  .cases L
theorem Top.fill{d:D}(t:Top G A H q d)(s:Same H H')(I:H p=X2):Top G (p::A) H' q d:=by
 have z:=Fe (A:=A) s I;cases d with
 |lst F=>obtain⟨g,q1,q2⟩:=t;exact⟨g,s _ _ q1,q2.mono z⟩
 |dk F=>obtain⟨g,q1,q2,q3⟩:=t;exact⟨g,s _ _ q1,q2,q3.mono z⟩
 |dt F=>obtain⟨g,q1,q2,q3⟩:=t;exact⟨g,s _ _ q1,q2,q3.mono z⟩
 |ob c J=>obtain⟨C,dx,g,q1,q2,q3⟩:=t;exact⟨C,dx,g,s _ _ q1,q2,q3.mono z⟩
 |_=>exact t.elim
theorem Top.live{d:D}(t:Top G A H q d):Nt (H q):=by
 cases d with
 |lst z=>obtain⟨g,q1,q2⟩:=t;rw[q1];exact Nt.lst
 |dk z=>obtain⟨g,q1,q2,q3⟩:=t;rw[q1];exact Nt.dK
 |dt z=>obtain⟨g,q1,q2,q3⟩:=t;rw[q1];exact Nt.dT
 |ob c J=>obtain⟨C,dx,g,q1,q2,q3⟩:=t;rw[q1];exact Nt.ins
 |_=>exact t.elim
theorem BZ{d:Type}{l:List d}{x z:d}(h:(l.set i x)[j]?=Y2 z):(j=i/\z=x/\i<l.length)∨(j≠i/\l[j]?=Y2 z):=by
 by_cases W:j=i
 .subst W
  by_cases Y:j<l.length
  .rw[gI Y] at h;exact .inl ⟨rfl,(bE h).symm,Y⟩
  .rw[lF (by simpa using gy.mp Y)] at h;cases h
 .rw[eC (bv W)] at h;exact .inr ⟨W,h⟩
theorem OkW.setW{ρ:Rho}{d:D}(w:OkW G A0 He A σ H ρ)(s:Same H H')(hp:H p=X2)(t:Top G (p::A) H' p d)(i:Nat)(u0:i≠0):OkW G A0 He (p::A) (σ.set i (Y2 (.ref p))) H' (ρ.set i (.ow d)):=by
 have U:=w.ok.fill (Hc:=H') s hp t.live;have T:He p=X2:=w.same.free hp;have Z:p∉A:=λz=>(w.ok.live p z).ne hp;refine⟨w.same.trans s,λa ha=>aI _ (w.sub a ha),λa ha=>?_,w.l0,⟨by rw[kU,kU];exact U.len,U.live,λj e h=>?_,λj e h=>?_,λj k e f q h1 J S L=>?_⟩,λj e q h1 J=>?_,λx e hx h0=>by rw[eC u0] at h0 ⊢;exact w.lt x e hx h0⟩
 .rcases ba.mp ha with z | z
  .rw[z];exact .inr T
  .exact w.fr a z
 .rcases BZ h with ⟨_,O,_⟩ | ⟨W,O⟩
  .cases O
  .obtain⟨v,q1,q2⟩:=U.fz j e O;exact⟨v,by rw[eC (bv W)];exact q1,q2⟩
 .rcases BZ h with ⟨W,O,Y⟩ | ⟨W,O⟩
  .cases O;subst W;exact⟨p,by rw[gI (by rw[w.ok.len];exact Y)],bg,t⟩
  .obtain⟨v,q1,q2,q3⟩:=U.ow j e O;exact⟨v,by rw[eC (bv W)];exact q1,q2,q3⟩
 .have no:∀(m:Nat) (g:D),ρ[m]?=Y2 (.ow g)->σ[m]?=Y2 (Y2 (.ref q))->q≠p:=λm g a1 a2 z=>by
   obtain⟨v,b1,b2,_⟩:=w.ok.ow m g a1;rw[a2] at b1;cases b1;exact Z (z▸b2)
  rcases BZ h1 with ⟨W,_,Y⟩ | ⟨W,O⟩
  .rcases BZ J with ⟨F,_,_⟩ | ⟨F,I⟩
   .rw[W,F]
   .exfalso;subst W;rw[gI (by rw[w.ok.len];exact Y)] at S;cases S;rw[eC (bv F)] at L;exact no k f I L rfl
  .rcases BZ J with ⟨F,_,Y⟩ | ⟨F,I⟩
   .exfalso;subst F;rw[gI (by rw[w.ok.len];exact Y)] at L;cases L;rw[eC (bv W)] at S;exact no j e O S rfl
   .rw[eC (bv W)] at S;rw[eC (bv F)] at L;exact w.ok.inj j k e f q O I S L
 .rcases BZ h1 with ⟨W,_,Y⟩ | ⟨W,O⟩
  .subst W;rw[gI (by rw[w.ok.len];exact Y)] at J;cases J;exact λz=>w.l0 p z T
  .rw[eC (bv W)] at J;exact w.ow0 j e q O J
theorem aV{ρ:Rho}{o:Out}{D:Ends}(g:i≠0)(w:OkW G A0 He A σ H ρ)(e:setW i fa ρ=Y2 o)(k:M8 G A0 He D o):tAsg (tN G A fa) (GR i) D σ H:=by
 unfold setW at e;cases z:fa ρ with
 |none=>simp[z] at e
 |some d=>
  simp only[z,eB] at e;cases e;exact⟨ρ,d,w.ok,z,λp J F I t=>k _ _ ⟨p::A,w.setW F I t i g⟩⟩
theorem Xz{p:Pos}(h:∀te,PE X a te->PS X (.Assign [.Name x p] a pos) (tAsg te (GR i)))(ha:PN X G a fa)(g:i≠0:=by decide):PSD X G (.Assign [.Name x p] a pos) (setW i fa):=λL J z s d H D I ⟨F,o,⟨A,w⟩,e,k⟩=>
 h _ (@ha A) z s d H D I (aV g w e k)
theorem OkW.wr{ρ:Rho}{I d:D}{o:HO}(w:OkW G A0 He A σ H ρ)(S:ρ[i]?=Y2 (.ow I))(Z:σ[i]?=Y2 (Y2 (.ref p)))(t:Top G A (upd H p o) p d):OkW G A0 He A σ (upd H p o) (ρ.set i (.ow d)):=by
 obtain⟨q,h1,hA,_⟩:=w.ok.ow i I S;rw[Z] at h1;cases h1;have u0:He p=X2:=by
  rcases w.fr p hA with z | z
  .exact absurd z (w.ow0 i I p S Z)
  .exact z
 have T:hid A (upd H p o)=hid A H:=CT hA;refine⟨λb u h=>by rw[Ag (Bw h u0)];exact w.same b u h,w.sub,w.fr,w.l0,⟨by rw[kU];exact w.ok.len,λb hb=>?_,λj e h=>?_,λj e h=>?_,λj k e f q g1 g2 g3 g4=>?_⟩,λj e q g1 g2=>?_,λx e hx h0=>?_⟩
 .by_cases z:b=p
  .rw[z];exact t.live
  .rw[Ag z];exact w.ok.live b hb
 .rcases BZ h with ⟨_,O,_⟩ | ⟨W,O⟩
  .cases O
  .rw[T];exact w.ok.fz j e O
 .rcases BZ h with ⟨W,O,hl⟩ | ⟨W,O⟩
  .cases O;subst W;exact⟨p,Z,hA,t⟩
  .obtain⟨q,q1,q2,q3⟩:=w.ok.ow j e O;have Y:q≠p:=λz=>W (w.ok.inj j i e I p O S (z▸q1) Z);refine⟨q,q1,q2,?_⟩;cases e with
   |lst ds=>obtain⟨F,L,J⟩:=q3;exact⟨F,by rw[Ag Y];exact L,by rw[T];exact J⟩
   |dk ds=>obtain⟨F,L,J,U⟩:=q3;exact⟨F,by rw[Ag Y];exact L,J,by rw[T];exact U⟩
   |dt ds=>obtain⟨F,L,J,U⟩:=q3;exact⟨F,by rw[Ag Y];exact L,J,by rw[T];exact U⟩
   |ob c gs=>obtain⟨C,dx,F,L,J,U⟩:=q3;exact⟨C,dx,F,by rw[Ag Y];exact L,J,by rw[T];exact U⟩
   |_=>exact q3.elim
 .have up:∀(m:Nat) (g:D),(ρ.set i (.ow d))[m]?=Y2 (.ow g)->∃g',ρ[m]?=Y2 (.ow g'):=λm g z=>by
   rcases BZ z with ⟨hm,_,_⟩ | ⟨_,O⟩
   .exact⟨I,by rw[hm];exact S⟩
   .exact⟨g,O⟩
  obtain⟨e',z1⟩:=up j e g1;obtain⟨f',z2⟩:=up k f g2;exact w.ok.inj j k e' f' q z1 z2 g3 g4
 .rcases BZ g1 with ⟨W,_,_⟩ | ⟨W,O⟩
  .subst W;exact w.ow0 j I q S g2
  .exact w.ow0 j e q O g2
 .rcases BZ h0 with ⟨W,_,_⟩ | ⟨_,O⟩
  .exact w.lt x I hx (by rw[W];exact S)
  .exact w.lt x e hx O
theorem Ks{ρ:Rho}{d:D}(h:ownO ρ i=Y2 d):ρ[i]?=Y2 (.ow d):=by
 unfold ownO at h;split at h
 .rename_i e;cases h;exact e
 .cases h
theorem WR{g:D->D->Option D}{ρ:Rho}{o:Out}(h:mutF g i fa ρ=Y2 o):∃v x y,fa ρ=Y2 v/\ρ[i]?=Y2 (.ow x)/\g x v=Y2 y/\o=.nx (ρ.set i (.ow y)):=by
 unfold mutF at h;cases z:fa ρ with
 |none=>simp[z] at h
 |some v=>
  cases d:ownO ρ i with
  |none=>simp[z,d] at h
  |some x=>
   cases F:g x v with
   |none=>simp[z,d,F] at h
   |some y=>
    simp[z,d,F] at h;exact⟨v,x,y,rfl,Ks d,F,h.symm⟩
theorem QH(hv:PE X (.Name x xpos) (tVar i))(ha:PF X G a fa)(g:d4 (.Name x xpos) "append" X.env (eval (.Name x xpos) X.env)=eval (.Name x xpos) X.env:=by rfl)(F:((br pos (ai [a] X.env)).all (λx=>!x.1)&&(fF pos (fI [] X.env)).all (λx=>x.1.isSome)&&decide ([a].length+([]:List eL).length+(if ([]:List eL).isEmpty then 0 else 1)<30))=U2:=by rfl)(d:(apos.endLine==pos.line)=U2:=by rfl)(S:ai [a] X.env=[(T2,eval a X.env)]:=by rfl)(O:dA (.Call (.Attribute (.Name x xpos) "append" apos) [a] [] pos) X2 p2.line X.env=pure T2:=by rfl):
  PSD X G (.Expr (.Call (.Attribute (.Name x xpos) "append" apos) [a] [] pos) p2) (mutF appL i fa):=λA0 He π s Y H D I ⟨Z,o,⟨A,w⟩,e,k⟩=>by
 obtain⟨v,x0,y,e1,T,z,rfl⟩:=WR e;refine Lx (XF mf oV oW I_ hv (CQ (@ha A) Ep S) g F d S rfl) O π s Y H D I ?_;unfold appL at z;split at z
 .rename_i ds;split at z
  .rename_i hz;cases z;obtain⟨p,W,hA,J,U,r⟩:=w.ok.ow i _ T;refine⟨_,W,.inl ⟨rfl,J,.of U⟩,Z,v,w.ok,e1,λu H1 L r1=>⟨p,J,u,rfl,rfl,L _ _ U,by rw[r.1];exact hz,?_⟩⟩;have w1:=w.mono L;refine k _ _ ⟨A,w1.wr T W ⟨J++[u],Ah,?_⟩⟩;rw[CT hA];exact (r.mono (Al L)).append (.cons r1 .nil)
  .cases z
 .cases z
theorem Inv.frzK(I:Inv X π σ H s)(e:H p=Y2 (.dK kvs)):∃o,Inv X π σ (upd H p (.frz o (.dK kvs))) s:=by
 obtain⟨z,J,F,d,T⟩:=XM I.hok e;obtain⟨o,O,S,g,L⟩:=id T;exact⟨o,Js (h':=s.heap) (t':=s.toks) I (by rw[e];exact fh) ⟨rfl,λ_ _=>rfl⟩ ⟨o,g⟩ ⟨g,z,J,F,d,T⟩⟩
theorem Inv.frzT{kvs:List (List Key×V)}(I:Inv X π σ H s)(e:H p=Y2 (.dT kvs)):∃o,Inv X π σ (upd H p (.frz o (.dT kvs))) s:=by
 obtain⟨z,L,J,d,o,W,Y,g,U,T,O,S⟩:=I.hok p _ e;refine⟨o,Js (h':=s.heap) (t':=s.toks) I (by rw[e];exact fh) ⟨rfl,λ_ _=>rfl⟩ ⟨o,g⟩ ⟨g,z,L,J,KT.keeps d λc Z F=>?_,o,W,Y,g,U,T,O,S⟩⟩;rw[Ag (bz F e (λz=>nomatch z))];exact F
theorem OkW.frzC{ρ:Rho}{d:D}(w:OkW G A0 He A σ H ρ)(hi:ρ[i]?=Y2 (.ow d))(h1:σ[i]?=Y2 (Y2 (.ref p)))(hA:p∈A)(J:∀b,b≠p->H' b=H b)(rp:Same (hid A H) (hid (A.filter λb=>decide (b≠p)) H')->hid (A.filter λb=>decide (b≠p)) H' p=H' p->Rep G (hid (A.filter λb=>decide (b≠p)) H') (.ref p) d):OkS G A0 He σ H' (ρ.set i (.fz d)):=by
 have hn:=w.ow0 i d p hi h1;have g:∀b,b∈A.filter (λb=>decide (b≠p))↔b∈A/\b≠p:=λb=>by simp[cr]
 have U:Same (hid A H) (hid (A.filter λb=>decide (b≠p)) H'):=λb o h=>by
  unfold hid at h ⊢;split at h
  .cases h
  .rename_i F;have L:b≠p:=λz=>F (z▸hA);rw[if_neg (λz=>F ((g b).mp z).1),J b L];exact h
 have rp:=rp U (Ao λz=>((g p).mp z).2 rfl);have u0:He p=X2:=(w.fr p hA).resolve_left hn;refine⟨A.filter λb=>decide (b≠p),λb o h=>?_,λb F=>(g b).mpr ⟨w.sub b F,λz=>hn (z▸F)⟩,λb F=>w.fr b ((g b).mp F).1,w.l0,⟨by rw[kU];exact w.ok.len,λb F=>?_,λj e h=>?_,λj e h=>?_,λj k e f q g1 g2 g3 g4=>?_⟩,λj e q g1 g2=>?_,λx e hx h0=>?_⟩
 .have L:b≠p:=λz=>by rw[z,u0] at h;cases h
  rw[J b L];exact w.same b o h
 .obtain⟨Z,z2⟩:=(g b).mp F;rw[J b z2];exact w.ok.live b Z
 .rcases BZ h with ⟨hj,O,_⟩ | ⟨hj,O⟩
  .cases O;subst hj;exact⟨_,h1,rp⟩
  .obtain⟨v,q1,q2⟩:=w.ok.fz j e O;exact⟨v,q1,q2.mono U⟩
 .rcases BZ h with ⟨_,O,_⟩ | ⟨hj,O⟩
  .cases O
  .obtain⟨q,q1,q2,q3⟩:=w.ok.ow j e O;have Y:q≠p:=λz=>hj (w.ok.inj j i e d p O hi (z▸q1) h1);refine⟨q,q1,(g q).mpr ⟨q2,Y⟩,?_⟩;cases e with
   |lst ds=>obtain⟨I,T,S⟩:=q3;exact⟨I,by rw[J q Y];exact T,S.mono U⟩
   |dk ds=>obtain⟨I,T,S,W⟩:=q3;exact⟨I,by rw[J q Y];exact T,S,W.mono U⟩
   |dt ds=>obtain⟨I,T,S,W⟩:=q3;exact⟨I,by rw[J q Y];exact T,S,W.mono U⟩
   |ob c gs=>obtain⟨C,dx,I,T,S,W⟩:=q3;exact⟨C,dx,I,by rw[J q Y];exact T,S,W.mono U⟩
   |_=>exact q3.elim
 .rcases BZ g1 with ⟨_,O,_⟩ | ⟨_,Z⟩
  .cases O
  .rcases BZ g2 with ⟨_,O,_⟩ | ⟨_,z2⟩
   .cases O
   .exact w.ok.inj j k e f q Z z2 g3 g4
 .rcases BZ g1 with ⟨_,O,_⟩ | ⟨_,Z⟩
  .cases O
  .exact w.ow0 j e q Z g2
 .rcases BZ h0 with ⟨_,O,_⟩ | ⟨_,Z⟩
  .cases O
  .exact w.lt x e hx Z
theorem OkS.frz{π:zP}{s:ae}{A0:List Addr}{He:Hp}{O:St}{H:Hp}{ρ:Rho}(I:Inv X π O H s)(w:OkS G A0 He O H ρ)(i:Nat):∃H',Inv X π O H' s/\OkS G A0 He O H' (frz1 ρ i):=by
 unfold frz1;split
 .rename_i d L;obtain⟨A,w⟩:=w;obtain⟨p,T,S,t⟩:=w.ok.ow i d L;cases d with
  |lst ds=>
   obtain⟨W,J,g⟩:=t;exact⟨H,I,w.frzC L T S (λ_ _=>rfl) λz F=>.lst (.of (by rw[F];exact J)) (g.mono z).1 (g.mono z).2⟩
  |dk ds=>
   obtain⟨W,J,g,U⟩:=t;obtain⟨o,Z⟩:=Inv.frzK I J;exact⟨_,Z,w.frzC L T S (λb Y=>Ag Y) λz F=>.dk (by rw[F];exact Ah) g (U.mono z).2⟩
  |dt ds=>
   obtain⟨W,J,g,U⟩:=t;obtain⟨o,Z⟩:=Inv.frzT I J;exact⟨_,Z,w.frzC L T S (λb Y=>Ag Y) λz F=>.dt (by rw[F];exact Ah) g (U.mono z).2⟩
  |ob c gs=>
   obtain⟨C,dx,W,J,g,U⟩:=t;exact⟨H,I,w.frzC L T S (λ_ _=>rfl) λz F=>.ob g.1 (by rw[F];exact J) g.2 (U.mono z).2⟩
  |_=>exact t.elim
 .exact⟨H,I,w⟩
theorem Ul{d:zP}{s:ae}{A0:List Addr}{He:Hp}{g:St}:∀(is:List Nat) {H:Hp}{ρ:Rho},Inv X d g H s->OkS G A0 He g H ρ->∃H',Inv X d g H' s/\OkS G A0 He g H' (is.foldl frz1 ρ)
 |[],H,_,I,w=>⟨H,I,w⟩
 |i::r,_,_,I,w=>let ⟨_,I1,w1⟩:=w.frz I i;Ul r I1 w1
theorem H_{g:FS}(is:List Nat)(h:PSD X G st g):PSD X G st (fzS is g):=λL J F s d H D I ⟨z,o,ok,e,k⟩=>
 let ⟨H',I',ok'⟩:=Ul is I ok
 @h L J F s d H' D I' ⟨is.foldl frz1 z,o,ok',e,k⟩
end
section
variable {G:Gx}{c:Expr}{px:Pos}{t:Str}{elt iter:Expr}{ifs:List Expr}{ga:FT}{fe:FE}{src:FI}
end
end PV
namespace PV
open PySem PySem.Spec
section
variable {w:ag}{A:ar}
end
section
variable {w:ag}{A:ar}{R:gT->ae->Prop}{I:Addr}{wr:List Addr}{P:Nat->ac->Prop}{Sx:Nat->Heap->Prop}
end
section
variable {w:ag}{A:ar}
end
section
variable {w:ag}{A:ar}{I T:Addr}{first:ac}{es:Array (Int×ac)}{t:ng}
end
end PV
namespace PV
open PySem L2
theorem X3{d:Type}{xs:List d}{i:Int}(I:0<=i)(h1:i<xs.length):atI xs i=xs[i.toNat]?:=by
 unfold atI ixN;rw[if_pos I,if_pos h1];rfl
theorem Fq(i j:Int)(h:0<j):modD (.int i) (.int j)=Y2 (.int (i%j)):=by
 show (if 0<j then Y2 (D.int (i%j)) else X2)=_;rw[if_pos h]
theorem E_(i j:Int)(h:0<j)(d:j<1073741824):Ew (.int i) (.int j)=Y2 (.int (i/j)):=by
 show (if CDiv i j then Y2 (D.int (i/j)) else X2)=_;rw[if_pos ⟨h,d⟩]
theorem MF(i j:Int)(h : -(2^64)<j/\j<2^64):mulD (.int i) (.int j)=Y2 (.int (i*j)):=by
 show (if Jt i j then Y2 (D.int (i*j)) else X2)=_;rw[if_pos (.inl (.inr h))]
theorem aW(i j:Int)(h : -(2^64)<i/\i<2^64):mulD (.int i) (.int j)=Y2 (.int (i*j)):=by
 show (if Jt i j then Y2 (D.int (i*j)) else X2)=_;rw[if_pos (.inl (.inl h))]
theorem QJ(i j:Int):addD (.int i) (.int j)=Y2 (.int (i+j)):=zE_ _
theorem Te(i j:Int):subD (.int i) (.int j)=Y2 (.int (i-j)):=zE_ _
theorem Q_(i j:Int):ltD (.int i) (.int j)=Y2 (.bl (decide (i<j))):=zE_ _
theorem X4(i j:Int):gtD (.int i) (.int j)=Y2 (.bl (decide (j<i))):=zE_ _
theorem X5(i j:Int):geD (.int i) (.int j)=Y2 (.bl (decide (j<=i))):=zE_ _
theorem Um(i j:Int):eqD T2 (.int i) (.int j)=Y2 (.bl (decide (i=j))):=zE_ _
theorem Uo(i j:Int):eqD U2 (.int i) (.int j)=Y2 (.bl (!decide (i=j))):=zE_ _
theorem JF(h:n<=10000000):n<=sizeLine:=cE h (by decide)
theorem X6{i j:List D}(h:i.length+j.length<=10000000):addD (.lst i) (.lst j)=Y2 (.lst (i++j)):=by
 show (if _ then _ else _)=_;rw[if_pos (JF h)]
theorem X7{i j:Str}(h:i.length+j.length<=10000000):addD (.str i) (.str j)=Y2 (.str (i++j)):=by
 show (if _ then _ else _)=_;rw[if_pos (JF h)]
theorem IK{b:D->FS}{P:Nat->Rho->Prop}:∀{ds:List D}{ρ:Rho}(k:Nat),P k ρ->(∀(i:Nat) d ρ,ds[i]?=Y2 d->P (k+i) ρ->∃ρ',b d ρ=Y2 (.nx ρ')/\P (k+i+1) ρ')->∃ρ',forF b ds ρ=Y2 (.nx ρ')/\P (k+ds.length) ρ'
 |[],ρ,k,I,_=>⟨ρ,rfl,by simpa using I⟩
 |d::r,ρ,k,I,F=>by
  obtain⟨z,T,L⟩:=F 0 d ρ rfl (by simpa using I);obtain⟨g,S,J⟩:=IK (ds:=r) (ρ:=z) (k+1) (by simpa using L) λi U ρ' O G=>by
   have:=F (i+1) U ρ' (by simpa using O) (by rw[show k+(i+1)=k+1+i by omega];exact G);rw[show k+(i+1)+1=k+1+i+1 by omega] at this;exact this
  refine⟨g,?_,by rw[df,show k+(r.length+1)=k+1+r.length by omega];exact J⟩;unfold forF;rw[T];exact S
theorem Ur{d:FI}{g:FT}{z:FE}{ρ:Rho}{ds out:List D}(h:d ρ=Y2 ds)(O:ds.length<=10000000)(I:Hv ρ g z ds=Y2 out):Hq d g z ρ=Y2 (.lst out):=by
 unfold Hq;rw[h];show (if ds.length<=sizeLine then (Hv ρ g z ds).map D.lst else X2)=_;rw[if_pos (JF O),I];rfl
def cL(o:Option Out)(J:FS):Option Out:=match o with | some (.nx ρ')=>J ρ' | o=>o
theorem cM(g gs:FS)(ρ:Rho):seqF g gs ρ=cL (g ρ) gs:=zE_ _
theorem e_nx(J:FS)(ρ:Rho):cL (Y2 (.nx ρ)) J=J ρ:=zE_ _
theorem cP(ρ:Rho):nxF ρ=Y2 (.nx ρ):=zE_ _
def iteO(o:Option Bool)(g J:FS)(ρ:Rho):Option Out:=match o with | some U2=>g ρ | some T2=>J ρ | none=>X2
theorem e_if(t:FT)(g J:FS)(ρ:Rho):ifS t g J ρ=iteO (t ρ) g J ρ:=zE_ _
theorem cQ(g J:FS)(ρ:Rho):iteO (Y2 U2) g J ρ=g ρ:=zE_ _
theorem cR(g J:FS)(ρ:Rho):iteO (Y2 T2) g J ρ=J ρ:=zE_ _
def setO(i:Nat)(ρ:Rho)(o:Option D):Option Out:=o.map λd=>.nx (ρ.set i (.fz d))
theorem X8(i:Nat)(f:FE)(ρ:Rho):setF i f ρ=setO i ρ (f ρ):=zE_ _
theorem X_(i:Nat)(ρ:Rho)(d:D):setO i ρ (Y2 d)=Y2 (.nx (ρ.set i (.fz d))):=zE_ _
def retO(ρ:Rho)(o:Option D):Option Out:=o.map λd=>.rt d ρ
theorem cT(f:FE)(ρ:Rho):retF f ρ=retO ρ (f ρ):=zE_ _
theorem YB(d:D)(ρ:Rho):retO ρ (Y2 d)=Y2 (.rt d ρ):=zE_ _
def cU(ρ:Rho)(o:Option D):Option Out:=o.map λ_=>.nx ρ
theorem YC(f:FE)(ρ:Rho):Dh f ρ=cU ρ (f ρ):=zE_ _
theorem Us(ρ:Rho)(d:D):cU ρ (Y2 d)=Y2 (.nx ρ):=zE_ _
def b2(g:D->D->Option D)(x y:Option D):Option D:=x.bind λx=>y.bind λy=>g x y
theorem e_b(g:D->D->Option D)(O d:FE)(ρ:Rho):bF g O d ρ=b2 g (O ρ) (d ρ):=zE_ _
theorem e_bs(g:D->D->Option D)(x y:D):b2 g (Y2 x) (Y2 y)=g x y:=zE_ _
def b1(g:D->Option D)(x:Option D):Option D:=x.bind g
theorem e_u(g:D->Option D)(O:FE)(ρ:Rho):uF g O ρ=b1 g (O ρ):=zE_ _
theorem e_us(g:D->Option D)(x:D):b1 g (Y2 x)=g x:=zE_ _
def cl1(g:List D->Option D)(x:Option (List D)):Option D:=x.bind g
theorem YD(g:List D->Option D)(fs:FA)(ρ:Rho):Am g fs ρ=cl1 g (fs ρ):=zE_ _
theorem Ut(g:List D->Option D)(ds:List D):cl1 g (Y2 ds)=g ds:=zE_ _
def cV(x:Option D)(y:Option (List D)):Option (List D):=x.bind λd=>y.map (d::·)
theorem YF(O:FE)(fs:FA)(ρ:Rho):Aa O fs ρ=cV (O ρ) (fs ρ):=zE_ _
theorem Uu(d:D)(ds:List D):cV (Y2 d) (Y2 ds)=Y2 (d::ds):=zE_ _
theorem cW(ρ:Rho):nilA ρ=Y2 []:=zE_ _
def tupO(o:Option (List D)):Option D:=o.bind λds=>if ds.length<=sizeLine then Y2 (.tup ds) else X2
def lstO(o:Option (List D)):Option D:=o.bind λds=>if ds.length<=sizeLine then Y2 (.lst ds) else X2
theorem cX(fs:FA)(ρ:Rho):tupF fs ρ=tupO (fs ρ):=zE_ _
theorem cY(fs:FA)(ρ:Rho):lstF fs ρ=lstO (fs ρ):=zE_ _
theorem YG(a b:D):tupO (Y2 [a,b])=Y2 (.tup [a,b]):=zE_ _
theorem YH:lstO (Y2 [])=Y2 (.lst []):=zE_ _
theorem YJ(a b:D):lstO (Y2 [a,b])=Y2 (.lst [a,b]):=zE_ _
theorem YK(a b c:D):lstO (Y2 [a,b,c])=Y2 (.lst [a,b,c]):=zE_ _
theorem YL(a b c d e:D):lstO (Y2 [a,b,c,d,e])=Y2 (.lst [a,b,c,d,e]):=zE_ _
def blO(o:Option D):Option Bool:=match o with | some (.bl b)=>Y2 b | _=>X2
theorem e_bl(f:FE)(ρ:Rho):blF f ρ=blO (f ρ):=zE_ _
theorem cZ(b:Bool):blO (Y2 (.bl b))=Y2 b:=zE_ _
def orO(o:Option Bool)(d:FT)(ρ:Rho):Option Bool:=match o with | some U2=>Y2 U2 | some T2=>d ρ | none=>X2
theorem cg(a b:FT)(ρ:Rho):orT a b ρ=orO (a ρ) b ρ:=zE_ _
theorem YM(b:FT)(ρ:Rho):orO (Y2 T2) b ρ=b ρ:=zE_ _
theorem YQ(a:FT)(ρ:Rho):notT a ρ=(a ρ).map (!·):=zE_ _
def andP(o:Option D)(d:FE)(ρ:Rho):Option D:=match o with | some (.bl U2)=>d ρ | some (.bl T2)=>Y2 (.bl T2) | _=>X2
theorem YS(a b:FE)(ρ:Rho):andF a b ρ=andP (a ρ) b ρ:=zE_ _
theorem Uv(b:FE)(ρ:Rho):andP (Y2 (.bl U2)) b ρ=b ρ:=zE_ _
def sl3(f:Option D)(l h:Option (Option Int)):Option D:=f.bind λx=>l.bind λz=>h.bind λG=>slD x z G
theorem e_sl(f:FE)(l h:FO)(ρ:Rho):slF f l h ρ=sl3 (f ρ) (l ρ) (h ρ):=zE_ _
theorem cj(x:D)(l h:Option Int):sl3 (Y2 x) (Y2 l) (Y2 h)=slD x l h:=zE_ _
def somO(o:Option D):Option (Option Int):=match o with | some (.int i)=>Y2 (Y2 i) | _=>X2
theorem Uw(f:FE)(ρ:Rho):someO f ρ=somO (f ρ):=zE_ _
theorem RB(i:Int):somO (Y2 (.int i))=Y2 (Y2 i):=zE_ _
def getO(o:Option Slot):Option D:=match o with | some (.fz d)=>Y2 d | _=>X2
def getU(o:Option Slot):Option D:=match o with | some (.fz d)=>Y2 d | some (.ow d)=>Y2 d | _=>X2
theorem e_v(i:Nat)(ρ:Rho):vF i ρ=getO (ρ[i]?):=zE_ _
theorem e_vs(d:D):getO (Y2 (.fz d))=Y2 d:=zE_ _
theorem e_vU(i:Nat)(ρ:Rho):vU i ρ=getU (ρ[i]?):=zE_ _
theorem cu(d:D):getU (Y2 (.ow d))=Y2 d:=zE_ _
theorem e_k(d:D)(ρ:Rho):kF d ρ=Y2 d:=zE_ _
def rngO(o:Option D):Option (List D):=match o with | some (.int j)=>if -(2^62)<=j/\j<2^62 then Y2 (rngD j.toNat) else X2 | _=>X2
theorem Tf(f:FE)(ρ:Rho):rngI f ρ=rngO (f ρ):=zE_ _
theorem IV(j:Int)(h : -(2^62)<=j/\j<2^62):rngO (Y2 (.int j))=Y2 (rngD j.toNat):=by
 show (if _ then _ else _)=_;rw[if_pos h]
def forO(o:Option (List D))(z:FG)(b:FS)(ρ:Rho):Option Out:=o.bind λds=>forF (tgB z b) ds ρ
theorem cz(d:FI)(z:FG)(b:FS)(ρ:Rho):forS d z b ρ=forO (d ρ) z b ρ:=zE_ _
theorem YT(ds:List D)(z:FG)(b:FS)(ρ:Rho):forO (Y2 ds) z b ρ=forF (tgB z b) ds ρ:=zE_ _
def ccO(o:Option Bool)(e:Option D)(r:Option (List D)):Option (List D):=match o with | some U2=>e.bind λy=>r.map (y::·) | some T2=>r | none=>X2
theorem NB(ρ:Rho)(g:FT)(z:FE)(d:D)(r:List D):Hv ρ g z (d::r)=ccO (g (ρ++[.fz d])) (z (ρ++[.fz d])) (Hv ρ g z r):=zE_ _
theorem YW(ρ:Rho):allT ρ=Y2 U2:=zE_ _
def runO(o:Option Out):Option D:=match o with | some (.rt d _)=>Y2 d | some (.nx _)=>Y2 .non | _=>X2
theorem dB{g:Nat}{b:FS}{ds:List D}(h:ds.length=g):runF n g b ds=runO (b (Ba n ds)):=by
 unfold runF;rw[if_pos h];rfl
theorem YX(d:D)(ρ:Rho):runO (Y2 (.rt d ρ))=Y2 d:=zE_ _
theorem YZ(ρ:Rho):runO (Y2 (.nx ρ))=Y2 .non:=zE_ _
theorem dC{d g:Type}(f:d->g)(x:d):Option.map f (Y2 x)=Y2 (f x):=zE_ _
theorem Yb{d g:Type}(f:d->Option g)(x:d):mh (Y2 x) f=f x:=zE_ _
theorem RC(n:Nat)(ds:List D):Ba n ds=ds.map .fz++m4 (n-ds.length) .un:=zE_ _
theorem truB(b:Bool):truD (.bl b)=Y2 b:=zE_ _
theorem QK{d:Type}(l:List d)(k:Nat):atI l (k:Int)=l[k]?:=by
 unfold atI ixN;rw[if_pos (by omega)]
 by_cases h:k<l.length
 .rw[if_pos (by omega)];simp
 .rw[if_neg (by omega),lF (by omega)];rfl
theorem e_tr(f:FE)(ρ:Rho):trF f ρ=(f ρ).bind truD:=zE_ _
theorem Je(x y:Str):(x++y).length=x.length+y.length:=by
 show (x.cps++y.cps).size=_;simp[ip]
theorem jX(z:Str)(h:z.length<=10000000):lenD (.str z)=Y2 (.int z.length):=by
 show (if z.length<=sizeLine then Y2 (D.int z.length) else X2)=_;rw[if_pos (JF h)]
theorem Ux(l:List D):lenD (.lst l)=Y2 (.int l.length):=zE_ _
theorem Uy(x:Str)(ys:List Str):inD T2 (.str x) (.lst (ys.map .str))=Y2 (.bl (ys.any (λy=>y==x))):=by
 have h:∀ys:List Str,flVs (ys.map .str)=Y2 (ys.map V.str):=λys=>by
  induction ys with
  |nil=>rfl
  |cons y r d=>simp[flVs,flV,d]
 show ((flV (.str x)).bind λv=>(flVs (ys.map .str)).map λF=>D.bl (inV v F))=_;rw[h];show Y2 (D.bl (inV (.str x) (ys.map V.str)))=_;simp[inV,oX,lG,eqV]
theorem Dj(n:Nat):(rngD n).length=n:=by simp[rngD]
theorem WT(ys:List Str):Hw (ys.map .str)=Y2 ys:=by
 induction ys with
 |nil=>rfl
 |cons y r d=>simp[Hw,d]
def dD(i:Nat)(ρ:Rho)(o:Option D):Option Out:=o.map λd=>.nx (ρ.set i (.ow d))
theorem Yc(i:Nat)(f:FE)(ρ:Rho):setW i f ρ=dD i ρ (f ρ):=zE_ _
theorem Uz(i:Nat)(ρ:Rho)(d:D):dD i ρ (Y2 d)=Y2 (.nx (ρ.set i (.ow d))):=zE_ _
def mutO(g:D->D->Option D)(i:Nat)(ρ:Rho)(x v:Option D):Option Out:=v.bind λv=>x.bind λx=>(g x v).map λy=>.nx (ρ.set i (.ow y))
def getW(o:Option Slot):Option D:=match o with | some (.ow d)=>Y2 d | _=>X2
theorem dF(g:D->D->Option D)(i:Nat)(f:FE)(ρ:Rho):mutF g i f ρ=mutO g i ρ (getW ρ[i]?) (f ρ):=zE_ _
theorem Yd(g:D->D->Option D)(i:Nat)(ρ:Rho)(x v:D):mutO g i ρ (Y2 x) (Y2 v)=(g x v).map λy=>.nx (ρ.set i (.ow y)):=zE_ _
theorem NK(d:D):getW (Y2 (.ow d))=Y2 d:=zE_ _
def forB(o:Option Out)(b:D->FS)(r:List D):Option Out:=match o with
  |some (.nx ρ')=>forF b r ρ'
  |some (.ct ρ')=>forF b r ρ'
  |some (.bk ρ')=>Y2 (.nx ρ')
  |some (.rt e ρ')=>Y2 (.rt e ρ')
  |none=>X2
theorem Ff(b:D->FS)(d:D)(r:List D)(ρ:Rho):forF b (d::r) ρ=forB (b d ρ) b r:=zE_ _
theorem GZ(b:D->FS)(r:List D)(ρ:Rho):forB (Y2 (.nx ρ)) b r=forF b r ρ:=zE_ _
def bndO(o:Option Rho)(b:FS):Option Out:=o.bind b
theorem e_tg(z:FG)(b:FS)(d:D)(ρ:Rho):tgB z b d ρ=bndO (z d ρ) b:=zE_ _
theorem G4(ρ:Rho)(b:FS):bndO (Y2 ρ) b=b ρ:=zE_ _
theorem Fv(i:Nat)(d:D)(ρ:Rho):BV i d ρ=Y2 (ρ.set i (.fz d)):=zE_ _
theorem HJ(a:Str):ltS a a=T2:=by
 unfold ltS;exact decide_eq_false (List.lt_irrefl _)
theorem Ku{a b:Str}(h1:ltS a b=U2)(d:ltS b c=U2):ltS a c=U2:=by
 unfold ltS at *;exact decide_eq_true (List.lt_trans (of_decide_eq_true h1) (of_decide_eq_true d))
theorem U0{a b:Str}(h1:ltS a b=T2)(z:a≠b):ltS b a=U2:=by
 unfold ltS at *;have d:=of_decide_eq_false h1;have O:b.cps.toList<=a.cps.toList:=qK.mp d
 rcases Decidable.em (b.cps.toList<a.cps.toList) with h | h
 .exact decide_eq_true h
 .exfalso;have g:a.cps.toList<=b.cps.toList:=qK.mp h;have e:a.cps.toList=b.cps.toList:=List.le_antisymm g O;apply z;cases a;cases b;simp at e;rw[e]
def Up(l:List Str):Prop:=l.Pairwise λa b=>ltS a b=U2
theorem NP(x y:Str):∀l:List Str,y∈insS x l↔y=x∨y∈l
 |[]=>by simp[insS]
 |z::r=>by
  unfold insS;split
  .simp
  .split
   .rename_i _ e;subst e;simp
   .simp[NP x y r];constructor
    .rintro (h | h | h)
     .exact .inr (.inl h)
     .exact .inl h
     .exact .inr (.inr h)
    .rintro (h | h | h)
     .exact .inr (.inl h)
     .exact .inl h
     .exact .inr (.inr h)
theorem U3(x:Str):∀{l:List Str},Up l->Up (insS x l)
 |[],_=>by simp[insS,Up]
 |z::r,h=>by
  obtain⟨F,I⟩:=kX.mp h;unfold insS;split
  .rename_i d;exact kX.mpr ⟨λy g=>by
    rcases ba.mp g with rfl | g
    .exact d
    .exact Ku d (F y g),h⟩
  .rename_i G;split
   .exact h
   .rename_i W;refine kX.mpr ⟨λy g=>?_,U3 x I⟩
    rcases (NP x y r).mp g with rfl | g
    .exact U0 (by simpa using G) W
    .exact F y g
theorem IW(l:List Str):Up (Bf l):=by
 unfold Bf
 induction l with
 |nil=>exact oI
 |cons x r d=>exact U3 x d
theorem G5(y:Str)(l:List Str):y∈Bf l↔y∈l:=by
 unfold Bf
 induction l with
 |nil=>simp
 |cons x r d=>rw[List.foldr_cons,NP,d];simp
theorem RD{l:List Str}(h:Up l):l.Nodup:=h.imp λ{a b} J e=>by
 subst e;rw[HJ] at J;cases J
theorem sub_len:∀{l m:List Str},l.Nodup->(∀x∈l,x∈m)->l.length<=m.length
 |[],_,_,_=>eA _
 |x::r,m,h,z=>by
  obtain⟨G,F⟩:=hJ.mp h;have d:x∈m:=z x bg;have:=sub_len (l:=r) (m:=m.erase x) F λy g=>(qL (λe=>by subst e;exact G g)).mpr (z y (aI _ g));rw[qM d] at this;have I:0<m.length:=qN d;simp;omega
theorem Tg:∀{l m:List Str},Up l->Up m->(∀x,x∈l↔x∈m)->l=m
 |[],[],_,_,_=>rfl
 |[],y::s,_,_,h=>by have:=(h y).mpr bg;simp at this
 |x::r,[],_,_,h=>by have:=(h x).mp bg;simp at this
 |x::r,y::s,G,F,h=>by
  obtain⟨J,I⟩:=kX.mp G;obtain⟨b1,b2⟩:=kX.mp F;have e:x=y:=by
   rcases ba.mp ((h x).mp bg) with e | d
   .exact e
   .rcases ba.mp ((h y).mpr bg) with e | g
    .exact e.symm
    .have:=Ku (J y g) (b1 x d);rw[HJ] at this;cases this
  subst e;have:r=s:=Tg I b2 λz=>by
   constructor
   .intro O
    rcases ba.mp ((h z).mp (aI _ O)) with e | q
    .subst e;have:=J z O;rw[HJ] at this;cases this
    .exact q
   .intro O
    rcases ba.mp ((h z).mpr (aI _ O)) with e | q
    .subst e;have:=b1 z O;rw[HJ] at this;cases this
    .exact q
  rw[this]
end PV
namespace PV
open PySem PySem.Spec
section
variable {w:ag}{A:ar}{I T:Addr}{first:ac}{es:Array (Int×ac)}{t:ng}
end
section
variable {w:ag}{A:ar}{I:Addr}{es:Array (Int×ac)}{t:ng}
end
section
variable {w:ag}{A:ar}{I T:Addr}
end
theorem Jv:∀{r:List Str}{p:Str},qO p r=U2->(p::r).Nodup->Up (p::r)
 |[],p,_,_=>by simp[Up]
 |x::r,p,h,d=>by
  unfold qO at h;rw[eD] at h;obtain⟨z,g⟩:=h;obtain⟨n1,n2⟩:=hJ.mp d;have u:=Jv g n2;have lt:ltS p x=U2:=U0 (by unfold ltS;simpa [PyProof.Rows.ltCps_eq] using z) (λe=>n1 (by rw[<-e];exact bg));refine kX.mpr ⟨λy m=>?_,u⟩
  rcases ba.mp m with e | m
  .rw[e];exact lt
  .exact Ku lt ((kX.mp u).1 y m)
theorem QL{l:List Str}(h:PyProof.Rows.sortedS l=U2)(d:l.Nodup):Up l:=by
 cases l with
 |nil=>exact oI
 |cons p r=>exact Jv h d
section
variable {w:ag}{A:ar}
end
open L2
section
variable {G:Gx}{a:Expr}{fa:FE}
theorem Ov:∀{xs:List Str}{us:List ac},nh us xs->Vals (xs.map V.str) us
 |_,_,.nil=>.nil
 |_,_,.cons _ u r=>.cons ⟨u,rfl⟩ (Ov r)
theorem RG{ds:List D}{d:List Str}(r:RepL G H xs ds)(h:Hw ds=Y2 d):xs=d.map V.str:=Q8 r h
end
end PV
namespace PV
open PySem L2
end PV
namespace PV
open PySem PySem.Spec L2
open PyProof.Rows hiding St
section
variable {G:Gx}{a b:Expr}{fa fb:FE}{p2:Pos}
end
def getK{d:Type}[DecidableEq d](k:d):List (d×D)->Option D
 |[]=>X2
 |p::r=>if p.1=k then Y2 p.2 else getK k r
def repK{d:Type}[DecidableEq d](k:d)(v:D):List (d×D)->List (d×D)
 |[]=>[]
 |p::r=>(p.1,if p.1=k then v else p.2)::repK k v r
def putL{g:Type}[DecidableEq g](k:g)(v:D)(d:List (g×D)):List (g×D):=if (getK k d).isSome then repK k v d else d++[(k,v)]
def keyD:D->Option Key
 |.int i=>Y2 (.inl i)
 |.str x=>Y2 (.inr x)
 |_=>X2
def Ia:List D->Option (List Key)
 |[]=>Y2 []
 |d::r=>(keyD d).bind λk=>(Ia r).map (k::·)
section
variable {κ:Type} [DecidableEq κ] {G:Gx}
theorem HN{k:κ}:∀{g:List (κ×D)}{kvs:List (κ×V)},kvs.map (·.1)=g.map (·.1)->RepL G H (kvs.map (·.2)) (g.map (·.2))->(∀d,getK k g=Y2 d->∃v,valV kvs k=Y2 v/\Rep G H v d)/\(valV kvs k).isSome=(getK k g).isSome
 |[],kvs,e,r=>by
  cases kvs with
  |nil=>exact⟨λd h=>by simp[getK] at h,rfl⟩
  |cons p q=>simp at e
 |p::g,kvs,e,r=>by
  cases kvs with
  |nil=>simp at e
  |cons q kvs=>
   rw[bb,bb] at e;injection e with J e2
   rw[bb,bb] at r;obtain⟨x,W,U,O,L⟩:=r.uncons;injection U with T e5
   subst T e5;have S:=HN (k:=k) e2 L
   by_cases h:p.1=k
   .have F:q.1=k:=J.trans h;rw[Jq F];refine⟨λd I=>?_,?_⟩
    .simp only[getK,if_pos h] at I;cases I;exact⟨_,rfl,O⟩
    .simp[getK,if_pos h]
   .have F:¬ q.1=k:=λz=>h (J.symm.trans z);rw[Jr F];simp only[getK,if_neg h];exact S
theorem U4{k:κ}{v:V}{d:D}(O:Rep G H v d):∀{g:List (κ×D)}{kvs:List (κ×V)},kvs.map (·.1)=g.map (·.1)->RepL G H (kvs.map (·.2)) (g.map (·.2)) ->
  (kvs.map λF=>if F.1=k then (F.1,v) else F).map (·.1)=(repK k d g).map (·.1)/\RepL G H ((kvs.map λF=>if F.1=k then (F.1,v) else F).map (·.2)) ((repK k d g).map (·.2))
 |[],kvs,e,r=>by
  cases kvs with
  |nil=>exact⟨rfl,RepL.nil⟩
  |cons p q=>simp at e
 |p::g,kvs,e,r=>by
  cases kvs with
  |nil=>simp at e
  |cons q kvs=>
   rw[bb,bb] at e;injection e with L e2
   rw[bb,bb] at r;obtain⟨x,Y,W,T,S⟩:=r.uncons;injection W with U e5
   subst U e5;have J:=U4 O (k:=k) e2 S
   by_cases h:p.1=k
   .have I:q.1=k:=L.trans h;refine⟨?_,?_⟩
    .simp only[bb,if_pos I,repK];rw[J.1,L]
    .simp only[bb,if_pos I,repK,if_pos h];exact .cons O J.2
   .have I:¬ q.1=k:=λz=>h (L.symm.trans z);refine⟨?_,?_⟩
    .simp only[bb,if_neg I,repK];rw[J.1,L]
    .simp only[bb,if_neg I,repK,if_neg h];exact .cons T J.2
theorem MJ{k:κ}{d:D}(F:Rep G H v d){g:List (κ×D)}{kvs:List (κ×V)}(e:kvs.map (·.1)=g.map (·.1))(r:RepL G H (kvs.map (·.2)) (g.map (·.2))):
  (putK kvs k v).map (·.1)=(putL k d g).map (·.1)/\RepL G H ((putK kvs k v).map (·.2)) ((putL k d g).map (·.2)):=by
 unfold putK putL;rw[Mv,(HN (k:=k) e r).2];split
 .exact U4 F e r
 .rw[fR,fR,fR,fR,e];exact⟨rfl,r.append (.cons F .nil)⟩
end
theorem RJ{G:Gx}{d:D}{k:Key}(r:RepT G A H v d)(h:keyD d=Y2 k):v=kV k:=by
 cases d with
 |int i=>cases h;exact r.int
 |str x=>cases h;exact r.str
 |_=>cases h
theorem Fg{G:Gx}{d:D}{k:Key}(r:Rep G H v d)(h:keyD d=Y2 k):v=kV k:=by
 cases d with
 |int i=>cases h;cases r;rfl
 |str x=>cases h;cases r;rfl
 |_=>cases h
theorem Kv{G:Gx}{H:Hp}:∀{ds:List D}{vs:List V}{ks:List Key},RepL G H vs ds->Ia ds=Y2 ks->vs=ks.map kV
 |[],vs,ks,r,h=>by cases h;exact r.nil_inv
 |d::ds,vs,ks,r,h=>by
  obtain⟨x,J,rfl,F,L⟩:=r.uncons;cases g:keyD d with
  |none=>simp[Ia,g] at h
  |some k=>
   cases z:Ia ds with
   |none=>simp[Ia,g,z] at h
   |some I=>
    simp[Ia,g,z] at h;subst h;rw[Fg F g,Kv L z];rfl
section
variable {G:Gx}{a b c:Expr}{fa fb:FE}
theorem Ib:PN X G (.Dict [] [] pos) (kF (.dk [])):=λA=>Bt XS λz H Q ⟨F,d,o,e,k⟩=>by
 cases e;exact λp g=>k p _ (Ak g _) g ⟨[],Ah,rfl,RepL.nil⟩
theorem dG:PN X G (.Dict [] [] pos) (kF (.dt [])):=λA=>Bt XX λz H Q ⟨F,d,o,e,k⟩=>by
 cases e;exact λp g=>k p _ (Ak g _) g ⟨[],Ah,rfl,RepL.nil⟩
def rDIn(d:Bool):R2:=λx y H Q=>∃a kvs k,y=.ref a/\Rd H a (.dK kvs)/\x=kV k/\Q (.bl (if d then !(valV kvs k).isSome else (valV kvs k).isSome)) H
theorem Th(S:X.A.units+1<aE):OpR X (bX .In) (rDIn T2):=by
 intro J s F H x y v u Q I rx z h;obtain⟨a,d,k,rfl,e,rfl,q⟩:=h;cases z;exact d_in S I (.inl ⟨d,k,e,rfl,rfl⟩) rx λL g=>⟨.bl _,H,g,rfl,q⟩
theorem WW(S:X.A.units+1<aE):OpR X (bX .NotIn) (rDIn U2):=by
 intro J s F H x y v u Q I rx z h;obtain⟨a,d,k,rfl,e,rfl,q⟩:=h;cases z;exact Z2 S I (.inl ⟨d,k,e,rfl,rfl⟩) rx λL g=>⟨.bl _,H,g,rfl,q⟩
def inE(d:Bool)(x y:D):Option D:=match y with
 |.dk g=>(keyD x).map λk=>.bl (if d then !(getK k g).isSome else (getK k g).isSome)
 |_=>inD d x y
theorem aX(g:Bool):Cy G (λx y H Q=>rInA G.K g x y H Q∨rDIn g x y H Q) (inE g):=by
 intro A H x y dx T d Q I rx F h k;unfold inE at h;split at h
 .rename_i J;cases e:keyD dx with
  |none=>simp[e] at h
  |some q=>
   obtain⟨p,z,rfl,S,L,r⟩:=F.dk;have O:=(HN (k:=q) L r).2;rw[e] at h;cases h;refine .inr ⟨p,z,q,rfl,S,RJ rx e,?_⟩;rw[O];exact k _ H (Same.refl H) (.bl _)
 .exact .inl (fj g A H x y dx T d Q I rx F h k)
def rDIx:R2:=λx y H Q=>∃a kvs k v,x=.ref a/\Rd H a (.dK kvs)/\y=kV k/\valV kvs k=Y2 v/\Q v H
theorem jY(Y:X.A.units+1<aE):IxR X rDIx:=by
 intro d F U s T H x y v u Q I rx W h Z;obtain⟨a,O,k,z,rfl,e,rfl,l,q⟩:=h;cases rx;have g:DGet H a (kV k) (Y2 z):=.inl ⟨O,k,e,rfl,l.symm⟩;have S:=K_ I g;unfold mU;refine am ?_;rw[qy S.not_modules];refine am (kt S qA.lookup ?_);have fin:af (ah X.prog X.w) X.A (m8 F T2 (.ref a) u) (λr J=>af (ah X.prog X.w) X.A (letTemporaryGo d (.ref a) r >>= λ_=>pure r) (EP X U T Q) X.xe J) X.xe s:=by
  rw[Z];exact wpAny_operating (Oq Y I g W λw' s3 I3 L=>am (qz (ay ⟨z,H,I3,L,q⟩)))
 first
  |exact ay (am fin)
  |exact am (ay (am fin))
  |exact am fin
def ixE(x y:D):Option D:=match x with
 |.dk d=>(keyD y).bind λk=>getK k d
 |_=>ixD x y
theorem aZ:Cy G (λx y H Q=>rIx G.K x y H Q∨rDIx x y H Q) ixE:=by
 intro A H x y dx F d Q J rx z h k;unfold ixE at h;split at h
 .rename_i L;cases e:keyD F with
  |none=>simp[e] at h
  |some q=>
   obtain⟨p,g,rfl,T,S,r⟩:=rx.dk;simp[e] at h;obtain⟨v,O,I⟩:=(HN (k:=q) S r).1 d h;exact .inr ⟨p,g,q,v,rfl,T,RJ z e,O,k v H (Same.refl H) I⟩
 .exact .inl (Xk A H x y dx F d Q J rx z h k)
theorem gF(S:X.A.units+1<aE)(U:G.K=X.K)(ha:PU X G a fa)(hb:PU X G b fb)(d:Jo b):PF X G (.Subscript a b pos) (bF ixE fa fb):=
 λA=>Bt (cC (r:=λx y H Q=>rIx X.K x y H Q∨rDIx x y H Q) (W7.or (jY S)) (@ha A) (@hb A) d) λ_ _ _ h=>M5 (by rw[<-U];exact aZ) h
def Bc(x y v:D):Option D:=match x with
 |.dk d=>(keyD y).bind λk=>if d.length<sizeLine then Y2 (.dk (putL k v d)) else X2
 |_=>X2
def putF(i:Nat)(g d:FE):FS:=λρ=>(d ρ).bind λv=>(g ρ).bind λy=>(ownO ρ i).bind λx=>(Bc x y v).map λz=>.nx (ρ.set i (.ow z))
theorem Ow{ρ:Rho}{o:Out}(h:putF i fa fb ρ=Y2 o):∃v y x z,fb ρ=Y2 v/\fa ρ=Y2 y/\ρ[i]?=Y2 (.ow x)/\Bc x y v=Y2 z/\o=.nx (ρ.set i (.ow z)):=by
 unfold putF at h;cases d:fb ρ with
 |none=>simp[d] at h
 |some v=>
  cases F:fa ρ with
  |none=>simp[d,F] at h
  |some y=>
   cases g:ownO ρ i with
   |none=>simp[d,F,g] at h
   |some x=>
    cases T:Bc x y v with
    |none=>simp[d,F,g,T] at h
    |some z=>
     simp[d,F,g,T] at h;exact⟨v,y,x,z,rfl,rfl,Ks g,T,h.symm⟩
theorem MK(hu:X.A.units+1<aE)(hv:PE X (.Name x xpos) (tVar i))(ha:PF X G a fa)(hb:PF X G b fb)(hs:dA b (Y2 (.Subscript (.Name x xpos) a spos)) pos.line X.env=pure T2:=by rfl):PSD X G (.Assign [.Subscript (.Name x xpos) a spos] b pos) (putF i fa fb):=λA0 He Z s Y H D I ⟨J,o,⟨A,w⟩,e,k⟩=>by
 obtain⟨v,y,x0,z,e1,e2,U,d,rfl⟩:=Ow e;refine JB hu hv (@ha A) (@hb A) hs Z s Y H D I ?_;unfold Bc at d;split at d
 .rename_i u0;cases T:keyD y with
  |none=>simp[T] at d
  |some q=>
   simp only[T,bo] at d;split at d
   .rename_i hz;cases d;obtain⟨p,W,hA,F,h2,O,r⟩:=w.ok.ow i _ U;refine⟨J,v,w.ok,e1,λu H1 g r1=>⟨_,W,J,y,(w.mono g).ok,e2,λyv H2 S r2=>?_⟩⟩;have ek:=Fg r2 T;subst ek;have hl:F.length<sizeLine:=by
     have:=congrArg cw O;rw[aw,aw] at this;omega
    refine⟨p,_,rfl,DPut.k (S _ _ (g _ _ h2)) hl,?_⟩;have w2:=(w.mono g).mono S;have L:=MJ (k:=q) (r1.mono (Al S)) O (r.mono (Al (g.trans S)));refine k _ _ ⟨A,w2.wr U W ⟨_,Ah,L.1,?_⟩⟩;rw[CT hA];exact L.2
   .cases d
 .cases d
end
theorem FJ{F z:Type}{R:F->z->Prop}:∀{xs:List F}{ys:List z}{i:Nat}{x:F}{y:z},jp R xs ys->xs[i]?=Y2 x->ys[i]?=Y2 y->R x y
 |_,_,i,x,y,.nil,h,_=>by simp at h
 |_,_,0,x,y,.cons r _,g,d=>by
  simp at g d;rw[<-g,<-d];exact r
 |_,_,i+1,x,y,.cons _ t,g,d=>FJ t (by simpa using g) (by simpa using d)
def Itd(a:Addr)(o:Obj)(kvs:List (Key×V)):It:=
 ⟨λi H=>H a=Y2 (.frz o (.dK kvs))/\i<kvs.length,λi H x d=>d=H/\∃p,kvs[i]?=Y2 p/\x=kV p.1,λi H=>H a=Y2 (.frz o (.dK kvs))/\kvs.length<=i⟩
theorem relK{w:ag}{k:Key}(h:(Ar P w).is k u=U2):RelV (kV k) u:=by
 rcases Bj h with ⟨i,t,rfl,rfl⟩ | ⟨x,t,rfl,rfl⟩
 .exact⟨t,rfl⟩
 .exact⟨t,rfl⟩
theorem Kw{L:Array iA}(I:Inv X π σ H s)(e:H a=Y2 (.frz o (.dK kvs)))(G:o.data=.dict L ep):
  (a==eI)=T2/\∃vs,KV kvs vs/\s.heap.DictAt (Ar X.prog X.w) a vs ep:=by
 obtain⟨F,z,O,vs,g,Y,U,W,d,T,J,S⟩:=(show BK X.prog X.w H s.heap a (.frz o (.dK kvs)) from I.hok a _ e);rw[F] at d;cases d;rw[G] at J;cases J;exact⟨O,vs,g,o,L,F,T,G,S⟩
theorem WX{w:ag}{K:av}(a it:Addr){o:Obj}{es:Array iA}{ep:Nat}(hd:o.data=.dict es ep)(kvs:List (Key×V)):Turn P w K tg (Itd a o kvs) [it] it (λi h=>h.IsKeyIter it a i kvs.length ep) where
 mem:=by simp
 obj:=λi h U b J=>by
  have e:b=it:=by simpa using J
  subst e;obtain⟨o,e,c,d⟩:=U;exact⟨o,e,λv z=>by rw[d] at z;cases z⟩
 keep:=λi h T U k=>let ⟨o,e,c,d⟩:=U;⟨o,k it (by simp) o e,c,d⟩
 item:=by
  intro X hP Z hK hc i π s σ H E I S U hg;subst hP Z hK;obtain⟨he,O⟩:=hg;obtain⟨hm,F,g,dd⟩:=Kw I he hd;have Y:kvs.length=F.length:=g.length;obtain⟨f0,f1,f2,f3,f4,f5⟩:=S it (by simp);have hv:F[i]?=Y2 (F[i]'(by omega)):=by simp[show i<F.length by omega]
  have hk:kvs[i]?=Y2 (kvs[i]'O):=by simp[O]
  have u0:(kvs[i]'O).1=(F[i]'(by omega)).1:=(FJ g hk hv).1;refine wpAny_pyNext_dict_item (knd:=Ar X.prog X.w) (kvs:=F) (k:=(F[i]'(by omega)).1) (v:=(F[i]'(by omega)).2) (by rw[<-Y];exact U) dd hv λW T L G sb=>?_;rw[<-Y] at G;have I1:Inv X π σ H { s with heap:=T }:=I.turned (t':=s.toks) (λb o J e=>(sb.2 b J).trans e) f0 f1 f3 f4 f5;obtain⟨o1,e1,c1,d1⟩:=id G;exact⟨W,rfl,Og (s:={ s with heap:=T }) e1 c1 d1 (by decide) ⟨kV (kvs[i]'O).1,H,I1,by rw[u0];exact relK L,⟨rfl,_,hk,rfl⟩,G,λb J=>(S b J).1⟩⟩
 done:=by
  intro X hP Z hK hc i π s σ H E I S U hg;subst hP Z hK;obtain⟨he,O⟩:=hg;obtain⟨hm,F,g,dd⟩:=Kw I he hd;have Y:kvs.length=F.length:=g.length;obtain⟨f0,f1,f2,f3,f4,f5⟩:=S it (by simp);exact wpAny_pyNext_dict_end (I.ok.hd hc) (by rw[<-Y];exact U) dd (by rw[lF];omega) λT eb=>⟨rfl,I.turned (t':=s.toks) (λb o J e=>eb b o J e) f0 f1 f3 f4 f5⟩
 self:=λ_ _ _ _ _ U h=>qP U h
section
variable {G:Gx}{a b:Expr}{fa:FE}{tl:TE}
def jZ(d:TE):TI:=λg H R=>d g H λx z=>∃a o kvs,x=.ref a/\z a=Y2 (.frz o (.dK kvs))/\R (Itd a o kvs) z
theorem U5(hl:PE X l tl):PI X tg l (jZ tl):=by
 intro W s U H R I h;refine thn (hl W s U H _ I h) λv g ⟨x,O,z,Z,q1⟩=>?_;obtain⟨a,o,d,e,S,q⟩:=q1;subst e;cases Z;obtain⟨_,_,_,_,_,o',es,ep,F,h1,T,_⟩:=(show BK X.prog X.w O g.heap a (.frz o (.dK d)) from z.hok a _ S);obtain⟨ho,_⟩:=(show BK X.prog X.w O g.heap a (.frz o (.dK d)) from z.hok a _ S);rw[ho] at F;cases F;obtain⟨hm,Y,J,dd⟩:=Kw z S T;have L:d.length=Y.length:=J.length;refine wpAny_pyIter_dict hm dd ?_;refine⟨g.heap.objs.size,[g.heap.objs.size],_,_,O,rfl,z.kept (t':=g.toks) λb o e=>bq _ e,WX a _ T d,⟨_,cb _ rfl,rfl,by rw[L];rfl⟩,λb hb=>?_,q⟩;have e:b=g.heap.objs.size:=by simpa using hb
 subst e;exact z.fpOk (ax _) (z.hok.fresh (ax _))
def kDt:Key->D
 |.inl i=>.int i
 |.inr x=>.str x
theorem MN(k:Key):Rep G H (kV k) (kDt k):=by
 cases k with
 |inl i=>exact .int i
 |inr x=>exact .str x
def seqE(f:FE):FI:=λρ=>match f ρ with | some (.lst ds)=>Y2 ds | some (.tup ds)=>Y2 ds | some (.dk d)=>Y2 (d.map λp=>kDt p.1) | _=>X2
theorem RK{g:List (Key×D)}(h:F1 p=Y2 (.frz o (.dK kvs)))(e:kvs.map (·.1)=g.map (·.1)):Src G (Itd p o kvs) (g.map λp=>kDt p.1) F1 F2:=by
 have Y:kvs.length=g.length:=by have:=congrArg cw e;rwa [aw,aw] at this
 refine⟨λi H s J=>⟨s _ _ h,by rw[Y];rwa [aw] at J⟩,λi H x T d s F y=>?_,λi H s J=>⟨s _ _ h,by rw[Y];rwa [aw] at J⟩⟩;obtain⟨S,q,Z,O⟩:=y;refine Jd ⟨S,?_⟩;have I:(kvs.map (·.1))[i]?=Y2 q.1:=by rw[be,Z];rfl
 rw[e,be] at I;rw[be] at F;cases L:g[i]? with
 |none=>rw[L] at F;cases F
 |some z=>
  rw[L] at I F;cases F;injection I with I
  rw[O,<-I];exact MN _
theorem Ye(U:G.K=X.K)(h:PF X G a fa):PFI X G T2 tg a (seqE fa):=λA=>M7 (piOr (aN U h (A:=A)) (U5 (@h A))) λO H R ⟨g,S,o,e,k⟩=>by
 unfold seqE at e;split at e
 .rename_i I d;cases e;exact .inl ⟨g,_,o,by unfold seqI;rw[d],k⟩
 .rename_i I d;cases e;exact .inl ⟨g,_,o,by unfold seqI;rw[d],k⟩
 .rename_i J d;cases e;refine .inr ⟨g,_,o,d,λv L z F=>?_⟩;cases F with
  |dk h l r=>exact⟨_,_,_,rfl,Aj _ _ h,k _ L z (RK h l)⟩
 .cases e
end
section
variable {w:ag}{A:ar}
theorem jc{l:Addr}{its:Array ac}(ne:l≠it):∀(m i:Nat) (s:ae) (Q:List ac->ae->Prop),s.heap.IsListIter it l i->s.heap.IsList l its->i+m=its.size ->
  (∀h',h'.IsListIter it l its.size->iO it s.heap h'->Q (its.toList.drop i) { s with heap:=h' })->af (ah prog w) A (draw (.ref it) m) Q E s:=by
 intro m
 induction m with
 |zero=>
  intro i s Q I Y L k;refine ay ?_;have O:i=its.size:=by omega
  have e:its.toList.drop i=[]:=by rw[List.drop_eq_nil_iff];simp[O]
  rw[<-e];exact k s.heap (O▸I) (Heap.SameBut.refl ..)
 |succ m J=>
  intro i s Q I Y L k;have lt:i<its.size:=by omega
  refine am (m:=i7 (.ref it)) (pV I Y (x:=its[i]) (by simp[lt]) λT G d=>?_);have z:T.IsList l its:=let ⟨o,e,r⟩:=Y;⟨o,(d.2 l ne).trans e,r⟩;refine am (wpAny_holding (J (i+1) _ _ G z (by omega) λS F g=>ay ?_));have e:its.toList.drop i=its[i]::its.toList.drop (i+1):=by simp[ko,lt]
  rw[<-e];exact k S F (d.trans g)
theorem aa{l:Addr}{its:Array ac}{Q:List ac->ae->Prop}(L:A.handled=X2)(Y:s.heap.IsList l its)(k:∀h',oY s.heap.objs.size s.heap h'->Q its.toList { s with heap:=h' }):af (ah prog w) A (unpackItems (.ref l) its.size X2) Q E s:=by
 have ne:l≠s.heap.objs.size:=by obtain⟨o,J,_⟩:=Y;exact ca (aT J)
 have ty:s.TypeIs (.ref l) "list":=let ⟨o,e,c,_⟩:=Y;⟨o,e,c⟩;unfold unpackItems notIterableAtAll;refine am (am (kt ty PySem.F.slot_list_iter.lookup (ay ?_)));simp only[hZ,if_false];refine am (wpAny_holding (nZ Y ?_));have g:(s.heap.push { cls:=.type "list_iterator",data:=.fields #[.ref l,.int 0 0] }).IsList l its:=let ⟨o,e,r⟩:=Y;⟨o,bq _ e,r⟩;refine am (wpAny_holding (jc ne its.size 0 _ _ ⟨_,cb _ rfl,rfl,rfl⟩ g (by omega) λS G d=>?_));rw[qG,if_neg (by simp)];have z:S.IsList l its:=let ⟨o,e,r⟩:=g;⟨o,(d.2 l ne).trans e,r⟩;refine am (wpAny_holding (pW L G z (by simp) λO T=>?_));simp only[Option.isSome_none,hZ,if_false];exact ay (k O λb o I e=>T b o I ((d.2 b I).trans (bq _ e)))
end
section
variable {G:Gx}{a b:Expr}{fa:FE}
def gLst(K:av)(n:Nat)(t:TGs):TG:=λv g H Q=>∃a xs,v=.ref a/\SqL K H a xs/\xs.length=n/\t xs g H Q
theorem gG{k:Nat}{t:TGs}(Z:X.calm=U2)(h:PGs X es t)(W:(ff es X.env).length=n:=by rfl)(z:(ff es X.env).findIdx? (·.1)=X2:=by rfl):PG X (.Tuple es k pos) (gLst X.K n t):=by
 intro J s F H v u Q I r g;obtain⟨a,O,rfl,U,Y,g⟩:=g;cases r;obtain⟨d,L,T,hz⟩:=I.list U;rw[assign_Tuple];refine am (wpAny_standAt ?_);unfold unpack;have e:(ff es X.env).length=d.toArray.size:=by simp[W,<-Y,L.length]
 rw[e,z];refine am (wpAny_holding (aa (I.ok.hd Z) T.isList λh' S=>?_));have I1:Inv X J F H { s with heap:=h' }:=I.kept (t':=s.toks) λb o e=>S b o (ca (aT e)) e;exact h J _ F H O _ Q I1 (by simpa using L) g
theorem PG.or{t t':TG}(h:PG X tg t)(h':PG X tg t'):PG X tg (λv σ H Q=>t v σ H Q∨t' v σ H Q):=λd s σ H v u Q I r q=>by
 rcases q with q | q
 .exact h d s σ H v u Q I r q
 .exact h' d s σ H v u Q I r q
abbrev FGs:=List D->Rho->Option Rho
def nilG:FGs:=λds ρ=>match ds with | []=>Y2 ρ | _=>X2
def BL(i:Nat)(g:FGs):FGs:=λds ρ=>match ds with | d::r=>g r (ρ.set i (.fz d)) | []=>X2
def tupG(n:Nat)(g:FGs):FG:=λd ρ=>match d with
 |.tup ds=>if ds.length=n then g ds ρ else X2
 |.lst ds=>if ds.length=n then g ds ρ else X2
 |_=>X2
def tGDs(G:Gx)(A0:List Addr)(He:Hp)(g:FGs):TGs:=λvs F H Q=>∃A ρ ds ρ',OkW G A0 He A F H ρ/\RepL G (hid A H) vs ds/\g ds ρ=Y2 ρ'/\∀d z,OkS G A0 He d z ρ'->Q d z
def PGDs(X:Cx)(G:Gx)(d:List Expr)(g:FGs):Prop:=∀⦃A0⦄ He,PGs X d (tGDs G A0 He g)
theorem Ej:PGDs X G [] nilG:=λU T d s g H F J Q I r ⟨A,O,S,z,w,L,e,k⟩=>by
 unfold nilG at e;split at e
 .cases e;exact Zr d s g H F J Q I r ⟨L.nil_inv,k _ _ ⟨A,w⟩⟩
 .cases e
theorem Ay{g:FGs}(h1:PG X e (GR i))(h2:PGDs X G es g)(Y:(ff (e::es) X.env).map (·.2)=lu e X.env::(ff es X.env).map (·.2):=by rfl):PGDs X G (e::es) (BL i g):=λA0 Z L s J H vs S Q I r ⟨A,ρ,ds,z,w,T,e,k⟩=>by
 unfold BL at e;split at e
 .rename_i d F;obtain⟨x,O,rfl,W,U⟩:=T.uncons;exact Wv h1 (@h2 A0 Z) Y L s J H _ S Q I r ⟨x,O,rfl,A,_,F,z,w.set W i,U,e,k⟩
 .cases e
theorem Ga{k:Nat}{g:FGs}(hG:G.K=X.K)(W:X.calm=U2)(h:PGDs X G es g)(U:(ff es X.env).length=n:=by rfl)(F:(ff es X.env).findIdx? (·.1)=X2:=by rfl):PGD X G (.Tuple es k pos) (tupG n g):=λA0 He π s σ H v u Q I r ⟨A,S,d,z,w,T,e,k⟩=>by
 refine PG.or (eV W (@h A0 He) U F) (gG W (@h A0 He) U F) π s σ H v u Q I r ?_;unfold tupG at e;split at e
 .rename_i O;split at e
  .rename_i Y;cases T with
   |tup L Z J=>exact .inl ⟨_,_,rfl,by rw[<-hG];exact Fo Aj L,by rw[Z];exact Y,A,S,O,z,w,⟨Z,J⟩,e,k⟩
  .cases e
 .rename_i O;split at e
  .rename_i Y;cases T with
   |lst L Z J=>exact .inr ⟨_,_,rfl,by rw[<-hG];exact Aj.seq L,by rw[Z];exact Y,A,S,O,z,w,⟨Z,J⟩,e,k⟩
  .cases e
 .cases e
def asgF(f:FE)(g:FG):FS:=λρ=>(f ρ).bind λd=>(g d ρ).map .nx
theorem U6{g:FG}(hg:PGD X G tg g)(ha:PF X G a fa)(Z:swapsWithSole [tg] a pos.line X.env=pure T2:=by rfl)(Y:swappedStores [tg] a X.env=pure X2:=by rfl)(h1:(ff [tg] X.env).map (·.2)=[lu tg X.env]:=by rfl):PSD X G (.Assign [tg] a pos) (asgF fa g):=λA0 He T s S H D I ⟨z,o,⟨A,w⟩,e,k⟩=>by
 unfold asgF at e;cases F:fa z with
 |none=>simp[F] at e
 |some d=>
  cases O:g d z with
  |none=>simp[F,O] at e
  |some L=>
   simp[F,O] at e;subst e;exact eX (@ha A) (@hg A0 He) Z Y h1 T s S H D I ⟨z,d,w.ok,F,λv H1 U W=>⟨A,z,d,L,w.mono U,W,O,λJ H' ok=>k J H' ok⟩⟩
theorem Dv:Df X (.builtin "len") (λxs H Q=>∃a kvs,xs=[V.ref a]/\Rd H a (.dK kvs)/\Q (.int kvs.length) H):=by
 intro J s F H xs L Q I z h;obtain⟨a,kvs,rfl,e,q⟩:=h;obtain⟨u,rfl,g⟩:=z.one;cases g;exact jO I e λt O d=>⟨.int kvs.length,H,d,⟨t,rfl⟩,q⟩
def lenE:D->Option D
 |.dk g=>Y2 (.int g.length)
 |d=>lenD d
theorem Ie:SndC G (λxs H Q=>(∃x n,xs=[x]/\LenV G.K x H n/\Q (.int n) H)∨∃a kvs,xs=[V.ref a]/\Rd H a (.dK kvs)/\Q (.int kvs.length) H) lenE:=by
 intro A H x dx d Q F rx h k;unfold lenE at h;split at h
 .cases h;obtain⟨p,kvs,rfl,z,g,r⟩:=rx.dk;have Y:=congrArg cw g;rw[aw,aw] at Y;refine .inr ⟨p,kvs,rfl,z,?_⟩;rw[Y];exact k _ H (Same.refl H) (.int _)
 .exact .inl (JD A H x dx d Q F rx h k)
end
def Iti(a:Addr)(o:Obj)(kvs:List (Key×V)):It:=
 ⟨λi H=>H a=Y2 (.frz o (.dK kvs))/\i<kvs.length,λi H x d=>∃T p,H T=X2/\kvs[i]?=Y2 p/\x=.ref T/\d=upd H T (.tup [kV p.1,p.2]),λi H=>H a=Y2 (.frz o (.dK kvs))/\kvs.length<=i⟩
theorem Ti{w:ag}{K:av}(a it:Addr){o:Obj}{es:Array iA}{ep:Nat}(hd:o.data=.dict es ep)(kvs:List (Key×V)):
  Turn P w K (.Tuple elts x1 tp) (Iti a o kvs) [it] it (λi h=>∃ok G,IsItemIter h it a i kvs.length ep ok G) where
 mem:=by simp
 obj:=λi h U b g=>by
  have e:b=it:=by simpa using g
  subst e;obtain⟨ok,G,e⟩:=U;exact⟨_,e,λv z=>by
   have z':pX _=Data.cell v:=z;cases z'⟩
 keep:=λi h h' U k=>let ⟨ok,G,e⟩:=U;⟨ok,G,k it (by simp) _ e⟩
 item:=by
  intro X hP hw hK hc i π s σ H E I hf U hg;subst hP hw hK;obtain⟨he,J⟩:=hg;obtain⟨ok,G,U⟩:=U;obtain⟨hm,F,d,dd⟩:=Kw I he hd;have Y:kvs.length=F.length:=d.length;obtain⟨S,f1,f2,f3,f4,f5⟩:=hf it (by simp);have hv:F[i]?=Y2 (F[i]'(by omega)):=by simp[show i<F.length by omega]
  have hk:kvs[i]?=Y2 (kvs[i]'J):=by simp[J]
  obtain⟨v0,u0⟩:=FJ d hk hv;have L:it<s.heap.objs.size:=aT U;refine wpAny_pyNext_items_item (knd:=Ar X.prog X.w) (kvs:=F) (k:=(F[i]'(by omega)).1) (v:=(F[i]'(by omega)).2) (by rw[<-Y];exact U) dd hv λkey h1 O Z ht hz kk=>?_;refine⟨_,rfl,wpAny_letOwnedTupleGo_items (s:={ s with heap:=h1 }) Z λh2 T sb=>?_⟩;have hT:H s.heap.objs.size=X2:=I.hok.fresh (ax _);have rk:RelV (kV (kvs[i]'J).1) key:=by rw[v0];exact relK O
  have I1:Inv X π σ (upd H s.heap.objs.size (.tup [kV (kvs[i]'J).1,(kvs[i]'J).2])) { s with heap:=s.heap.push { cls:=.type "tuple",data:=.seq #[key,(F[i]'(by omega)).2] } }:=
   I.laid (a:=s.heap.objs.size) (t':=s.toks) (λb u e=>bq _ e) (ax _) ⟨by show 2<=sizeLine;decide,[key,(F[i]'(by omega)).2],.cons rk (.cons u0 .nil),_,cb _ rfl,rfl,_,rfl⟩
  have kp:∀b u,b≠it->(s.heap.push { cls:=.type "tuple",data:=.seq #[key,(F[i]'(by omega)).2] }).get? b=Y2 u->h2.get? b=Y2 u:=λb u g e=>by
   refine (sb.2 b g).trans ?_
   rcases Heap.get?_push_cases e with ⟨rfl,rfl⟩ | e'
   .exact ht
   .exact kk b u g e'
  have I2:=L2.Inv.turned (t':=s.toks) (it:=it) (h':=h2) I1 kp (by rw[Ag (ca L)];exact S) f1 f3 f4 f5;refine⟨.ref s.heap.objs.size,_,I2,rfl,⟨_,_,hT,hk,rfl,rfl⟩,⟨key,(F[i]'(by omega)).2,by rw[Y];exact T⟩,λb g=>?_⟩;have e:b=it:=by simpa using g
  subst e;rw[Ag (ca L)];exact S
 done:=by
  intro X hP hw hK hc i π s σ H E I hf U hg;subst hP hw hK;obtain⟨he,J⟩:=hg;obtain⟨ok,G,U⟩:=U;obtain⟨hm,F,d,dd⟩:=Kw I he hd;have Y:kvs.length=F.length:=d.length;obtain⟨S,f1,f2,f3,f4,f5⟩:=hf it (by simp);exact wpAny_pyNext_items_end (I.ok.hd hc) (by rw[<-Y];exact U) dd (by rw[lF];omega) λh' eb=>⟨rfl,I.turned (t':=s.toks) (λb o g e=>eb b o g e) S f1 f3 f4 f5⟩
 self:=λ_ _ _ _ _ ⟨ok,G,U⟩ h=>PySem.W.kcp_self U h
section
variable {G:Gx}{a b:Expr}{fa:FE}{tl:TE}
def gH(d:TE):TI:=λg H R=>d g H λx z=>∃a o kvs,x=.ref a/\z a=Y2 (.frz o (.dK kvs))/\R (Iti a o kvs) z
theorem RL(hl:PE X l tl)(L:d4 l "items" X.env (eval l X.env)=eval l X.env:=by rfl)(J:(apos.endLine==cpos.line)=U2:=by rfl):
  PI X (.Tuple elts x1 tp) (.Call (.Attribute l "items" apos) [] [] cpos) (gH tl):=by
 intro π s σ H R I h;refine qQ (T:="dict") (id:="dict.items") L rfl J qR qS F.type_dict_items (thn (hl π s σ H _ I h) λv d ⟨x,U,S,r1,q1⟩=>?_);obtain⟨a,o,g,e,Z,q⟩:=q1;subst e;cases r1;obtain⟨_,_,_,_,_,o',es,ep,O,h1,h2,_⟩:=(show BK X.prog X.w U d.heap a (.frz o (.dK g)) from S.hok a _ Z);obtain⟨ho,_⟩:=(show BK X.prog X.w U d.heap a (.frz o (.dK g)) from S.hok a _ Z);rw[ho] at O;cases O;obtain⟨hm,W,Y,dd⟩:=Kw S Z h2;have u0:g.length=W.length:=Y.length;have z:=dd.dictOf;refine⟨z.typeIs,z.mapOf.noDict,?_⟩;show af _ _ (kO cpos (.builtin "dict.items") [.ref a] [] []) _ _ d;refine method_meetsIn qS F.entry_dict_items rfl (oE ⟨rfl,z.typeIs,F.args_dict_items_1 _,_,meets_dict_items (Ar X.prog X.w) a hm,⟨W,z⟩,?_⟩);have I2:Inv X π σ U { d with heap:=d.heap.push { cls:=.type "dict_items",data:=.fields #[.ref a] } }:=S.kept (t':=d.toks) λb o e=>bq _ e;refine wpAny_pyIter_items (knd:=Ar X.prog X.w) (kvs:=W) (s:={ d with heap:=d.heap.push { cls:=.type "dict_items",data:=.fields #[.ref a] } }) ⟨_,cb _ rfl,rfl,rfl⟩ (dd.push _) ?_;refine⟨(d.heap.push { cls:=.type "dict_items",data:=.fields #[.ref a] }).objs.size,[(d.heap.push { cls:=.type "dict_items",data:=.fields #[.ref a] }).objs.size],_,_,U,rfl,I2.kept (t':=d.toks) λb o e=>bq _ e,Ti a _ h2 g,⟨.none,.none,?_⟩,λb hb=>?_,q⟩
 .rw[u0];exact cb _ rfl
 .have e:b=(d.heap.push { cls:=.type "dict_items",data:=.fields #[.ref a] }).objs.size:=by simpa using hb
  subst e;exact I2.fpOk (ax _) (I2.hok.fresh (ax _))
def Ky(f:FE):FI:=λρ=>match f ρ with | some (.dk d)=>Y2 (d.map λp=>.tup [kDt p.1,p.2]) | _=>X2
theorem Yg{g d:Type}{f:g->d}{l:List g}{y:d}(h:(l.map f)[i]?=Y2 y):∃x,l[i]?=Y2 x/\f x=y:=by
 rw[be] at h;exact mG.mp h
theorem Ox{g:List (Key×D)}(h:F1 p=Y2 (.frz o (.dK kvs)))(e:kvs.map (·.1)=g.map (·.1))(r:RepL G F2 (kvs.map (·.2)) (g.map (·.2))):
  Src G (Iti p o kvs) (g.map λp=>.tup [kDt p.1,p.2]) F1 F2:=by
 have Y:kvs.length=g.length:=by have:=congrArg cw e;rwa [aw,aw] at this
 refine⟨λi H s I=>⟨s _ _ h,by rw[Y];rwa [aw] at I⟩,λi H x H' d s hd y=>?_,λi H s I=>⟨s _ _ h,by rw[Y];rwa [aw] at I⟩⟩;obtain⟨T,q,L,Z,rfl,rfl⟩:=y;obtain⟨z,O,rfl⟩:=Yg hd;have F:(kvs.map (·.1))[i]?=Y2 q.1:=by rw[be,Z];rfl
 rw[e,be,O] at F;injection F with F
 have S:Rep G F2 q.2 z.2:=r.2 i q.2 z.2 (by rw[be,Z];rfl) (by rw[be,O];rfl);refine⟨Ak L _,λB W J=>?_⟩;have U:RepL G (hid B H) [kV q.1,q.2] [kDt z.1,z.2]:=.cons (by rw[<-F];exact MN _) (.cons (S.mono J) .nil);exact Hx W L U
theorem Oz{top:Bool}(h:PF X G a fa)(g:d4 a "items" X.env (eval a X.env)=eval a X.env:=by rfl)(d:(apos.endLine==cpos.line)=U2:=by rfl):
  PFI X G T2 (.Tuple elts x1 tp) (.Call (.Attribute a "items" apos) [] [] cpos) (Ky fa):=λA=>M7 (RL (@h A) g d) λS H R ⟨z,T,o,e,k⟩=>by
 unfold Ky at e;split at e
 .rename_i J L;cases e;refine⟨z,_,o,L,λv O F I=>?_⟩;cases I with
  |dk h l r=>exact⟨_,_,_,rfl,Aj _ _ h,k _ O F (Ox h l ⟨by have:=congrArg cw l;rwa [aw,aw] at this ⊢,r⟩)⟩
 .cases e
end
section
variable {G:Gx}{b:Expr}{fb:FE}{fs:FA}
theorem QM{P:cq}{w:ag}:∀{kvs:List (Key×V)}{us:List ac},us.length=kvs.length->(∀(j:Nat) u,us[j]?=Y2 u->∃p,kvs[j]?=Y2 p/\(Ar P w).is p.1 u=U2)->Vals (kvs.map λp=>kV p.1) us
 |[],us,Y,_=>by
  have:us=[]:=oZ Y;subst this;exact .nil
 |p::kvs,[],Y,_=>by simp at Y
 |p::kvs,u::us,Y,h=>by
  obtain⟨q,g,z⟩:=h 0 u rfl;simp at g;subst g;exact .cons (relK z) (QM (P:=P) (w:=w) (by simpa using Y) λj v d=>by simpa using h (j+1) v (by simpa using d))
theorem Jw(hc:X.calm=U2):Df X (.type "list") (λxs H Q=>∃p kvs,xs=[.ref p]/\Rd H p (.dK kvs)/\∀l,H l=X2->Q (.ref l) (upd H l (.lst (kvs.map λq=>kV q.1)))):=by
 intro π s σ H xs us Q I r h;obtain⟨p,kvs,rfl,e,q⟩:=h;obtain⟨u,rfl,U⟩:=r.one;cases U;obtain⟨z,hd,F,d,T⟩:=Ho I.hok e;obtain⟨O,T⟩:=T.dictAt;have Y:kvs.length=F.length:=d.length;refine p4 (qT (knd:=Ar X.prog X.w) (kvs:=F) (ep:=O) hd) (I.ok.hd hc) T (by omega) λh' tk g c' kp hn J=>?_;have S:Vals (kvs.map λq=>kV q.1) g.toList:=by
  refine QM (P:=X.prog) (w:=X.w) (by simp[J.1,Y]) λj u Z=>?_;obtain⟨k,x,L,h2⟩:=J.2 j u (by simpa using Z);have W:j<kvs.length:=by rw[Y];exact (de.mp L).1
  refine⟨kvs[j],by simp[W],?_⟩;rw[(FJ d (by simp[W]) L).1];exact h2
 exact⟨.ref s.heap.objs.size,_,I.laid (t':=tk) kp (ax _) (show BK X.prog X.w _ h' _ (.lst (kvs.map λq=>kV q.1)) from⟨by rw[aw];exact z,g.toList,c',S,by simpa using hn⟩),rfl,q _ (I.hok.fresh (ax _))⟩
def listE:D->Option D
 |.dk g=>Y2 (.lst (g.map λp=>kDt p.1))
 |d=>Xe d
theorem U7{H:Hp}:∀{kvs:List (Key×V)}{d:List (Key×D)},kvs.map (·.1)=d.map (·.1)->RepL G H (kvs.map λq=>kV q.1) (d.map λp=>kDt p.1)
 |[],[],_=>RepL.nil
 |[],_::_,h=>by simp at h
 |_::_,[],h=>by simp at h
 |p::kvs,q::d,h=>by
  rw[bb,bb] at h;injection h with g h2
  exact .cons (by show Rep G H (kV p.1) (kDt q.1);rw[g];exact MN _) (U7 h2)
theorem WY:SndC G (λxs H Q=>(∃p ys,xs=[.ref p]/\(SqL G.K H p ys∨SqT G.K H p ys)/\∀l,H l=X2->Q (.ref l) (upd H l (.lst ys)))∨∃p kvs,xs=[.ref p]/\Rd H p (.dK kvs)/\∀l,H l=X2->Q (.ref l) (upd H l (.lst (kvs.map λq=>kV q.1)))) listE:=by
 intro A H x dx d Q F rx h k;unfold listE at h;split at h
 .cases h;obtain⟨p,kvs,rfl,z,g,r⟩:=rx.dk;exact .inr ⟨p,kvs,rfl,z,λl Y=>k _ _ (Ak Y _) (Bb F Y (U7 g))⟩
 .exact .inl (Xq A H x dx d Q F rx h k)
def Ig(x:D)(ds:List D)(v:D):Option D:=match x with
 |.dt d=>(Ia ds).bind λk=>if d.length<sizeLine/\ds.length<=sizeLine then Y2 (.dt (putL k v d)) else X2
 |_=>X2
def RM(i:Nat)(g:FA)(d:FE):FS:=λρ=>(d ρ).bind λv=>(g ρ).bind λy=>(ownO ρ i).bind λx=>(Ig x y v).map λz=>.nx (ρ.set i (.ow z))
theorem Tj{ρ:Rho}{o:Out}(h:RM i fs fb ρ=Y2 o):∃v y x z,fb ρ=Y2 v/\fs ρ=Y2 y/\ρ[i]?=Y2 (.ow x)/\Ig x y v=Y2 z/\o=.nx (ρ.set i (.ow z)):=by
 unfold RM at h;cases d:fb ρ with
 |none=>simp[d] at h
 |some v=>
  cases F:fs ρ with
  |none=>simp[d,F] at h
  |some y=>
   cases g:ownO ρ i with
   |none=>simp[d,F,g] at h
   |some x=>
    cases T:Ig x y v with
    |none=>simp[d,F,g,T] at h
    |some z=>
     simp[d,F,g,T] at h;exact⟨v,y,x,z,rfl,rfl,Ks g,T,h.symm⟩
theorem RN(hu:X.A.units+1<aE)(hv:PE X (.Name x xpos) (tVar i))(ha:PFA X G es fs)(hb:PF X G b fb)(hs:dA b (Y2 (.Subscript (.Name x xpos) (.Tuple es x1 tp) spos)) pos.line X.env=pure T2:=by rfl):PSD X G (.Assign [.Subscript (.Name x xpos) (.Tuple es x1 tp) spos] b pos) (RM i fs fb):=λA0 He π s σ H D I ⟨L,o,⟨A,w⟩,e,k⟩=>by
 obtain⟨v,y,x0,z,e1,e2,Z,d,rfl⟩:=Tj e;refine JB hu hv (Sv (@ha A)) (@hb A) hs π s σ H D I ?_;unfold Ig at d;split at d
 .rename_i u0;cases J:Ia y with
  |none=>simp[J] at d
  |some q=>
   simp only[J,bo] at d;split at d
   .rename_i hz;cases d;obtain⟨p,h1,hA,F,h2,Y,r⟩:=w.ok.ow i _ Z;refine⟨L,v,w.ok,e1,λu H1 g r1=>⟨_,h1,L,y,(w.mono g).ok,e2,λvs H2 S O=>⟨by rw[O.1];exact hz.2,λT hT=>?_⟩⟩⟩;have ek:=Kv O J;subst ek;have hl:F.length<sizeLine:=by
     have:=congrArg cw Y;rw[aw,aw] at this;omega
    have W:Same H2 (upd H2 T (.tup (q.map kV))):=Ak hT _;refine⟨p,_,rfl,DPut.t (W _ _ (S _ _ (g _ _ h2))) Ah hl,?_⟩;have w2:=((w.mono g).mono S).mono W;have U:=MJ (k:=q) (r1.mono (Al (S.trans W))) Y (r.mono (Al (g.trans (S.trans W))));refine k _ _ ⟨A,w2.wr Z h1 ⟨_,Ah,U.1,?_⟩⟩;rw[CT hA];exact U.2
   .cases d
 .cases d
end
section
variable {G:Gx}{a c:Expr}{fa:FE}{p2:Pos}{fs:FA}{src:FI}
theorem PFI.top(h:PFI X G T2 tg a src):PFI X G U2 tg a src:=λA=>M7 (@h A) λU H R ⟨F,O,o,e,k⟩=>
 ⟨F,O,o,e,λJ S I g=>k J S I ⟨λi H s z=>g.go i H (Aj.trans s) z,λi H x T d s L y=>g.yld i H x T d (Aj.trans s) L y,λi H s z=>g.stop i H (Aj.trans s) z⟩⟩
theorem RepT.ob{A:List Addr}{H:Hp}{v:V}{c:Str}{J:List (Str×D)}(r:RepT G A H v (.ob c J)):∃a C dx fs,v=.ref a/\G.cl c=Y2 C/\H a=Y2 (.ins C dx fs)/\fs.map (·.1)=J.map (·.1)/\RepL G (hid A H) (fs.map (·.2)) (J.map (·.2)):=by
 rcases r with r | ⟨a,e,C,dx,fs,h,k,r⟩
 .cases r with
  |ob I h l r=>
   have Y:=congrArg cw l;rw[aw,aw] at Y;exact⟨_,_,_,_,rfl,I,Aj _ _ h,l,by rw[aw,aw];exact Y,r⟩
 .exact⟨a,C,dx,fs,e,k.1,h,k.2,r⟩
def fldD(f:Str):D->Option D
 |.ob _ J=>J.lookup f
 |_=>X2
theorem O1{H:Hp}{f:Str}{d:D}:∀{J:List (Str×D)}{fs:List (Str×V)},fs.map (·.1)=J.map (·.1)->RepL G H (fs.map (·.2)) (J.map (·.2))->J.lookup f=Y2 d->∃v,fs.lookup f=Y2 v/\Rep G H v d
 |[],fs,e,r,h=>by simp at h
 |p::J,[],e,r,h=>by simp at e
 |p::J,q::fs,e,r,h=>by
  rw[bb,bb] at e r;injection e with z e2
  obtain⟨x,S,O,F,L⟩:=r.uncons;injection O with T e5
  subst T e5;obtain⟨W,U⟩:=p;obtain⟨q1,q2⟩:=q;simp only at z F;subst z
  by_cases g:f=q1
  .subst g;simp only[bi,beq_self_eq_true,p5] at h ⊢;subst h;exact⟨q2,rfl,F⟩
  .have I:(f==q1)=T2:=beq_eq_false_iff_ne.mpr g;simp only[bi,I] at h ⊢;exact O1 e2 L h
theorem Dw{f:Str}(g:∀c C,G.cl c=Y2 C->Cls X.K C/\Ci X.K C f)(he:PU X G a fa)(O:d4 a f X.env (eval a X.env)=eval a X.env:=by rfl):PF X G (.Attribute a f pos) (uF (fldD f) fa):=
 λA=>Bt (Pu (@he A) O) λY H Q ⟨F,d,o,e,k⟩=>by
  obtain⟨Z,U,z⟩:=Ju e;unfold fldD at z;split at z
  .rename_i cn gs;refine⟨F,_,o,U,λv W J L=>?_⟩;obtain⟨p,C,dx,fs,rfl,I,h,l,r⟩:=L.ob;obtain⟨v,T,S⟩:=O1 (f:=f) (d:=d) l r z;exact⟨_,_,_,_,v,rfl,h,(g _ _ I).1,(g _ _ I).2,T,k v W J S⟩
  .cases z
end
def Its(x:Str):It:=⟨λi _=>i<x.cps.size,λi H y d=>d=H/\∃c,x.cps[i]?=Y2 c/\y=.str ⟨#[c]⟩,λi _=>x.cps.size<=i⟩
theorem RP{w:ag}{K:av}(it:Addr)(x:Str)(t:Tok)(ty:String)(W:∀A:ar,A.handled=X2->Walks P w A it [it] [it] x.cps.size (SignAt x) (λi h=>h.IsStrIter it ty x t i))(hn:["enumerate","zip","dict_itemiterator","dict_reverseitemiterator","odict_iterator","itertools.zip_longest","itertools.pairwise"].contains ty=T2)(fin:∀(A:ar),A.handled=X2->∀(i:Nat) (s:ae) (Q:Option ac->ae->Prop) (E:ac->ae->Prop),s.heap.IsStrIter it ty x t i->x.cps[i]?=X2->(∀h',oY it s.heap h'->Q X2 { s with heap:=h' })->af (ah P w) A (i7 (.ref it)) Q E s)(self:∀(A:ar) (i:Nat) (s:ae) (Q:ac->ae->Prop) (E:ac->ae->Prop),s.heap.IsStrIter it ty x t i->Q (.ref it) s->af (ah P w) A (pyIter (.ref it)) Q E s):
  Turn P w K tg (Its x) [it] it (λi h=>h.IsStrIter it ty x t i) where
 mem:=by simp
 obj:=λi h U b g=>by
  have e:b=it:=by simpa using g
  subst e;obtain⟨o,e,c,d⟩:=U;exact⟨o,e,λv z=>by rw[d] at z;cases z⟩
 keep:=λi h h' U k=>let ⟨o,e,c,d⟩:=U;⟨o,k it (by simp) o e,c,d⟩
 item:=by
  intro X O J Y L i π s σ H E I G U T;subst O J Y;obtain⟨f0,f1,f2,f3,S,Z⟩:=G it (by simp);refine (W X.A (I.ok.hd L)).item i s _ _ T U λv h' tk hv F kk=>?_;obtain⟨c,u,e1,rfl⟩:=hv;have I1:Inv X π σ H { s with heap:=h',toks:=tk }:=I.turned (λb o g e=>kk b o (by simpa using g) e) f0 f1 f3 S Z;obtain⟨o1,e2,c1,d1⟩:=id F;exact⟨_,rfl,Og (s:={ s with heap:=h',toks:=tk }) e2 c1 d1 hn ⟨.str ⟨#[c]⟩,H,I1,⟨u,rfl⟩,⟨rfl,c,e1,rfl⟩,F,λb g=>(G b g).1⟩⟩
 done:=by
  intro X O J Y L i π s σ H E I G U T;subst O J Y;obtain⟨f0,f1,f2,f3,S,Z⟩:=G it (by simp);exact fin X.A (I.ok.hd L) i s _ _ U (by rw[Array.getElem?_eq_none_iff];exact T) λh' eb=>⟨rfl,I.turned (t':=s.toks) (λb o g e=>eb b o g e) f0 f1 f3 S Z⟩
 self:=λA i s Q E U h=>self A i s Q E U h
section
variable {G:Gx}{a b c:Expr}{fa:FE}{tl:TE}
def iStr(d:TE):TI:=λg H R=>d g H λx z=>∃y,x=.str y/\R (Its y) z
theorem gJ(Z:PE X l tl):PI X tg l (iStr tl):=by
 intro O s W H R I h;refine thn (Z O s W H _ I h) λv d ⟨x,L,g,Y,q1⟩=>?_;obtain⟨y,e,q⟩:=q1;subst e;obtain⟨t,e⟩:=(show ∃t,v=lp y t from Y);subst e;have T:∀b∈[d.heap.objs.size],FpOk X O L b:=λb hb=>by
  have e:b=d.heap.objs.size:=by simpa using hb
  subst e;exact g.fpOk (ax _) (g.hok.fresh (ax _))
 cases S:y.cps.all (·<128)
 .exact wpAny_pyIter_wide S ⟨d.heap.objs.size,[d.heap.objs.size],_,_,L,rfl,g.kept (t':=d.toks) λb o e=>bq _ e,
   RP _ y t "str_iterator" (λA J=>Walks.strWide J _ y t) (by decide) (λ_ F _ _ _ _ U z k=>wpAny_pyNext_wide_end F U z k) (λ_ _ _ _ _ U h=>wpAny_pyIter_striter_wide U h),⟨_,cb _ rfl,rfl,rfl⟩,T,q⟩
 .exact wpAny_pyIter_ascii S ⟨d.heap.objs.size,[d.heap.objs.size],_,_,L,rfl,g.kept (t':=d.toks) λb o e=>bq _ e,
   RP _ y t "str_ascii_iterator" (λA J=>Walks.strAscii J _ y t) (by decide) (λ_ F _ _ _ _ U z k=>wpAny_pyNext_ascii_end F U z k) (λ_ _ _ _ _ U h=>wpAny_pyIter_striter_ascii U h),⟨_,cb _ rfl,rfl,rfl⟩,T,q⟩
def RQ(x:Str):List D:=x.cps.toList.map λc=>.str ⟨#[c]⟩
theorem aj:Src G (Its x) (RQ x) F1 F2:=by
 have Y:(RQ x).length=x.cps.size:=by unfold RQ;simp
 refine⟨λi H s g=>by rw[Y] at g;exact g,λi H y I d s F q=>?_,λi H s g=>by rw[Y] at g;exact g⟩;obtain⟨q1,c,q2,q3⟩:=q;refine Jd ⟨q1,?_⟩;obtain⟨z,O,rfl⟩:=Yg F;have e:x.cps[i]?=Y2 z:=by simpa using O
 rw[e] at q2;cases q2;rw[q3];exact .str _
def seqA(f:FE):FI:=λρ=>match f ρ with | some (.str x)=>Y2 (RQ x) | _=>seqE f ρ
theorem Ih(U:G.K=X.K)(h:PF X G a fa):PFI X G T2 tg a (seqA fa):=λA=>M7 (piOr (Ye U h (A:=A)) (gJ (@h A))) λJ H R ⟨g,L,o,e,k⟩=>by
 unfold seqA at e;split at e
 .rename_i x z;cases e;refine .inr ⟨g,_,o,z,λv I d F=>?_⟩;cases F;exact⟨_,rfl,k _ I d aj⟩
 .exact .inl ⟨g,_,o,e,k⟩
def blsD:List D->Option (List Bool)
 |[]=>Y2 []
 |.bl i::r=>(blsD r).map (i::·)
 |_::_=>X2
theorem U8{H:Hp}:∀{ds:List D}{xs:List V}{bs:List Bool},RepL G H xs ds->blsD ds=Y2 bs->xs=bs.map V.bl
 |[],xs,bs,r,h=>by cases h;exact r.nil_inv
 |d::ds,xs,bs,r,h=>by
  obtain⟨x,z,rfl,F,L⟩:=r.uncons;cases d with
  |bl i=>
   cases e:blsD ds with
   |none=>simp[blsD,e] at h
   |some g=>
    simp[blsD,e] at h;subst h;cases F;rw[U8 L e];rfl
  |_=>simp[blsD] at h
theorem Wa(hc:X.calm=U2):Df X (.builtin "all") (λxs H Q=>∃(p:Addr) (bs:List Bool),xs=[.ref p]/\SqL X.K H p (bs.map V.bl)/\Q (.bl (bs.all id)) H):=by
 intro π s σ H xs us Q I r h;obtain⟨p,bs,rfl,hs,k⟩:=h;obtain⟨u,rfl,L⟩:=r.one;cases L;obtain⟨d,T,W,hz⟩:=I.list hs;have Y:=W.isList;have O:p≠s.heap.objs.size:=by obtain⟨o,ho,_⟩:=Y;exact ca (aT ho)
 have g:bs.length=d.length:=by have:=T.length;rwa [aw] at this
 refine call_all_walk (nZ Y ?_);refine⟨_,_,_,_,_,_,λi=>bs.getD i U2,rfl,Walks.list (A:=X.A.in1) (I.ok.hd hc) s.heap.objs.size p O d.toArray,⟨⟨_,cb _ rfl,rfl,rfl⟩,Y.push _⟩,?_,λh' tk Z=>?_⟩
 .intro i v s' Q' E' hv hq;have F:d[i]?=Y2 v:=by simpa using hv
  have hlt':i<bs.length:=by rw[g];exact (de.mp F).1
  obtain⟨u',U,L⟩:=T.get (i:=i) (x:=.bl (bs[i]'hlt')) (by rw[be];simp[hlt']);rw[F] at U;cases U;cases (show v=kB (bs[i]'hlt') from L);have e:bs.getD i U2=bs[i]'hlt':=by simp[p6,hlt']
  have J:Q' (bs.getD i U2) s':=hq;rw[e] at J;exact ky J
 .refine⟨.bl (bs.all id),H,I.kept (λb o e=>Z b o ?_ (bq _ e)),?_,k⟩
  .intro S;have:b=s.heap.objs.size:=by simpa using S
   exact absurd (aT e) (by rw[this];exact kG _)
  .show kB _=kB _;congr 1;rw[bP,<-g];rw[i8,gz,gz];constructor
   .intro q b S;obtain⟨i,F,rfl⟩:=mj S;have:=q i (eW.mpr F);simpa [p6,F] using this
   .intro q i F;have z:=eW.mp F;have:=q (bs[i]'z) (ni z);simpa [p6,z] using this
def allD:D->Option D
 |.lst ds=>(blsD ds).map λbs=>.bl (bs.all id)
 |_=>X2
theorem ak:SndC G (λxs H Q=>∃(p:Addr) (bs:List Bool),xs=[.ref p]/\SqL G.K H p (bs.map V.bl)/\Q (.bl (bs.all id)) H) allD:=by
 intro A H x dx d Q I rx h k;unfold allD at h;split at h
 .rename_i F;cases e:blsD F with
  |none=>simp[e] at h
  |some bs=>
   rw[e] at h;cases h;obtain⟨p,xs,rfl,g,r⟩:=rx.lst;have z:=U8 r e;subst z;exact⟨p,bs,rfl,g,k _ H (Same.refl H) (.bl _)⟩
 .cases h
theorem gK:dc "all"=Y2 (.builtin "all"):=by decide +kernel
end
section
variable {G:Gx}{a b:Expr}{fa:FE}
end
section
variable {G:Gx}{b c:Expr}{p2:Pos}
def eqTo(x d:D):Bool:=match eqK 62 d x with | some b=>b | none=>T2
def knows(x d:D):Bool:=(eqK 62 d x).isSome
def rInP(G:Gx)(d:Bool):R2:=λx y H Q=>∃(A:List Addr) (as ds:List D),RepT G A H x (.tup as)/\RepT G A H y (.lst ds)/\ds.all (knows (.tup as))=U2/\Q (.bl (if d then !ds.any (eqTo (.tup as)) else ds.any (eqTo (.tup as)))) H
open Classical in
theorem U9(hG:G.K=X.K)(hu:X.A.units+64<aE){π:zP}{s:ae}{σ:St}{H:Hp}{A:List Addr}{x:V}{u:ac}{as ds:List D}{xs:List V}{g:List ac}(I:Inv X π σ H s)(rx:RepT G A H x (.tup as))(ru:RelV x u)(r:RepL G (hid A H) xs ds)(v:Vals xs g)(hk:ds.all (knows (.tup as))=U2):
  ∃e:ac->Bool,(∀y,y∈g.toArray->gv X.A.in1 s y u (e y))/\g.toArray.any e=ds.any (eqTo (.tup as)):=by
 have Y:Rep G H x (.tup as):=by
  rcases rx with q | ⟨p,_,q⟩
  .exact q.mono Aj
  .exact q.elim
 have one:∀(i:Nat) y,g[i]?=Y2 y->∃d,ds[i]?=Y2 d/\gv X.A.in1 s y u (eqTo (.tup as) d):=λi y J=>by
  have F:i<g.length:=(de.mp J).1;have z:i<xs.length:=by rw[v.length];exact F
  have O:i<ds.length:=by rw[<-r.1];exact z
  obtain⟨y',U,T⟩:=v.get (i:=i) (x:=xs[i]) (by simp[z]);rw[J] at U;cases U;refine⟨ds[i],by simp[O],?_⟩;have kn:knows (.tup as) ds[i]=U2:=gz.mp hk _ (ni O);unfold knows at kn;obtain⟨b,hb⟩:=qg.mp kn;have eb:eqTo (.tup as) ds[i]=b:=by unfold eqTo;rw[hb]
  rw[eb];exact Kr I hG 62 X.A.in1 (by show X.A.units+1+62<aE;omega) hb ((r.2 i _ _ (by simp[z]) (by simp[O])).mono Aj) Y T ru
 refine⟨λy=>decide (∃(i:Nat) (d:D),g[i]?=Y2 y/\ds[i]?=Y2 d/\eqTo (.tup as) d=U2),λy J=>?_,?_⟩
 .by_cases h:∃(i:Nat) (d:D),g[i]?=Y2 y/\ds[i]?=Y2 d/\eqTo (.tup as) d=U2
  .obtain⟨i,d,U,T,Z⟩:=id h;obtain⟨d',W,S⟩:=one i y U;rw[T] at W;cases W;rw[Z] at S;show gv X.A.in1 s y u (decide (∃(i:Nat) (d:D),g[i]?=Y2 y/\ds[i]?=Y2 d/\eqTo (.tup as) d=U2));rw[decide_eq_true h];exact S
  .obtain⟨i,F,rfl⟩:=mj (show y∈g by simpa using J);have L:g[i]?=Y2 g[i]:=cy F;obtain⟨d,W,S⟩:=one i _ L;have h6:eqTo (.tup as) d=T2:=by
    cases q:eqTo (.tup as) d with
    |false=>rfl
    |true=>exact absurd ⟨i,d,L,W,q⟩ h
   rw[h6] at S;show gv X.A.in1 s g[i] u (decide (∃(j:Nat) (d:D),g[j]?=Y2 g[i]/\ds[j]?=Y2 d/\eqTo (.tup as) d=U2));rw[decide_eq_false h];exact S
 .rw[i8,p7];rw[show g.toArray.any (λy=>decide (∃(i:Nat) (d:D),g[i]?=Y2 y/\ds[i]?=Y2 d/\eqTo (.tup as) d=U2))=g.any (λy=>decide (∃(i:Nat) (d:D),g[i]?=Y2 y/\ds[i]?=Y2 d/\eqTo (.tup as) d=U2)) by simp,p7];constructor
  .rintro⟨y,J,h⟩;obtain⟨i,d,U,T,Z⟩:=of_decide_eq_true h;exact⟨d,lA T,Z⟩
  .rintro⟨d,O,h⟩;obtain⟨i,F,rfl⟩:=mj O;have z:i<g.length:=by rw[<-v.length,r.1];exact F
   exact⟨g[i],ni z,decide_eq_true ⟨i,_,cy z,cy F,h⟩⟩
theorem Yh(U:G.K=X.K)(S:X.A.units+64<aE):OpR X (bX .In) (rInP G T2):=by
 intro π s Z H x y v u Q I rx z h;obtain⟨A,as,ds,d,L,O,k⟩:=h;obtain⟨c,ys,rfl,W,q2⟩:=L.lst;cases z;obtain⟨g,F,J,_⟩:=I.list (by rw[<-U];exact W);obtain⟨e,T,Y⟩:=U9 U S I d rx q2 F O;exact qp e J.isList T ⟨.bl _,H,I,rfl,by rw[Y];exact k⟩
theorem Wb(U:G.K=X.K)(S:X.A.units+64<aE):OpR X (bX .NotIn) (rInP G U2):=by
 intro π s Z H x y v u Q I rx z h;obtain⟨A,as,ds,d,L,O,k⟩:=h;obtain⟨c,ys,rfl,W,q2⟩:=L.lst;cases z;obtain⟨g,F,J,_⟩:=I.list (by rw[<-U];exact W);obtain⟨e,T,Y⟩:=U9 U S I d rx q2 F O;exact qr e J.isList T ⟨.bl _,H,I,rfl,by rw[Y];exact k⟩
def inF(d:Bool)(x y:D):Option D:=match x,y with
 |.tup as,.lst ds=>if ds.all (knows (.tup as))=U2 then Y2 (.bl (if d then !ds.any (eqTo (.tup as)) else ds.any (eqTo (.tup as)))) else X2
 |x,y=>inE d x y
theorem QQ(g:Bool):Cy G (λx y H Q=>(rInA G.K g x y H Q∨rDIn g x y H Q)∨rInP G g x y H Q) (inF g):=by
 intro A H x y dx J d Q F rx z h k;unfold inF at h;split at h
 .split at h
  .rename_i I;cases h;exact .inr ⟨A,_,_,rx,z,I,k _ H (Same.refl H) (.bl _)⟩
  .cases h
 .exact .inl (aX g A H x y _ _ d Q F rx z h k)
end
end PV
namespace PySem
open PySem.Spec
theorem Yi{w:ag}{A:ar}(h:∀h' e,(∀b o,s.heap.get? b=Y2 o->h'.get? b=Y2 o)->qU { s with heap:=h' } (.ref e) "StopIteration"->Q (.ref e) { s with heap:=h' }):af (ah prog w) A (newExc (.type "StopIteration") []) Q E s:=by
 unfold newExc newTuple
 wp_walk
 exact h _ _ (λb o e=>bq _ (bq _ e)) ⟨_,cb _ rfl,rfl⟩
theorem Yj(it d:Addr)(i ep:Nat)(z:Array iA)(L:Obj)(F:L.data=.dict z ep)(I:i<z.size):
  Meets (ku.«dict_keyiterator.__next__» ⟨[.ref it],[]⟩) (λ_ R s=>s.heap.get? it=Y2 { cls:=.type "dict_keyiterator",data:=.fields #[.ref d,.int i 0,.int z.size 0,.int ep 0] }/\s.heap.get? d=Y2 L/\R (.ok (.ret (z[i]'I).key)) { s with heap:=s.heap.update it (nj (·.setIfInBounds 1 (kI ((i:Int)+1)))),toks:=s.toks }):=
 .of_wp λJ w A R s h=>by
  obtain⟨T,g,W,tk,os⟩:=s;obtain⟨G,O,h⟩:=h
  wp_walk using p8 O F,p9 O F,wpAny_fieldsOf G rfl,nl G rfl
  have U:(if (i:Int)<0 then X2 else z[(i:Int).toNat]?)=Y2 (z[i]'I):=by rw[if_neg (by omega),fA,pb I]
  rw[U];dsimp only
  wp_walk using nl G rfl
  .rw[if_neg (show ¬ pc ((pd "dict_keyiterator").elim "dict_keyiterator" λx=>x.tpName)=U2 by decide +kernel)];show 1<4;decide
  .rw[if_neg (show ¬ pc ((pd "dict_keyiterator").elim "dict_keyiterator" λx=>x.tpName)=U2 by decide +kernel)];rw[if_neg]
   case hnc=>decide +kernel
   rw[hV];have S:qU { heap:=T.update it (nj λx=>x.setIfInBounds 1 (kI ((i:Int)+1))),gens:=g,drawn:=W,toks:=tk,os:=os } (.ref it) "dict_keyiterator":=
    ⟨_,qV _ G (Obj.isFreed_of_fields (Obj.data_mapFields rfl _)),Obj.cls_mapFields ..⟩
   wp_walk using wpAny_isOneOf_keyiter S
   exact⟨_,rfl,h⟩
theorem Tn{w:ag}{A:ar}{d:Addr}{g:Array iA}{J:Obj}{Q:Option ac->ae->Prop}(F:J.data=.dict g ep)(G:i<g.size)(h1:s.heap.get? it=Y2 { cls:=.type "dict_keyiterator",data:=.fields #[.ref d,.int i 0,.int g.size 0,.int ep 0] })(z:s.heap.get? d=Y2 J)(h:Q (Y2 (g[i]'G).key) { s with heap:=s.heap.update it (nj (·.setIfInBounds 1 (kI ((i:Int)+1)))) }):af (ah prog w) A (i7 (.ref it)) Q E s:=by
 have S:s.TypeIs (.ref it) "dict_keyiterator":=⟨_,h1,rfl⟩;unfold i7;refine am (wpAny_attempt (oy (name:=m7 "__next__") S mn ?_));refine mX mn S qW (qX _) (Yj it d i ep g J F G) ⟨h1,z,?_⟩;exact ay h
theorem OD{w:ag}{A:ar}{d:Addr}{g:Array iA}{J:Obj}{Q:Option ac->ae->Prop}(O:A.handled=X2)(F:J.data=.dict g ep)(L:g.size<=i)(h1:s.heap.get? it=Y2 { cls:=.type "dict_keyiterator",data:=.fields #[.ref d,.int i 0,.int g.size 0,.int ep 0] })(I:s.heap.get? d=Y2 J)(h:∀h',oY it s.heap h'->Q X2 { s with heap:=h' }):af (ah prog w) A (i7 (.ref it)) Q E s:=by
 have S:s.TypeIs (.ref it) "dict_keyiterator":=⟨_,h1,rfl⟩;unfold i7;refine am (wpAny_attempt (oy (name:=m7 "__next__") S mn
  (lh mn S qW ?_ (qX _))))
 have G:A.in1.handled=X2:=O
 wp_walk using p8 I F,p9 I F,wpAny_fieldsOf h1 rfl,nl h1 rfl
 have U:(if (i:Int)<0 then X2 else g[(i:Int).toNat]?)=X2:=by rw[if_neg (by omega),fA,pf L]
 rw[U];dsimp only
 wp_walk using nl h1 rfl
 .rw[if_neg (show ¬ pc ((pd "dict_keyiterator").elim "dict_keyiterator" λx=>x.tpName)=U2 by decide +kernel)];show 0<4;decide
 .refine am ?_;refine Yi λh' e kp ty=>wpAny_raiseNew_none G ?_;refine am (mz ty isSubtype_stop (ay (h h' λb o T z=>kp b o ?_)));exact ((Heap.SameBut.update ..).2 b T).trans z
theorem Tp{w:ag}{A:ar}{d:Addr}{G:Array iA}{J:Obj}(L:(d==eI)=T2)(I:J.ExactDict)(g:J.data=.dict G ep)(z:s.heap.get? d=Y2 J)(h:Q (.ref s.heap.objs.size) { s with heap:=s.heap.push { cls:=.type "dict_keyiterator",data:=.fields #[.ref d,.int 0 0,.int G.size 0,.int ep 0] } }):af (ah prog w) A (pyIter (.ref d)) Q E s:=by
 have S:s.TypeIs (.ref d) "dict":=⟨_,z,I.1⟩;refine wpAny_pyIter_slot S qY (lh qY S F.entry_dict_iter ?_ (F.args_dict_iter_1 _));unfold ku.«dict.__iter__»
 wp_walk using p8 z g,p9 z g,wpAny_notOrdered_dict S
 exact⟨_,rfl,"dict_keyiterator",_,⟨_,cb _ rfl,rfl⟩,mn.lookup,h⟩
end PySem
namespace PV
open PySem L2
abbrev FZ:=Rho->Option (D×Rho)
abbrev FZA:=Rho->Option (List D×Rho)
end PV
namespace PV
open PySem PySem.Spec L2
open PyProof.Rows hiding St
section
variable {G:Gx}{x:Addr}
theorem Top.sub{d:D}(t:Top G B H a d)(h:∀a∈A,a∈B):Top G A H a d:=by
 cases d with
 |lst z=>obtain⟨g,q1,q2⟩:=t;exact⟨g,q1,q2.mono (DQ h)⟩
 |dk z=>obtain⟨g,q1,q2,q3⟩:=t;exact⟨g,q1,q2,q3.mono (DQ h)⟩
 |dt z=>obtain⟨g,q1,q2,q3⟩:=t;exact⟨g,q1,q2,q3.mono (DQ h)⟩
 |ob c J=>obtain⟨C,dx,g,q1,q2,q3⟩:=t;exact⟨C,dx,g,q1,q2,q3.mono (DQ h)⟩
 |_=>exact t.elim
def Hr(x:Addr)(H d:Hp):Prop:=∀b o,b≠x->H b=Y2 o->d b=Y2 o
theorem Fi(g:x∈A)(s:Hr x H H'):Same (hid A H) (hid A H'):=λb o h=>by
 unfold hid at h ⊢;split at h
 .cases h
 .rename_i d;rw[if_neg d];exact s b o (λz=>d (z▸g)) h
theorem Top.other{d:D}(t:Top G A H q d)(Y:q≠x)(I:x∈A)(s:Hr x H H'):Top G A H' q d:=by
 have z:=Fi I s;cases d with
 |lst F=>obtain⟨g,q1,q2⟩:=t;exact⟨g,s _ _ Y q1,q2.mono z⟩
 |dk F=>obtain⟨g,q1,q2,q3⟩:=t;exact⟨g,s _ _ Y q1,q2,q3.mono z⟩
 |dt F=>obtain⟨g,q1,q2,q3⟩:=t;exact⟨g,s _ _ Y q1,q2,q3.mono z⟩
 |ob c J=>obtain⟨C,dx,g,q1,q2,q3⟩:=t;exact⟨C,dx,g,s _ _ Y q1,q2,q3.mono z⟩
 |_=>exact t.elim
end
section
variable {G:Gx}{a b c:Expr}{fa:FE}{p2 rp p:Pos}{fs:FA}{h:FZ}{hs:FZA}
end
end PV
namespace PV
open PySem L2
abbrev Ef:=List (Str×Bool×D)
abbrev FEs:=Rho->Ef->Option (Rho×Ef)
abbrev FTE:=Rho->Ef->Option Bool
def noOw(ρ:Rho):Bool:=ρ.all λz=>match z with | .ow _=>T2 | _=>U2
def pureE(g:FS):FEs:=λρ d=>match g ρ with | some (.nx ρ')=>if noOw ρ'=U2 then Y2 (ρ',d) else X2 | _=>X2
def O2(f:Str)(z:FE):FEs:=λρ g=>(z ρ).bind λd=>if (g.lookup f).isNone=U2/\g.length<1000 then Y2 (ρ,g++[(f,T2,d)]) else X2
def Gb(f:Str)(z:FE):FEs:=λρ g=>(z ρ).bind λd=>if (g.lookup f).isNone=U2/\g.length<1000 then Y2 (ρ,g++[(f,U2,d)]) else X2
def repE(f:Str)(d:D):Ef->Ef
 |[]=>[]
 | (g,b,x)::r=>if g=f then (g,b,d)::r else (g,b,x)::repE f d r
def Fw(f:Str)(F z:FE):FEs:=λρ g=>(z ρ).bind λv=>(F ρ).bind λk=>match g.lookup f with | some (U2,d)=>(Bc d k v).map λd'=>(ρ,repE f d' g) | _=>X2
def Fx(t:FT):FTE:=λρ _=>t ρ
def inTE(f:Str)(z:FE):FTE:=λρ g=>(z ρ).bind λk=>match g.lookup f with | some (U2,.dk d)=>(keyD k).map λq=>(getK q d).isSome | _=>X2
def orTE(a b:FTE):FTE:=λρ d=>match a ρ d with | some U2=>Y2 U2 | some T2=>b ρ d | none=>X2
def ifE(t:FTE):FEs:=λρ d=>match t ρ d with | some T2=>Y2 (ρ,d) | _=>X2
def nilE:FEs:=λρ d=>Y2 (ρ,d)
def Cz(g J:FEs):FEs:=λρ d=>(g ρ d).bind λr=>J r.1 r.2
def B_(F:FG)(b:FEs):List D->FEs
 |[],ρ,g=>Y2 (ρ,g)
 |d::r,ρ,g=>(F d ρ).bind λz=>if noOw z=U2 then (b z g).bind λq=>B_ F b r q.1 q.2 else X2
def forE(d:FI)(z:FG)(b:FEs):FEs:=λρ g=>(d ρ).bind λds=>B_ z b ds ρ g
def Jf(n:Nat)(x:Addr)(ds:List D):Rho:=Ba n (.adr x::ds)
def runI(n g:Nat)(b:FEs)(x:Addr)(ds:List D):Option Ef:=if ds.length+1=g then (b (Jf n x ds) []).map (·.2) else X2
def finE(c:Str)(d:Ef):D:=.ob c (d.map λp=>(p.1,p.2.2))
open Classical in
noncomputable def mkI(c:Str)(g:Addr->List D->Option Ef)(fs:FA):FE:=λρ=>(fs ρ).bind λds=>(g 0 ds).bind λd=>if ∀x,g x ds=Y2 d then Y2 (finE c d) else X2
end PV
variable {d:PV.D}{G:PV.Gx}{ds:List PV.D}{ρ ρ':PV.Rho}{kds:List (L2.Key×PV.D)}{g:List PV.D->Option PV.D}{src:PV.FI}{fg:PV.FG}{fe:PV.FE}{ε:PV.Ef}
namespace PV
open PySem PySem.Spec L2
open PyProof.Rows hiding St
theorem Bg(h:noOw ρ=U2)(i:Nat)(d:D):ρ[i]?≠Y2 (.ow d):=λe=>by
 unfold noOw at h;rw[gz] at h;have:=h _ (lA e);cases this
inductive FsOk (G:Gx) (A0 A:List Addr) (H:Hp) (x:Addr):List (Str×V)->Ef->List Addr->Prop
 |nil:FsOk G A0 A H x [] [] []
 |pl {f:Str}{v:V}{d:D}{fs:List (Str×V)}{ε:Ef}{as:List Addr}:Rep G (hid A H) v d->FsOk G A0 A H x fs ε as->FsOk G A0 A H x ((f,v)::fs) ((f,T2,d)::ε) as
 |ow {f:Str}{a:Addr}{d:D}{fs:List (Str×V)}{ε:Ef}{as:List Addr}:a∈A->a∉A0->a≠x->a∉as->Top G A H a d->FsOk G A0 A H x fs ε as->FsOk G A0 A H x ((f,.ref a)::fs) ((f,U2,d)::ε) (a::as)
section
variable {A':List Addr}{x:Addr}{fs:List (Str×V)}{as:List Addr}
theorem FsOk.mp(h:FsOk G A0 A H x fs ε as)(r:∀v d,Rep G (hid A H) v d->Rep G (hid A' H') v d)(t:∀a∈as,∀d,Top G A H a d->Top G A' H' a d)(s:∀a∈as,a∈A->a∈A'):FsOk G A0 A' H' x fs ε as:=by
 induction h with
 |nil=>exact .nil
 |pl I _ z=>exact .pl (r _ _ I) (z t s)
 |ow T S L J O _ z=>exact .ow (s _ bg T) S L J (t _ bg _ O) (z (λa F=>t a (aI _ F)) (λa F=>s a (aI _ F)))
theorem FsOk.names(h:FsOk G A0 A H x fs ε as):fs.map (·.1)=ε.map (·.1):=by
 induction h with
 |nil=>rfl
 |pl _ _ z=>simp[z]
 |ow _ _ _ _ _ _ z=>simp[z]
theorem FsOk.len(h:FsOk G A0 A H x fs ε as):fs.length=ε.length:=by
 have:=congrArg cw h.names;simpa using this
theorem FsOk.ne(h:FsOk G A0 A H x fs ε as):∀a∈as,a∈A/\a∉A0/\a≠x:=by
 induction h with
 |nil=>intro a I;cases I
 |pl _ _ F=>exact F
 |ow L J O _ _ _ F=>
  intro a I
  rcases ba.mp I with z | z
  .subst z;exact⟨L,J,O⟩
  .exact F a z
theorem Kz{f:Str}{v:V}:∀{fs:List (Str×V)},fs.lookup f=X2->L2.putF f v fs=fs++[(f,v)]
 |[],_=>rfl
 | (g,y)::r,h=>by
  by_cases F:f=g
  .subst F;simp[bi] at h
  .have I:(f==g)=T2:=beq_eq_false_iff_ne.mpr F;simp only[bi,I] at h;show (if g=f then (g,v)::r else (g,y)::L2.putF f v r)=_;rw[if_neg (λz=>F z.symm),Kz h];rfl
theorem FsOk.none{f:Str}(h:FsOk G A0 A H x fs ε as)(e:ε.lookup f=X2):fs.lookup f=X2:=by
 induction h with
 |nil=>rfl
 | @pl g v d fs ε as _ _ z=>
  by_cases F:f=g
  .subst F;simp[bi] at e
  .have I:(f==g)=T2:=beq_eq_false_iff_ne.mpr F;simp only[bi,I] at e ⊢;exact z e
 | @ow g a d fs ε as _ _ _ _ _ _ z=>
  by_cases F:f=g
  .subst F;simp[bi] at e
  .have I:(f==g)=T2:=beq_eq_false_iff_ne.mpr F;simp only[bi,I] at e ⊢;exact z e
theorem FsOk.snocP{f:Str}(h:FsOk G A0 A H x fs ε as)(r:Rep G (hid A H) v d):FsOk G A0 A H x (fs++[(f,v)]) (ε++[(f,T2,d)]) as:=by
 induction h with
 |nil=>exact .pl r .nil
 |pl F _ z=>exact .pl F z
 |ow S L J I O _ z=>exact .ow S L J I O z
theorem FsOk.snocO{f:Str}(h:FsOk G A0 A H x fs ε as)(h1:a∈A)(U:a∉A0)(S:a≠x)(I:a∉as)(t:Top G A H a d):FsOk G A0 A H x (fs++[(f,.ref a)]) (ε++[(f,U2,d)]) (as++[a]):=by
 induction h with
 |nil=>exact .ow h1 U S (λz=>nomatch z) t .nil
 |pl J _ F=>exact .pl J (F I)
 | @ow g b e fs ε as q1 q2 q3 L T _ F=>
  have O:a≠b:=λz=>I (by simp[z]);refine .ow q1 q2 q3 (λz=>?_) T (F λz=>I (aI _ z))
  rcases dv.mp z with z | z
  .exact L z
  .simp at z;exact O z.symm
theorem FsOk.get{f:Str}(h:FsOk G A0 A H x fs ε as)(e:ε.lookup f=Y2 (U2,d)):∃a,fs.lookup f=Y2 (.ref a)/\a∈as/\a∈A/\a∉A0/\a≠x/\Top G A H a d:=by
 induction h with
 |nil=>cases e
 | @pl g v T fs ε as _ _ z=>
  by_cases F:f=g
  .subst F;simp[bi] at e
  .have I:(f==g)=T2:=beq_eq_false_iff_ne.mpr F;simp only[bi,I] at e ⊢;exact z e
 | @ow g a T fs ε as S L J _ O _ z=>
  by_cases F:f=g
  .subst F;simp only[bi,beq_self_eq_true,p5,nO,true_and] at e ⊢;subst e;exact⟨a,rfl,bg,S,L,J,O⟩
  .have I:(f==g)=T2:=beq_eq_false_iff_ne.mpr F;simp only[bi,I] at e ⊢;obtain⟨U,q1,q2,q3⟩:=z e;exact⟨U,q1,aI _ q2,q3⟩
theorem FsOk.wr{f:Str}{d':D}(h:FsOk G A0 A H x fs ε as)(e:ε.lookup f=Y2 (U2,d))(I:fs.lookup f=Y2 (.ref a))(sx:Hr a H H')(U:a∈A)(t:Top G A H' a d'):FsOk G A0 A H' x fs (repE f d' ε) as:=by
 have T:=Fi U sx
 induction h with
 |nil=>cases e
 | @pl g v d2 fs ε as rv O L=>
  by_cases F:f=g
  .subst F;simp[bi] at e
  .have S:(f==g)=T2:=beq_eq_false_iff_ne.mpr F;simp only[bi,S] at e I;unfold repE;rw[if_neg (λz=>F z.symm)];exact .pl (rv.mono T) (L e I)
 | @ow g b d2 fs ε as Z Y W J h5 O L=>
  by_cases F:f=g
  .subst F;simp only[bi,beq_self_eq_true,p5,V.ref.injEq] at I;subst I;unfold repE;rw[if_pos rfl];refine .ow Z Y W J t (O.mp (λv d r=>r.mono T) (λc hc d t'=>t'.other (λz=>J (by rw[<-z];exact hc)) U sx) λ_ _ z=>z)
  .have S:(f==g)=T2:=beq_eq_false_iff_ne.mpr F;simp only[bi,S] at e I;obtain⟨a',q1,q2,_⟩:=O.get e;rw[I] at q1;cases q1;unfold repE;rw[if_neg (λz=>F z.symm)];exact .ow Z Y W J (h5.other (λz=>J (z▸q2)) U sx) (L e I)
end
structure EOk (G:Gx) (c:Str) (A0:List Addr) (He:Hp) (x:Addr) (A:List Addr) (σ:St) (H:Hp) (ρ:Rho) (ε:Ef):Prop where
 w:OkW G A0 He A σ H ρ
 no:noOw ρ=U2
 xA:x∈A
 x0:x∉A0
 s0:ρ[0]?=Y2 (.fz (.adr x))
 ob:∃C dx fs as,H x=Y2 (.ins C dx fs)/\G.cl c=Y2 C/\FsOk G A0 A H x fs ε as
def EOkS(G:Gx)(c:Str)(A0:List Addr)(He:Hp)(x:Addr)(z:St)(H:Hp)(ρ:Rho)(F:Ef):Prop:=∃A,EOk G c A0 He x A z H ρ F
section
variable {x:Addr}
theorem EOk.at0(o:EOk G c A0 He x A σ H ρ ε):σ[0]?=Y2 (Y2 (.ref x)):=by
 obtain⟨v,F,z⟩:=o.w.ok.fz 0 _ o.s0;cases z;exact F
theorem EOk.mono(o:EOk G c A0 He x A σ H ρ ε)(s:Same H H'):EOk G c A0 He x A σ H' ρ ε:=by
 obtain⟨C,dx,fs,as,I,F,O⟩:=o.ob;exact⟨o.w.mono s,o.no,o.xA,o.x0,o.s0,C,dx,fs,as,s _ _ I,F,O.mp (λv d r=>r.mono (Al s)) (λa J d t=>t.mono s) λ_ _ z=>z⟩
theorem RT(s:Same H H')(fr:∀a∈B,a∈A∨H a=X2):Same (hid A H) (hid B H'):=λb u h=>by
 unfold hid at h;split at h
 .cases h
 .rename_i F;rw[Ao]
  .exact s b u h
  .intro z
   rcases fr b z with q | q
   .exact F q
   .rw[q] at h;cases h
theorem Top.plain(t:Top G A H a d)(s:Same H H')(p:Same (hid A H) (hid B H')):Top G B H' a d:=by
 cases d with
 |lst F=>obtain⟨z,q1,q2⟩:=t;exact⟨z,s _ _ q1,q2.mono p⟩
 |dk F=>obtain⟨z,q1,q2,q3⟩:=t;exact⟨z,s _ _ q1,q2,q3.mono p⟩
 |dt F=>obtain⟨z,q1,q2,q3⟩:=t;exact⟨z,s _ _ q1,q2,q3.mono p⟩
 |ob c J=>obtain⟨C,dx,z,q1,q2,q3⟩:=t;exact⟨C,dx,z,s _ _ q1,q2,q3.mono p⟩
 |_=>exact t.elim
theorem EOk.frame(o:EOk G c A0 He x A σ H ρ ε):OkS G A H σ H ρ:=⟨A,Same.refl H,λ_ h=>h,λa h=>.inl h,λa z=>(o.w.ok.live a z).ne,o.w.ok,λi d a h _=>absurd h (Bg o.no i d),λy d _ h=>absurd h (Bg o.no 0 d)⟩
theorem EOk.unframe{F:St}(o:EOk G c A0 He x A σ H ρ ε)(w:OkS G A H F H' ρ')(I:noOw ρ'=U2)(T:ρ'[0]?=Y2 (.fz (.adr x))):EOkS G c A0 He x F H' ρ' ε:=by
 obtain⟨B,w⟩:=w;have J:Same (hid A H) (hid B H'):=RT w.same w.fr;obtain⟨C,dx,fs,as,S,L,O⟩:=o.ob;refine⟨B,⟨o.w.same.trans w.same,λa z=>w.sub a (o.w.sub a z),λa z=>?_,o.w.l0,w.ok,λi d a h _=>absurd h (Bg I i d),λy d _ h=>absurd h (Bg I 0 d)⟩,I,w.sub x o.xA,o.x0,T,C,dx,fs,as,w.same _ _ S,L,O.mp (λv d r=>r.mono J) (λa z d t=>t.plain w.same J) λa _ z=>w.sub a z⟩
 rcases w.fr a z with q | q
 .exact o.w.fr a q
 .exact .inr (o.w.same.free q)
theorem EOk.wr{ε':Ef}(o:EOk G c A0 He x A σ H ρ ε)(F:p∈A)(O:p∉A0)(sx:Hr p H H')(J:Nt (H' p))(ob:∃C dx fs as,H' x=Y2 (.ins C dx fs)/\G.cl c=Y2 C/\FsOk G A0 A H' x fs ε' as):EOk G c A0 He x A σ H' ρ ε':=by
 have T:He p=X2:=(o.w.fr p F).resolve_left O;have I:=Fi F sx;refine⟨⟨λb u h=>sx b u (Bw h T) (o.w.same b u h),o.w.sub,o.w.fr,o.w.l0,⟨o.w.ok.len,λb L=>?_,λj e h=>?_,λj e h=>absurd h (Bg o.no j e),λi j d e a h _ _ _=>absurd h (Bg o.no i d)⟩,λi d a h _=>absurd h (Bg o.no i d),λy d _ h=>absurd h (Bg o.no 0 d)⟩,o.no,o.xA,o.x0,o.s0,ob⟩
 .by_cases z:b=p
  .rw[z];exact J
  .exact (o.w.ok.live b L).mono λu e=>sx b u z e
 .obtain⟨v,q1,q2⟩:=o.w.ok.fz j e h;exact⟨v,q1,q2.mono I⟩
end
def tE(G:Gx)(c:Str)(A0:List Addr)(He:Hp)(x:Addr)(g:FEs):TS:=λD J H=>∃ρ F r,EOkS G c A0 He x J H ρ F/\g ρ F=Y2 r/\∀z I,EOkS G c A0 He x z I r.1 r.2->D.nx z I
def PSE(X:Cx)(G:Gx)(c:Str)(st:Stmt)(g:FEs):Prop:=∀⦃A0⦄ He x,PS X st (tE G c A0 He x g)
def PSEs(X:Cx)(G:Gx)(c:Str)(st:List Stmt)(g:FEs):Prop:=∀⦃A0⦄ He x,PSs X st (tE G c A0 He x g)
def tTE(G:Gx)(c:Str)(A0:List Addr)(He:Hp)(x:Addr)(t:FTE):TT:=λI H Q=>∃A ρ z b,EOk G c A0 He x A I H ρ z/\t ρ z=Y2 b/\∀F,Same H F->Q b F
def PTE(X:Cx)(G:Gx)(c:Str)(e:Expr)(t:FTE):Prop:=∀⦃A0⦄ He x,PT X e (tTE G c A0 He x t)
def PWE(X:Cx)(G:Gx)(c:Str)(e:Expr)(t:FTE):Prop:=∀⦃A0⦄ He x,PW X e (tTE G c A0 He x t)
section
variable {a b k it:Expr}{fa fb:FE}{p px:Pos}{rest body:List Stmt}{g gs:FEs}{gp:FS}{ta tb:FTE}{tp:FT}
theorem RV(h1:PSE X G c st g)(h2:PSEs X G c rest gs):PSEs X G c (st::rest) (Cz g gs):=λO L x U s T H D I ⟨F,J,r,o,e,k⟩=>by
 refine Fl (@h1 O L x) (@h2 O L x) U s T H D I ?_;unfold Cz at e;cases z:g F J with
 |none=>simp[z] at e
 |some q=>
  simp only[z,bo] at e;exact⟨F,J,q,o,z,λS Y W=>⟨q.1,q.2,r,W,e,k⟩⟩
theorem U_(h1:PSE X G c st g):PSEs X G c [st] g:=λL J x=>Iz (@h1 L J x)
theorem Jx(h:PSD X G st gp)(S:∀ρ ρ',gp ρ=Y2 (.nx ρ')->ρ'[0]?=ρ[0]?):PSE X G c st (pureE gp):=λY W x L s J H D I ⟨ρ,U,r,⟨A,o⟩,e,k⟩=>by
 unfold pureE at e;split at e
 .rename_i ρ' F;split at e
  .rename_i O;cases e;refine @h A H L s J H D I ⟨ρ,_,o.frame,F,λz T w=>k z T (o.unframe w O (by rw[S ρ ρ' F];exact o.s0))⟩
  .cases e
 .cases e
theorem Jy(h:PFT X G e tp):PTE X G c e (Fx tp):=λS O x=>λJ s z H Q I ⟨A,F,L,b,o,e,k⟩=>@h A J s z H Q I ⟨F,b,o.w.ok,e,k⟩
theorem VB(h:PTE X G c a ta):PWE X G c (.BoolOp .Or [a] pos) ta:=λL J x=>Wt (@h L J x)
theorem Yk{rest:List Expr}(ha:PTE X G c a ta)(hb:PWE X G c (.BoolOp .Or (b::rest) pos) tb):PWE X G c (.BoolOp .Or (a::b::rest) pos) (orTE ta tb):=λS L x=>cH (b_ (@ha S L x) (@hb S L x)) λW H Q ⟨A,F,I,d,o,e,k⟩=>by
 unfold orTE at e;split at e
 .rename_i J;cases e;exact⟨A,F,I,_,o,J,λO z=>iteT (k O z)⟩
 .rename_i J;exact⟨A,F,I,_,o,J,λO z=>iteF ⟨A,F,I,d,o.mono z,e,λU T=>k U (z.trans T)⟩⟩
 .cases e
theorem PWE.pt(h:PWE X G c a ta):PTE X G c a ta:=λL J x=>(@h L J x).pt
theorem Yl{f:Str}(hu:X.A.units+1<aE)(z:∀c C,G.cl c=Y2 C->Cls X.K C/\Ci X.K C f)(hv:PE X (.Name x px) (tVar 0))(ha:PF X G a fa)(hb:d4 (.Name x px) f X.env (eval (.Name x px) X.env)=eval (.Name x px) X.env:=by rfl)(hm:gg .In (.Attribute (.Name x px) f ap)=T2:=by rfl):PTE X G c (.Compare a [.In] [.Attribute (.Name x px) f ap] pos) (inTE f fa):=λA0 He y Y s W H Q I ⟨A,O,ε,d,o,e,k⟩=>by
 refine Ub (Th hu) (@ha A) (Pu hv hb) hm Y s W H Q I ?_;unfold inTE at e;cases L:fa O with
 |none=>simp[L] at e
 |some T=>
  simp only[L,bo] at e;split at e
  .rename_i u0 e2;cases J:keyD T with
   |none=>simp[J] at e
   |some q=>
    simp only[J,eB] at e;cases e;refine⟨O,T,o.w.ok,L,λv H1 S r1=>?_⟩;obtain⟨C,dx,fs,as,h1,U,h3⟩:=(o.mono S).ob;obtain⟨p,q1,q2,q3,q4,q5,F,t1,t2,Z⟩:=h3.get e2;refine⟨_,o.at0,y,C,dx,fs,_,rfl,h1,(z _ _ U).1,(z _ _ U).2,q1,p,F,q,rfl,.of t1,Fg r1 J,?_⟩;rw[(HN (k:=q) t2 Z).2];exact⟨_,rfl,k H1 S⟩
  .cases e
theorem QR(ht:PTE X G c e ta)(h1:PSDs X G s1 badF):PSE X G c (.If e s1 [] pos) (ifE ta):=λL J x O s z H D I ⟨F,S,r,⟨A,o⟩,e,k⟩=>by
 refine UL (@ht L J x) (@h1 L J) Lw O s z H D I ?_;unfold ifE at e;split at e
 .rename_i T;cases e;exact⟨A,F,S,_,o,T,λU s1=>iteF (k z U ⟨A,o.mono s1⟩)⟩
 .cases e
theorem RW{f:Str}(J:∀c C,G.cl c=Y2 C->Cls X.K C/\Ci X.K C f)(hv:PE X (.Name x px) (tVar 0))(ha:PF X G a fa)(L:dA a (Y2 (.Attribute (.Name x px) f pos')) pos.line X.env=pure T2:=by rfl):
  PSE X G c (.Assign [.Attribute (.Name x px) f pos'] a pos) (O2 f fa):=λA0 He y π s σ H D I ⟨U,ε,r,⟨A,o⟩,e,k⟩=>by
 refine W3 hv (@ha A) L π s σ H D I ?_;unfold O2 at e;cases T:fa U with
 |none=>simp[T] at e
 |some d=>
  simp only[T,bo] at e;split at e
  .rename_i Y;cases e;refine⟨U,d,o.w.ok,T,λu Z s1 r1=>?_⟩;have F:=o.mono s1;obtain⟨C,dx,fs,as,h1,S,O⟩:=F.ob;have hn:=O.none (lH.mp Y.1);refine⟨_,o.at0,y,C,dx,fs,rfl,h1,(J _ _ S).1,(J _ _ S).2,by rw[O.len];exact Y.2,?_⟩;rw[Kz hn];have sx:Hr y Z (upd Z y (.ins C dx (fs++[(f,u)]))):=λb w hb hw=>by rw[Ag hb];exact hw
   have W:=Fi F.xA sx;refine k _ _ ⟨A,F.wr F.xA F.x0 sx (by rw[Ah];exact Nt.ins) ⟨C,dx,_,as,Ah,S,?_⟩⟩;exact (O.mp (λv d r=>r.mono W) (λp hp d t=>t.other (O.ne p hp).2.2 F.xA sx) λ_ _ z=>z).snocP (r1.mono W)
  .cases e
theorem Jz{f:Str}(T:∀c C,G.cl c=Y2 C->Cls X.K C/\Ci X.K C f)(hv:PE X (.Name x px) (tVar 0))(ha:PN X G a fa)(y0:dA a (Y2 (.Attribute (.Name x px) f pos')) pos.line X.env=pure T2:=by rfl):
    PSE X G c (.Assign [.Attribute (.Name x px) f pos'] a pos) (Gb f fa):=λA0 He y π s σ H D I ⟨ρ,ε,r,⟨A,o⟩,e,k⟩=>by
  refine W3 hv (@ha A) y0 π s σ H D I ?_;unfold Gb at e;cases e1:fa ρ with
  |none=>simp[e1] at e
  |some d=>
    simp only[e1,bo] at e;split at e
    . rename_i hz
      cases e;refine⟨ρ,d,o.w.ok,e1,λq U F Y t=>?_⟩;obtain⟨C,dx,fs,as,h1,h2,Z⟩:=o.ob;have J:q∉A:=λz=>(o.w.ok.live q z).ne Y;have W:Same (hid A H) (hid (q::A) U):=Fe F Y;have hn:=Z.none (lH.mp hz.1);have v0:q∉A0:=λz=>J (o.w.sub q z);have S:q≠y:=λz=>J (z▸o.xA);have u0:q∉as:=λz=>J (Z.ne q z).1;have O:EOk G c A0 He y (q::A) σ U ρ ε:=⟨⟨o.w.same.trans F,λa ha=>aI _ (o.w.sub a ha),λa ha=>by
          rcases ba.mp ha with z | z
          . rw[z];exact .inr (o.w.same.free Y)
          . exact o.w.fr a z,o.w.l0,o.w.ok.fill F Y t.live,λi d a h _=>absurd h (Bg o.no i d),λy d _ h=>absurd h (Bg o.no 0 d)⟩,o.no,aI _ o.xA,o.x0,o.s0,C,dx,fs,as,F _ _ h1,h2,
          Z.mp (λv d r=>r.mono W) (λp L d t=>t.plain F W) λp _ L=>aI _ L⟩
      have g1:=F _ _ h1;have g2:=h2;have g3:FsOk G A0 (q::A) U y fs ε as:=Z.mp (λv d r=>r.mono W) (λp L d t=>t.plain F W) λp _ L=>aI _ L;have B0:=g3.none (lH.mp hz.1);refine⟨_,o.at0,y,C,dx,fs,rfl,g1,(T _ _ g2).1,(T _ _ g2).2,by rw[g3.len];exact hz.2,?_⟩;rw[Kz B0];have sx:Hr y U (upd U y (.ins C dx (fs++[(f,.ref q)]))):=λb w hb hw=>by rw[Ag hb];exact hw
      have sm:=Fi O.xA sx;refine k _ _ ⟨q::A,O.wr O.xA O.x0 sx (by rw[Ah];exact Nt.ins) ⟨C,dx,_,as++[q],Ah,g2,?_⟩⟩;exact (g3.mp (λv d r=>r.mono sm) (λp L d t=>t.other (g3.ne p L).2.2 O.xA sx) λ_ _ z=>z).snocO bg v0 S u0 (t.other S O.xA sx)
    . cases e
theorem RX{f:Str}(hu:X.A.units+1<aE)(J:∀c C,G.cl c=Y2 C->Cls X.K C/\Ci X.K C f)(hv:PE X (.Name x px) (tVar 0))(ha:PF X G a fa)(hb:PF X G b fb)(z:d4 (.Name x px) f X.env (eval (.Name x px) X.env)=eval (.Name x px) X.env:=by rfl)(hs:dA b (Y2 (.Subscript (.Attribute (.Name x px) f ap) a spos)) pos.line X.env=pure T2:=by rfl):PSE X G c (.Assign [.Subscript (.Attribute (.Name x px) f ap) a spos] b pos) (Fw f fa fb):=λA0 He y π s σ H D I ⟨L,ε,r,⟨A,o⟩,e,k⟩=>by
 refine JB hu (Pu hv z) (@ha A) (@hb A) hs π s σ H D I ?_;unfold Fw at e;cases O:fb L with
 |none=>simp[O] at e
 |some v=>
  cases e2:fa L with
  |none=>simp[O,e2] at e
  |some W=>
   simp only[O,e2,bo] at e;split at e
   .rename_i d e3;cases T:Bc d W v with
    |none=>simp[T] at e
    |some d'=>
     simp only[T,eB] at e;cases e;unfold Bc at T;split at T
     .rename_i v0;cases Z:keyD W with
      |none=>simp[Z] at T
      |some q=>
       simp only[Z,bo] at T;split at T
       .rename_i hz;cases T;refine⟨L,v,o.w.ok,O,λu H1 s1 r1=>?_⟩;have U:=o.mono s1;obtain⟨C,dx,fs,as,Y,h2,h3⟩:=U.ob;obtain⟨p,q1,q2,q3,q4,q5,F,t1,t2,t3⟩:=h3.get e3;refine⟨_,o.at0,y,C,dx,fs,_,rfl,Y,(J _ _ h2).1,(J _ _ h2).2,q1,L,W,U.w.ok,e2,λyv H2 S r2=>?_⟩;have ek:=Fg r2 Z;subst ek;have o2:=U.mono S;obtain⟨C',B0,y0,u0,g1,g2,g3⟩:=o2.ob;rw[S _ _ Y] at g1;cases g1;have hl:F.length<sizeLine:=by
         have:=congrArg cw t2;rw[aw,aw] at this;omega
        refine⟨p,_,rfl,DPut.k (S _ _ t1) hl,?_⟩;have pk:=MJ (k:=q) (r1.mono (Al S)) t2 (t3.mono (Al S));have sx:Hr p H2 (upd H2 p (.dK (putK F q u))):=λb w hb hw=>by rw[Ag hb];exact hw
        refine k _ _ ⟨A,o2.wr q3 q4 sx (by rw[Ah];exact Nt.dK) ⟨C,dx,fs,u0,by rw[Ag (bv q5)];exact S _ _ Y,g2,?_⟩⟩;refine g3.wr e3 q1 sx q3 ⟨_,Ah,pk.1,?_⟩;rw[CT q3];exact pk.2
       .cases T
     .cases T
   .cases e
theorem EOk.frameW{x:Addr}(o:EOk G c A0 He x A σ H ρ ε):OkW G A H A σ H ρ:=⟨Same.refl H,λ_ h=>h,λa h=>.inl h,λa z=>(o.w.ok.live a z).ne,o.w.ok,λi d a h _=>absurd h (Bg o.no i d),λy d _ h=>absurd h (Bg o.no 0 d)⟩
theorem VD{Z:FEs}(hp:kJ (ah X.prog X.w) X.A X.env X.xe)(hc:X.calm=U2)(hi:PFI X G T2 tg it src)(hg:PGD X G tg fg)(hk:∀d ρ ρ',fg d ρ=Y2 ρ'->ρ'[0]?=ρ[0]?)(hb:PSEs X G c body Z)(hs:∀x,gL it X.env x=pure x:=by intro _;rfl):PSE X G c (.For tg it body [] pos) (forE src fg Z):=λL W x π s T H D I ⟨ρ,ε,r,⟨A,o⟩,e,k⟩=>by
 cases e1:src ρ with
 |none=>simp[forE,e1] at e
 |some F=>
  have e':B_ fg Z F ρ ε=Y2 r:=by simpa [forE,e1] using e
  have F0:PSs X body (λD T H=>∃L W x,tE G c L W x Z D T H):=λπ s T H D I ⟨L,W,x,q⟩=>@hb L W x π s T H D I q;have D0:PG X tg (λv T H Q=>∃L W,tGD G L W fg v T H Q):=λπ s T H v u Q I r ⟨L,W,q⟩=>@hg L W π s T H v u Q I r q;refine Kf hp hc (@hi A) D0 F0 hs π s T H D I ⟨ρ,F,o.w.ok,e1,λJ H1 s1 sr=>?_⟩;have o1:=o.mono s1;obtain⟨y0,w2⟩:=o1.w.here;generalize G0:hid (A.filter λa=>decide (a∉L)) H1=Hf at y0 w2;have k2:∀z H',EOkS G c L Hf x z H' r.1 r.2->D.nx z H':=λz H' ⟨B,q⟩=>k z H' ⟨B,q.w.base y0 o.w.l0,q.no,q.xA,q.x0,q.s0,q.ob⟩;refine⟨λi m z H'=>m=F.length-i/\i<=F.length/\∃ρ' O,EOkS G c L Hf x z H' ρ' O/\B_ fg Z (F.drop i) ρ' O=Y2 r,⟨F.length,by simp,eA _,ρ,ε,⟨A,w2,o1.no,o1.xA,o1.x0,o1.s0,o1.ob⟩,by simpa using e'⟩,?_⟩;rintro i m B0 H3 ⟨rfl,L0,u0,v0,⟨B,o3⟩,S⟩;have pl:Same (hid A H1) (hid B H3):=by rw[<-G0] at o3;exact OkW.plain o.w.sub o3.w
  by_cases U:i<F.length
  .right;have hd:F[i]?=Y2 F[i]:=by simp[U]
   have ed:F.drop i=F[i]::F.drop (i+1):=ko U;rw[ed] at S;unfold B_ at S;refine⟨sr.go i H3 (pl.trans Aj) U,λz H'=>∃ρ' O,EOkS G c L Hf x z H' ρ' O/\B_ fg Z (F.drop (i+1)) ρ' O=Y2 r,λz H' q=>⟨F.length-(i+1),by omega,rfl,U,q⟩,λy H' yy=>?_⟩;obtain⟨sy,rx⟩:=sr.yld i H3 y H' _ (pl.trans Aj) hd yy;have o4:=o3.mono sy;cases e4:fg F[i] u0 with
   |none=>simp[e4] at S
   |some Y=>
    simp only[e4,bo] at S;split at S
    .rename_i no;refine⟨B,H',B,u0,F[i],Y,o4.frameW,rx B o3.w.ok.live pl,e4,λK0 H5 C0=>?_⟩;cases e5:Z Y v0 with
     |none=>simp[e5] at S
     |some q=>
      simp only[e5,bo] at S;exact⟨L,Hf,x,Y,v0,q,o4.unframe C0 no (by rw[hk _ _ _ e4];exact o4.s0),e5,λz H' o'=>⟨q.1,q.2,o',S⟩⟩
    .cases S
  .left;have ei:i=F.length:=by omega
   subst ei;rw[kW] at S;cases S;exact⟨sr.stop _ H3 (pl.trans Aj) (ax _),k2 B0 H3 ⟨B,o3⟩⟩
end
theorem NQ:b∈A.filter (λb=>decide (b≠p))↔b∈A/\b≠p:=by simp[cr]
theorem ao(I:Inv X π σ H s)(hA:a∈A)(t:Top G A H a d):
  ∃H',Inv X π σ H' s/\(∀b,b≠a->H' b=H b)/\Same (hid A H) (hid (A.filter λb=>decide (b≠a)) H')/\Rep G (hid (A.filter λb=>decide (b≠a)) H') (.ref a) d:=by
 have L:∀H':Hp,(∀b,b≠a->H' b=H b)->Same (hid A H) (hid (A.filter λb=>decide (b≠a)) H'):=λH' Z b u h=>by
  unfold hid at h;split at h
  .cases h
  .rename_i J;rw[Ao (λz=>J (NQ.mp z).1),Z b (λz=>J (z▸hA))];exact h
 have at0:∀H':Hp,hid (A.filter λb=>decide (b≠a)) H' a=H' a:=λH'=>Ao (λz=>(NQ.mp z).2 rfl);cases d with
 |lst Y=>
  obtain⟨T,S,O⟩:=t;have F:=L H λ_ _=>rfl;exact⟨H,I,λ_ _=>rfl,F,.lst (.of (by rw[at0];exact S)) (O.mono F).1 (O.mono F).2⟩
 |dk Y=>
  obtain⟨T,S,O,U⟩:=t;obtain⟨o,W⟩:=Inv.frzK I S;have F:=L _ λb J=>Ag (o:=.frz o (.dK T)) J;exact⟨_,W,λb J=>Ag J,F,.dk (by rw[at0];exact Ah) O (U.mono F).2⟩
 |dt Y=>
  obtain⟨T,S,O,U⟩:=t;obtain⟨o,W⟩:=Inv.frzT I S;have F:=L _ λb J=>Ag (o:=.frz o (.dT T)) J;exact⟨_,W,λb J=>Ag J,F,.dt (by rw[at0];exact Ah) O (U.mono F).2⟩
 |ob c gs=>
  obtain⟨C,dx,T,S,O,U⟩:=t;have F:=L H λ_ _=>rfl;exact⟨H,I,λ_ _=>rfl,F,.ob O.1 (by rw[at0];exact S) O.2 (U.mono F).2⟩
 |_=>exact t.elim
theorem FsOk.frz{X:Cx}{G:Gx}{A0 A:List Addr}{π:zP}{s:ae}{σ:St}{H:Hp}{x:Addr}{fs:List (Str×V)}{U:Ef}{as:List Addr}(h:FsOk G A0 A H x fs U as)(I:Inv X π σ H s):
  ∃H' L,Inv X π σ H' s/\(∀b,b∉as->H' b=H b)/\(∀b,b∈L↔b∈A/\b∉as)/\Same (hid A H) (hid L H')/\RepL G (hid L H') (fs.map (·.2)) (U.map λp=>p.2.2):=by
 induction h with
 |nil=>exact⟨H,A,I,λ_ _=>rfl,λb=>by simp,Same.refl _,.nil⟩
 |pl rv _ ih=>
  obtain⟨H',L,i1,S,O,F,i5⟩:=ih;exact⟨H',L,i1,S,O,F,.cons (rv.mono F) i5⟩
 | @ow f a d fs U as h1 h2 h3 h4 t _ ih=>
  obtain⟨H1,A1,i1,S,O,F,i5⟩:=ih;have ha:a∈A1:=(O a).mpr ⟨h1,h4⟩;have T:H1 a=H a:=S a h4;have t1:Top G A1 H1 a d:=by
   cases d with
   |lst ds=>obtain⟨J,q1,q2⟩:=t;exact⟨J,by rw[T];exact q1,q2.mono F⟩
   |dk ds=>obtain⟨J,q1,q2,q3⟩:=t;exact⟨J,by rw[T];exact q1,q2,q3.mono F⟩
   |dt ds=>obtain⟨J,q1,q2,q3⟩:=t;exact⟨J,by rw[T];exact q1,q2,q3.mono F⟩
   |ob c gs=>obtain⟨C,dx,J,q1,q2,q3⟩:=t;exact⟨C,dx,J,by rw[T];exact q1,q2,q3.mono F⟩
   |_=>exact t.elim
  obtain⟨H2,j1,j2,j3,j4⟩:=ao i1 ha t1;refine⟨H2,A1.filter λb=>decide (b≠a),j1,λb hb=>?_,λb=>?_,F.trans j3,.cons j4 (i5.mono j3)⟩
  .rw[j2 b (λz=>hb (by simp[z])),S b (λz=>hb (aI _ z))]
  .rw[NQ,O b];simp only[ba,not_or];exact⟨λ⟨⟨Z,Y⟩,W⟩=>⟨Z,W,Y⟩,λ⟨Z,W,Y⟩=>⟨⟨Z,Y⟩,W⟩⟩
theorem EOk.whole{x:Addr}(o:EOk G c A0 He x A σ H ρ ε)(I:Inv X π σ H s):
  ∃H',Inv X π σ H' s/\Same He H'/\Rep G (hid A0 H') (.ref x) (finE c ε):=by
 obtain⟨C,dx,fs,as,h1,Z,O⟩:=o.ob;obtain⟨H',A',Y,J,W,i4,U⟩:=O.frz I;have T:x∉as:=λz=>(O.ne x z).2.2 rfl;refine⟨H',Y,λb u F=>?_,?_⟩
 .rw[J b (λz=>?_)]
  .exact o.w.same b u F
  .obtain⟨q1,q2,_⟩:=O.ne b z;rw[(o.w.fr b q1).resolve_left q2] at F;cases F
 .have S:∀a∈A0,a∈A':=λa L=>(W a).mpr ⟨o.w.sub a L,λz=>(O.ne a z).2.1 L⟩;have en:fs.map (·.1)=(ε.map λp=>(p.1,p.2.2)).map (·.1):=by
   rw[O.names,cS];rfl
  have es:(ε.map λp=>(p.1,p.2.2)).map (·.2)=ε.map λp=>p.2.2:=by rw[cS];rfl
  refine .ob Z (by rw[Ao o.x0,J x T];exact h1) en ?_;rw[es];exact (U.mono (DQ S)).2
def tEI(G:Gx)(c:Str)(A0:List Addr)(He:Hp)(x:Addr)(g:FEs):TS:=λD J H=>∃ρ I r,EOkS G c A0 He x J H ρ I/\g ρ I=Y2 r/\∀z F,Same He F->Rep G (hid A0 F) (.ref x) (finE c r.2)->D.nx z F
def PSI(X:Cx)(G:Gx)(c:Str)(st:List Stmt)(g:FEs):Prop:=∀⦃A0⦄ He x,PSs X st (tEI G c A0 He x g)
theorem VF:PSI X G c [] nilE:=λU T x J s z H D I ⟨O,S,r,⟨A,o⟩,e,k⟩=>by
 cases e;obtain⟨F,L,q1,q2⟩:=o.whole I;exact Lw J s z F D L (k z F q1 q2)
theorem Ek{rest:List Stmt}{g L:FEs}(h1:PSE X G c st g)(h2:PSI X G c rest L):PSI X G c (st::rest) (Cz g L):=λS O x W s U H D I ⟨F,J,r,o,e,k⟩=>by
 refine Fl (@h1 S O x) (@h2 S O x) W s U H D I ?_;unfold Cz at e;cases z:g F J with
 |none=>simp[z] at e
 |some q=>
  simp only[z,bo] at e;exact⟨F,J,q,o,z,λT Z Y=>⟨q.1,q.2,r,Y,e,k⟩⟩
def spI(G:Gx)(c:Str)(g:Addr->List D->Option Ef):Sp:=λvs H Q _=>∃A x F ds I C dx,vs=.ref x::F/\(∀a∈A,Nt (H a))/\x∉A/\H x=Y2 (.ins C dx [])/\G.cl c=Y2 C/\RepL G (hid (x::A) H) F ds/\g x ds=Y2 I ∧
 ∀z,Hr x H z->Rep G (hid A z) (.ref x) (finE c I)->Q .non z
theorem Dy(n:Nat)(ds:List D):noOw (Ba n ds)=U2:=by
 unfold noOw Ba;rw[gz];intro z O
 rcases dv.mp O with q | q
 .obtain⟨d,_,rfl⟩:=aS.mp q;rfl
 .rw[(List.mem_replicate.mp q).2]
theorem fn_I{w:ag}{base:Heap}{k:Nat}{b:FEs}(F:Fun G.K x qual st f fd)(S:FnScope N ps (Ab st))(hl:ps.length<=N.length)(Y:∀(cdv:ac) (A:ar) (I:List Env) (s:ae) (H:Hp) (E:XK),Room k (A.deeper (dn qual (Ab st) s.heap.objs.size f cdv))->PSI (cxOf CX0 P w G.K mg base N qual (Ab st) f cdv A I s H E).nox G c (A_ st) b):
  FnOk P w G.K mg base CX0 (k+1) f fd ps (spI G c (runI N.length ps.length b)):=by
 refine F.ok S (λvs H Q E h=>?_) (λcdv A I s H vs Q E hr h=>?_)
 .obtain⟨A,x,L,O,ε,C,dx,rfl,U,W,Z,hc,r,e,_⟩:=h;unfold runI at e;split at e
  .rename_i hz;rw[df,r.1];exact hz
  .cases e
 .obtain⟨A1,x,L,O,ε,C,dx,rfl,U,W,Z,hc,r,e,k⟩:=h;unfold runI at e;split at e
  .rename_i hz;have T:∀a∈x::A1,Nt (H a):=λa J=>by
    rcases ba.mp J with z | z
    .rw[z,Z];exact Nt.ins
    .exact U a z
   have r':RepL G (hid (x::A1) H) (.ref x::L) (.adr x::O):=.cons (.adr x) r;obtain⟨B,w⟩:=Fp (N:=N) T r' (by rw[df,r.1];omega);cases e1:b (Jf N.length x O) [] with
   |none=>simp[e1] at e
   |some q=>
    simp only[e1,eB] at e;cases e;have hzz:=Y cdv A I s H E hr;refine⟨_,@hzz A1 (hid [x] H) x,Jf N.length x O,[],q,?_,e1,λu0 H' s' rv=>k H' (λb o Y ho=>s' b o (by rw[Ao (by simpa using Y)];exact ho)) rv⟩;refine⟨B,⟨Aj,λa J=>w.sub a (aI _ J),λa J=>?_,λa J=>?_,w.ok,λi d a h _=>absurd h (Bg (Dy _ _) i d),λy d _ h=>absurd h (Bg (Dy _ _) 0 d)⟩,Dy _ _,w.sub x bg,W,rfl,C,dx,[],[],Z,hc,.nil⟩
    .rcases w.fr a J with z | z
     .rcases ba.mp z with z | z
      .right;unfold hid;rw[if_pos (by simp[z])]
      .exact .inl z
     .right;unfold hid;split
      .rfl
      .exact z
    .rw[Ao (λz=>W (by simp at z;rw[<-z];exact J))];exact (U a J).ne
  .cases e
section
variable {a b:Expr}{p:Pos}{fs:FA}
theorem gM{k:Nat}{g:Addr->List D->Option Ef}(y0:G.cl cn=Y2 C)(M:Mk X.K C f)(F:FnOk X.prog X.w X.K X.mg X.base CX0 k f fd ps (spI G cn g))(hr:Room (k+1) X.A)(hg:Gl X x)(hm:X.mg x=Y2 (.ref C))(I:Binds X.K fd ps [])(ha:PFA X G (a::es) fs)(v0:(x==("__debug__":Str))=T2:=by decide)(he:ai (a::es) X.env=(T2,eval a X.env)::ai es X.env:=by rfl)(Y:(br pos (ai es X.env)).any (·.1)=T2:=by rfl):
  PF X G (.Call (.Name x p) (a::es) [] pos) (mkI cn g fs):=λA=>Bt (Uc M F hr hg hm I .nil JM (@ha A) v0 he Y) λσ H Q ⟨ρ,d,o,e,k⟩=>by
 unfold mkI at e;cases S:fs ρ with
 |none=>simp[S] at e
 |some ds=>
  cases e3:g 0 ds with
  |none=>simp[S,e3] at e
  |some ε=>
   simp only[S,e3,bo] at e;split at e
   .rename_i L;cases e;refine⟨ρ,ds,o,S,λvs H1 U rv=>λy dx O u0 Z=>?_⟩;have T:Same H1 (upd (upd H1 dx (.own y)) y (.ins C dx [])):=(Ak u0 _).trans (Ak (by rw[Ag (bv Z)];exact O) _);have J:=(o.mono U).live;refine⟨A,y,vs,ds,ε,C,dx,by rw[dL],λb I=>?_,λz=>(J y z).ne O,Ah,y0,rv.mono (Fe T O),L y,λH' sx W=>?_⟩
    .exact (J b I).mono λu e=>T _ _ e
    .refine⟨rfl,k _ H' (λb u I=>sx b u (λz=>?_) (T _ _ (U _ _ I))) W⟩;have:=U _ _ I;rw[z,O] at this;cases this
   .cases e
end
theorem MP{f:FE}(ρ ρ':Rho)(h:Dh f ρ=Y2 (.nx ρ')):ρ'[0]?=ρ[0]?:=by
 unfold Dh at h;cases e:f ρ with
 |none=>simp[e] at h
 |some d=>simp[e] at h;rw[h]
def K0s(g:FGs):Prop:=∀ds ρ ρ',g ds ρ=Y2 ρ'->ρ'[0]?=ρ[0]?
theorem QS:K0s nilG:=λI F z h=>by
 unfold nilG at h;split at h
 .cases h;rfl
 .cases h
theorem Gd{g:FGs}(F:i≠0)(T:K0s g):K0s (BL i g):=λJ I z h=>by
 unfold BL at h;split at h
 .rw[T _ _ _ h,eC F]
 .cases h
theorem QT{g:FGs}(T:K0s g)(d:D)(ρ ρ':Rho)(h:tupG n g d ρ=Y2 ρ'):ρ'[0]?=ρ[0]?:=by
 unfold tupG at h;split at h
 .split at h
  .exact T _ _ _ h
  .cases h
 .split at h
  .exact T _ _ _ h
  .cases h
 .cases h
end PV
namespace PV
open PySem PySem.W PySem.Calls PyProof.Rows L2
end PV
namespace PySem
open PySem.Spec
section
variable {w:ag}{A:ar}{I d:Addr}{es:Array iA}{od:Obj}
def jd(h:Heap)(I d:Addr)(i n ep:Nat)(J:Obj):Prop:=h.get? I=Y2 { cls:=.type "dict_keyiterator",data:=.fields #[.ref d,.int i 0,.int n 0,.int ep 0] }/\h.get? d=Y2 J
theorem Walks.raw(T:A.handled=X2)(W:d≠I)(J:od.data=.dict es ep):Walks prog w A I [I,d] [I] es.size (λi v=>∃O:i<es.size,v=(es[i]'O).key) (λi h=>jd h I d i es.size ep od) where
 sub:=λb F=>by simp at F;simp[F]
 frame:=λ_ _ _ U S=>⟨S I (by simp) _ U.1,S d (by simp) _ U.2⟩
 item:=λi s Q E O U L=>by
  refine Tn J O U.1 U.2 ?_;have e1:(s.heap.update I (nj (·.setIfInBounds 1 (kI ((i:Int)+1))))).get? I=Y2 { cls:=.type "dict_keyiterator",data:=.fields #[.ref d,.int ((i+1:Nat):Int) 0,.int es.size 0,.int ep 0] }:=qV _ U.1 rfl;exact L _ _ s.toks ⟨O,rfl⟩ ⟨e1,(oF _ _ (bv W)).trans U.2⟩ λb o F e=>(oF _ _ (λz=>F (by simp[<-z]))).trans e
 done:=λs Q E U L=>OD T J (ax _) U.1 U.2 λZ Y=>L Z s.toks λb o F e=>Y b o (λz=>F (by simp[z])) e
 self:=λ_ _ _ _ U L=>qP ⟨_,U.1,rfl,rfl⟩ L
theorem aq(U:(d==eI)=T2)(J:od.ExactDict)(F:od.data=.dict es ep):qZ prog w "dict" d d es.size (λi v=>∃O:i<es.size,v=(es[i]'O).key) (λh=>h.get? d=Y2 od) where
 type:=λ_ z=>⟨_,z,J.1⟩
 there:=λ_ z=>⟨aT z,aT z⟩
 keep:=λ_ _ z L=>L d (.inl rfl) _ z
 notList:=by decide
 notTuple:=by decide
 hint:=λ_ _ _ _ z S=>PySem.W.kdl_hint_dict ⟨_,z,J.1⟩ S
 iter:=λA s T z=>⟨_,_,λE Q S=>Tp U J F z S,Walks.raw T (ca (aT z)) F,cb _ rfl,bq _ z⟩
end
end PySem
namespace PV
open PySem PySem.Spec L2
open PyProof.Rows hiding St
section
theorem J0(hc:X.calm=U2):Df X (.type "list") (λxs H Q=>∃p kvs,xs=[.ref p]/\Rd H p (.dT kvs)/\∀l (cs:List Addr),H l=X2->cs.length=kvs.length->(∀(i:Nat) (c:Addr) (q:List Key×V),cs[i]?=Y2 c->kvs[i]?=Y2 q->H c=Y2 (.tup (q.1.map kV)))->Q (.ref l) (upd H l (.lst (cs.map V.ref)))):=by
 intro π s σ H xs us Q I r h;obtain⟨p,kvs,rfl,e,q⟩:=h;obtain⟨u,rfl,ru⟩:=r.one;cases ru;obtain⟨z,hd,F,T,o,Y,ep,ho,hx,Z,W,nd⟩:=(show BK X.prog X.w H s.heap p (.dT kvs) from XJ I.hok e);have hl:kvs.length=F.length:=T.length;have hn:Y.size=F.length:=by rw[<-lr,W,aw]
 refine p4 (PySem.aq hd hx Z) (I.ok.hd hc) ho (by omega) λh' tk L c' kp U hi=>?_;have va:Vals ((F.map (·.2.1)).map V.ref) L.toList:=by
  have u0:L.toList.length=F.length:=by rw[lr,hi.1,hn]
  have g:∀(j:Nat) u,L.toList[j]?=Y2 u->∃y,F[j]?=Y2 y/\u=.ref y.2.1:=λj u hu=>by
   obtain⟨J,S⟩:=hi.2 j u (by simpa using hu);have hj:j<F.length:=by omega
   refine⟨F[j],by simp[hj],?_⟩;have e1:Y[j]=mI (kD (Ar X.prog X.w)) F[j]:=by
    have:Y.toList[j]?=Y2 (mI (kD (Ar X.prog X.w)) F[j]):=by rw[W];simp[hj]
    have h3:Y.toList[j]?=Y2 Y[j]:=by simp[J]
    rw[h3] at this;exact bE this
   rw[S,e1];rfl
  have O:∀{F:List (List Key×Addr×ac)}{us:List ac},us.length=F.length->(∀(j:Nat) u,us[j]?=Y2 u->∃y,F[j]?=Y2 y/\u=.ref y.2.1)->Vals ((F.map (·.2.1)).map V.ref) us:=by
   intro F
   induction F with
   |nil=>intro us J _;rw[oZ J];exact .nil
   |cons y r ih=>
    intro us J S;cases us with
    |nil=>simp at J
    |cons u us=>
     obtain⟨y',a1,a2⟩:=S 0 u rfl;simp at a1;subst a1;exact .cons a2 (ih (by simpa using J) λj v hv=>by simpa using S (j+1) v (by simpa using hv))
  exact O u0 g
 refine⟨.ref s.heap.objs.size,_,I.laid (t':=tk) kp (ax _) (show BK X.prog X.w _ h' _ (.lst ((F.map (·.2.1)).map V.ref)) from⟨by rw[aw,aw];omega,L.toList,c',va,by simpa using U⟩),rfl,q _ _ (I.hok.fresh (ax _)) (by rw[aw];exact hl.symm) λi c qq J S=>?_⟩;rw[be] at J;cases e3:F[i]? with
 |none=>rw[e3] at J;cases J
 |some y=>
  rw[e3] at J;cases J;exact (FJ T S e3).2.1
def NT:D->Option D
 |.dt z=>Y2 (.lst (z.map λp=>.tup (p.1.map kDt)))
 |d=>listE d
theorem RZ{H:Hp}:∀(k:List Key),RepL G H (k.map kV) (k.map kDt)
 |[]=>.nil
 |k::r=>.cons (MN k) (RZ r)
theorem RepT.dt{A:List Addr}{H:Hp}{v:V}{z:List (List Key×D)}(r:RepT G A H v (.dt z)):∃a kvs,v=.ref a/\Rd H a (.dT kvs)/\kvs.map (·.1)=z.map (·.1)/\RepL G (hid A H) (kvs.map (·.2)) (z.map (·.2)):=by
 rcases r with r | ⟨a,e,kvs,h,k,r⟩
 .cases r with
  |dt h k r=>
   refine⟨_,_,rfl,.inr ⟨_,Aj _ _ h⟩,k,?_,r⟩;have:=congrArg cw k;rw[aw,aw] at this ⊢;exact this
 .exact⟨a,kvs,e,.of h,k,r⟩
theorem O3:SndC G (λxs H Q=>((∃p ys,xs=[.ref p]/\(SqL G.K H p ys∨SqT G.K H p ys)/\∀l,H l=X2->Q (.ref l) (upd H l (.lst ys)))∨∃p kvs,xs=[.ref p]/\Rd H p (.dK kvs)/\∀l,H l=X2->Q (.ref l) (upd H l (.lst (kvs.map λq=>kV q.1)))) ∨
  ∃p kvs,xs=[.ref p]/\Rd H p (.dT kvs)/\∀l (cs:List Addr),H l=X2->cs.length=kvs.length->(∀(i:Nat) (c:Addr) (q:List Key×V),cs[i]?=Y2 c->kvs[i]?=Y2 q->H c=Y2 (.tup (q.1.map kV)))->Q (.ref l) (upd H l (.lst (cs.map V.ref)))) NT:=by
 intro A H x dx d Q S rx h k;unfold NT at h;split at h
 .rename_i F;cases h;obtain⟨p,kvs,rfl,h1,Z,r⟩:=rx.dt;have hl:kvs.length=F.length:=by have:=congrArg cw Z;rwa [aw,aw] at this
  refine .inr ⟨p,kvs,rfl,h1,λl cs O u0 hc=>k _ _ (Ak O _) (Bb S O ⟨by rw[aw,aw];omega,λi v dd J I=>?_⟩)⟩;rw[be] at J I;cases U:cs[i]? with
  |none=>rw[U] at J;cases J
  |some c=>
   cases L:F[i]? with
   |none=>rw[L] at I;cases I
   |some W=>
    rw[U] at J;rw[L] at I;cases J;cases I;have hi:i<kvs.length:=by rw[hl];exact (de.mp L).1
    have g3:kvs[i]?=Y2 kvs[i]:=by simp[hi]
    have ek:(kvs[i]).1=W.1:=by
     have a1:(kvs.map (·.1))[i]?=Y2 (kvs[i]).1:=by rw[be,g3];rfl
     rw[Z,be,L] at a1;exact (bE a1).symm
    have T:=hc i c _ U g3;rw[ek] at T;have nA:c∉A:=λz=>(S c z).tup _ T;have Y:=RZ (G:=G) (H:=hid A H) W.1;exact .tup (.of (by rw[Ao nA];exact T)) Y.1 Y.2
 .exact .inl (WY A H x dx d Q S rx h k)
end
section
end
structure FunD (K:av) (x qual:Str) (st:Stmt) (f:Addr) (fd:ii):Prop where
 ex:∃(oc:ac) (od:Option Addr) (dV kV doc pm:ac) (an:Option Addr) (cdv ct:ac) (osl:Array (Option ac)),
  fd=eS x qual (Cu st) (A_ st) (Ab st) dV kV doc pm an cdv ct/\K.lookup f=Y2 ⟨oc,od,.func fd,osl⟩/\kf K cdv qual=U2
 kp:dS K (.ref f)=U2
theorem au{K:av}{z kV:ac}(l:K.lookup f=Y2 ⟨oc,od,.func (eS x qual (Cu st) (A_ st) (Ab st) z kV doc pm an cdv ct),osl⟩)(c:kf K cdv qual=U2)(k:dS K (.ref f)=U2):FunD K x qual st f (eS x qual (Cu st) (A_ st) (Ab st) z kV doc pm an cdv ct):=⟨⟨oc,od,z,kV,doc,pm,an,cdv,ct,osl,rfl,l,c⟩,k⟩
theorem je{w:ag}{base:Heap}{k:Nat}{b:FS}(F:FunD G.K x qual st f fd)(S:FnScope N ps (Ab st))(hl:ps.length<=N.length)(hb:∀(cdv:ac) (A:ar) (z:List Env) (s:ae) (H:Hp) (E:XK),Room k (A.deeper (dn qual (Ab st) s.heap.objs.size f cdv))->PSDs (cxOf CX0 P w G.K mg base N qual (Ab st) f cdv A z s H E).nox G (A_ st) b):
  FnOk P w G.K mg base CX0 (k+1) f fd ps (spD G (runF N.length ps.length b)):=by
 obtain⟨oc,od,dV,kV,v0,pm,an,cdv,ct,u0,rfl,lk,J⟩:=F.ex;refine Ud lk J S (λvs H Q E h=>?_) (λA z s H vs Q E hr h=>?_)
 .obtain⟨A,L,d,W,r,e,_⟩:=h;unfold runF at e;split at e
  .rename_i O;rw[r.1];exact O
  .cases e
 .obtain⟨A0,L,d,W,r,e,k⟩:=h;unfold runF at e;split at e
  .rename_i O;have hzz:=hb cdv A z s H E hr;refine⟨_,(@hzz A0 H).nox,Ba N.length L,?_⟩;cases I:b (Ba N.length L) with
   |none=>simp[I] at e
   |some o=>
    refine⟨o,Fp W r (by rw[r.1,O];exact hl),rfl,?_⟩;cases o with
    |nx U=>
     simp only[I] at e;cases e;exact λY T ⟨A,w⟩=>k _ T w.same .non
    |rt d' Z=>
     simp only[I] at e;cases e;exact λv Y T A w r'=>k v T w.same (r'.mono (DQ w.sub))
    |bk U=>simp[I] at e
    |ct U=>simp[I] at e
  .cases e
end PV
namespace PV
open PySem L2
theorem gO(l:Str)(y:D):ixE (.str l) y=ixD (.str l) y:=zE_ _
theorem HQ(k:List (Key×D))(x:Str):ixE (.dk k) (.str x)=getK (.inr x) k:=zE_ _
theorem az(l:List (Key×D)):lenE (.dk l)=Y2 (.int l.length):=zE_ _
theorem VG(z:Bool)(x:Int)(k:List (Key×D)):inF z (.int x) (.dk k)=Y2 (.bl (if z then !(getK (.inl x) k).isSome else (getK (.inl x) k).isSome)):=zE_ _
def O4(o:Option D):Option (List D):=match o with | some (.str x)=>Y2 (RQ x) | some (.lst ds)=>Y2 ds | some (.tup ds)=>Y2 ds | some (.dk z)=>Y2 (z.map λp=>kDt p.1) | _=>X2
theorem Tq(f:FE)(ρ:Rho):seqA f ρ=O4 (f ρ):=by
 unfold seqA seqE O4;cases f ρ with
 |none=>rfl
 |some d=>cases d<;>rfl
theorem a_(l:List D):O4 (Y2 (.lst l))=Y2 l:=zE_ _
theorem QV(l:List (Key×D)):O4 (Y2 (.dk l))=Y2 (l.map λp=>kDt p.1):=zE_ _
def putO(i:Nat)(ρ:Rho)(x y v:Option D):Option Out:=v.bind λv=>y.bind λy=>x.bind λx=>(Bc x y v).map λz=>.nx (ρ.set i (.ow z))
theorem VH(i:Nat)(F z:FE)(ρ:Rho):putF i F z ρ=putO i ρ (getW ρ[i]?) (F ρ) (z ρ):=zE_ _
theorem QW(i:Nat)(ρ:Rho)(x y v:D):putO i ρ (Y2 x) (Y2 y) (Y2 v)=(Bc x y v).map λz=>.nx (ρ.set i (.ow z)):=zE_ _
def dH(i:Nat)(ρ:Rho)(x:Option D)(y:Option (List D))(v:Option D):Option Out:=v.bind λv=>y.bind λy=>x.bind λx=>(Ig x y v).map λz=>.nx (ρ.set i (.ow z))
theorem gP(i:Nat)(F:FA)(z:FE)(ρ:Rho):RM i F z ρ=dH i ρ (getW ρ[i]?) (F ρ) (z ρ):=zE_ _
theorem bA(i:Nat)(ρ:Rho)(x:D)(y:List D)(v:D):dH i ρ (Y2 x) (Y2 y) (Y2 v)=(Ig x y v).map λz=>.nx (ρ.set i (.ow z)):=zE_ _
def frzO(ρ:Rho)(i:Nat)(o:Option Slot):Rho:=match o with | some (.ow d)=>ρ.set i (.fz d) | _=>ρ
theorem jf(g:FS)(ρ:Rho):fzS [] g ρ=g ρ:=zE_ _
theorem jg(i:Nat)(is:List Nat)(g:FS)(ρ:Rho):fzS (i::is) g ρ=fzS is g (frzO ρ i ρ[i]?):=zE_ _
theorem gQ(ρ:Rho)(i:Nat)(d:D):frzO ρ i (Y2 (.ow d))=ρ.set i (.fz d):=zE_ _
theorem HR(i j:Nat)(a b:D)(ρ:Rho):tupG 2 (BL i (BL j nilG)) (.tup [a,b]) ρ=Y2 ((ρ.set i (.fz a)).set j (.fz b)):=zE_ _
theorem J1(x:Str):kDt (.inr x)=.str x:=zE_ _
theorem JG{F:Type}[DecidableEq F]{k:F}:∀{l:List (F×D)},k∉l.map (·.1)->getK k l=X2
 |[],_=>rfl
 |p::r,h=>by
  unfold getK;rw[bb,ba,not_or] at h;rw[if_neg (λz=>h.1 z.symm)];exact JG h.2
theorem MT{F:Type}[DecidableEq F]{k:F}{d:D}:∀{l:List (F×D)},(l.map (·.1)).Nodup->(k,d)∈l->getK k l=Y2 d
 |[],_,h=>by cases h
 |p::r,I,h=>by
  unfold getK;rw[bb,hJ] at I
  rcases ba.mp h with q | q
  .subst q;rw[if_pos rfl]
  .rw[if_neg (λz=>I.1 (by rw[z];exact aS.mpr ⟨(k,d),q,rfl⟩))];exact MT I.2 q
theorem putL_new{z:Type}[DecidableEq z]{k:z}{v:D}{l:List (z×D)}(h:k∉l.map (·.1)):putL k v l=l++[(k,v)]:=by
 unfold putL;rw[JG h];rfl
theorem Gq(k:List (Key×D))(x:Str)(v:D)(Y:k.length<=1000000):Bc (.dk k) (.str x) v=Y2 (.dk (putL (.inr x) v k)):=by
 show (if k.length<sizeLine then Y2 (D.dk (putL (.inr x) v k)) else X2)=_;rw[if_pos (km Y (by decide))]
theorem Ym(k:List (Key×D))(x:Int)(v:D)(Y:k.length<=1000000):Bc (.dk k) (.int x) v=Y2 (.dk (putL (.inl x) v k)):=by
 show (if k.length<sizeLine then Y2 (D.dk (putL (.inl x) v k)) else X2)=_;rw[if_pos (km Y (by decide))]
theorem Yn(k:List (List Key×D))(x y:Int)(v:D)(Y:k.length<=1000000):Ig (.dt k) [.int x,.int y] v=Y2 (.dt (putL [.inl x,.inl y] v k)):=by
 show (if k.length<sizeLine/\2<=sizeLine then Y2 (D.dt (putL [.inl x,.inl y] v k)) else X2)=_;rw[if_pos ⟨km Y (by decide),by decide⟩]
theorem Ma{g:FS}(h:g ρ=Y2 (.nx ρ'))(z:noOw ρ'=U2):pureE g ρ ε=Y2 (ρ',ε):=by
 unfold pureE;rw[h];show (if noOw ρ'=U2 then Y2 (ρ',ε) else X2)=_;rw[if_pos z]
def Ra(r:Option (Rho×Ef))(J:FEs):Option (Rho×Ef):=r.bind λr=>J r.1 r.2
theorem Et(g gs:FEs)(ρ:Rho)(z:Ef):Cz g gs ρ z=Ra (g ρ z) gs:=zE_ _
theorem Be(J:FEs)(ρ:Rho)(ε:Ef):Ra (Y2 (ρ,ε)) J=J ρ ε:=zE_ _
theorem Yo(ρ:Rho)(z:Ef):nilE ρ z=Y2 (ρ,z):=zE_ _
theorem Yp{z:FG}{b:FEs}(h:src ρ=Y2 ds):forE src z b ρ ε=B_ z b ds ρ ε:=by
 unfold forE;rw[h];rfl
end PV
namespace PV
open PySem PySem.Spec L2
open PyProof.Rows hiding St
section
variable {a b:Expr}{fa fb:FE}{fs:FA}
theorem vr(i:Nat){x:Str}(J:X.N[i]?=Y2 x:=by rfl)(F:Vis X.env.scope x:=by first | exact fm rfl | exact dE (fm rfl) | exact dE (dE rfl))(I:(x==("__debug__":Str))=T2:=by decide)(z:(x==("__classdict__":Str))=T2:=by decide):PF X G (.Name x pos) (vF i):=fO i (pv i J F I z)
theorem vp(i:Nat){x:Str}(J:X.N[i]?=Y2 x:=by rfl)(F:Vis X.env.scope x:=by first | exact fm rfl | exact dE (fm rfl) | exact dE (dE rfl))(I:(x==("__debug__":Str))=T2:=by decide)(z:(x==("__classdict__":Str))=T2:=by decide):PU X G (.Name x pos) (vF i):=PF.pu (vr i J F I z)
theorem vq(i:Nat){x:Str}(J:X.N[i]?=Y2 x:=by rfl)(F:Vis X.env.scope x:=by first | exact fm rfl | exact dE (fm rfl) | exact dE (dE rfl))(I:(x==("__debug__":Str))=T2:=by decide)(z:(x==("__classdict__":Str))=T2:=by decide):PU X G (.Name x pos) (vU i):=fP i (pv i J F I z)
theorem pU{f:FE}(h:PF X G e f):PU X G e f:=PF.pu h
theorem iP{i j}:PU X G (.Constant (.int i) j pos) (kF (.int i)):=PF.pu S_
theorem sP{x j}:PU X G (.Constant (.str x) j pos) (kF (.str x)):=PF.pu M4
theorem iX{k:Nat}(F:Room k X.A)(J:PU X G a fa)(I:PU X G b fb)(U:G.K=X.K:=by rfl)(z:Jo b:=by exact λ_ _=>rfl):PF X G (.Subscript a b pos) (bF ixE fa fb):=gF (Cw F) U J I z
theorem iD(I:PU X G a fa)(F:PU X G b fb)(U:G.K=X.K:=by rfl)(z:Jo b:=by exact λ_ _=>rfl):PF X G (.Subscript a b pos) (bF ixD fa fb):=jR U I F z
theorem bAdd(F:PU X G a fa)(z:PU X G b fb)(U:G.K=X.K:=by rfl):PF X G (.BinOp a .Add b pos) (bF addD fa fb):=Ko aJ (by rw[<-U];exact aK) F z
theorem bSub(F:PU X G a fa)(z:PU X G b fb):PF X G (.BinOp a .Sub b pos) (bF subD fa fb):=Ko e_ aA F z
theorem bMul(F:PU X G a fa)(z:PU X G b fb):PF X G (.BinOp a .Mult b pos) (bF mulD fa fb):=Ko aB aD F z
theorem bDiv(F:PU X G a fa)(z:PU X G b fb):PF X G (.BinOp a .FloorDiv b pos) (bF Ew fa fb):=Ko Zt Xi F z
theorem bMod(F:PU X G a fa)(z:PU X G b fb):PF X G (.BinOp a .Mod b pos) (bF modD fa fb):=Ko fB aF F z
theorem cEq{k:Nat}(z:Room k X.A)(I:PU X G a fa)(F:PU X G b fb)(U:G.K=X.K:=by rfl):PF X G (.Compare a [.Eq] [b] pos) (bF (eqD T2) fa fb):=Xg (Xo U z.unitsW) (TV T2) I F (Jb _)
theorem tEq{k:Nat}(z:Room k X.A)(I:PU X G a fa)(F:PU X G b fb)(U:G.K=X.K:=by rfl):PFT X G (.Compare a [.Eq] [b] pos) (blF (bF (eqD T2) fa fb)):=Ei (Xo U z.unitsW) (TV T2) I F (Jb _)
theorem tNe{k:Nat}(z:Room k X.A)(I:PU X G a fa)(F:PU X G b fb)(U:G.K=X.K:=by rfl):PFT X G (.Compare a [.NotEq] [b] pos) (blF (bF (eqD U2) fa fb)):=Ei (gB U z.unitsW) (TV U2) I F (Jb _)
theorem cIn{k:Nat}(z:Room k X.A)(J:PU X G a fa)(I:PU X G b fb)(U:G.K=X.K:=by rfl)(F:gg .In b=T2:=by with_unfolding_all rfl):PF X G (.Compare a [.In] [b] pos) (bF (inF T2) fa fb):=Xg ((Xm.or (Th (Cw z))).or (Yh U z.units)) (by rw[<-U];exact QQ T2) J I F
theorem tIn{k:Nat}(z:Room k X.A)(J:PU X G a fa)(I:PU X G b fb)(U:G.K=X.K:=by rfl)(F:gg .In b=T2:=by with_unfolding_all rfl):PFT X G (.Compare a [.In] [b] pos) (blF (bF (inF T2) fa fb)):=Ei ((Xm.or (Th (Cw z))).or (Yh U z.units)) (by rw[<-U];exact QQ T2) J I F
theorem tNi{k:Nat}(z:Room k X.A)(J:PU X G a fa)(I:PU X G b fb)(U:G.K=X.K:=by rfl)(F:gg .NotIn b=T2:=by with_unfolding_all rfl):PFT X G (.Compare a [.NotIn] [b] pos) (blF (bF (inF U2) fa fb)):=Ei ((WM.or (WW (Cw z))).or (Wb U z.units)) (by rw[<-U];exact QQ U2) J I F
theorem tLt(F:PU X G a fa)(z:PU X G b fb):PFT X G (.Compare a [.Lt] [b] pos) (blF (bF ltD fa fb)):=Ei jF fQ F z (Jb _)
theorem tGt(F:PU X G a fa)(z:PU X G b fb):PFT X G (.Compare a [.Gt] [b] pos) (blF (bF gtD fa fb)):=Ei jG fU F z (Jb _)
theorem tGe(F:PU X G a fa)(z:PU X G b fb):PFT X G (.Compare a [.GtE] [b] pos) (blF (bF geD fa fb)):=Ei jH fV F z (Jb _)
theorem sF(O:X.N.Nodup)(i:Nat){x:Str}{p:Pos}(L:PF X G a fa)(I:X.N[i]?=Y2 x:=by rfl)(z:Loc X.env.scope x:=by first | exact fm rfl | exact dE rfl)(F:dA a (Y2 (.Name x p)) pos.line X.env=pure T2:=by rfl)(J:X.fn x=U2∨X.env.scope.names.lookup x=Y2 .local :=by first | exact .inl rfl | exact .inr rfl | assumption):PSD X G (.Assign [.Name x p] a pos) (setF i fa):=aP (λ_ h=>SN O I z h F J) L
theorem sW(S:X.N.Nodup)(i:Nat){x:Str}{p:Pos}(O:PN X G a fa)(J:X.N[i]?=Y2 x:=by rfl)(F:Loc X.env.scope x:=by first | exact fm rfl | exact dE rfl)(I:dA a (Y2 (.Name x p)) pos.line X.env=pure T2:=by rfl)(L:X.fn x=U2∨X.env.scope.names.lookup x=Y2 .local :=by first | exact .inl rfl | exact .inr rfl | assumption)(z:i≠0:=by decide):PSD X G (.Assign [.Name x p] a pos) (setW i fa):=Xz (λ_ h=>SN S J F h I L) O z
theorem gN(J:X.N.Nodup)(i:Nat){x:Str}(F:X.N[i]?=Y2 x:=by rfl)(z:Loc X.env.scope x:=by first | exact fm rfl | exact dE rfl)(I:X.fn x=U2∨X.env.scope.names.lookup x=Y2 .local :=by first | exact .inl rfl | exact .inr rfl | assumption):PG X (.Name x pos) (GR i):=Zq J F z I
theorem cO{t:Str}(F:X.N=N)(z:X.env.scope=sc)(h:Uk N sc scope t=U2:=by decide +kernel):M3 X scope t:=WP F z h
abbrev nT (N:List Str) (t:Str):List Str:=N++[t]
structure Dx (K:av) (mg:Str->Option ac) (x:Str) (st:Stmt) (ps:List Str) where
 f:Addr
 fd:ii
 F:FunD K x x st f fd
 B:Binds K fd ps []
 m:mg x=Y2 (.ref f)
abbrev DOk (P:cq) (w:ag) (base:Heap) {K:av}{mg:Str->Option ac}{x:Str}{st:Stmt}{ps:List Str}(d:Dx K mg x st ps) (k:Nat) (sp:Sp):Prop:=FnOk P w K mg base CX0 k d.f d.fd ps sp
theorem fX{k:Nat}{p:Pos}{d:Dx X.K X.mg x st ps}(F:FnOk X.prog X.w X.K X.mg X.base CX0 k d.f d.fd ps (spD G g))(L:Room k' X.A)(S:PFA X G (a::es) fs)(I:k<=k':=by omega)(T:Gl X x:=by rfl)(J:(x==("__debug__":Str))=T2:=by decide)(O:ai (a::es) X.env=(T2,eval a X.env)::ai es X.env:=by rfl)(z:(br pos (ai es X.env)).any (·.1)=T2:=by rfl):PF X G (.Call (.Name x p) (a::es) [] pos) (Am g fs):=jU F (L.mono I) T d.m d.F.kp d.B S J O z
end
section
variable {K:av}{dV kV:ac}
theorem fnX{w:ag}{base:Heap}{k:Nat}{b:FS}(d:Dx G.K mg x st ps)(S:FnScope N ps (Ab st))(I:∀(cdv:ac) (A:ar) (z:List Env) (s:ae) (H:Hp) (E:XK),Room k (A.deeper (dn x (Ab st) s.heap.objs.size d.f cdv))->PSDs (cxOf CX0 P w G.K mg base N x (Ab st) d.f cdv A z s H E).nox G (A_ st) b)(Y:ps.length<=N.length:=by decide):
  FnOk P w G.K mg base CX0 (k+1) d.f d.fd ps (spD G (runF N.length ps.length b)):=je d.F S Y I
def dx(X:K.In h)(N:h.Ns dQ mg)(a:nu K dQ x=Y2 (Y2 (.ref f)))(l:K.lookup f=Y2 ⟨oc,od,.func (eS x x (Cu st) (A_ st) (Ab st) .none kV doc pm an cdv ct),osl⟩)(c:kf K cdv x=U2)(k:dS K (.ref f)=U2)(b:∀(kV doc pm:ac) (an:Option Addr) (cdv ct:ac) (us:List ac),us.length=ps.length->lY (eS x x (Cu st) (A_ st) (Ab st) .none kV doc pm an cdv ct) ⟨us,[]⟩=pure (ps.zip us)):Dx K mg x st ps:=⟨f,_,au l c k,(My l c k).binds b,mo X N a⟩
structure Ix (K:av) (C:Addr) (qual:Str) (st:Stmt) (ps:List Str) where
 f:Addr
 fd:ii
 F:Fun K "__init__" qual st f fd
 B:Binds K fd ps []
 mM:Mk K C f
def ix(X:K.In h)(m:oa K C=U2)(z:dS K (.ref C)=U2)(a:dP K (.ref C) "__init__"=Y2 (Y2 (.ref f)))(i:lx K (.ref f)=U2)(l:K.lookup f=Y2 ⟨oc,od,.func (eS "__init__" qual (Cu st) (A_ st) (Ab st) .none kV doc pm an cdv ct),osl⟩)(c:kf K cdv qual=U2)(k:dS K (.ref f)=U2)(b:∀(kV doc pm:ac) (an:Option Addr) (cdv ct:ac) (us:List ac),us.length=ps.length->lY (eS "__init__" qual (Cu st) (A_ st) (Ab st) .none kV doc pm an cdv ct) ⟨us,[]⟩=pure (ps.zip us)):Ix K C qual st ps:=⟨f,_,My l c k,(My l c k).binds b,m,a,i,z⟩
structure Sx (mg:Str->Option ac) (x:Str) (f:Tok->ac) where
 t:Tok
 m:mg x=Y2 (f t)
structure Kx (G:Gx) (mg:Str->Option ac) (x:Str) (c:D) where
 a:Addr
 m:mg x=Y2 (.ref a)
 r:Rep G (λ_=>X2) (.ref a) c
def sx{t:Tok}{f:Tok->ac}(X:K.In h)(N:h.Ns dQ mg)(a:nu K dQ x=Y2 (Y2 (f t))):Sx mg x f:=⟨t,mo X N a⟩
def gx1(K:av)(z:Str)(C:Addr):Gx:={ K:=K,cl:=λc=>if c=z then Y2 C else X2 }
theorem gR:(gx1 K cn C).cl cn=Y2 C:=if_pos rfl
theorem cls(X:K.In h)(I:lW K C ib=U2)(J:mN K C=U2)(F:o8 K C=U2)(z:dP K (.ref C) "__setattr__"=Y2 (Y2 (.builtin "object.__setattr__"))):Cls K C:=⟨I,J,F,z⟩
theorem rtx{g:Addr}{z:Array ac}{xs:List Str}(X:K.In h)(l:K.lookup g=Y2 ⟨.type "tuple",od,.seq z n,osl⟩)(O:z.size<=sizeLine)(r:Vals (xs.map V.str) z.toList):Rep (gx1 K cn C) (λ_=>X2) (.ref g) (.tup (xs.map .str)):=WQ l O r
def kx{F:Str}{g:Addr}{n:Nat}{z:Array ac}{xs:List Str}(X:K.In h)(N:h.Ns dQ mg)(a:nu K dQ x=Y2 (Y2 (.ref g)))(l:K.lookup g=Y2 ⟨.type "tuple",od,.seq z n,osl⟩)(O:z.size<=sizeLine)(r:Vals (xs.map V.str) z.toList):Kx (gx1 K F C) mg x (.tup (xs.map .str)):=⟨g,mo X N a,rtx X l O r⟩
theorem Tr(X:K.In h)(L:Cls K C)(n:dP K (.ref C) x=Y2 X2):∀c z,(gx1 K cn C).cl c=Y2 z->Cls K z/\Ci K z x:=λc z h=>by
 unfold gx1 at h;simp only at h;split at h
 .cases h;exact⟨L,n⟩
 .cases h
end
end PV
namespace PV
open PySem L2
end PV
namespace PV
open PySem PySem.Spec L2
open PyProof.Rows hiding St
section
variable {a:Expr}{fa:FE}{fs:FA}
end
end PV
namespace PV
open PySem L2
end PV
namespace PV
open PySem PySem.Spec L2
open PyProof.Rows hiding St
section
variable {a b c:Expr}{fa fb fc:FE}{p2:Pos}
end
end PV
namespace PV
open PySem PySem.Spec
section
variable {w:ag}{A:ar}{T:String}{r d:Addr}{P:Nat->ac->Prop}{OK:Heap->Prop}
theorem Rb{R:List ac->ae->Prop}(K:qZ prog w T r d n P OK)(hh:A.handled=X2)(L:OK s.heap)(hn:n<=sizeLine)(h:∀(h':Heap) (tk:Nat) (U:Array ac),(∀b o,s.heap.get? b=Y2 o->h'.get? b=Y2 o)->s.heap.objs.size<=h'.objs.size->ItemsOf P U n->R U.toList { s with heap:=h',toks:=tk }):
  af (ah prog w) A (collect (.ref r)) R E s:=by
 obtain⟨hr,hd⟩:=K.there _ L;have gS:(s.heap.push { cls:=.type "list",data:=.seq ([]:List ac).toArray }).get? s.heap.objs.size=Y2 { cls:=.type "list",data:=.seq #[] }:=cb _ rfl;unfold collect;refine am (wpAny_runValue (nw PyProof.Rows.entry_proto_collect' ?_));rw[ny PySem.F.plain_proto_collect _];show af _ A.in1 (newList [] >>= λl=>again (.builtin "list.__iadd__" ⟨[l,.ref r],[]⟩)) _ _ s;refine am (lB (ay ⟨ph rb _,nw PyProof.Rows.entry_list_iadd' ?_⟩));rw[ny rb _];show af _ A.in1 (Builtin.List.listExtendWith (.ref s.heap.objs.size) (.ref r) (.ref s.heap.objs.size)) _ _ _;have Z:=PySem.W.kdl_extend (A:=A) (s:={ s with heap:=s.heap.push { cls:=.type "list",data:=.seq ([]:List ac).toArray } }) K
  (R:=λq Y=>∃(h':Heap) (tk:Nat) (z:Array ac) (J:Nat),q=.ok (.ret (.ref s.heap.objs.size))/\Y={ s with heap:=h',toks:=tk }/\(∀b o,s.heap.get? b=Y2 o->h'.get? b=Y2 o)/\h'.get? s.heap.objs.size=Y2 { cls:=.type "list",dict:=X2,data:=.seq z J,slots:=#[] }/\ItemsOf P z n)
  hh (K.keep _ _ L λb _ o e=>bq _ e) s.heap.objs.size (mJ hr) (mJ hd) (.ref s.heap.objs.size) 0 gS
  (λh' tk z J O I S=>⟨h',tk,z,J,rfl,rfl,λb o e=>O b o (ca (aT e)) (bq _ e),I,S⟩) hn
 refine f6 Z (λfin Y x=>?_) λe Y x=>?_
 .cases fin with
  |done f=>
   obtain⟨h',tk,z,J,e,rfl,O,I,S⟩:=x;cases e;show af _ A (load s.heap.objs.size >>= _) _ _ _;exact am (nY I (ay (h h' tk z O (lS (aT I)) S)))
  |again c=>
   refine⟨x.1,lZ x.2 λr2 s2 y=>?_⟩;obtain⟨h',tk,z,J,e,rfl,O,I,S⟩:=y;cases e;show af _ A (load s.heap.objs.size >>= _) _ _ _;exact am (nY I (ay (h h' tk z O (lS (aT I)) S)))
 .obtain⟨h',tk,z,J,e,_⟩:=x;cases e
end
section
variable {w:ag}{A:ar}
theorem Wc{ks:List Str}{v:ac}(nd:ks.Nodup)(J:ks.length<=60)(I:∀(R:List ac->ae->Prop) (E':ac->ae->Prop),(∀(vs:List ac) (h':Heap) (tk:Nat),nh vs ks->s.heap.objs.size<=h'.objs.size->(∀b o,s.heap.get? b=Y2 o->h'.get? b=Y2 o)->R vs { s with heap:=h',toks:=tk })->af (ah prog w) A.in1 (collect v) R E' s)(k:∀(its:List ac) (e:Nat) (l:Addr) (h':Heap) (tk:Nat),nh its (Bf ks)->h'.get? l=Y2 (pj "list" its.toArray e)->s.heap.objs.size<=l->(∀b o,s.heap.get? b=Y2 o->h'.get? b=Y2 o)->Q (.ref l) { s with heap:=h',toks:=tk }):
  af (ah prog w) A (call (.builtin "sorted") [v]) Q E s:=by
 refine Calls.call_function_entry PyProof.Rows.kind_sorted PyProof.Rows.plain_sorted PyProof.Rows.entry_sorted (PyProof.Rows.args_sorted1 _) ?_;unfold ku.«sorted»;refine am (m:=checkCount "sorted" 1 1 _) (ay (am (I _ _ λvs F tk T le kp=>?_)));have z:vs.length<=60:=by rw[T.length];exact J
 refine am (wpAny_newList ?_ (cE z (by decide)));have Z:(F.push { cls:=.type "list",data:=.seq vs.toArray }).get? F.objs.size=Y2 (pj "list" vs.toArray 0):=cb _ rfl;refine am (wpAny_holding (lh PyProof.Rows.slot_list_sort ⟨_,Z,rfl⟩ PyProof.Rows.entry_list_sort (PyProof.Rows.list_sort_treeK PyProof.Rows.strKind_oneLt Z T.keysOf (λa b r e=>PyProof.Rows.keyKind_strs (by rw[<-e];exact T)) (by omega) λU a1 a2=>⟨_,rfl,?_⟩) (PyProof.Rows.args_list_sort _)));obtain⟨S,Y,L,W⟩:=PyProof.Rows.sorted_out_str T a1 a2;have e:S=Bf ks:=Tg (QL W (L.nodup_iff.mpr nd)) (IW ks) λy=>by rw[G5,L.mem_iff]
 subst e;obtain⟨c,I⟩:∃c,(PyProof.Rows.sortedHeap (F.push { cls:=.type "list",data:=.seq vs.toArray }) F.objs.size vs ((pp U).map (·.2))).get? F.objs.size=Y2 (pj "list" ((pp U).map (·.2)).toList.toArray c):=by
  obtain⟨c,I⟩:=PyProof.Rows.sortedHeap_at (out:=(pp U).map (·.2)) Z;exact⟨c,by rw[I,Array.toArray_toList]⟩
 refine ay ⟨_,rfl,k _ c _ _ tk Y I le λb o g=>?_⟩;have O:=aT (kp b o g);rw[PyProof.Rows.sortedHeap_old (ca O) (by rw[mP];exact md O)];exact bq _ (kp b o g)
end
open L2
section
variable {a:Expr}{p:Pos}
theorem J2:∀{z:List Str}{us:List ac},Vals (z.map V.str) us->nh us z
 |[],_,.nil=>.nil
 |_::_,_,.cons r t=>by obtain⟨u,rfl⟩:=r;exact .cons _ _ (J2 t)
theorem DK(hc:X.calm=U2):Df X (.builtin "sorted") (λxs H Q=>∃p kvs F,xs=[.ref p]/\Rd H p (.dK kvs)/\kvs.map (λq=>kV q.1)=F.map V.str/\F.Nodup/\F.length<=60/\∀l,H l=X2->Q (.ref l) (upd H l (.lst ((Bf F).map V.str)))):=by
 intro π s σ H xs us Q I r h;obtain⟨p,kvs,F,rfl,e,ez,nd,Y,k⟩:=h;obtain⟨u,rfl,ru⟩:=r.one;cases ru;obtain⟨z,hd,U,J,T⟩:=Ho I.hok e;obtain⟨ep,T⟩:=T.dictAt;have Z:kvs.length=U.length:=J.length;refine Wc (ks:=F) nd Y (λR E' hR=>Rb (qT (knd:=Ar X.prog X.w) (kvs:=U) (ep:=ep) hd) (I.ok.hd hc) T (by omega) λh' tk S kp L hi=>hR _ h' tk ?_ L kp) λO e2 l h' tk hS g L kp=>?_
 .have W:Vals (kvs.map λq=>kV q.1) S.toList:=by
   refine QM (P:=X.prog) (w:=X.w) (by simp[hi.1,Z]) λj u hu=>?_;obtain⟨k,x,h1,h2⟩:=hi.2 j u (by simpa using hu);have hj:j<kvs.length:=by rw[Z];exact (de.mp h1).1
   refine⟨kvs[j],by simp[hj],?_⟩;rw[(FJ J (by simp[hj]) h1).1];exact h2
  rw[ez] at W;exact J2 W
 .have hv:=Ov hS;refine⟨.ref l,_,I.laid (a:=l) (o:=.lst ((Bf F).map V.str)) (t':=tk) kp L ⟨?_,O,e2,hv,g⟩,rfl,k l (I.hok.fresh L)⟩;rw[aw];have:=sub_len (RD (IW F)) (m:=F) λy m=>(G5 y F).mp m;exact cE this (cE Y (by decide))
def sdkL(F:List (Key×D)):Option D:=(Hw (F.map λp=>kDt p.1)).bind λz=>if z.Nodup/\z.length<=60 then Y2 (.lst ((Bf z).map .str)) else X2
def sdkD:D->Option D
 |.dk z=>sdkL z
 |_=>X2
theorem Mf:SndC G (λxs H Q=>∃p kvs F,xs=[.ref p]/\Rd H p (.dK kvs)/\kvs.map (λq=>kV q.1)=F.map V.str/\F.Nodup/\F.length<=60/\∀l,H l=X2->Q (.ref l) (upd H l (.lst ((Bf F).map V.str)))) sdkD:=by
 intro A H x dx d Q U r e k;cases dx with
 |dk J=>
  have e:sdkL J=Y2 d:=e;obtain⟨p,kvs,rfl,I,L,W⟩:=r.dk;unfold sdkL at e;cases O:Hw (J.map λp=>kDt p.1) with
  |none=>rw[O] at e;cases e
  |some F=>
   rw[O] at e;have S:(if F.Nodup/\F.length<=60 then Y2 (D.lst ((Bf F).map .str)) else X2)=Y2 d:=e;split at S
   .rename_i T;cases S;refine⟨p,kvs,F,rfl,I,RG (G:=G) (H:=hid A H) (U7 L) O,T.1,T.2,λl Y=>k _ _ (Ak Y _) (Bb U Y ⟨by simp,λi v d I L=>?_⟩)⟩;rw[be] at I L;cases q:(Bf F)[i]? with
    |none=>rw[q] at I;cases I
    |some z=>rw[q] at I L;cases I;cases L;exact .str z
   .cases S
 |_=>cases e
end
end PV
namespace PV
open PySem PySem.Spec L2 EX
open PyProof.Rows hiding St
section
variable {e:Addr}{tb:Option Addr}{gs:List (Str×D)}
end
section
variable {a c:Expr}{fa:FE}{ga:FT}{rest:List Stmt}{g gs:FS}
end
section
variable {k:Nat}{p:Pos}{o:Expr}{ta:TE}{t:TA}
end
section
variable {a ob:Expr}{fs:FA}{fo:FE}{p:Pos}
def El(c m:Str):D->Bool
 |.ob z J=>z==c&&(J.lookup m).isNone
 |_=>T2
def J3(c m:Str)(g:List D->Option D)(z:FE)(fs:FA):FE:=λρ=>(z ρ).bind λo=>if El c m o=U2 then (fs ρ).bind λds=>g (o::ds) else X2
theorem K1{fs:List (Str×V)}{J:List (Str×D)}(h:fs.map (·.1)=J.map (·.1))(n:J.lookup m=X2):fs.lookup m=X2:=by
 induction fs generalizing J with
 |nil=>rfl
 |cons p r z=>
  cases J with
  |nil=>cases h
  |cons q t=>
   obtain⟨a,b⟩:=p;obtain⟨L,I⟩:=q;simp only[bb,nN] at h;obtain⟨rfl,F⟩:=h;simp only[bn] at n ⊢;split at n
   .cases n
   .exact z F n
end
end PV
namespace EX
open PySem PySem.W PyProof.Rows PySem.Calls
section
variable {w:ag}{A:ar}{g:Array GenState}{d:Drawn}{t:Nat}{os:OsState}{R:gT->ae->Prop}
variable {nm q:Str}{N:Addr}{bs bm bmB:List ac}{hdct:Bool}{sn:List Str}{sub:List ac}{ab:Bool}{col:Option Bool}{dd:Option Addr}{k0 k1 k2 k3 k5:Option ac}{B newId initId:String}
end
end EX
namespace EX
open PySem PySem.W PySem.Spec PyProof.Rows PySem.Calls
section
variable {w:ag}{A:ar}{K:Frag}{x:Addr}{ox:Obj}{od:Option Obj}{v:ac}
open Builtin Builtin.ObjectAttr in
end
end EX
namespace EX
open PySem PySem.Spec L2
open PyProof.Rows hiding St
abbrev bmV:List ac:=[.type "ValueError",.type "Exception",.type "BaseException",.type "object"]
def excX(K:av)(C:Addr):Bool:=match K.lookup C with
 |some ⟨.type "type",_,.cls cd,sl⟩=>(match cd.mro,sl.toList with
  |.ref F::z,[_,_,_,_,Y2 (.builtin n),_]=>F==C&&n=="ValueError.__new__"&&!cd.hasDel&&PySem.W.tailIn K bmV z
  |_,_=>T2)
 |_=>T2
structure XC (K:av) (C R:Addr):Prop where
 obj:excX K C=U2
 sa:dP K (.ref C) "__setattr__"=Y2 (Y2 (.builtin "object.__setattr__"))
 ga:dP K (.ref C) "__getattribute__"=Y2 (Y2 (.builtin "BaseException.__getattribute__"))
 gt:dP K (.ref C) "__getattr__"=Y2 X2
 cd:(PySem.W.clsIn K C).any (λcd=>cd.mro==[.ref C,.ref R,.type "ValueError",.type "Exception",.type "BaseException",.type "object"]&&cd.hasDict)=U2
section
variable {e R dx:Addr}{tb:Option Addr}{A:ar}{f:Str}
end
section
variable {a:Expr}{t:TA}{p:Pos}{R:Addr}
end
section
variable {o value:Expr}{ta tv:TE}{f:Str}
end
section
variable {R fi:Addr}{k:Nat}{f:Str}{c:V->Prop}
end
section
variable {A:ar}{K:av}
end
end EX
namespace PV
open PySem PySem.Spec L2 EX
open PyProof.Rows hiding St
section
variable {a:Expr}{fa:FE}{np:Pos}{R fi:Addr}{k:Nat}{f cx:Str}{c:V->Prop}{ok:D->Bool}
end
end PV
namespace EX
open PySem PySem.Spec L2
open PyProof.Rows hiding St
section
variable {e R:Addr}{K:av}
abbrev Cx.tr (X:Cx) (E:ac->ae->Prop) (pn:zP):Cx:={ X with xe:=E,pn:=pn }
end
end EX
namespace PV
open PySem PySem.Spec L2 EX
open PyProof.Rows hiding St
section
end
end PV
namespace EX
open PySem PySem.W PySem.Spec PyProof.Rows PySem.Calls
section
variable {w:ag}{A:ar}{K:Frag}{x:Addr}{ox:Obj}{od:Option Obj}
end
end EX
namespace PV
open PySem PySem.Spec L2 EX
open PyProof.Rows hiding St
section
variable {a sp:Expr}{fa:FE}{p:Pos}{cs ns:List Str}{cv:List ac}{R:Addr}{Cs:List Addr}
end
structure Mx (K:av) (C:Addr) (m qual:Str) (st:Stmt) (ps:List Str) where
 f:Addr
 fd:ii
 F:Fun K m qual st f fd
 B:Binds K fd ps []
 me:Meth K C m f
structure Rx (K:av) (mg:Str->Option ac) (rn:Str) where
 R:Addr
 m:mg rn=Y2 (.ref R)
 x:excX K R=U2
 h1:og K (.ref R) "__getattribute__"=Y2 (Y2 (.builtin "type.__getattribute__"))
 h2:rd K R (.type "type")=U2
 h3:re K (.ref R) (.type "type") "__init__"=Y2 (.val (.builtin "ValueError.__init__"))
section
variable {a ob:Expr}{fs:FA}{fa fo:FE}{p np:Pos}
theorem mO{k:Nat}{d:Mx X.K C m qual st ps}{pl:Sem Bool}(U:G.cl c=Y2 C)(cl:Cls X.K C)(F:FnOk X.prog X.w X.K X.mg X.base CX0 k d.f d.fd ps (spD G g))(hr:Room k' X.A)(ho:PF X G ob fo)(L:k<=k':=by omega)(ht:eval (.Call (.Attribute ob m apos) [] [] pos) X.env=(do
   let ov <-eval ob X.env
   kK apos.atName
   let (f,first) <-kL [ov] (kN ov m pl)
   kO pos f first (br pos (ai [] X.env)) (fF pos (fI [] X.env))):=by rfl):
  PF X G (.Call (.Attribute ob m apos) [] [] pos) (J3 c m g fo nilA):=λA=>Bt (Qu (@ho A) cl d.me F (hr.mono L) d.B .nil JM ht) λσ H Q ⟨J,dd,o,e,k⟩=>by
 unfold J3 at e;cases O:fo J with
 |none=>simp[O] at e
 |some I=>
  rw[O] at e;have S:(if El c m I=U2 then (nilA J).bind λds=>g (I::ds) else X2)=Y2 dd:=e;split at S
  .rename_i z;have e2:g [I]=Y2 dd:=S;refine⟨J,I,o,O,λv H1 T r1=>?_⟩;cases I with
   |ob c' gs=>
    simp only[El,eD,beq_iff_eq,lH] at z;obtain⟨rfl,hn⟩:=z;cases r1 with
    |ob W Y Z r2=>
     rw[U] at W;cases W;exact⟨_,_,_,rfl,Aj _ _ Y,K1 Z hn,A,[.ob c' gs],dd,(o.mono T).live,.cons (.ob U Y Z r2) .nil,e2,λv H3 s3 r4=>k v H3 (T.trans s3) r4⟩
   |_=>simp[El] at z
  .cases S
end
section
variable {w:ag}{base:Heap}{k:Nat}{b:FS}
end
section
variable {K:av}{R:Addr}{kV:ac}{l:List (Str×Addr)}
def mx(X:K.In h)(a:dP K (.ref C) m=Y2 (Y2 (.ref f)))(i:lx K (.ref f)=U2)(z:K.lookup f=Y2 ⟨oc,od,.func (eS m qual (Cu st) (A_ st) (Ab st) .none kV doc pm an cdv ct),osl⟩)(c:kf K cdv qual=U2)(k:dS K (.ref f)=U2)(b:∀(kV doc pm:ac) (an:Option Addr) (cdv ct:ac) (us:List ac),us.length=ps.length->lY (eS m qual (Cu st) (A_ st) (Ab st) .none kV doc pm an cdv ct) ⟨us,[]⟩=pure (ps.zip us)):Mx K C m qual st ps:=⟨f,_,My z c k,(My z c k).binds b,a,i,k⟩
def rx(X:K.In h)(N:h.Ns dQ mg)(a:nu K dQ x=Y2 (Y2 (.ref R)))(e:excX K R=U2)(h1:og K (.ref R) "__getattribute__"=Y2 (Y2 (.builtin "type.__getattribute__")))(z:rd K R (.type "type")=U2)(O:re K (.ref R) (.type "type") "__init__"=Y2 (.val (.builtin "ValueError.__init__"))):Rx K mg x:=⟨R,mo X N a,e,h1,z,O⟩
end
end PV
namespace PV
open PySem PySem.Spec L2
open PyProof.Rows hiding St
def jh:R2:=λx y H Q=>∃a kvs k b,y=.ref a/\Rd H a (.dT kvs)/\x=.ref b/\H b=Y2 (.tup (k.map kV))/\Q (.bl (valV kvs k).isSome) H
def inTO(ds:Option (List D))(y:Option D):Option D:=ds.bind λds=>y.bind λy=>match y with
 |.dt z=>if ds.length<=sizeLine then (Ia ds).map λk=>.bl (getK k z).isSome else X2
 |_=>X2
def inTF(fs:FA)(z:FE):FE:=λρ=>inTO (fs ρ) (z ρ)
section
variable {b:Expr}{fb:FE}{p1:Pos}{fs:FA}
theorem bB(S:X.A.units+1<aE):OpR X (bX .In) jh:=by
 intro T s O H x y v u Q I rx F h;obtain⟨a,z,k,b,rfl,e,rfl,J,q⟩:=h;cases F;exact d_in S I (.inr ⟨z,k,b,e,rfl,J,rfl⟩) rx λU L=>⟨.bl _,H,L,rfl,q⟩
theorem gU{x1}{k:Nat}(hr:Room k X.A)(ha:PFA X G es fs)(hb:PU X G b fb)(hm:gg .In b=T2:=by with_unfolding_all rfl):PF X G (.Compare (.Tuple es x1 p1) [.In] [b] pos) (inTF fs fb):=λA=>Bt (Ua (bB (Cw hr)) (Sv (@ha A)) (@hb A) hm) λσ H Q ⟨F,d,o,e,k⟩=>by
 unfold inTF inTO at e;cases I:fs F with
 |none=>simp[I] at e
 |some J=>
  cases T:fb F with
  |none=>simp[I,T] at e
  |some y=>
   rw[I,T] at e;cases y with
   |dt z=>
    have L:(if J.length<=sizeLine then (Ia J).map λk=>D.bl (getK k z).isSome else X2)=Y2 d:=e;split at L
    .rename_i hz;cases S:Ia J with
     |none=>simp[S] at L
     |some ks=>
      rw[S] at L;cases L;refine⟨F,J,o,I,λxs H1 Y Z=>⟨by rw[Z.1];exact hz,λp hp=>?_⟩⟩;have ex:=Kv Z S;have U:Same H1 (upd H1 p (.tup xs)):=Ak hp _;refine⟨F,.dt z,o.mono (Y.trans U),T,λv H3 W r3=>?_⟩;obtain⟨a,O,rfl,h1,h2,r⟩:=r3.dt;have h3:=(HN (k:=ks) h2 r).2;refine⟨a,O,ks,p,rfl,h1,rfl,by rw[W _ _ Ah,ex],?_⟩;rw[h3];exact k _ H3 ((Y.trans U).trans W) (.bl _)
    .cases L
   |_=>cases e
end
end PV
namespace PV
open PySem PySem.Spec L2 EX
open PyProof.Rows hiding St
section
variable {a c:Expr}{fa:FE}{p:Pos}{h:FZ}{hs:FZA}
end
section
variable {k:Nat}{o:Expr}{ta:TE}
end
section
variable {b:Expr}{rp p:Pos}{fs:FA}
end
section
variable {w:ag}{K:av}{base:Heap}{k:Nat}{sp':Sp}
end
section
variable {a b:Expr}{fs:FA}{rp p:Pos}{h:FZ}
end
end PV
namespace PV
open PySem PySem.Spec L2
open PyProof.Rows hiding St
end PV
namespace L2
end L2
namespace PV
open PySem PySem.Spec L2
section
variable {l1:List Expr}{a b c:Expr}
theorem LQ{k j}:ai (.Constant k j pos::es) env=(T2,eval (.Constant k j pos) env)::ai es env:=rfl
theorem HS{x}:ai (.Name x pos::es) env=(T2,eval (.Name x pos) env)::ai es env:=rfl
theorem Dk{o}:ai (.BinOp a o b pos::es) env=(T2,eval (.BinOp a o b pos) env)::ai es env:=rfl
theorem NZ{o}:ai (.Compare a o l1 pos::es) env=(T2,eval (.Compare a o l1 pos) env)::ai es env:=rfl
theorem Bu:ai (.Subscript a b pos::es) env=(T2,eval (.Subscript a b pos) env)::ai es env:=rfl
theorem FN{x}:ai (.Attribute a x pos::es) env=(T2,eval (.Attribute a x pos) env)::ai es env:=rfl
theorem HW{k}:ai (.Call a l1 k pos::es) env=(T2,eval (.Call a l1 k pos) env)::ai es env:=rfl
end
section
variable {fs:FA}
theorem iS{i j}(h:PFA X G es fs):PFA X G (.Constant (.str i) j pos::es) (Aa (kF (.str i)) fs):=Af M4 h LQ
theorem iI{i j}(h:PFA X G es fs):PFA X G (.Constant (.int i) j pos::es) (Aa (kF (.int i)) fs):=Af S_ h LQ
end
section
variable {cs:List Str}{R:Addr}{f:Str}
end
open PyProof.Rows hiding St
section
variable {a b:Expr}{fs:FA}{px py pt:Pos}
end
end PV
namespace PV
open PySem PySem.Spec L2 EX
open PyProof.Rows hiding St
section
variable {a:Expr}{fa:FE}{np p:Pos}{body:List Stmt}{gb:FS}{fs:FA}
end
end PV
namespace EX
open PySem PySem.W PySem.Spec PyProof.Rows PySem.Calls
section
variable {w:ag}{A:ar}{K:Frag}{x:Addr}{ox:Obj}{v:ac}
open Builtin Builtin.ObjectAttr in
end
end EX
namespace EX
open PySem PySem.Spec L2
open PyProof.Rows hiding St
section
variable {e R dx:Addr}{tb:Option Addr}{A:ar}{f:Str}
end
section
variable {o value:Expr}{ta tv:TE}{f:Str}
end
section
variable {R fi:Addr}{k:Nat}{f g:Str}{c:V->V->Prop}
end
end EX
namespace PV
open PySem PySem.Spec L2 EX
open PyProof.Rows hiding St
structure Xx2 (G:Gx) (mg:Str->Option ac) (R:Addr) (cn f g qual:Str) (st:Stmt) (ps:List Str) where
 C:Addr
 fi:Addr
 fd:ii
 gc:G.xcl cn=Y2 C
 xc:XC G.K C R
 hi:dP G.K (.ref C) "__init__"=Y2 (Y2 (.ref fi))
 hf:lx G.K (.ref fi)=U2
 kp:dS G.K (.ref C)=U2
 na:Ci G.K C f
 nb:Ci G.K C g
 m:mg cn=Y2 (.ref C)
 F:Fun G.K "__init__" qual st fi fd
 B:Binds G.K fd ps []
section
variable {a b:Expr}{fs:FA}{np:Pos}{R:Addr}{f g:Str}{x:Xx2 G X.mg R cn f g qual st ps}{k:Nat}
end
end PV
namespace EX
open PySem PySem.Spec L2
open PyProof.Rows hiding St
section
variable {R:Addr}
end
end EX
namespace PV
open PySem PySem.Spec L2 EX
open PyProof.Rows hiding St
section
variable {a:Expr}{fa:FE}{np:Pos}{R:Addr}
end
section
variable {K:av}{R:Addr}{kV:ac}{l:List (Str×Addr)}
end
theorem scO{P:List Str}(a:sc.kind=.function:=by rfl)(b:sc.isCoroutine=T2:=by rfl)(c:sc.isGenerator=T2:=by rfl)(d:N.Nodup:=by decide +kernel)(e:N.take P.length=P:=by rfl)(f:∀x∈P,sc.names.lookup x=Y2 .local ∨sc.names.lookup x=Y2 .cell :=by decide +kernel)(g:∀y∈sc.names,y.2≠.free :=by decide +kernel):FnScope N P sc:=⟨a,b,c,d,e,f,g⟩
theorem pav{fs:FA}{F:Pos}(i:Nat)(h:PFA X G es fs)(L:X.N[i]?=Y2 x:=by rfl)(I:Vis X.env.scope x:=by first | exact fm rfl | exact dE (fm rfl) | exact dE (dE rfl))(J:(x==("__debug__":Str))=T2:=by decide)(z:(x==("__classdict__":Str))=T2:=by decide):PFA X G (.Name x F::es) (Aa (vF i) fs):=Af (vr i L I J z) h HS
section
variable {K:av}{R:Addr}{l:List (Str×Addr)}{cs ns:List Str}{cv:List ac}
end
theorem dI{z:Type}{us:List z}(h:us.length=1):∃a,us=[a]:=by
 cases us with
 |nil=>cases h
 |cons a r=>exact⟨a,by rw[oZ (nB h)]⟩
theorem dJ{F:Type}{us:List F}(h:us.length=2):∃a b,us=[a,b]:=by
 cases us with
 |nil=>cases h
 |cons z r=>
  obtain⟨a,rfl⟩:=dI (nB h);exact⟨z,a,rfl⟩
theorem dM{F:Type}{us:List F}(h:us.length=3):∃a b c,us=[a,b,c]:=by
 cases us with
 |nil=>cases h
 |cons z r=>
  obtain⟨a,b,rfl⟩:=dJ (nB h);exact⟨z,a,b,rfl⟩
theorem jj{F:Type}{us:List F}(h:us.length=4):∃a b c d,us=[a,b,c,d]:=by
 cases us with
 |nil=>cases h
 |cons z r=>
  obtain⟨a,b,c,rfl⟩:=dM (nB h);exact⟨z,a,b,c,rfl⟩
abbrev EO:=Sum (Rho×Ef) (D×Rho)
abbrev FEz:=Rho->Ef->Option EO
open Classical in
section
variable {a b k it:Expr}{fa fb:FE}{p px:Pos}{rest body:List Stmt}{g gs:FEz}{gp:FS}{ta tb:FTE}
end
section
variable {k:Nat}{p:Pos}{t:TA}
end
section
variable {a b:Expr}{p:Pos}{fs:FA}
end
section
open PySem PySem.Spec L2
end
open PySem PySem.Spec L2 EX
open PyProof.Rows hiding St
section
variable {a sp k v:Expr}{fa fk fv:FE}{p:Pos}{cv:List ac}{b:Bool}
end
section
variable {a ob:Expr}{fs:FA}{fo:FE}
theorem mA{k:Nat}{d:Mx X.K C m qual st ps}{pl:Sem Bool}(hc:G.cl c=Y2 C)(cl:Cls X.K C)(F:FnOk X.prog X.w X.K X.mg X.base CX0 k d.f d.fd ps (spD G g))(hr:Room k' X.A)(ho:PF X G ob fo)(ha:PFA X G (a::es) fs)(Y:k<=k':=by omega)(U:ai (a::es) X.env=(T2,eval a X.env)::ai es X.env:=by rfl)(W:(br pos (ai es X.env)).any (·.1)=T2:=by rfl)(ht:eval (.Call (.Attribute ob m apos) (a::es) [] pos) X.env=(do
   let ov <-eval ob X.env
   kK apos.atName
   let (f,first) <-kL [ov] (kN ov m pl)
   kO pos f first (br pos (ai (a::es) X.env)) (fF pos (fI [] X.env))):=by rfl):
  PF X G (.Call (.Attribute ob m apos) (a::es) [] pos) (J3 c m g fo fs):=λA=>Bt (Zx (@ho A) cl d.me F (hr.mono Y) d.B .nil JM (@ha A) U W ht) λσ H Q ⟨I,dd,o,e,k⟩=>by
 unfold J3 at e;cases e0:fo I with
 |none=>simp[e0] at e
 |some J=>
  rw[e0] at e;have O:(if El c m J=U2 then (fs I).bind λL=>g (J::L) else X2)=Y2 dd:=e;split at O
  .rename_i z;cases Z:fs I with
   |none=>simp[Z] at O
   |some L=>
    have e2:g (J::L)=Y2 dd:=by simpa [Z] using O
    refine⟨I,J,o,e0,λv H1 T r1=>?_⟩;cases J with
    |ob c' gs=>
     simp only[El,eD,beq_iff_eq,lH] at z;obtain⟨rfl,hn⟩:=z;cases r1 with
     |ob hC h1 l1 r2=>
      rw[hc] at hC;cases hC;refine⟨_,_,_,rfl,Aj _ _ h1,K1 l1 hn,I,L,o.mono T,Z,λvs H2 S r3=>?_⟩;refine⟨A,.ob c' gs::L,dd,((o.mono T).mono S).live,?_,e2,λv H3 s3 r4=>k v H3 ((T.trans S).trans s3) r4⟩;rw[dL];exact .cons (Rep.mono (.ob hc h1 l1 r2) (Al S)) r3
    |_=>simp[El] at z
  .cases O
end
abbrev Mu:=List (Addr×D)
def ksM(z:Mu):List Addr:=z.map (·.1)
abbrev KM:=Out->Mu->Prop
abbrev FM:=Rho->Mu->KM->Prop
structure OkM (G:Gx) (A0:List Addr) (He Hb:Hp) (A:List Addr) (σ:St) (H:Hp) (ρ:Rho) (μ:Mu):Prop where
 w:OkW G (ksM μ++A0) Hb A σ H ρ
 sb:Same He Hb
 l0:∀a∈A0,He a≠X2
 nf:∀a∈ksM μ,He a=X2
 nd:(ksM μ).Nodup
 top:∀p∈μ,Top G A H p.1 p.2
def OkMS(G:Gx)(A0:List Addr)(He:Hp)(z:St)(H:Hp)(ρ:Rho)(F:Mu):Prop:=∃A I,OkM G A0 He I A z H ρ F
theorem Top.keep{L:List Addr}(t:Top G A H a d)(e:H' a=H a)(s:Same (hid A H) (hid L H')):Top G L H' a d:=by
 cases d with
 |lst F=>obtain⟨z,J,I⟩:=t;exact⟨z,by rw[e];exact J,I.mono s⟩
 |dk F=>obtain⟨z,J,I,U⟩:=t;exact⟨z,by rw[e];exact J,I,U.mono s⟩
 |dt F=>obtain⟨z,J,I,U⟩:=t;exact⟨z,by rw[e];exact J,I,U.mono s⟩
 |ob c O=>obtain⟨C,dx,z,J,I,U⟩:=t;exact⟨C,dx,z,by rw[e];exact J,I,U.mono s⟩
 |_=>exact t.elim
theorem Bx{μ:Mu}{p:Addr×D}(h:p∈μ):p.1∈ksM μ:=aS.mpr ⟨p,h,rfl⟩
theorem dN{μ:Mu}(h:a∈ksM μ):∃d,(a,d)∈μ:=by
 obtain⟨p,F,z⟩:=aS.mp h;exact⟨p.2,by rw[<-z];exact F⟩
theorem lookup_mem{μ:Mu}(h:μ.lookup a=Y2 d):(a,d)∈μ:=by
 induction μ with
 |nil=>cases h
 |cons p r z=>
  rw[bi] at h;cases q:(a==p.1) with
  |true=>
   rw[q] at h;cases h;rw[eq_of_beq q];exact bg
  |false=>
   rw[q] at h;exact aI _ (z h)
def putA(a:Addr)(c:D)(z:Mu):Mu:=z.map λp=>if p.1=a then (a,c) else p
theorem Tt(a:Addr)(c:D)(μ:Mu):ksM (putA a c μ)=ksM μ:=by
 unfold ksM putA;rw[cS];refine lE λp _=>?_;show (if p.1=a then (a,c) else p).1=p.1;split
 .rename_i h;exact h.symm
 .rfl
section
variable {Hb:Hp}
theorem OkM.mono(o:OkM G A0 He Hb A σ H ρ μ)(s:Same H H'):OkM G A0 He Hb A σ H' ρ μ:=
 ⟨o.w.mono s,o.sb,o.l0,o.nf,o.nd,λp h=>(o.top p h).mono s⟩
theorem OkM.set{v:V}{d:D}(o:OkM G A0 He Hb A σ H ρ μ)(r:Rep G (hid A H) v d)(i:Nat):OkM G A0 He Hb A (σ.set i (Y2 v)) H (ρ.set i (.fz d)) μ:=
 ⟨o.w.set r i,o.sb,o.l0,o.nf,o.nd,o.top⟩
theorem OkM.inA(o:OkM G A0 He Hb A σ H ρ μ){a:Addr}(h:a∈ksM μ):a∈A:=o.w.sub a (fE _ h)
theorem OkM.n0(o:OkM G A0 He Hb A σ H ρ μ){a:Addr}(h:a∈ksM μ):a∉A0:=λz=>o.l0 a z (o.nf a h)
theorem OkM.same(o:OkM G A0 He Hb A σ H ρ μ):Same He H:=o.sb.trans o.w.same
theorem OkM.fr(o:OkM G A0 He Hb A σ H ρ μ){a:Addr}(h:a∈A):a∈A0∨He a=X2:=by
 rcases o.w.fr a h with z | z
 .rcases dv.mp z with z | z
  .exact .inr (o.nf a z)
  .exact .inl z
 .exact .inr (o.sb.free z)
theorem OkM.lift(o:OkM G A0 He Hb A σ H ρ μ):∃Hf,OkW G (ksM μ++A0) Hf A σ H ρ/\∀L F H' ρ',OkW G (ksM μ++A0) Hf L F H' ρ'->OkM G A0 He Hf L F H' ρ' μ:=by
 obtain⟨O,U⟩:=o.w.here;refine⟨_,U,λL F H' ρ' I=>⟨I,o.sb.trans O,o.l0,o.nf,o.nd,λp J=>?_⟩⟩;have t:=o.top p J;refine t.keep ?_ (OkW.plain o.w.sub I);cases e:H p.1 with
 |none=>exact absurd e t.live.ne
 |some u=>
  refine I.same p.1 u ?_;rw[Ao (λz=>by
   have:=(cr.mp z).2;exact (of_decide_eq_true this) (fE _ (Bx J)))]
  exact e
theorem OkM.new{c:D}(o:OkM G A0 He Hb A σ H ρ μ)(s:Same H H')(I:H p=X2)(t:Top G (p::A) H' p c):OkMS G A0 He σ H' ρ ((p,c)::μ)/\p∉ksM μ/\OkM G A0 He (λb=>if b=p then H' b else Hb b) (p::A) σ H' ρ ((p,c)::μ):=by
 have Z:p∉A:=λz=>(o.w.ok.live p z).ne I;have J:p∉ksM μ:=λz=>Z (o.inA z);have m:OkM G A0 He (λb=>if b=p then H' b else Hb b) (p::A) σ H' ρ ((p,c)::μ):=by
  refine⟨⟨λb u h=>?_,λa F=>?_,λa F=>?_,λa F=>?_,o.w.ok.fill s I t.live,λi d a S O=>?_,o.w.lt⟩,λb u h=>?_,o.l0,λa F=>?_,?_,λq U=>?_⟩
  .by_cases q:b=p
   .simp only[q,if_true] at h ⊢;exact h
   .simp only[q,if_false] at h;exact s b u (o.w.same b u h)
  .rcases ba.mp F with z | z
   .rw[z];exact bg
   .exact aI _ (o.w.sub a z)
  .rcases ba.mp F with z | z
   .rw[z];exact .inl bg
   .rcases o.w.fr a z with q | q
    .exact .inl (aI _ q)
    .right;have:a≠p:=λe=>Z (e▸z);simp only[this,if_false];exact q
  .rcases ba.mp F with z | z
   .have T:a=p:=z;simp only[T,if_true];exact t.live.ne
   .have:a≠p:=λe=>Z (e▸o.w.sub a z);simp only[this,if_false];exact o.w.l0 a z
  .intro z
   rcases ba.mp z with z | z
   .obtain⟨q,q1,q2,_⟩:=o.w.ok.ow i d S;rw[O] at q1;cases q1;exact Z ((show a=p from z)▸q2)
   .exact o.w.ow0 i d a S O z
  .have L:=o.sb b u h;have:b≠p:=λe=>by
    rw[e] at L;rw[o.w.same p u L] at I;cases I
   simp only[this,if_false];exact L
  .rcases ba.mp F with z | z
   .rw[z];exact o.same.free I
   .exact o.nf a z
  .exact hJ.mpr ⟨J,o.nd⟩
  .rcases ba.mp U with z | z
   .rw[z];exact t
   .exact (o.top q z).fill s I
 exact⟨⟨_,_,m⟩,J,m⟩
theorem OkM.wr{c:D}(o:OkM G A0 He Hb A σ H ρ μ)(S:q∈ksM μ)(sx:Hr q H H')(t:Top G A H' q c):OkM G A0 He (λb=>if b=q then H' b else Hb b) A σ H' ρ (putA q c μ):=by
 have U:=o.inA S;have O:=Fi U sx;have F:∀(i:Nat) (d:D) (a:Addr),ρ[i]?=Y2 (.ow d)->σ[i]?=Y2 (Y2 (.ref a))->a≠q:=λi d a h1 Z z=>o.w.ow0 i d a h1 Z (z▸fE _ S);have I:OkW G (ksM μ++A0) (λb=>if b=q then H' b else Hb b) A σ H' ρ:=by
  refine⟨λb u h=>?_,o.w.sub,λa J=>?_,λa J=>?_,⟨o.w.ok.len,λb Y=>?_,λj e h=>?_,λj e h=>?_,o.w.ok.inj⟩,o.w.ow0,o.w.lt⟩
  .by_cases z:b=q
   .simp only[z,if_true] at h ⊢;exact h
   .simp only[z,if_false] at h;exact sx b u z (o.w.same b u h)
  .by_cases z:a=q
   .exact .inl (z▸fE _ S)
   .rcases o.w.fr a J with y | y
    .exact .inl y
    .right;simp only[z,if_false];exact y
  .by_cases z:a=q
   .simp only[z,if_true];exact t.live.ne
   .simp only[z,if_false];exact o.w.l0 a J
  .by_cases z:b=q
   .rw[z];exact t.live
   .exact (o.w.ok.live b Y).mono λu e=>sx b u z e
  .obtain⟨v,q1,q2⟩:=o.w.ok.fz j e h;exact⟨v,q1,q2.mono O⟩
  .obtain⟨a,q1,q2,q3⟩:=o.w.ok.ow j e h;exact⟨a,q1,q2,q3.other (F j e a h q1) U sx⟩
 refine⟨by rw[Tt];exact I,λb u h=>?_,o.l0,by rw[Tt];exact o.nf,by rw[Tt];exact o.nd,λp W=>?_⟩
 .have:b≠q:=λe=>by
   rw[e,o.nf q S] at h;cases h
  simp only[this,if_false];exact o.sb b u h
 .obtain⟨T,h0,L⟩:=aS.mp W;split at L
  .rw[<-L];exact t
  .rename_i z;rw[<-L];exact (o.top T h0).other z U sx
theorem OkM.at(o:OkM G A0 He Hb A σ H ρ μ){i:Nat}{a:Addr}(h:ρ[i]?=Y2 (.fz (.adr a))):σ[i]?=Y2 (Y2 (.ref a)):=by
 obtain⟨v,q1,q2⟩:=o.w.ok.fz i _ h;cases q2;exact q1
end
def Ii(F:Mu):List Nat->List Addr->Rho->Option Rho
 |[],_,ρ=>Y2 ρ
 |j::js,z,ρ=>match ρ[j]? with
  |some (.fz (.adr a))=>if a∈z then X2 else (F.lookup a).bind λc=>Ii F js (a::z) (ρ.set j (.ow c))
  |_=>X2
theorem O5{G:Gx}{A:List Addr}{S:St}{H:Hp}{J:Mu}(inA:∀p∈J,p.1∈A)(top:∀p∈J,Top G A H p.1 p.2):∀(js:List Nat) (seen:List Addr) (ρ ρ':Rho),Okp G A S H ρ->(∀(i:Nat) (d:D) (a:Addr),ρ[i]?=Y2 (.ow d)->S[i]?=Y2 (Y2 (.ref a))->a∉ksM J∨a∈seen)->Ii J js seen ρ=Y2 ρ'->Okp G A S H ρ'
 |[],_,ρ,ρ',o,_,e=>by cases e;exact o
 |j::js,seen,ρ,ρ',o,hs,e=>by
  unfold Ii at e;split at e
  .rename_i a ej;split at e
   .cases e
   .rename_i na;cases el:J.lookup a with
    |none=>rw[el] at e;cases e
    |some c=>
     rw[el] at e;have W:=lookup_mem el;obtain⟨v,q1,q2⟩:=o.fz j _ ej;cases q2;have ne:∀(i:Nat) (d:D) (b:Addr),ρ[i]?=Y2 (.ow d)->S[i]?=Y2 (Y2 (.ref b))->b≠a:=λi d b L F z=>by
      rcases hs i d b L F with y | y
      .exact y (z▸Bx W)
      .exact na (z▸y)
     refine O5 inA top js (a::seen) _ ρ' ⟨by rw[kU];exact o.len,o.live,λi d h=>?_,λi d h=>?_,λi k d f b L F U T=>?_⟩ (λi d b L F=>?_) e
     .rcases BZ h with ⟨_,O,_⟩ | ⟨_,O⟩
      .cases O
      .exact o.fz i d O
     .rcases BZ h with ⟨hj,O,_⟩ | ⟨_,O⟩
      .cases O;subst hj;exact⟨a,q1,inA _ W,top _ W⟩
      .exact o.ow i d O
     .rcases BZ L with ⟨I,_,_⟩ | ⟨I,Z⟩<;>rcases BZ F with ⟨Y,_,_⟩ | ⟨Y,z2⟩
      .rw[I,Y]
      .subst I;rw[q1] at U;cases U;exact absurd rfl (ne k f _ z2 T)
      .subst Y;rw[q1] at T;cases T;exact absurd rfl (ne i d _ Z U)
      .exact o.inj i k d f b Z z2 U T
     .rcases BZ L with ⟨I,_,_⟩ | ⟨I,Z⟩
      .subst I;rw[q1] at F;cases F;exact .inr bg
      .exact (hs i d b Z F).imp id λy=>aI _ y
  .cases e
theorem OkM.view{L:Hp}{F:Mu}(o:OkM G A0 He L A σ H ρ F){js:List Nat}{ρ':Rho}(e:Ii F js [] ρ=Y2 ρ'):Okp G A σ H ρ':=
 O5 (λp h=>o.inA (Bx h)) o.top js [] ρ ρ' o.w.ok (λi d a J I=>.inl λz=>o.w.ow0 i d a J I (fE _ z)) e
abbrev FXM:=Rho->Mu->(D->Mu->Prop)->Prop
def puM(g:FS):FM:=λρ z K=>∃o,g ρ=Y2 o/\K o z
def thM(J:FM)(K:KM):KM:=λo z=>match o with | .nx ρ=>J ρ z K | o=>K o z
def seqM(g J:FM):FM:=λρ z K=>g ρ z (thM J K)
def nxM:FM:=λρ z K=>K (.nx ρ) z
def vwM{α:Type}(js:List Nat)(f:Rho->Option α)(ρ:Rho)(z:Mu):Option α:=(Ii z js [] ρ).bind f
def ifM(js:List Nat)(t:FT)(g J:FM):FM:=λρ z K=>match vwM js t ρ z with | some U2=>g ρ z K | some T2=>J ρ z K | none=>False
def bdM(F:FM)(K:KM):KM:=λo z=>match o with | .nx ρ=>F ρ z K | .ct ρ=>F ρ z K | .bk ρ=>K (.nx ρ) z | .rt e ρ=>K (.rt e ρ) z
def Ij(I:FG)(b:FM):List D->FM
 |[],ρ,F,K=>K (.nx ρ) F
 |d::r,ρ,F,K=>∃z,I d ρ=Y2 z/\b z F (bdM (Ij I b r) K)
def forM(z:FI)(I:FG)(b:FM):FM:=λρ F K=>∃ds,z ρ=Y2 ds/\Ij I b ds ρ F K
def pvX(js:List Nat)(f:FE):FXM:=λρ z K=>∃d,vwM js f ρ z=Y2 d/\K d z
def newX(f:FE):FXM:=λρ z K=>∃c,f ρ=Y2 c/\∀p,p∉ksM z->K (.adr p) ((p,c)::z)
abbrev GM:=List D->Mu->(D->Mu->Prop)->Prop
def calX(g:GM)(fs:FA):FXM:=λρ z K=>∃ds,fs ρ=Y2 ds/\g ds z K
def Nb(i:Nat)(h:FXM):FM:=λρ F K=>h ρ F λd z=>K (.nx (ρ.set i (.fz d))) z
def Nf(h:FXM):FM:=λρ F K=>h ρ F λ_ z=>K (.nx ρ) z
def mutX(i:Nat)(js:List Nat)(g:D->List D->Option (D×D))(fs:FA):FXM:=λρ z K=>∃ds a c v F,vwM js fs ρ z=Y2 ds/\ρ[i]?=Y2 (.fz (.adr a))/\z.lookup a=Y2 c/\g c ds=Y2 (v,F)/\K v (putA a F z)
def der:Nat->Mu->D->D
 |0,_,d=>d
 |n+1,z,.adr a=>match z.lookup a with | some c=>der n z c | none=>.adr a
 |n+1,z,.lst ds=>.lst (ds.map (der n z))
 |n+1,z,.tup ds=>.tup (ds.map (der n z))
 |n+1,z,.dk F=>.dk (F.map λp=>(p.1,der n z p.2))
 |_+1,_,d=>d
def derS(n:Nat)(F:Mu):Slot->Slot
 |.fz d=>.fz (der n F d)
 |z=>z
def finM(K:D->Mu->Prop):KM:=λo z=>match o with | .rt d _=>K d z | .nx _=>K .non z | _=>False
def runM(n F:Nat)(b:FM):GM:=λds z K=>ds.length=F/\b (Ba n ds) z (finM K)
def Jg(G:Gx)(A0:List Addr)(He:Hp)(D:Ends):Out->Mu->Prop
 |.nx ρ,F=>∀z H,OkMS G A0 He z H ρ F->D.nx z H
 |.rt d ρ,F=>∀v z H A I,OkM G A0 He I A z H ρ F->Rep G (hid A H) v d->D.rt v H
 |.bk ρ,F=>∀z H,OkMS G A0 He z H ρ F->D.bk z H
 |.ct ρ,F=>∀z H,OkMS G A0 He z H ρ F->D.ct z H
def tM(G:Gx)(A0:List Addr)(He:Hp)(g:FM):TS:=λD I H=>∃ρ F K,OkMS G A0 He I H ρ F/\g ρ F K/\∀o z,K o z->Jg G A0 He D o z
def PSM(X:Cx)(G:Gx)(st:Stmt)(g:FM):Prop:=∀⦃A0⦄ He,PS X st (tM G A0 He g)
def PSMs(X:Cx)(G:Gx)(st:List Stmt)(g:FM):Prop:=∀⦃A0⦄ He,PSs X st (tM G A0 He g)
def tMX(G:Gx)(A0:List Addr)(He:Hp)(h:FXM):TE:=λI H Q=>∃ρ J K,OkMS G A0 He I H ρ J/\h ρ J K/\∀v F d z A L,K d z->OkM G A0 He L A I F ρ z->Rep G (hid A F) v d->Q v F
def PMX(X:Cx)(G:Gx)(e:Expr)(h:FXM):Prop:=∀⦃A0⦄ He,PE X e (tMX G A0 He h)
section
variable {Hb:Hp}
theorem OkM.base(o:OkM G A0 Hf Hb A σ H ρ μ)(s:Same He Hf)(z:∀a∈A0,He a≠X2):OkM G A0 He Hb A σ H ρ μ:=
 ⟨o.w,s.trans o.sb,z,λa h=>s.free (o.nf a h),o.nd,o.top⟩
theorem OkM.here(o:OkM G A0 He Hb A σ H ρ μ):Same He (hid (A.filter λa=>decide (a∉A0)) H)/\∃Hc,OkM G A0 (hid (A.filter λa=>decide (a∉A0)) H) Hc A σ H ρ μ:=by
 have I:∀b,b∈(A.filter λa=>decide (a∉A0))↔b∈A/\b∉A0:=λb=>by simp[cr]
 have J:Same He (hid (A.filter λa=>decide (a∉A0)) H):=λb u h=>by
  rw[Ao]
  .exact o.same b u h
  .intro z;obtain⟨Z,Y⟩:=(I b).mp z
   rcases o.fr Z with q | q
   .exact Y q
   .rw[q] at h;cases h
 obtain⟨O,U⟩:=o.w.here;refine⟨J,_,U,λb u h=>?_,λa F h=>?_,λa F=>?_,o.nd,o.top⟩
 .unfold hid at h ⊢;split at h
  .cases h
  .rename_i L;rw[if_neg]
   .exact h
   .intro z;have S:=cr.mp z;refine L ((I b).mpr ⟨S.1,λy=>?_⟩);exact (of_decide_eq_true S.2) (eK _ y)
 .rw[Ao (λz=>((I a).mp z).2 F)] at h;exact (o.w.ok.live a (o.w.sub a (eK _ F))).ne h
 .unfold hid;rw[if_pos ((I a).mpr ⟨o.inA F,o.n0 F⟩)]
theorem OkM.plain(sub:∀a∈A0,a∈B)(o:OkM G A0 (hid (B.filter λa=>decide (a∉A0)) H1) Hb A σ H ρ μ):Same (hid B H1) (hid A H):=λb u h=>by
 unfold hid at h;split at h
 .cases h
 .rename_i F;have e:hid (B.filter λa=>decide (a∉A0)) H1 b=Y2 u:=by
   rw[Ao (λz=>F (cr.mp z).1)];exact h
  rw[Ao]
  .exact o.same b u e
  .intro z
   rcases o.fr z with q | q
   .exact F (sub b q)
   .rw[q] at e;cases e
theorem Jg.base{L:Hp}{D:Ends}{o:Out}(k:Jg G A0 He D o μ)(s:Same He L)(F:∀a∈A0,He a≠X2):Jg G A0 L D o μ:=by
 cases o with
 |nx J=>exact λz H ⟨A,I,w⟩=>k z H ⟨A,I,w.base s F⟩
 |rt d J=>exact λv z H A I w r=>k v z H A I (w.base s F) r
 |bk J=>exact λz H ⟨A,I,w⟩=>k z H ⟨A,I,w.base s F⟩
 |ct J=>exact λz H ⟨A,I,w⟩=>k z H ⟨A,I,w.base s F⟩
theorem OkM.subA0(o:OkM G A0 He Hb A σ H ρ μ):∀a∈A0,a∈A:=λa h=>o.w.sub a (eK _ h)
theorem OkM.ends{D:Ends}(I:∀L F H' ρ',OkW G (ksM μ++A0) Hf L F H' ρ'->OkM G A0 He Hf L F H' ρ' μ){o:Out}(k:Jg G A0 He D o μ):M8 G (ksM μ++A0) Hf D o:=by
 cases o with
 |nx J=>exact λz H ⟨A,w⟩=>k z H ⟨A,Hf,I _ _ _ _ w⟩
 |rt d J=>exact λv z H A w r=>k v z H A Hf (I _ _ _ _ w) r
 |bk J=>exact λz H ⟨A,w⟩=>k z H ⟨A,Hf,I _ _ _ _ w⟩
 |ct J=>exact λz H ⟨A,w⟩=>k z H ⟨A,Hf,I _ _ _ _ w⟩
end
section
variable {a b c:Expr}{fa:FE}{ga:FT}{rest body:List Stmt}{gp:FS}{g gs gb:FM}{h:FXM}
theorem VJ:PSMs X G [] nxM:=λS O F s z H D I ⟨J,L,K,ok,e,k⟩=>Lw F s z H D I (k _ _ e z H ok)
theorem BW(h1:PSM X G st g)(h2:PSMs X G rest gs):PSMs X G (st::rest) (seqM g gs):=λO L W s T H D I ⟨U,Y,K,ok,e,k⟩=>by
 refine Fl (@h1 O L) (@h2 O L) W s T H D I ⟨U,Y,_,ok,e,λo F q=>?_⟩;cases o with
 |nx z=>exact λS Z J=>⟨z,F,K,J,q,k⟩
 |rt d z=>exact k _ _ q
 |bk z=>exact k _ _ q
 |ct z=>exact k _ _ q
theorem Ge(h1:PSM X G st g):PSMs X G [st] g:=λL J=>Iz (@h1 L J)
theorem Fy(h:PSD X G st gp):PSM X G st (puM gp):=λT U J s z H D I ⟨F,L,K,⟨A,Y,w⟩,⟨o,e,q⟩,k⟩=>by
 obtain⟨S,W,O⟩:=w.lift;exact @h (ksM L++T) S J s z H D I ⟨F,o,⟨A,W⟩,e,OkM.ends O (k _ _ q)⟩
theorem J4{F:Type}{js:List Nat}{f:Rho->Option F}{z:Mu}{d:F}(e:vwM js f ρ z=Y2 d):∃ρ',Ii z js [] ρ=Y2 ρ'/\f ρ'=Y2 d:=by
 unfold vwM at e;cases I:Ii z js [] ρ with
 |none=>rw[I] at e;cases e
 |some ρ'=>rw[I] at e;exact⟨ρ',rfl,e⟩
theorem gW(js:List Nat)(ht:PFT X G c ga)(h1:PSMs X G s1 g)(h2:PSMs X G s2 gs):PSM X G (.If c s1 s2 pos) (ifM js ga g gs):=λW T Z s Y H D I ⟨O,S,K,⟨A,U,w⟩,e,k⟩=>by
 refine UL (@ht A) (@h1 W T) (@h2 W T) Z s Y H D I ?_;unfold ifM at e;split at e
 .rename_i L;obtain⟨z,J,F⟩:=J4 L;exact⟨z,_,w.view J,F,λH1 s1=>iteT ⟨O,S,K,⟨A,U,w.mono s1⟩,e,k⟩⟩
 .rename_i L;obtain⟨z,J,F⟩:=J4 L;exact⟨z,_,w.view J,F,λH1 s1=>iteF ⟨O,S,K,⟨A,U,w.mono s1⟩,e,k⟩⟩
 .exact e.elim
theorem QX{it:Expr}(hp:kJ (ah X.prog X.w) X.A X.env X.xe)(hc:X.calm=U2)(hi:PFI X G T2 tg it src)(hg:PGD X G tg fg)(hb:PSMs X G body gb)(hs:∀x,gL it X.env x=pure x:=by intro _;rfl):PSM X G (.For tg it body [] pos) (forM src fg gb):=λL Z π s W H D I ⟨ρ,μ,K,⟨A,Hb,w⟩,⟨F,e1,e⟩,k⟩=>by
 have K0:PSs X body (λD W H=>∃L Z,tM G L Z gb D W H):=λπ s W H D I ⟨L,Z,q⟩=>@hb L Z π s W H D I q;have G0:PG X tg (λv W H Q=>∃L Z,tGD G L Z fg v W H Q):=λπ s W H v u Q I r ⟨L,Z,q⟩=>@hg L Z π s W H v u Q I r q;refine Kf hp hc (@hi A) G0 K0 hs π s W H D I ⟨ρ,F,w.w.ok,e1,λJ H1 s1 sr=>?_⟩;obtain⟨B0,Hc,w2⟩:=(w.mono s1).here;have k2:∀o μ',K o μ'->Jg G L _ D o μ':=λo μ' q=>(k o μ' q).base B0 w.l0;generalize L0:hid (A.filter λa=>decide (a∉L)) H1=Hf at B0 w2 k2;refine⟨λi m z U=>m=F.length-i/\i<=F.length/\∃O μ',OkMS G L Hf z U O μ'/\Ij fg gb (F.drop i) O μ' K,⟨F.length,by simp,eA _,ρ,μ,⟨A,Hc,w2⟩,by simpa using e⟩,?_⟩;rintro i m C0 H3 ⟨rfl,N0,D0,y0,⟨B,Hd,w3⟩,e3⟩;have pl:Same (hid A H1) (hid B H3):=by rw[<-L0] at w3;exact OkM.plain w.subA0 w3
 by_cases Y:i<F.length
 .right;have hd:F[i]?=Y2 F[i]:=by simp[Y]
  have ed:F.drop i=F[i]::F.drop (i+1):=ko Y;rw[ed] at e3;obtain⟨u0,e4,e5⟩:=e3;refine⟨sr.go i H3 (pl.trans Aj) Y,λz U=>∃O μ',OkMS G L Hf z U O μ'/\Ij fg gb (F.drop (i+1)) O μ' K,λz U q=>⟨F.length-(i+1),by omega,rfl,Y,q⟩,λx U y=>?_⟩;obtain⟨sy,rx⟩:=sr.yld i H3 x U _ (pl.trans Aj) hd y;obtain⟨Hg,w4,up⟩:=(w3.mono sy).lift;refine⟨ksM y0++L,Hg,B,D0,F[i],u0,w4,rx B w3.w.ok.live pl,e4,λM0 H5 ⟨A5,F0⟩=>⟨L,Hf,u0,y0,_,⟨A5,Hg,up _ _ _ _ F0⟩,e5,λo5 v0 q5=>?_⟩⟩;cases o5 with
  |nx S=>exact λz U T=>⟨S,v0,T,q5⟩
  |ct S=>exact λz U T=>⟨S,v0,T,q5⟩
  |bk S=>exact λz U T=>k2 _ _ q5 z U T
  |rt d5 S=>exact k2 _ _ q5
 .left;have ei:i=F.length:=by omega
  subst ei;rw[kW] at e3;exact⟨sr.stop _ H3 (pl.trans Aj) (ax _),k2 _ _ e3 C0 H3 ⟨B,Hd,w3⟩⟩
theorem gY(js:List Nat)(ha:PF X G a fa):PMX X G a (pvX js fa):=λA0 Z J s F H Q I ⟨Y,L,K,⟨A,U,w⟩,⟨d,e,q⟩,k⟩=>by
 obtain⟨z,T,S⟩:=J4 e;exact @ha A J s F H Q I ⟨z,d,w.view T,S,λv W O r=>k v W d L A U q (w.mono O) r⟩
theorem QZ(ha:PN X G a fa):PMX X G a (newX fa):=λZ W J s z H Q I ⟨F,U,K,⟨A,Y,w⟩,⟨c,e,q⟩,k⟩=>
 @ha A J s z H Q I ⟨F,c,w.w.ok,e,λp T L S t=>by
  obtain⟨_,O,m⟩:=w.new L S t;exact k _ T _ _ _ _ (q p O) m (.adr p)⟩
theorem Yq{p:Pos}(S:∀te,PE X a te->PS X (.Assign [.Name x p] a pos) (tAsg te (GR i)))(ha:PMX X G a h):PSM X G (.Assign [.Name x p] a pos) (Nb i h):=λW T J s z H D I ⟨F,O,K,ok,e,k⟩=>
 S _ (@ha W T) J s z H D I ⟨F,O,_,ok,e,λv Y d L A U q w r=>k _ _ q _ _ ⟨A,U,w.set r i⟩⟩
theorem G6(ha:PMX X G a h)(S:dA a X2 pos.line X.env=pure T2:=by rfl):PSM X G (.Expr a pos) (Nf h):=λW T J s z H D I ⟨F,O,K,ok,e,k⟩=>
 Lx (@ha W T) S J s z H D I ⟨F,O,_,ok,e,λv Y d L A U q w r=>k _ _ q _ _ ⟨A,U,w⟩⟩
theorem Ng{x y v z:D}{L J:V}(t:Top G A H p x)(hA:p∈A)(F:Bc x y v=Y2 z)(U:Rep G (hid A H) J y)(W:Rep G (hid A H) L v):∃u,DPut H p J L (upd H p u)/\Top G A (upd H p u) p z:=by
 unfold Bc at F;split at F
 .rename_i Y;cases T:keyD y with
  |none=>simp[T] at F
  |some q=>
   simp only[T,bo] at F;split at F
   .rename_i hz;cases F;obtain⟨I,h2,S,r⟩:=t;have ek:=Fg U T;subst ek;have Z:I.length<sizeLine:=by
     have:=congrArg cw S;rw[aw,aw] at this;omega
    have O:=MJ (k:=q) W S r;refine⟨_,DPut.k h2 Z,_,Ah,O.1,?_⟩;rw[CT hA];exact O.2
   .cases F
 .cases F
def SndM(G:Gx)(r:V->List V->Hp->VK->Prop)(g:D->List D->Option (D×D)):Prop:=∀(A:List Addr) (H:Hp) (l:Addr) (vs:List V) (c:D) (ds:List D) (v F:D) (Q:VK),(∀a∈A,Nt (H a))->l∈A->Top G A H l c->RepL G (hid A H) vs ds->g c ds=Y2 (v,F)->(∀L z,Hr l H z->Top G A z l F->Rep G (hid A z) L v->Q L z)->r (.ref l) vs H Q
theorem VL{T id:String}{r:V->List V->Hp->VK->Prop}{Z:D->List D->Option (D×D)}{fs:FA}(js:List Nat)(pa:mW T)(O:rf T name id)(U:typeOf (.builtin id)=pure (.type "method_descriptor"))(hm:MtM X id r)(sn:SndM G r Z)(tv:∀(A:List Addr) (H:Hp) (l:Addr) (c:D) (ds:List D) (vc:D×D),Z c ds=Y2 vc->Top G A H l c->tyV X.K T (.ref l) H)(hv:PE X (.Name x xpos) (tVar i))(ha:PFA X G (e::es) fs)(J:d4 (.Name x xpos) name X.env (eval (.Name x xpos) X.env)=eval (.Name x xpos) X.env:=by rfl)(L:((br pos (ai (e::es) X.env)).all (λx=>!x.1)&&(fF pos (fI [] X.env)).all (λx=>x.1.isSome)&&decide ((e::es).length+([]:List eL).length+(if ([]:List eL).isEmpty then 0 else 1)<30))=U2:=by rfl)(F:(apos.endLine==pos.line)=U2:=by rfl)(hs:ai (e::es) X.env=(T2,eval e X.env)::ai es X.env:=by rfl)(Y:(br pos (ai es X.env)).any (·.1)=T2:=by rfl):
  PMX X G (.Call (.Attribute (.Name x xpos) name apos) (e::es) [] pos) (mutX i js Z fs):=λA0 He π s σ H Q I ⟨ρ,μ,K,⟨A,Hb,w⟩,⟨ds,l,c,v,c',e1,hi,hl,e2,q⟩,k⟩=>by
 obtain⟨S,e3,e4⟩:=J4 e1;have z:=lookup_mem hl;refine XF pa O U hm hv (@ha A) J L F hs Y π s σ H Q I ⟨_,w.at hi,tv _ _ _ _ _ _ e2 (w.top _ z),S,ds,w.view e3,e4,λvs H1 s1 r1=>?_⟩;have W:=w.mono s1;exact sn A H1 l vs c ds v c' Q W.w.ok.live (w.inA (Bx z)) (W.top _ z) r1 e2 λvv H' sx t rv=>k vv H' v _ A _ q (W.wr (Bx z) sx t) rv
end
def spM(G:Gx)(g:GM):Sp:=λvs H Q _=>∃A ds F K,(∀a∈A,Nt (H a))/\(ksM F).Nodup/\(∀p∈F,p.1∈A/\Top G A H p.1 p.2)/\RepL G (hid A H) vs ds/\g ds F K ∧
 ∀v I L z d,K d z->(∀b u,b∉ksM F->H b=Y2 u->I b=Y2 u)->(∀a∈A,a∉ksM F->a∈L)->(∀a∈L,Nt (I a))->(ksM z).Nodup->(∀p∈z,p.1∈L/\Top G L I p.1 p.2)->(∀a∈ksM z,a∈ksM F∨H a=X2)->Rep G (hid L I) v d->Q v I
theorem We{μ:Mu}(live:∀a∈A,Nt (H a))(T:(ksM μ).Nodup)(Y:∀p∈μ,p.1∈A/\Top G A H p.1 p.2)(r:RepL G (hid A H) vs ds)(W:vs.length<=N.length):OkM G (A.filter λa=>decide (a∉ksM μ)) (hid (ksM μ) H) H A (start N vs) H (Ba N.length ds) μ:=by
 have inA:∀a∈ksM μ,a∈A:=λa h=>by obtain⟨d,Z⟩:=dN h;exact (Y _ Z).1
 have O:∀a,a∈(A.filter λa=>decide (a∉ksM μ))↔a∈A/\a∉ksM μ:=λa=>by simp[cr]
 obtain⟨A1,w⟩:=Fp (N:=N) live r W;have I:∀a,a∈ksM μ++(A.filter λa=>decide (a∉ksM μ))↔a∈A:=λa=>by
  rw[dv,O];constructor
  .rintro (h | h)
   .exact inA a h
   .exact h.1
  .intro h
   by_cases z:a∈ksM μ
   .exact .inl z
   .exact .inr ⟨h,z⟩
 have J:∀(i:Nat) (d:D),(Ba N.length ds)[i]?≠Y2 (.ow d):=λi d h=>by
  unfold Ba at h
  by_cases S:i<ds.length
  .rw[gu (by simpa using S),be] at h;cases e:ds[i]? with
   |none=>rw[e] at h;cases h
   |some d=>rw[e] at h;cases h
  .rw[hU (by simpa using gy.mp S),mR] at h;split at h<;>cases h
 have L:Okp G A (start N vs) H (Ba N.length ds):=by
  refine⟨w.ok.len,live,λi d h=>?_,λi d h=>absurd h (J i d),λi j d e a h _ _ _=>absurd h (J i d)⟩;obtain⟨v,q1,q2⟩:=w.ok.fz i d h;exact⟨v,q1,q2.mono (DQ w.sub)⟩
 refine⟨⟨Same.refl H,λa F=>(I a).mp F,λa F=>.inl ((I a).mpr F),λa F=>(live a ((I a).mp F)).ne,L,λi d a h _=>absurd h (J i d),λx d _ h=>absurd h (J 0 d)⟩,Aj,λa F=>?_,λa F=>?_,T,λp U=>(Y p U).2⟩
 .rw[Ao ((O a).mp F).2];exact (live a ((O a).mp F).1).ne
 .unfold hid;rw[if_pos F]
theorem fn_M{w:ag}{base:Heap}{k:Nat}{b:FM}(F:FunD G.K x qual st f fd)(S:FnScope N ps (Ab st))(hl:ps.length<=N.length)(hb:∀(cdv:ac) (A:ar) (J:List Env) (s:ae) (H:Hp) (E:XK),Room k (A.deeper (dn qual (Ab st) s.heap.objs.size f cdv))->PSMs (cxOf CX0 P w G.K mg base N qual (Ab st) f cdv A J s H E).nox G (A_ st) b):
  FnOk P w G.K mg base CX0 (k+1) f fd ps (spM G (runM N.length ps.length b)):=by
 obtain⟨oc,od,dV,kV,y0,pm,an,cdv,ct,v0,rfl,lk,u0⟩:=F.ex;refine Ud lk u0 S (λvs H Q E h=>?_) (λA J s H vs Q E hr h=>?_)
 .obtain⟨A,ds,L,K,lv,nd,ct,r,e,_⟩:=h;rw[r.1];exact e.1
 .obtain⟨A1,ds,L,K,lv,nd,ct,r,e,k⟩:=h;have hzz:=hb cdv A J s H E hr;have fin:∀(U:St) (H':Hp) (W:List Addr) (T:Hp) (O:Rho) (I:Mu) (v:V) (d:D),OkM G (A1.filter λa=>decide (a∉ksM L)) (hid (ksM L) H) T W U H' O I->Rep G (hid W H') v d->K d I->Q v H':=λU H' W T O I v d w rv kd=>by
   refine k v H' W I d kd (λb u nb hb=>w.same b u (by rw[Ao nb];exact hb)) (λa ha na=>w.subA0 a (by simp[cr,ha,na])) w.w.ok.live w.nd (λp hp=>⟨w.inA (Bx hp),w.top p hp⟩) (λa ha=>?_) rv;have:=w.nf a ha
   by_cases z:a∈ksM L
   .exact .inl z
   .rw[Ao z] at this;exact .inr this
  refine⟨_,(@hzz (A1.filter λa=>decide (a∉ksM L)) (hid (ksM L) H)).nox,Ba N.length ds,L,_,⟨A1,H,We lv nd ct r (by rw[r.1,e.1];exact hl)⟩,e.2,λo I q=>?_⟩;cases o with
  |nx O=>exact λY H' ⟨A,T,w⟩=>fin Y H' A T O I .non .non w .non q
  |rt d' Z=>exact λv Y H' A T w r'=>fin Y H' A T Z I v d' w r' q
  |bk O=>exact q.elim
  |ct O=>exact q.elim
theorem jk{w:ag}{base:Heap}{k:Nat}{b:FM}(F:FunD G.K x qual st f fd)(S:FnScope N ps (Ab st))(hl:ps.length<=N.length)(J:∀(cdv:ac) (A:ar) (I:List Env) (s:ae) (H:Hp) (E:XK),Room k (A.deeper (dn qual (Ab st) s.heap.objs.size f cdv))->PSMs (cxOf CX0 P w G.K mg base N qual (Ab st) f cdv A I s H E).nox G (A_ st) b)(hg:∀ds d,g ds=Y2 d->runM N.length ps.length b ds [] λd' _=>d'=d):
  FnOk P w G.K mg base CX0 (k+1) f fd ps (spD G g):=
 (fn_M F S hl J).imp λvs H Q E ⟨A,ds,d,Z,r,e,q⟩=>⟨A,ds,[],_,Z,n6,λp hp=>(nomatch hp),r,hg ds d e,λv H' A' L d' e' O T Y W v0 u0 U=>by
  subst e';exact q v H' (λb u J=>O b u (λz=>nomatch z) J) (U.mono (DQ λa ha=>T a ha (λz=>nomatch z)))⟩
section
variable {a b c:Expr}{p2 p:Pos}{fs:FA}{g:FM}
theorem gZ{Hb:Hp}{μ:Mu}{gm:GM}{K:D->Mu->Prop}{Q:VK}{E:XK}(W:OkM G A0 He Hb A σ H1 ρ μ)(r1:RepL G (hid A H1) vs ds)(e2:gm ds μ K)(k:∀v H' d μ' A Hb,K d μ'->OkM G A0 He Hb A σ H' ρ μ'->Rep G (hid A H') v d->Q v H'):spM G gm vs H1 Q E:=by
 refine⟨A,ds,μ,K,W.w.ok.live,W.nd,λp hp=>⟨W.inA (Bx hp),W.top p hp⟩,r1,e2,λv H' A' μ' d kd sm sb lv nd ct fr rv=>?_⟩;have U:∀z,z∈(A.filter λa=>decide (a∉ksM μ))++ksM μ'↔(z∈A/\z∉ksM μ)∨z∈ksM μ':=λz=>by simp[cr]
 generalize v0:(A.filter λa=>decide (a∉ksM μ))++ksM μ'=A2 at U;have sub:∀z∈A2,z∈A':=λz O=>by
  rcases (U z).mp O with h | h
  .exact sb z h.1 h.2
  .obtain⟨d,hd⟩:=dN h;exact (ct _ hd).1
 have pl:Same (hid A H1) (hid A2 H'):=λb u F=>by
  unfold hid at F;split at F
  .cases F
  .rename_i Y;rw[Ao]
   .exact sm b u (λz=>Y (W.inA z)) F
   .intro z
    rcases (U b).mp z with h | h
    .exact Y h.1
    .rcases fr b h with y | y
     .exact Y (W.inA y)
     .rw[y] at F;cases F
 have T:∀(i:Nat) (e:D) (q:Addr),ρ[i]?=Y2 (.ow e)->σ[i]?=Y2 (Y2 (.ref q))->q∈A->q∉ksM μ/\q∉ksM μ'/\q∉A0:=λi e q S Z h3=>by
  have n:=W.w.ow0 i e q S Z;have n1:q∉ksM μ:=λz=>n (fE _ z);refine⟨n1,λz=>?_,λz=>n (eK _ z)⟩
  rcases fr q z with y | y
  .exact n1 y
  .exact (W.w.ok.live q h3).ne y
 have J:∀z,z∈A->z∉ksM μ->H' z=H1 z:=λz O nz=>by
  cases e:H1 z with
  |none=>exact absurd e (W.w.ok.live z O).ne
  |some u=>exact sm z u nz e
 have u0:Okp G A2 σ H' ρ:=by
  refine⟨W.w.ok.len,λz O=>lv z (sub z O),λi e h=>?_,λi e h=>?_,W.w.ok.inj⟩
  .obtain⟨v,q1,q2⟩:=W.w.ok.fz i e h;exact⟨v,q1,q2.mono pl⟩
  .obtain⟨q,q1,q2,q3⟩:=W.w.ok.ow i e h;have n:=T i e q h q1 q2;exact⟨q,q1,(U q).mpr (.inl ⟨q2,n.1⟩),q3.keep (J q q2 n.1) pl⟩
 have L:∀z,z∈(A2.filter λa=>decide (a∉ksM μ'++A0))↔z∈A2/\z∉ksM μ'++A0:=λz=>by simp[cr]
 have I:∀z∈ksM μ'++A0,z∈A2:=λz O=>by
  rcases dv.mp O with h | h
  .exact (U z).mpr (.inr h)
  .exact (U z).mpr (.inl ⟨W.subA0 z h,λy=>W.n0 y h⟩)
 refine k v H' d μ' A2 (hid (A2.filter λa=>decide (a∉ksM μ'++A0)) H') kd ⟨⟨Aj,I,λz O=>?_,λz O h=>?_,u0,λi e q S Z z=>?_,W.w.lt⟩,λb u F=>?_,W.l0,λz O=>?_,nd,λq hq=>((ct q hq).2).sub sub⟩ (rv.mono (DQ sub))
 .by_cases y:z∈ksM μ'++A0
  .exact .inl y
  .right;unfold hid;rw[if_pos ((L z).mpr ⟨O,y⟩)]
 .rw[Ao (λy=>((L z).mp y).2 O)] at h;exact (lv z (sub z (I z O))).ne h
 .obtain⟨q',q1,q2,_⟩:=W.w.ok.ow i e S;rw[Z] at q1;cases q1;have n:=T i e q S Z q2
  rcases dv.mp z with y | y
  .exact n.2.1 y
  .exact n.2.2 y
 .have S:=W.same b u F;have Y:b∉ksM μ:=λz=>by rw[W.nf b z] at F;cases F
  rw[Ao]
  .exact sm b u Y S
  .intro z;obtain⟨z1,z2⟩:=(L b).mp z
   rcases (U b).mp z1 with y | y
   .rcases W.fr y.1 with x | x
    .exact z2 (eK _ x)
    .rw[x] at F;cases F
   .exact z2 (fE _ y)
 .rcases fr z O with y | y
  .exact W.nf z y
  .exact W.same.free y
theorem Yr{k:Nat}{Z:GM}(F:FnOk X.prog X.w X.K X.mg X.base CX0 k f fd ps (spM G Z))(hr:Room k X.A)(hg:Gl X x)(hm:X.mg x=Y2 (.ref f))(hk:dS X.K (.ref f)=U2)(hb:Binds X.K fd ps [])(ha:PFA X G (a::es) fs)(J:(x==("__debug__":Str))=T2:=by decide)(he:ai (a::es) X.env=(T2,eval a X.env)::ai es X.env:=by rfl)(z:(br pos (ai es X.env)).any (·.1)=T2:=by rfl):
  PMX X G (.Call (.Name x p) (a::es) [] pos) (calX Z fs):=λA0 He S s L H Q I ⟨O,μ,K,⟨A,Hb,w⟩,⟨ds,e1,e2⟩,k⟩=>by
 refine Jk F hr hg hm hk hb .nil JM (@ha A) J he z S s L H Q I ⟨O,ds,w.w.ok,e1,λT H1 U Y=>?_⟩;have W:=w.mono U;show spM G Z (T++[]) H1 Q E0;rw[dL];exact gZ W Y e2 k
theorem J5{F:Hp}{J:Mu}(L:∀p∈J,Rep G F (.ref p.1) p.2):∀(n:Nat) {v:V}{d:D},Rep G F v d->Rep G F v (der n J d)
 |0,v,d,r=>r
 |n+1,v,d,r=>by
  have I:∀{S:List D}{i:Nat}{e:D},(S.map (der n J))[i]?=Y2 e->∃e0,S[i]?=Y2 e0/\e=der n J e0:=λ{S i e} h=>by
   rw[be] at h;cases q:S[i]? with
   |none=>rw[q] at h;cases h
   |some e0=>rw[q] at h;exact⟨e0,rfl,(bE h).symm⟩
  cases r with
  |non=>exact .non
  |bl b=>exact .bl b
  |int i=>exact .int i
  |str x=>exact .str x
  |tup h l k=>
   refine .tup h (by rw[aw];exact l) λi x e O z=>?_;obtain⟨e0,q1,rfl⟩:=I z;exact J5 L n (k i x e0 O q1)
  |lst h l k=>
   refine .lst h (by rw[aw];exact l) λi x e O z=>?_;obtain⟨e0,q1,rfl⟩:=I z;exact J5 L n (k i x e0 O q1)
  |dk h l k=>
   refine .dk h (by rw[cS];exact l) λi x e O z=>?_;rw[cS,be] at z;rename_i T;cases q:T[i]? with
   |none=>rw[q] at z;cases z
   |some e0=>
    rw[q] at z;cases z;exact J5 L n (k i x e0.2 O (by rw[be,q];rfl))
  |dt h l k=>exact .dt h l k
  |adr a=>
   show Rep G F _ (match J.lookup a with | some c=>der n J c | none=>.adr a);cases e:J.lookup a with
   |none=>exact .adr a
   |some c=>exact J5 L n (L _ (lookup_mem e))
  |ob c h l k=>exact .ob c h l k
  |err c h q f=>exact .err c h q f
  |mem h=>exact .mem h
end
def Itv(K:av)(a:Addr)(n:Nat):It:=
 ⟨λi H=>(∃xs,SqL K H a xs/\xs.length=n)/\i<n,λi H x z=>z=H/\∀xs,SqL K H a xs->xs[n-1-i]?=Y2 x,λi H=>n<=i⟩
theorem Ys{w:ag}{K:av}(a it:Addr)(n:Nat):Turn P w K tg (Itv K a n) [it] it (λi h=>i<=n/\h.IsRevIter it a ((n:Int)-1-(i:Nat))) where
 mem:=by simp
 obj:=λi h U b J=>by
  have e:b=it:=by simpa using J
  subst e;obtain⟨_,o,e,c,d⟩:=U;exact⟨o,e,λv z=>by rw[d] at z;cases z⟩
 keep:=λi h O U k=>⟨U.1,U.2.at λo e=>k it (by simp) o e⟩
 item:=by
  intro X Y T Z hc i π s σ H E I L U W;subst Y T Z;obtain⟨⟨S,hq,hn⟩,hi⟩:=W;obtain⟨u0,rv,p,hz⟩:=I.list hq;have hx:S[n-1-i]?=Y2 (S[n-1-i]'(by omega)):=by simp[show n-1-i<S.length by omega]
  obtain⟨u,hu,ru⟩:=rv.get hx;obtain⟨f0,f1,f2,f3,f4,f5⟩:=L it (by simp);have e1:(n:Int)-1-(i:Nat)=((n-1-i:Nat):Int):=by omega
  have e2:((n-1-i:Nat):Int)-1=(n:Int)-1-((i+1:Nat):Int):=by omega
  replace U:=U.2;rw[e1] at U;refine wpAny_pyNext_rev_item U p.isList (x:=u) (by simpa using hu) λO F sb=>?_;rw[e2] at F;have I1:Inv X π σ H { s with heap:=O }:=I.turned (t':=s.toks) (λb o J e=>(sb.2 b J).trans e) f0 f1 f3 f4 f5;obtain⟨o,e,c,d⟩:=id F;exact⟨u,rfl,Og (s:={ s with heap:=O }) e c d (by decide) ⟨_,H,I1,ru,⟨rfl,λys hy=>by rw[I.list_inj hy hq];exact hx⟩,⟨hi,F⟩,λb J=>(L b J).1⟩⟩
 done:=by
  intro X Y T Z hc i π s σ H E I L U W;subst Y T Z;obtain⟨f0,f1,f2,f3,f4,f5⟩:=L it (by simp);have e1:(n:Int)-1-(i:Nat) = -1:=by have:n<=i:=W;have:=U.1;omega
  replace U:=U.2;rw[e1] at U;exact wpAny_pyNext_rev_end (I.ok.hd hc) U λO eb=>⟨rfl,I.turned (t':=s.toks) (λb o J e=>eb b o J e) f0 f1 f3 f4 f5⟩
 self:=λ_ _ _ _ _ U h=>rh U.2 h
theorem boot_reversed:dc "reversed"=Y2 (.type "reversed"):=by decide +kernel
section
variable {a:Expr}{fa:FE}{p:Pos}{ta:TA}
def iRev(K:av)(I:TA):TI:=λF H R=>I F H λvs z=>∃a xs,vs=[.ref a]/\SqL K z a xs/\R (Itv K a xs.length) z
theorem gf(hg:Gl X "reversed")(hm:X.mg "reversed"=X2)(ha:PA X [a] ta)(Y:ai [a] X.env=[(T2,eval a X.env)]:=by rfl):PI X tg (.Call (.Name "reversed" p) [a] [] pos) (iRev X.K ta):=by
 intro S s O H R I h;refine Call_ (Mm I hg hm boot_reversed (o6 (thn (ha pos S s O H _ I h) λus z ⟨vs,H1,F,W,q1⟩=>?_) Y rfl));obtain⟨l,L,e,Z,q⟩:=q1;subst e;cases W with
 |cons r U=>
  cases U;cases r;obtain⟨J,T,p,hz⟩:=F.list Z;refine call_reversed_list p.isList ?_;have hl:=T.length;have e1:((J.toArray.size:Nat):Int)-1=(L.length:Int)-1-((0:Nat):Int):=by simp[hl]
  rw[e1];refine rh ⟨_,cb _ rfl,rfl,rfl⟩ ?_;refine⟨z.heap.objs.size,[z.heap.objs.size],_,_,H1,rfl,F.kept (t':=z.toks) λb o e=>bq _ e,Ys l _ L.length,⟨eA _,_,cb _ rfl,rfl,rfl⟩,λb hb=>?_,q⟩;have e:b=z.heap.objs.size:=by simpa using hb
  subst e;exact F.fpOk (ax _) (F.hok.fresh (ax _))
def revI(f:FE):FI:=λρ=>match f ρ with | some (.lst ds)=>Y2 ds.reverse | _=>X2
theorem bC{p:Addr}(h:SqL G.K F1 p xs)(r:RepL G F2 xs ds):Src G (Itv G.K p xs.length) ds.reverse F1 F2 where
 go:=λi H s z=>⟨⟨xs,s.seq h,rfl⟩,by rw[pr,<-r.1] at z;exact z⟩
 yld:=λi H x I d s F y=>Jd ⟨y.1,by
  have z:i<ds.length:=by have:=(de.mp F).1;rwa [pr] at this
  rw[List.getElem?_reverse z,<-r.1] at F;exact r.2 _ x d (y.2 xs (s.seq h)) F⟩
 stop:=λi H s z=>by rw[pr,<-r.1] at z;exact z
theorem VM(U:G.K=X.K)(T:Gl X "reversed")(O:X.mg "reversed"=X2)(h:PF X G a fa)(z:ai [a] X.env=[(T2,eval a X.env)]:=by rfl):PFI X G T2 tg (.Call (.Name "reversed" p) [a] [] pos) (revI fa):=λA=>M7 (gf T O (CQ (@h A) Ep z) z) λZ H R ⟨F,ds,o,e,k⟩=>by
 unfold revI at e;split at e
 .rename_i W S;cases e;refine⟨F,_,o,S,λv Y J L=>?_⟩;cases L with
  |lst h l r=>
   rename_i b I;refine⟨b,I,rfl,by rw[<-U];exact Aj.seq h,?_⟩;rw[<-U];exact k _ Y J (bC h ⟨l,r⟩)
 .cases e
end
section
open PySem.MeetsSeq PySem.SeqAt
end
def remL(x:D):List D->Option (List D)
 |[]=>X2
 |d::r=>match eqK 62 d x with | some U2=>Y2 r | some T2=>(remL x r).map (d::·) | none=>X2
section
def remM:D->List D->Option (D×D)
 |.lst ds,[x]=>if ds.all (λd=>(eqK 62 d x).isSome)=U2 then (remL x ds).map λz=>(.non,.lst z) else X2
 |_,_=>X2
def appM:D->List D->Option (D×D)
 |.lst ds,[x]=>if ds.length<sizeLine then Y2 (.non,.lst (ds++[x])) else X2
 |_,_=>X2
theorem Rc:SndM G Ug appM:=λA H l vs c ds v c' Q lv U t r e k=>by
 unfold appM at e;split at e
 .rename_i Y x;split at e
  .rename_i O;cases e;obtain⟨F,T,z⟩:=t;obtain⟨y,Z,rfl,I,L⟩:=r.uncons;have W:=L.nil_inv;subst W;refine⟨l,F,y,rfl,rfl,T,by rw[z.1];exact O,k _ _ (λb o J S=>by rw[Ag J];exact S) ⟨_,Ah,?_⟩ .non⟩;rw[CT U];exact z.append (.cons I .nil)
  .cases e
 .cases e
theorem Tv{l:Addr}(t:Top G A H l (.lst ds)):tyV X.K "list" (.ref l) H:=by
 obtain⟨z,h,_⟩:=t;exact .inl ⟨rfl,z,.of h⟩
theorem Yt(A:List Addr)(H:Hp)(l:Addr)(c:D)(ds:List D)(z:D×D)(e:appM c ds=Y2 z)(t:Top G A H l c):tyV X.K "list" (.ref l) H:=by
 unfold appM at e;split at e
 .exact Tv t
 .cases e
end
section
variable {a:Expr}{fa:FE}{p2 p:Pos}{h:FZ}
def jl(te:TE):TE:=λF H Q=>te F H λx z=>∃d kvs,x=.ref d/\Rd z d (.dK kvs)/\∀r,z r=X2->Q (.ref r) (upd z r (.ext λh=>h.IsValuesView r d))
theorem Wf(ha:PE X a te)(O:d4 a "values" X.env (eval a X.env)=eval a X.env:=by rfl)(L:(apos.endLine==cpos.line)=U2:=by rfl):
  PE X (.Call (.Attribute a "values" apos) [] [] cpos) (jl te):=by
 intro Z s Y H R I h;refine qQ (T:="dict") (id:="dict.values") O rfl L qR rj F.type_dict_values (thn (ha Z s Y H _ I h) λv J ⟨x,H1,U,r1,q1⟩=>?_);obtain⟨d,v0,e,hq,q⟩:=q1;subst e;cases r1;obtain⟨z,hd,vs,u0,S⟩:=Ho U.hok hq;refine⟨S.typeIs,S.mapOf.noDict,?_⟩;show af _ _ (kO cpos (.builtin "dict.values") [.ref d] [] []) _ _ J;refine method_meetsIn rj F.entry_dict_values rfl (oE ⟨rfl,S.typeIs,F.args_dict_values_1 _,_,meets_dict_values (Ar X.prog X.w) d hd,⟨vs,S⟩,?_⟩);have W:(J.heap.push { cls:=.type "dict_values",data:=.fields #[.ref d] }).get? J.heap.objs.size=Y2 { cls:=.type "dict_values",data:=.fields #[.ref d] }:=cb _ rfl;exact⟨.ref J.heap.objs.size,_,U.laid (a:=J.heap.objs.size) (t':=J.toks) (λb o e=>bq _ e) (ax _) (show BK X.prog X.w _ _ J.heap.objs.size (.ext λh=>h.IsValuesView J.heap.objs.size d) from⟨⟨_,W,rfl,rfl⟩,⟨_,W⟩,λh1 h2 ⟨o,e1,e2,e3⟩ kk=>⟨o,kk _ e1,e2,e3⟩⟩),rfl,q _ (U.hok.fresh (ax _))⟩
theorem Rf:∀{xs:List V}{us:List ac},us.length=xs.length->(∀(j:Nat) u,us[j]?=Y2 u->∃x,xs[j]?=Y2 x/\RelV x u)->Vals xs us
 |[],[],_,_=>.nil
 |[],_::_,h,_=>by simp at h
 |_::_,[],h,_=>by simp at h
 |x::xs,u::us,h,k=>by
  obtain⟨y,F,z⟩:=k 0 u rfl;cases F;exact .cons z (Rf (by simpa using h) λj u S=>by simpa using k (j+1) u (by simpa using S))
theorem Nh(hc:X.calm=U2):Df X (.type "list") (λxs H Q=>∃r p kvs,xs=[.ref r]/\H r=Y2 (.ext λh=>h.IsValuesView r p)/\Rd H p (.dK kvs)/\∀l,H l=X2->Q (.ref l) (upd H l (.lst (kvs.map λq=>q.2)))):=by
 intro π s σ H xs us Q I rs h;obtain⟨r,p,kvs,rfl,er,e,q⟩:=h;obtain⟨u,rfl,ru⟩:=rs.one;cases ru;obtain⟨z,hd,L,F,T⟩:=Ho I.hok e;obtain⟨Z,T⟩:=T.dictAt;have Y:kvs.length=L.length:=F.length;obtain⟨vw,_,_⟩:=(show BK X.prog X.w H s.heap r (.ext λh=>h.IsValuesView r p) from I.hok r _ er);refine p4 (PySem.W.kdl_values (knd:=Ar X.prog X.w) (kvs:=L) (ep:=Z)) (I.ok.hd hc) ⟨vw,T⟩ (by omega) λh' tk J c' kp hn S=>?_;have va:Vals (kvs.map λq=>q.2) J.toList:=by
  refine Rf (by rw[aw,Y,lr];exact S.1) λj u hu=>?_;obtain⟨k,U⟩:=S.2 j u (by rw[<-Array.getElem?_toList];exact hu);have O:j<kvs.length:=by rw[Y];exact (de.mp U).1
  exact⟨kvs[j].2,by rw[be,cy O];rfl,(FJ F (cy O) U).2⟩
 exact⟨.ref s.heap.objs.size,_,I.laid (t':=tk) kp (ax _) (show BK X.prog X.w _ h' _ (.lst (kvs.map λq=>q.2)) from⟨by rw[aw];exact z,J.toList,c',va,by simpa using hn⟩),rfl,q _ (I.hok.fresh (ax _))⟩
def Hs:D->Option D
 |.dk z=>Y2 (.lst (z.map (·.2)))
 |_=>X2
theorem VN(hc:X.calm=U2)(hg:Gl X "list")(hm:X.mg "list"=X2)(ha:PF X G a fa)(I:d4 a "values" X.env (eval a X.env)=eval a X.env:=by rfl)(F:(apos.endLine==cpos.line)=U2:=by rfl)(Y:ai [Expr.Call (.Attribute a "values" apos) [] [] cpos] X.env=[(T2,eval (.Call (.Attribute a "values" apos) [] [] cpos) X.env)]:=by rfl):
  PF X G (.Call (.Name "list" p) [.Call (.Attribute a "values" apos) [] [] cpos] [] pos) (uF Hs fa):=λA=>Bt (Kh (Nh hc) hg hm L_ (CQ (Wf (@ha A) I F) Ep Y) (by decide) (by decide) Y rfl) λσ H Q ⟨Z,d,o,e,k⟩=>by
 obtain⟨x,e1,L⟩:=Ju e;unfold Hs at L;split at L
 .rename_i O;cases L;refine⟨Z,_,o,e1,λv T U r1=>?_⟩;cases r1 with
  |dk h l r=>
   rename_i b ob z;refine⟨b,z,rfl,.inr ⟨_,Aj _ _ h⟩,λw W=>⟨w,b,z,rfl,Ah,.inr ⟨ob,?_⟩,λc J=>?_⟩⟩
   .rw[Ag (Bw (Aj _ _ h) W)];exact Aj _ _ h
   .have S:Same T (upd T w (.ext λh=>h.IsValuesView w b)):=Ak W _;have rl:RepL G (hid A T) (z.map (·.2)) (O.map (·.2)):=⟨by have:=congrArg cw l;rwa [aw,aw] at this ⊢,r⟩;exact k _ _ (U.trans (S.trans (Ak J _))) (Bb ((o.mono U).mono S).live J (rl.mono (Al S)))
 .cases L
end
section
variable {t u:Str}{elt iter:Expr}{ifs:List Expr}{ga:FT}{p1 p2 pt:Pos}{k1:Nat}
end
open Classical in
noncomputable def theD(g:GM)(P:List D->D->Prop):List D->Option D:=λds=>if h:∃d,g ds [] (λd' _=>d'=d)/\P ds d then Y2 (choose h) else X2
theorem bD{g:GM}{P:List D->D->Prop}(h:theD g P ds=Y2 d):g ds [] (λd' _=>d'=d):=by
 unfold theD at h;split at h
 .rename_i q;cases h;exact (ro q).1
 .cases h
theorem bG{g:GM}{P:List D->D->Prop}(h:g ds [] λd' _=>d'=d)(p:P ds d):∃e,theD g P ds=Y2 e/\P ds e:=by
 have q:∃d,g ds [] (λd' _=>d'=d)/\P ds d:=⟨d,h,p⟩;exact⟨Classical.choose q,dif_pos q,(ro q).2⟩
section
variable {a:Expr}{fs:FA}{h:FXM}
theorem fM{k:Nat}{p:Pos}{d:Dx X.K X.mg x st ps}{g:GM}(F:FnOk X.prog X.w X.K X.mg X.base CX0 k d.f d.fd ps (spM G g))(L:Room k' X.A)(S:PFA X G (a::es) fs)(I:k<=k':=by omega)(T:Gl X x:=by rfl)(J:(x==("__debug__":Str))=T2:=by decide)(O:ai (a::es) X.env=(T2,eval a X.env)::ai es X.env:=by rfl)(z:(br pos (ai es X.env)).any (·.1)=T2:=by rfl):PMX X G (.Call (.Name x p) (a::es) [] pos) (calX g fs):=Yr F (L.mono I) T d.m d.F.kp d.B S J O z
theorem sXM(O:X.N.Nodup)(i:Nat){x:Str}{p:Pos}(L:PMX X G a h)(I:X.N[i]?=Y2 x:=by rfl)(z:Loc X.env.scope x:=by first | exact fm rfl | exact dE rfl)(F:dA a (Y2 (.Name x p)) pos.line X.env=pure T2:=by rfl)(J:X.fn x=U2∨X.env.scope.names.lookup x=Y2 .local :=by first | exact .inl rfl | exact .inr rfl | assumption):PSM X G (.Assign [.Name x p] a pos) (Nb i h):=Yq (λ_ h=>SN O I z h F J) L
theorem mApp(js:List Nat)(J:PE X (.Name x xpos) (tVar i))(O:PFA X G [a] fs)(F:d4 (.Name x xpos) "append" X.env (eval (.Name x xpos) X.env)=eval (.Name x xpos) X.env:=by rfl)(I:((br pos (ai [a] X.env)).all (λx=>!x.1)&&(fF pos (fI [] X.env)).all (λx=>x.1.isSome)&&decide ([a].length+([]:List eL).length+(if ([]:List eL).isEmpty then 0 else 1)<30))=U2:=by rfl)(z:(apos.endLine==pos.line)=U2:=by rfl)(L:ai [a] X.env=[(T2,eval a X.env)]:=by rfl):PMX X G (.Call (.Attribute (.Name x xpos) "append" apos) [a] [] pos) (mutX i js appM fs):=
 VL js mf oV oW I_ Rc Yt J O F I z L rfl
end
theorem fnM{w:ag}{base:Heap}{k:Nat}{b:FM}(d:Dx G.K mg x st ps)(S:FnScope N ps (Ab st))(I:∀(cdv:ac) (A:ar) (z:List Env) (s:ae) (H:Hp) (E:XK),Room k (A.deeper (dn x (Ab st) s.heap.objs.size d.f cdv))->PSMs (cxOf CX0 P w G.K mg base N x (Ab st) d.f cdv A z s H E).nox G (A_ st) b)(Y:ps.length<=N.length:=by decide):
  FnOk P w G.K mg base CX0 (k+1) d.f d.fd ps (spM G (runM N.length ps.length b)):=fn_M d.F S Y I
theorem fnDM{w:ag}{base:Heap}{k:Nat}{b:FM}{Pr:List D->D->Prop}(d:Dx G.K mg x st ps)(S:FnScope N ps (Ab st))(I:∀(cdv:ac) (A:ar) (z:List Env) (s:ae) (H:Hp) (E:XK),Room k (A.deeper (dn x (Ab st) s.heap.objs.size d.f cdv))->PSMs (cxOf CX0 P w G.K mg base N x (Ab st) d.f cdv A z s H E).nox G (A_ st) b)(Y:ps.length<=N.length:=by decide):
  FnOk P w G.K mg base CX0 (k+1) d.f d.fd ps (spD G (theD (runM N.length ps.length b) Pr)):=jk d.F S Y I λJ L h=>bD h
end PV
namespace PV
open PySem PySem.Spec PySem.Calls L2 EX
open PyProof.Rows hiding St
section
variable {w:ag}{A:ar}{r l:Addr}{items:Array ac}
end
section
variable {a:Expr}{fa:FE}{p pos2 p2:Pos}
end
end PV
namespace PV
open PySem PySem.Spec L2 EX
open PyProof.Rows hiding St
section
variable {a b c:Expr}{fa fb:FE}{ga:FT}{p2 p:Pos}{body:List Stmt}{fs:FA}{g gs gb:FM}{h:FXM}
theorem Tw(e:Aa fa fs ρ=Y2 ds):∃x xs,fa ρ=Y2 x/\fs ρ=Y2 xs/\ds=x::xs:=by
 unfold Aa at e;cases z:fa ρ with
 |none=>simp[z] at e
 |some d=>
  cases F:fs ρ with
  |none=>simp[z,F] at e
  |some I=>
   simp[z,F] at e;exact⟨d,I,rfl,rfl,e.symm⟩
end
section
variable {a b:Expr}{fs:FA}
end
def rIns:V->List V->Hp->VK->Prop:=λx vs H Q=>∃l xs i y,x=.ref l/\vs=[.int i,y]/\H l=Y2 (.lst xs)/\0<=i/\i.toNat<=xs.length/\xs.length<sizeLine/\Q .non (upd H l (.lst (xs.take i.toNat++y::xs.drop i.toNat)))
section
variable {a b:Expr}{fs:FA}
theorem bH{i:Int}(I:0<=i)(h:i.toNat<=16777216):¬(!Builtin.List.listFitsIndex i)=U2:=by
 have e:rA i=U2:=by
  unfold rA;rw[eD,decide_eq_true_eq,decide_eq_true_eq];omega
 rw[e];exact cp
theorem bI(z:List ac)(u:ac){i:Int}(I:0<=i)(h:i.toNat<=z.length):(λxs:Array ac=>have k:=if i<0 then (i+((xs.size:Nat):Int)).toNat else min i.toNat xs.size;(xs.extract 0 k).push u++xs.extract k) z.toArray=(z.take i.toNat++u::z.drop i.toNat).toArray:=by
 show (z.toArray.extract 0 (if i<0 then (i+((z.toArray.size:Nat):Int)).toNat else min i.toNat z.toArray.size)).push u++z.toArray.extract (if i<0 then (i+((z.toArray.size:Nat):Int)).toNat else min i.toNat z.toArray.size)=_;rw[if_neg (by omega),bP,Nat.min_eq_left h];apply Array.ext';simp;exact oP (by rw[io];exact ax _)
theorem gj:MtM X "list.insert" rIns:=by
 intro π s σ H x vs v us Q I rx U h;obtain⟨l,S,i,y,rfl,rfl,L,O,hk,hz,q⟩:=h;cases rx;obtain⟨ui,u,rfl,Y,W⟩:=U.two;obtain⟨t,rfl⟩:=Y;obtain⟨z,J,n,r,hl,e⟩:=I.lstM L;have ll:S.length=J.length:=r.length;have Z:J.toArray.size<=sizeLine:=by rw[bP];omega
 have T:sizeLine=16777216:=rfl;have M:=PySem.AutoListH.list_insert_list_int_val_1 l J.toArray n i t u (bH O (by omega)) Z;clear T;refine mX F.slot_list_insert ⟨_,e,rfl⟩ F.entry_list_insert (F.args_list_insert_3 _ _ _) M ⟨e,?_⟩;refine⟨.non,_,I.lset (its':=J.take i.toNat++u::J.drop i.toNat) L e (bI J u O (by omega)) ((r.take _).append (.cons W (r.drop _))) ?_,rfl,q⟩;rw[eP,df,ij,io];omega
def insM:D->List D->Option (D×D)
 |.lst ds,[.int i,x]=>if 0<=i/\i.toNat<=ds.length/\ds.length<sizeLine then Y2 (.non,.lst (ds.take i.toNat++x::ds.drop i.toNat)) else X2
 |_,_=>X2
theorem Yu:SndM G rIns insM:=λA H l vs c ds v c' Q lv Y t r e k=>by
 unfold insM at e;split at e
 .rename_i zs i x;split at e
  .rename_i O;cases e;obtain⟨I,h1,z⟩:=t;obtain⟨y,ys,rfl,T,S⟩:=r.uncons;obtain⟨Z,F,rfl,L,J⟩:=S.uncons;have e0:=J.nil_inv;subst e0;cases T;refine⟨l,I,i,Z,rfl,rfl,h1,O.1,by rw[z.1];exact O.2.1,by rw[z.1];exact O.2.2,k _ _ (λb o U W=>by rw[Ag U];exact W) ⟨_,Ah,?_⟩ .non⟩;rw[CT Y];exact (z.take _).append (.cons L (z.drop _))
  .cases e
 .cases e
theorem gk(A:List Addr)(H:Hp)(l:Addr)(c:D)(ds:List D)(z:D×D)(e:insM c ds=Y2 z)(t:Top G A H l c):tyV X.K "list" (.ref l) H:=by
 unfold insM at e;split at e
 .exact Tv t
 .cases e
theorem mIns(js:List Nat)(O:PE X (.Name x xpos) (tVar i))(T:PFA X G [a,b] fs)(I:d4 (.Name x xpos) "insert" X.env (eval (.Name x xpos) X.env)=eval (.Name x xpos) X.env:=by rfl)(J:((br pos (ai [a,b] X.env)).all (λx=>!x.1)&&(fF pos (fI [] X.env)).all (λx=>x.1.isSome)&&decide ([a,b].length+([]:List eL).length+(if ([]:List eL).isEmpty then 0 else 1)<30))=U2:=by rfl)(z:(apos.endLine==pos.line)=U2:=by rfl)(S:ai [a,b] X.env=(T2,eval a X.env)::ai [b] X.env:=by rfl)(L:(br pos (ai [b] X.env)).any (·.1)=T2:=by rfl):PMX X G (.Call (.Attribute (.Name x xpos) "insert" apos) [a,b] [] pos) (mutX i js insM fs):=
 VL js mf PySem.F.slot_list_insert PySem.F.type_list_insert gj Yu gk O T I J z S L
end
end PV
namespace PV
open PySem
open PySem.SetTable (below insertAt Probe Met)
end PV
namespace PV
open PySem PySem.Spec L2
section
variable {w:ag}{A:ar}
end
section
variable {A:ar}{F:List (List Key)->Int}
end
open PyProof.Rows (isTrue_and isTrue_not isTrue_and_nil)
section
end
section
variable {w:ag}{A:ar}
end
end PV
namespace PV
open PySem PySem.Spec L2
open PySem.SetTable (insertAt)
section
variable {w:ag}{A:ar}
end
section
variable {w:ag}{A:ar}{R:gT->ae->Prop}{I:Addr}{wr:List Addr}{P:Nat->ac->Prop}{Sx:Nat->Heap->Prop}{B:Addr->Prop}
end
end PV
namespace PV
open PySem PySem.W PyProof.Rows
section
variable {key:Nat->Nat}
variable (inj:∀i j,i<n->j<n->key i=key j->i=j)
include inj
omit inj
include inj
omit inj
include inj
end
end PV
namespace PV
open PySem PySem.Spec L2 PySem.W
open PyProof.Rows (seqObj listItems_at listUpdate_at seqEpoch_at list_sort_plain sortedHeap get?_update_seq keyLt' tuples' keyKind' oneLt' oneLt_int arrOf failedOf SortSt general' pairsOf)
section
variable {w:ag}{A:ar}
end
end PV
namespace PV
open PySem PySem.Spec L2
section
variable {w:ag}{A:ar}{I:Addr}{es:Array (Int×ac)}{t:ng}
end
section
variable {w:ag}{A:ar}{I T:Addr}
end
section
end
section
variable {a:Expr}{fa:FE}
end
open PyProof.Rows hiding St
section
variable {a b:Expr}{fa fb:FE}{p kpos:Pos}
end
section
end
section
variable {w:ag}{A:ar}
end
section
variable {a:Expr}{fa:FE}{ta:TA}{p:Pos}
end
end PV
namespace PV
open PySem PySem.Spec L2
open PyProof.Rows (isTrue_and isTrue_not isTrue_and_nil envOfC)
section
variable {a:Expr}{fa:FE}{p:Pos}
end
section
end
section
variable {K:av}{a b:Str}{C1:Addr}{l:List (Str×Addr)}
end
end PV
namespace PV
open PySem PySem.Spec L2 EX
open PyProof.Rows hiding St
section
variable {K:av}{a b:Str}{C1 R:Addr}{m l:List (Str×Addr)}{kV:ac}{cs ns:List Str}{cv:List ac}
end
section
variable {Hb:Hp}
end
def mutE(I:FE)(g:D->List D->Option (D×D))(fs:FA):FXM:=λρ z K=>∃a ds c v F,I ρ=Y2 (.adr a)/\fs ρ=Y2 ds/\z.lookup a=Y2 c/\g c ds=Y2 (v,F)/\K v (putA a F z)
section
variable {a c ob:Expr}{fa fo:FE}{fs:FA}{h:FXM}
theorem Yv{T id:String}{r:V->List V->Hp->VK->Prop}{Z:D->List D->Option (D×D)}(pa:mW T)(O:rf T name id)(U:typeOf (.builtin id)=pure (.type "method_descriptor"))(hm:MtM X id r)(sn:SndM G r Z)(tv:∀(A:List Addr) (H:Hp) (l:Addr) (c:D) (ds:List D) (vc:D×D),Z c ds=Y2 vc->Top G A H l c->tyV X.K T (.ref l) H)(ho:PF X G ob fo)(ha:PFA X G (a::es) fs)(J:d4 ob name X.env (eval ob X.env)=eval ob X.env:=by rfl)(L:((br pos (ai (a::es) X.env)).all (λx=>!x.1)&&(fF pos (fI [] X.env)).all (λx=>x.1.isSome)&&decide ((a::es).length+([]:List eL).length+(if ([]:List eL).isEmpty then 0 else 1)<30))=U2:=by rfl)(F:(apos.endLine==pos.line)=U2:=by rfl)(hs:ai (a::es) X.env=(T2,eval a X.env)::ai es X.env:=by rfl)(Y:(br pos (ai es X.env)).any (·.1)=T2:=by rfl):
  PMX X G (.Call (.Attribute ob name apos) (a::es) [] pos) (mutE fo Z fs):=λA0 He π s σ H Q I ⟨ρ,μ,K,⟨A,Hb,w⟩,⟨l,ds,c,v,c',e0,e1,hl,e2,q⟩,k⟩=>by
 have z:=lookup_mem hl;refine XF pa O U hm (@ho A) (@ha A) J L F hs Y π s σ H Q I ⟨ρ,.adr l,w.w.ok,e0,λx H0 s0 r0=>?_⟩;cases r0;have S:=w.mono s0;refine⟨tv _ _ _ _ _ _ e2 (S.top _ z),ρ,ds,S.w.ok,e1,λvs H1 s1 r1=>?_⟩;have W:=S.mono s1;exact sn A H1 l vs c ds v c' Q W.w.ok.live (w.inA (Bx z)) (W.top _ z) r1 e2 λvv H' sx t rv=>k vv H' v _ A _ q (W.wr (Bx z) sx t) rv
theorem Yw(L:PF X G ob fo)(O:PFA X G [a] fs)(F:d4 ob "append" X.env (eval ob X.env)=eval ob X.env:=by rfl)(I:((br pos (ai [a] X.env)).all (λx=>!x.1)&&(fF pos (fI [] X.env)).all (λx=>x.1.isSome)&&decide ([a].length+([]:List eL).length+(if ([]:List eL).isEmpty then 0 else 1)<30))=U2:=by rfl)(z:(apos.endLine==pos.line)=U2:=by rfl)(J:ai [a] X.env=[(T2,eval a X.env)]:=by rfl):PMX X G (.Call (.Attribute ob "append" apos) [a] [] pos) (mutE fo appM fs):=
 Yv mf oV oW I_ Rc Yt L O F I z J rfl
end
def Fzn(H z:Hp):Prop:=∀b,z b=H b∨∃o kvs,H b=Y2 (.dK kvs)/\z b=Y2 (.frz o (.dK kvs))
def thw(H z:Hp):Hp:=λb=>match H b with | some (.dK kvs)=>Y2 (.dK kvs) | _=>z b
theorem Yx(e:H b=Y2 (.dK kvs)):thw H H2 b=Y2 (.dK kvs):=by unfold thw;rw[e]
theorem JN(e:∀kvs,H b≠Y2 (.dK kvs)):thw H H2 b=H2 b:=by
 unfold thw;split
 .rename_i kvs q;exact absurd q (e kvs)
 .rfl
section
variable {s2:ae}
theorem Fzn.refl:Fzn H H:=λb=>.inl rfl
theorem Fzn.at2(f:Fzn H H1)(F:Same H1 H2){b:Addr}{kvs:List (Key×V)}(e:H b=Y2 (.dK kvs)):H2 b=Y2 (.dK kvs)∨∃o,H2 b=Y2 (.frz o (.dK kvs)):=by
 rcases f b with z | ⟨o,I,Z,Y⟩
 .exact .inl (F b _ (by rw[z];exact e))
 .rw[e] at Z;cases Z;exact .inr ⟨o,F b _ Y⟩
theorem Fzn.keep(f:Fzn H H1){b:Addr}(e:∀kvs,H b≠Y2 (.dK kvs)):H1 b=H b:=by
 rcases f b with z | ⟨o,kvs,z,_⟩
 .exact z
 .exact absurd z (e kvs)
theorem J6(f:Fzn H H1)(I:Same H1 H2):Same H (thw H H2):=λb u e=>by
 by_cases z:∃F,H b=Y2 (.dK F)
 .obtain⟨F,z⟩:=z;rw[Yx z,<-z];exact e
 .have S:∀F,H b≠Y2 (.dK F):=λF q=>z ⟨F,q⟩;rw[JN S];exact I b u (by rw[f.keep S];exact e)
theorem Inv.thaw(I:Inv X π σ H s)(f:Fzn H H1)(L:Same H1 H2)(S:Inv X π σ H2 s2):Inv X π σ (thw H H2) s2:=by
 have O:∀{b:Addr}{u:HO},H b=Y2 u->(∀F,u≠.dK F)->∀F,H b≠Y2 (.dK F):=λ{b u} e n F z=>by rw[e] at z;exact n F (bE z)
 have n0:∀{b:Addr},H b=X2->∀F,H b≠Y2 (.dK F):=λ{b} e F z=>by rw[e] at z;cases z
 have J:∀b,H2 b=X2->thw H H2 b=X2:=λb e=>by
  rw[JN λF z=>?_]
  .exact e
  .rcases f.at2 L z with q | ⟨o,q⟩<;>(rw[e] at q;cases q)
 refine⟨S.ok,S.os,S.bare,⟨S.base.keep,S.base.slot,λb o q n Z=>J b (S.base.free b o q n Z),S.base.there,λb T q=>?_,λb o u q=>?_,λb W q=>?_⟩,S.loc,S.cell,J _ S.free,λx c e=>J _ (S.freeC x c e),λp hp=>?_,λa u e=>?_,S.len⟩
 .rw[JN (O (I.base.tups b T q) λ_ z=>nomatch z)];exact S.base.tups b T q
 .rw[JN (O (I.base.frzs b o u q) λ_ z=>nomatch z)];exact S.base.frzs b o u q
 .obtain⟨m,e⟩:=I.base.tbls b W q;rw[JN (O e λ_ z=>nomatch z)];exact S.base.tbls b W q
 .obtain⟨q1,q2,q3⟩:=S.pin p hp;exact⟨q1,J _ q2,q3⟩
 .have U:∀{u:HO},BK X.prog X.w H2 s2.heap a u->BK X.prog X.w (thw H H2) s2.heap a u:=λ{u} x=>by
   refine x.stay (λ_ _ _ z=>z) (λb z=>?_) λb o Y z=>?_
   .rw[JN λF y=>?_]
    .exact z
    .rcases f.at2 L y with w | ⟨o,w⟩<;>(rw[z] at w;cases w)
   .rw[JN λF y=>?_]
    .exact z
    .rcases f.at2 L y with w | ⟨o',w⟩<;>(rw[z] at w;cases w;exact Y)
  by_cases z:∃F,H a=Y2 (.dK F)
  .obtain⟨F,z⟩:=z;rw[Yx z] at e;cases e
   rcases f.at2 L z with w | ⟨o,w⟩
   .exact U (S.hok a _ w)
   .exact U (show BK X.prog X.w H2 s2.heap a (.dK F) from (S.hok a _ w).2)
  .rw[JN λF q=>z ⟨F,q⟩] at e;exact U (S.hok a u e)
theorem Qa:∀(as:List Addr) {H:Hp},Inv X π σ H s->∃H1,Inv X π σ H1 s/\Fzn H H1/\(∀b,b∉as->H1 b=H b)/\∀b∈as,∀kvs,H b=Y2 (.dK kvs)->∃o,H1 b=Y2 (.frz o (.dK kvs))
 |[],H,I=>⟨H,I,Fzn.refl,λ_ _=>rfl,λb J=>nomatch J⟩
 |a::as,H,I=>by
  obtain⟨H1,Y,L,W,U⟩:=Qa as I
  by_cases z:∃kvs,H1 a=Y2 (.dK kvs)
  .obtain⟨kvs,z⟩:=z;obtain⟨o,I'⟩:=Inv.frzK Y z;have S:H a=Y2 (.dK kvs):=by
    rcases L a with y | ⟨o',F,O,Z⟩
    .rw[<-y];exact z
    .rw[z] at Z;cases Z
   refine⟨_,I',λb=>?_,λb J=>?_,λb J F e=>?_⟩
   .by_cases y:b=a
    .subst y;exact .inr ⟨o,kvs,S,Ah⟩
    .rw[Ag y];exact L b
   .rw[Ag (λy=>J (by rw[y];exact bg))];exact W b λy=>J (aI _ y)
   .by_cases y:b=a
    .subst y;rw[S] at e;cases e;exact⟨o,Ah⟩
    .rcases ba.mp J with w | w
     .exact absurd w y
     .rw[Ag y];exact U b w F e
  .refine⟨H1,Y,L,λb J=>W b λy=>J (aI _ y),λb J F e=>?_⟩
   rcases ba.mp J with w | w
   .subst w
    rcases L b with y | ⟨o,T,O,Z⟩
    .exact absurd ⟨F,by rw[y];exact e⟩ z
    .rw[e] at O;cases O;exact⟨o,Z⟩
   .exact U b w F e
theorem Qc{Q:VK}(h:PE X e te)(I:Inv X π σ H s)(as:List Addr)(k:∀H1,Fzn H H1->(∀b,b∉as->H1 b=H b)->(∀b∈as,∀kvs,H b=Y2 (.dK kvs)->∃o,H1 b=Y2 (.frz o (.dK kvs)))->te σ H1 λv H2=>Same H1 H2/\Q v (thw H H2)):
  af (ah X.prog X.w) X.A (eval e X.env) (EP X π σ Q) X.xe s:=by
 obtain⟨H1,L,z,O,J⟩:=Qa as I;exact thn (h π s σ H1 _ L (k H1 z O J)) λu T ⟨v,H2,S,r,F,q⟩=>⟨v,_,Inv.thaw I z F S,r,q⟩
theorem bJ{te:TT}{Q:Bool->Hp->Prop}(h:PT X e te)(I:Inv X π σ H s)(as:List Addr)(k:∀H1,Fzn H H1->(∀b,b∉as->H1 b=H b)->(∀b∈as,∀kvs,H b=Y2 (.dK kvs)->∃o,H1 b=Y2 (.frz o (.dK kvs)))->te σ H1 λv H2=>Same H1 H2/\Q v (thw H H2)):
  af (ah X.prog X.w) X.A (kH e X.env (eval e X.env)) (TP X π σ Q) X.xe s:=by
 obtain⟨H1,L,z,O,J⟩:=Qa as I;refine thn (h π s σ H1 _ L (k H1 z O J)) λu T q=>?_;obtain⟨H2,S,F,q⟩:=q;exact⟨_,Inv.thaw I z F S,q⟩
end
def Rg(G:Gx)(A:List Addr)(H:Hp)(a:Addr):D->Prop
 |.lst ds=>∃xs,H a=Y2 (.lst xs)/\RepL G (hid A H) xs ds
 |.dk z=>∃o kvs,H a=Y2 (.frz o (.dK kvs))/\kvs.map (·.1)=z.map (·.1)/\RepL G (hid A H) (kvs.map (·.2)) (z.map (·.2))
 |_=>True
theorem Rg.keep{L:List Addr}(c:Rg G A H a d)(e:∀u,H a=Y2 u->H' a=Y2 u)(s:Same (hid A H) (hid L H')):Rg G L H' a d:=by
 cases d with
 |lst J=>obtain⟨F,q1,q2⟩:=c;exact⟨F,e _ q1,q2.mono s⟩
 |dk I=>obtain⟨o,z,q1,q2,q3⟩:=c;exact⟨o,z,e _ q1,q2,q3.mono s⟩
 |_=>exact trivial
def CJ(G:Gx)(A:List Addr)(H:Hp)(z:Mu):Prop:=∀p∈z,p.1∈A/\Rg G A H p.1 p.2
theorem CJ.w{G:Gx}{A0 A:List Addr}{He H:Hp}{μ:Mu}{F:St}{ρ:Rho}(c:CJ G A0 He μ)(w:OkW G A0 He A F H ρ):CJ G A H μ:=λp z=>
 ⟨w.sub _ (c p z).1,(c p z).2.keep (λu e=>w.same _ _ e) (RT w.same w.fr)⟩
section
variable {Hb:Hp}
theorem VP(n:∀b,b∉ksM μ->H1 b=H b)(o:∀b∈ksM μ,b∈A):hid A H1=hid A H:=by
 funext b;unfold hid
 by_cases F:b∈A
 .rw[if_pos F,if_pos F]
 .rw[if_neg F,if_neg F,n b λz=>F (o b z)]
theorem OkM.cellsF(o:OkM G A0 He Hb A σ H ρ μ)(f:Fzn H H1)(n:∀b,b∉ksM μ->H1 b=H b)(z:∀b∈ksM μ,∀kvs,H b=Y2 (.dK kvs)->∃o,H1 b=Y2 (.frz o (.dK kvs))):CJ G A H1 μ:=λp F=>by
 have T:=VP (A:=A) n λb L=>o.inA L;refine⟨o.inA (Bx F),?_⟩;have t:=o.top p F;cases e:p.2 with
 |lst O=>
  rw[e] at t;obtain⟨I,q1,q2⟩:=t;refine⟨I,?_,by rw[T];exact q2⟩;rw[f.keep λkvs y=>by rw[q1] at y;cases y];exact q1
 |dk J=>
  rw[e] at t;obtain⟨kvs,q1,q2,q3⟩:=t;obtain⟨ob,q⟩:=z _ (Bx F) kvs q1;exact⟨ob,kvs,q,q2,by rw[T];exact q3⟩
 |_=>exact trivial
theorem dO{f:Option HO}(e:f=Y2 (.frz o (.dK kvs))):Nt f:=by subst e;exact⟨nofun,λ_=>nofun⟩
theorem OkM.okF(o:OkM G A0 He Hb A σ H ρ μ)(f:Fzn H H1)(n:∀b,b∉ksM μ->H1 b=H b):Okp G A σ H1 ρ:=by
 have T:=VP (A:=A) n λb J=>o.inA J;refine⟨o.w.ok.len,λa L=>?_,λi d h=>?_,λi d h=>?_,o.w.ok.inj⟩
 .rcases f a with z | ⟨ob,I,_,z⟩
  .rw[z];exact o.w.ok.live a L
  .exact dO z
 .rw[T];exact o.w.ok.fz i d h
 .obtain⟨a,q1,q2,q3⟩:=o.w.ok.ow i d h;have F:a∉ksM μ:=λz=>o.w.ow0 i d a h q1 (fE _ z);exact⟨a,q1,q2,q3.keep (n a F) (by rw[T];exact Same.refl _)⟩
theorem VR(f:Fzn H H1)(n:∀b,b∉ksM μ->H1 b=H b)(o:∀b∈ksM μ,b∈A)(J:Same H1 H2):Same (hid A H2) (hid A (thw H H2)):=λb u h=>by
 unfold hid at h ⊢;split at h
 .cases h
 .rename_i I;rw[if_neg I]
  by_cases z:∃F,H b=Y2 (.dK F)
  .obtain⟨F,z⟩:=z;have:=J b _ (by rw[n b λy=>I (o b y)];exact z);rw[Yx z,<-this];exact h
  .rw[JN λF q=>z ⟨F,q⟩];exact h
end
def adS(ρ:Rho)(i:Nat):Option Addr:=match ρ[i]? with | some (.fz (.adr a))=>Y2 a | _=>X2
def dkC(F:Mu)(ρ:Rho)(i:Nat):Option (List (Key×D)):=(adS ρ i).bind λa=>match F.lookup a with | some (.dk z)=>Y2 z | _=>X2
def lsC(z:Mu)(ρ:Rho)(i:Nat):Option (List D):=(adS ρ i).bind λa=>match z.lookup a with | some (.lst ds)=>Y2 ds | _=>X2
theorem Rh(h:adS ρ i=Y2 a):ρ[i]?=Y2 (.fz (.adr a)):=by
 unfold adS at h;split at h
 .rename_i e;cases h;exact e
 .cases h
theorem J7{μ:Mu}(h:dkC μ ρ i=Y2 kds):∃a,ρ[i]?=Y2 (.fz (.adr a))/\(a,D.dk kds)∈μ:=by
 unfold dkC at h;cases e:adS ρ i with
 |none=>rw[e] at h;cases h
 |some a=>
  simp only[e,bo] at h;split at h
  .rename_i z;cases h;exact⟨a,Rh e,lookup_mem z⟩
  .cases h
theorem Yy{μ:Mu}(h:lsC μ ρ i=Y2 ds):∃a,ρ[i]?=Y2 (.fz (.adr a))/\(a,D.lst ds)∈μ:=by
 unfold lsC at h;cases e:adS ρ i with
 |none=>rw[e] at h;cases h
 |some a=>
  simp only[e,bo] at h;split at h
  .rename_i z;cases h;exact⟨a,Rh e,lookup_mem z⟩
  .cases h
theorem J8(o:Okp G A σ H ρ){i:Nat}{a:Addr}(h:ρ[i]?=Y2 (.fz (.adr a))):σ[i]?=Y2 (Y2 (.ref a)):=by
 obtain⟨v,q1,q2⟩:=o.fz i _ h;cases q2;exact q1
def tXR(G:Gx)(A0:List Addr)(He:Hp)(f:FE):TE:=λF H Q=>∃A ρ d,OkW G A0 He A F H ρ/\f ρ=Y2 d/\∀v z,Same H z->Rep G (hid A z) v d->Q v z
def PXR(X:Cx)(G:Gx)(e:Expr)(f:Mu->FE):Prop:=∀⦃A0⦄ He μ,CJ G A0 He μ->PE X e (tXR G A0 He (f μ))
def tAR(G:Gx)(A0:List Addr)(He:Hp)(f:FA):TA:=λF H Q=>∃A ρ ds,OkW G A0 He A F H ρ/\f ρ=Y2 ds/\∀vs z,Same H z->RepL G (hid A z) vs ds->Q vs z
def PAR(X:Cx)(G:Gx)(z:List Expr)(f:Mu->FA):Prop:=∀⦃A0⦄ He μ,CJ G A0 He μ->PA X z (tAR G A0 He (f μ))
def spR(G:Gx)(g:Mu->List D->Option D):Sp:=λvs H Q _=>∃A ds F d,(∀a∈A,Nt (H a))/\CJ G A H F/\RepL G (hid A H) vs ds/\g F ds=Y2 d/\∀v z,Same H z->Rep G (hid A z) v d->Q v z
def lenR(i:Nat):Mu->FE:=λF ρ=>(dkC F ρ i).map λz=>.int z.length
def atR(F:Mu)(z:List (Key×D))(y:D):Option D:=(keyD y).bind λq=>(getK q z).bind λd=>match d with | .adr r=>(match F.lookup r with | some (.lst cs)=>Y2 (.lst cs) | _=>X2) | _=>X2
def lstR(i:Nat)(I:FE):Mu->FE:=λF ρ=>(I ρ).bind λy=>(dkC F ρ i).bind λz=>atR F z y
def Gf(g:Mu->List D->Option D)(fs:Mu->FA):Mu->FE:=λz ρ=>(fs z ρ).bind (g z)
section
variable {a c:Expr}{fa:FE}{p px:Pos}{fs:Mu->FA}{f g:Mu->FE}
theorem Ri(ha:PXR X G a f)(hr:PAR X G es fs)(hs:ai (a::es) X.env=(T2,eval a X.env)::ai es X.env:=by rfl):PAR X G (a::es) (λz=>Aa (f z) (fs z)):=λT O z c F W s U H Q I ⟨A,J,ds,w,e,k⟩=>by
 obtain⟨x,Y,h1,h2,rfl⟩:=Tw e;refine CQ (@ha T O z c) (@hr T O z c) hs F W s U H Q I ⟨A,J,x,w,h1,λv H1 L r1=>⟨A,J,Y,w.mono L,h2,λvs H2 S Z=>k _ H2 (L.trans S) (.cons (r1.mono (Al S)) Z)⟩⟩
theorem Qd{O:FA}(h:PFA X G es O):PAR X G es (λ_=>O):=λW U T _ z L s F H Q I ⟨A,J,S,w,e,k⟩=>@h A z L s F H Q I ⟨J,S,w.ok,e,k⟩
theorem VV{y:Str}(hg:Gl X x)(hm:X.mg x=X2)(Z:dc x=Y2 (.builtin "len"))(ha:PE X (.Name y px) (tVar i))(hn:x≠"__name__":=by decide)(F:(x==("__debug__":Str))=T2:=by decide)(L:ai [.Name y px] X.env=[(T2,eval (.Name y px) X.env)]:=by rfl):PXR X G (.Call (.Name x p) [.Name y px] [] pos) (lenR i):=λA0 He U c T s O H Q I ⟨A,S,d,w,e,k⟩=>by
 unfold lenR at e;cases J:dkC U S i with
 |none=>rw[J] at e;cases e
 |some W=>
  rw[J] at e;cases e;obtain⟨q,h1,h2⟩:=J7 J;obtain⟨_,ob,z,h3,h4,_⟩:=c.w w _ h2;have Y:=congrArg cw h4;rw[aw,aw] at Y;refine Jl Dv hg hm Z (CQ ha Ep L) hn F L rfl T s O H Q I ⟨_,J8 w.ok h1,q,z,rfl,.inr ⟨ob,h3⟩,?_⟩;rw[Y];exact k _ H (Same.refl H) (.int _)
theorem bK{y:Str}(hu:X.A.units+1<aE)(hG:G.K=X.K)(hg:Gl X "list")(hm:X.mg "list"=X2)(hv:PE X (.Name y px) (tVar i))(ha:PF X G a fa)(hs:NoSl a)(he:ai [.Subscript (.Name y px) a spos] X.env=[(T2,eval (.Subscript (.Name y px) a spos) X.env)]:=by rfl):PXR X G (.Call (.Name "list" p) [.Subscript (.Name y px) a spos] [] pos) (lstR i fa):=λA0 He μ c π s σ H Q I ⟨A,J,d,w,e,k⟩=>by
 unfold lstR at e;cases F:fa J with
 |none=>simp[F] at e
 |some U=>
  cases S:dkC μ J i with
  |none=>simp[F,S] at e
  |some O=>
   simp only[F,S,bo] at e;obtain⟨q,h1,h2⟩:=J7 S;unfold atR at e;cases z:keyD U with
   |none=>simp[z] at e
   |some Z=>
    cases T:getK Z O with
    |none=>simp[z,T] at e
    |some dd=>
     simp only[z,T,bo] at e;split at e
     .rename_i r;split at e
      .rename_i cs e5;cases e;refine Kh HH hg hm L_ (CQ (Z5 hu hv (@ha A) hs) Ep he) (by decide) (by decide) he rfl π s σ H Q I ⟨_,J8 w.ok h1,J,U,w.ok,F,λyv H1 Y r1=>?_⟩;have W:=w.mono Y;obtain⟨_,ob,L,h3,h4,h5⟩:=c.w W _ h2;obtain⟨_,xs,g1,g2⟩:=c.w W _ (lookup_mem e5);have ek:=Fg r1 z;subst ek;obtain⟨v,v1,v2⟩:=(HN (k:=Z) h4 h5).1 _ T;cases v2;refine⟨q,.ref r,rfl,.inl ⟨L,Z,.inr ⟨ob,h3⟩,rfl,v1.symm⟩,r,xs,rfl,.inl (.of g1),λl hl=>?_⟩;exact k _ _ (Y.trans (Ak hl _)) (Bb W.ok.live hl g2)
      .cases e
     .cases e
theorem O6{k:Nat}{f:Addr}{g:List D->Option D}(F:FnOk X.prog X.w X.K X.mg X.base CX0 k f fd ps (spD G g))(hr:Room k X.A)(hg:Gl X x)(hm:X.mg x=Y2 (.ref f))(hk:dS X.K (.ref f)=U2)(hb:Binds X.K fd ps [])(ha:PAR X G (a::es) fs)(J:(x==("__debug__":Str))=T2:=by decide)(he:ai (a::es) X.env=(T2,eval a X.env)::ai es X.env:=by rfl)(z:(br pos (ai es X.env)).any (·.1)=T2:=by rfl):
  PXR X G (.Call (.Name x p) (a::es) [] pos) (Gf (λ_=>g) fs):=λA0 He S c Y s W H Q I ⟨A,O,d,w,e,k⟩=>by
 unfold Gf at e;cases L:fs S O with
 |none=>rw[L] at e;cases e
 |some U=>
  rw[L] at e;refine Jk F hr hg hm hk hb .nil JM (@ha A0 He S c) J he z Y s W H Q I ⟨A,O,U,w,L,λvs H1 T r1=>⟨A,U,d,(w.mono T).ok.live,by rw[dL];exact r1,e,λv H2 Z r2=>k v H2 (T.trans Z) r2⟩⟩
theorem Rj{k:Nat}{f:Addr}{g:Mu->List D->Option D}(F:FnOk X.prog X.w X.K X.mg X.base CX0 k f fd ps (spR G g))(hr:Room k X.A)(hg:Gl X x)(hm:X.mg x=Y2 (.ref f))(hk:dS X.K (.ref f)=U2)(hb:Binds X.K fd ps [])(ha:PAR X G (a::es) fs)(O:(x==("__debug__":Str))=T2:=by decide)(he:ai (a::es) X.env=(T2,eval a X.env)::ai es X.env:=by rfl)(L:(br pos (ai es X.env)).any (·.1)=T2:=by rfl):
  PXR X G (.Call (.Name x p) (a::es) [] pos) (Gf g fs):=λA0 He z c Y s W H Q I ⟨A,T,d,w,e,k⟩=>by
 unfold Gf at e;cases S:fs z T with
 |none=>rw[S] at e;cases e
 |some U=>
  rw[S] at e;refine Jk F hr hg hm hk hb .nil JM (@ha A0 He z c) O he L Y s W H Q I ⟨A,T,U,w,S,λvs H1 J r1=>⟨A,U,z,d,(w.mono J).ok.live,c.w (w.mono J),by rw[dL];exact r1,e,λv H2 Z r2=>k v H2 (J.trans Z) r2⟩⟩
end
def tIR(G:Gx)(A0:List Addr)(He:Hp)(F:FI):TI:=λI H R=>∃A ρ ds,OkW G A0 He A I H ρ/\F ρ=Y2 ds/\∀J z,Same H z->Src G J ds (hid (A.filter λa=>decide (a∉A0)) z) (hid A z)->R J z
def PIR(X:Cx)(G:Gx)(F it:Expr)(z:Mu->FI):Prop:=∀⦃A0⦄ He μ,CJ G A0 He μ->PI X F it (tIR G A0 He (z μ))
def O7(i:Nat):Mu->FI:=λF ρ=>(dkC F ρ i).map λz=>z.map λp=>kDt p.1
def Ik(i:Nat):Mu->FI:=λF ρ=>(dkC F ρ i).map λz=>z.map λp=>.tup [kDt p.1,p.2]
def seqR(i:Nat):Mu->FI:=λz ρ=>lsC z ρ i
theorem Tz(h:a∈A0):hid (A.filter λa=>decide (a∉A0)) H a=H a:=Ao λz=>of_decide_eq_true (cr.mp z).2 h
section
variable {px:Pos}{y:Str}
theorem Yz(Y:PE X (.Name y px) (tVar i)):PIR X G tg (.Name y px) (O7 i):=λA0 He U c T s L H R I ⟨A,S,ds,w,e,k⟩=>by
 unfold O7 at e;cases F:dkC U S i with
 |none=>rw[F] at e;cases e
 |some W=>
  rw[F] at e;cases e;obtain⟨q,h1,J⟩:=J7 F;obtain⟨_,ob,z,O,Z,_⟩:=c.w w _ J;exact U5 Y T s L H R I ⟨_,J8 w.ok h1,q,ob,z,rfl,O,k _ H (Same.refl H) (RK (by rw[Tz (c _ J).1];exact O) Z)⟩
theorem O8(hv:PE X (.Name y px) (tVar i))(F:d4 (.Name y px) "items" X.env (eval (.Name y px) X.env)=eval (.Name y px) X.env:=by rfl)(z:(apos.endLine==cpos.line)=U2:=by rfl):
  PIR X G (.Tuple elts x1 tp) (.Call (.Attribute (.Name y px) "items" apos) [] [] cpos) (Ik i):=λA0 He Y c W s T H R I ⟨A,U,ds,w,e,k⟩=>by
 unfold Ik at e;cases L:dkC Y U i with
 |none=>rw[L] at e;cases e
 |some Z=>
  rw[L] at e;cases e;obtain⟨q,h1,S⟩:=J7 L;obtain⟨_,ob,J,O,h4,h5⟩:=c.w w _ S;exact RL hv F z W s T H R I ⟨_,J8 w.ok h1,q,ob,J,rfl,O,k _ H (Same.refl H) (Ox (by rw[Tz (c _ S).1];exact O) h4 h5)⟩
theorem Va(Y:G.K=X.K)(U:PE X (.Name y px) (tVar i)):PIR X G tg (.Name y px) (seqR i):=λA0 He μ c T s L H R I ⟨A,ρ,ds,w,e,k⟩=>by
 obtain⟨q,Z,J⟩:=Yy e;obtain⟨_,xs,O,F⟩:=c.w w _ J;have S:SqL G.K (hid (A.filter λa=>decide (a∉A0)) H) q xs:=.of (by rw[Tz (c _ J).1];exact O);refine Pn U T s L H R I ⟨_,J8 w.ok Z,q,rfl,⟨xs,.of O⟩,?_⟩;rw[<-Y];exact k _ H (Same.refl H) { go:=λi H s z=>⟨_,_,s.seq S,by simp[F.1,z];rfl⟩,yld:=λi H x H' d s W y=>Jd ⟨y.1,F.2 i x d (y.2 _ (s.seq S)) W⟩,stop:=λi H s z=>⟨_,s.seq S,by rw[F.1];exact z⟩ }
end
def PSR(X:Cx)(G:Gx)(st:Stmt)(g:Mu->FS):Prop:=∀⦃A0⦄ He μ,CJ G A0 He μ->PS X st (tS G A0 He (g μ))
def PSRs(X:Cx)(G:Gx)(st:List Stmt)(g:Mu->FS):Prop:=∀⦃A0⦄ He μ,CJ G A0 He μ->PSs X st (tS G A0 He (g μ))
def forR(z:Mu->FI)(I:FG)(b:Mu->FS):Mu->FS:=λF ρ=>(z F ρ).bind λds=>forF (tgB I (b F)) ds ρ
def putR(i:Nat)(F:FE)(f:Mu->FE):Mu->FS:=λz=>putF i F (f z)
section
variable {a b it:Expr}{fa:FE}{f:Mu->FE}{rest body:List Stmt}{g gs gb:Mu->FS}{gp:FS}
theorem Ni(h:PSD X G st gp):PSR X G st (λ_=>gp):=λL J z _=>@h L J
theorem G7(h:PSDs X G rest gp):PSRs X G rest (λ_=>gp):=λL J z _=>@h L J
theorem bL(h:PSR X G st g):PSRs X G [st] g:=λL J z c=>Iz (@h L J z c)
theorem G8(h1:PSR X G st g)(h2:PSRs X G rest gs):PSRs X G (st::rest) (λF=>seqF (g F) (gs F)):=λT S F c Y s W H D I ⟨J,o,ok,e,k⟩=>by
 refine Fl (@h1 T S F c) (@h2 T S F c) Y s W H D I ?_;have e:seqF (g F) (gs F) J=Y2 o:=e;unfold seqF at e;split at e
 .rename_i z Z;exact⟨J,_,ok,Z,λU H' L=>⟨z,o,L,e,k⟩⟩
 .rename_i O;refine⟨J,o,ok,e,?_⟩;cases o with
  |nx z=>exact absurd e (O z)
  |rt d z=>exact k
  |bk z=>exact k
  |ct z=>exact k
theorem bM(hu:X.A.units+1<aE)(hv:PE X (.Name x xpos) (tVar i))(ha:PF X G a fa)(hb:PXR X G b f)(hs:dA b (Y2 (.Subscript (.Name x xpos) a spos)) pos.line X.env=pure T2:=by rfl):PSR X G (.Assign [.Subscript (.Name x xpos) a spos] b pos) (putR i fa f):=λA0 He U c T s O H D I ⟨F,o,⟨A,w⟩,e,k⟩=>by
 obtain⟨v,y,x0,z,e1,e2,J,e3,rfl⟩:=Ow e;refine JB hu hv (@ha A) (@hb A0 He U c) hs T s O H D I ⟨A,F,v,w,e1,λu H1 Z r1=>?_⟩;have W:=w.mono Z;obtain⟨p,L,hA,t⟩:=W.ok.ow i _ J;refine⟨_,L,F,y,W.ok,e2,λyv H2 S r2=>?_⟩;have Y:=W.mono S;obtain⟨u',q1,q2⟩:=Ng (t.mono S) hA e3 r2 (r1.mono (Al S));exact⟨p,_,rfl,q1,k _ _ ⟨A,Y.wr J L q2⟩⟩
theorem CJ.base{μ:Mu}(c:CJ G A0 He μ)(s:Same He Hf):CJ G A0 Hf μ:=λp z=>⟨(c p z).1,(c p z).2.keep (λu e=>s _ _ e) (Al s)⟩
theorem Qe{y0:Mu->FI}(hp:kJ (ah X.prog X.w) X.A X.env X.xe)(hc:X.calm=U2)(hi:PIR X G tg it y0)(hg:PGD X G tg fg)(hb:PSRs X G body gb)(hs:∀x,gL it X.env x=pure x:=by intro _;rfl):PSR X G (.For tg it body [] pos) (forR y0 fg gb):=λL Z Y c π s σ H D I ⟨U,o,⟨A,w⟩,e,k⟩=>by
 unfold forR at e;cases e1:y0 Y U with
 |none=>simp[e1] at e
 |some z=>
  have e':forF (λd U=>(fg d U).bind (gb Y)) z U=Y2 o:=by
   have e2:forF (tgB fg (gb Y)) z U=Y2 o:=by simpa [e1] using e
   exact e2
  have K0:PSs X body (λD σ H=>∃L Z,CJ G L Z Y/\tS G L Z (gb Y) D σ H):=λπ s σ H D I ⟨L,Z,c,q⟩=>@hb L Z Y c π s σ H D I q;have G0:PG X tg (λv σ H Q=>∃L Z,tGD G L Z fg v σ H Q):=λπ s σ H v u Q I r ⟨L,Z,q⟩=>@hg L Z π s σ H v u Q I r q;refine Kf hp hc (@hi L Z Y c) G0 K0 hs π s σ H D I ⟨A,U,z,w,e1,λJ H1 s1 sr=>?_⟩;obtain⟨B0,w2⟩:=(w.mono s1).here;have k2:=k.base B0 w.l0;have c2:=c.base B0;generalize L0:hid (A.filter λa=>decide (a∉L)) H1=Hf at B0 w2 k2 c2 sr;refine⟨λi m F H'=>m=z.length-i/\i<=z.length/\∃T,OkS G L Hf F H' T/\forF (λd U=>(fg d U).bind (gb Y)) (z.drop i) T=Y2 o,⟨z.length,by simp,eA _,U,⟨A,w2⟩,by simpa using e'⟩,?_⟩;rintro i m D0 H3 ⟨rfl,N0,C0,⟨B,w3⟩,O⟩;have pl:Same (hid A H1) (hid B H3):=by have w4:=w3;rw[<-L0] at w4;exact OkW.plain w.sub w4
  by_cases u0:i<z.length
  .right;have hd:z[i]?=Y2 z[i]:=by simp[u0]
   have ed:z.drop i=z[i]::z.drop (i+1):=ko u0;rw[ed] at O;unfold forF at O;refine⟨sr.go i H3 w3.same u0,λF H'=>∃T,OkS G L Hf F H' T/\forF (λd U=>(fg d U).bind (gb Y)) (z.drop (i+1)) T=Y2 o,λF H' q=>⟨z.length-(i+1),by omega,rfl,u0,q⟩,λx H' y=>?_⟩;obtain⟨sy,rx⟩:=sr.yld i H3 x H' _ w3.same hd y;refine⟨L,Hf,B,C0,z[i],?_⟩;cases e4:fg z[i] C0 with
   |none=>simp[e4] at O
   |some v0=>
    refine⟨v0,w3.mono sy,rx B w3.ok.live pl,rfl,λM0 H5 F0=>⟨L,Hf,c2,v0,?_⟩⟩;cases e5:gb Y v0 with
    |none=>simp[e4,e5] at O
    |some o5=>
     refine⟨o5,F0,rfl,?_⟩;cases o5 with
     |nx S=>
      simp only[e4,e5,bo] at O;exact λF H' W=>⟨S,W,O⟩
     |ct S=>
      simp only[e4,e5,bo] at O;exact λF H' W=>⟨S,W,O⟩
     |bk S=>
      simp only[e4,e5,bo] at O;cases O;exact λF H' W=>k2 F H' W
     |rt d5 S=>
      simp only[e4,e5,bo] at O;cases O;exact k2
  .left;have ei:i=z.length:=by omega
   subst ei;rw[kW] at O;cases O;exact⟨sr.stop _ H3 w3.same (ax _),k2 D0 H3 ⟨B,w3⟩⟩
end
theorem fn_R{w:ag}{base:Heap}{k:Nat}{b:Mu->FS}(F:FunD G.K x qual st f fd)(S:FnScope N ps (Ab st))(hl:ps.length<=N.length)(hb:∀(cdv:ac) (A:ar) (z:List Env) (s:ae) (H:Hp) (E:XK),Room k (A.deeper (dn qual (Ab st) s.heap.objs.size f cdv))->PSRs (cxOf CX0 P w G.K mg base N qual (Ab st) f cdv A z s H E).nox G (A_ st) b):
  FnOk P w G.K mg base CX0 (k+1) f fd ps (spR G λI=>runF N.length ps.length (b I)):=by
 obtain⟨oc,od,dV,kV,y0,pm,an,cdv,ct,v0,rfl,lk,T⟩:=F.ex;refine Ud lk T S (λvs H Q E h=>?_) (λA z s H vs Q E hr h=>?_)
 .obtain⟨A,L,I,d,Y,c,r,e,_⟩:=h;have e:runF N.length ps.length (b I) L=Y2 d:=e;unfold runF at e;split at e
  .rename_i O;rw[r.1];exact O
  .cases e
 .obtain⟨A0,L,I,d,Y,c,r,e,k⟩:=h;have e:runF N.length ps.length (b I) L=Y2 d:=e;unfold runF at e;split at e
  .rename_i O;have hzz:=hb cdv A z s H E hr;refine⟨_,(@hzz A0 H I c).nox,Ba N.length L,?_⟩;cases J:b I (Ba N.length L) with
   |none=>simp[J] at e
   |some o=>
    refine⟨o,Fp Y r (by rw[r.1,O];exact hl),rfl,?_⟩;cases o with
    |nx W=>
     simp only[J] at e;cases e;exact λZ U ⟨A,w⟩=>k _ U w.same .non
    |rt d' u0=>
     simp only[J] at e;cases e;exact λv Z U A w r'=>k v U w.same (r'.mono (DQ w.sub))
    |bk W=>simp[J] at e
    |ct W=>simp[J] at e
  .cases e
abbrev FEr:=Mu->FEs
def PSER(X:Cx)(G:Gx)(c:Str)(st:Stmt)(g:FEr):Prop:=∀⦃A0⦄ He x μ,CJ G A0 He μ->PS X st (tE G c A0 He x (g μ))
def Vb(X:Cx)(G:Gx)(c:Str)(st:List Stmt)(g:FEr):Prop:=∀⦃A0⦄ He x μ,CJ G A0 He μ->PSs X st (tE G c A0 He x (g μ))
def PSIR(X:Cx)(G:Gx)(c:Str)(st:List Stmt)(g:FEr):Prop:=∀⦃A0⦄ He x μ,CJ G A0 He μ->PSs X st (tEI G c A0 He x (g μ))
def G9(g J:FEr):FEr:=λz=>Cz (g z) (J z)
def JP(g:FEs):FEr:=λ_=>g
def Y0(f:Str)(I:FE)(F:Mu->FE):FEr:=λz=>Fw f I (F z)
def LR(f:Mu->FE):FEr:=λz ρ F=>(f z ρ).map λ_=>(ρ,F)
def O9(z:Mu->FI)(J:FG)(b:FEr):FEr:=λF ρ I=>(z F ρ).bind λds=>B_ J (b F) ds ρ I
section
variable {a b k it:Expr}{fa:FE}{fb:Mu->FE}{px:Pos}{rest body:List Stmt}{g gs gb:FEr}{gp:FEs}
theorem Fj(h:PSE X G c st gp):PSER X G c st (JP gp):=λL J x z _=>@h L J x
theorem Rk(h:PSER X G c st g):Vb X G c [st] g:=λL J x z c=>Iz (@h L J x z c)
theorem O_(h1:PSER X G c st g)(h2:Vb X G c rest gs):Vb X G c (st::rest) (G9 g gs):=λT S x z O Y s W H D I ⟨F,J,r,o,e,k⟩=>by
 refine Fl (@h1 T S x z O) (@h2 T S x z O) Y s W H D I ?_;have e:Cz (g z) (gs z) F J=Y2 r:=e;unfold Cz at e;cases L:g z F J with
 |none=>simp[L] at e
 |some q=>
  simp only[L,bo] at e;exact⟨F,J,q,o,L,λU H' Z=>⟨q.1,q.2,r,Z,e,k⟩⟩
theorem Y4:PSIR X G c [] (JP nilE):=λL J x z _=>VF J x
theorem Dd(h1:PSER X G c st g)(h2:PSIR X G c rest gs):PSIR X G c (st::rest) (G9 g gs):=λT S x z O Y s W H D I ⟨F,J,r,o,e,k⟩=>by
 refine Fl (@h1 T S x z O) (@h2 T S x z O) Y s W H D I ?_;have e:Cz (g z) (gs z) F J=Y2 r:=e;unfold Cz at e;cases L:g z F J with
 |none=>simp[L] at e
 |some q=>
  simp only[L,bo] at e;exact⟨F,J,q,o,L,λU H' Z=>⟨q.1,q.2,r,Z,e,k⟩⟩
theorem PB(h:PXR X G e fb)(T:dA e X2 pos.line X.env=pure T2:=by rfl):PSER X G c (.Expr e pos) (LR fb):=λZ W x L U O s F H D I ⟨J,ε,r,⟨A,o⟩,e,k⟩=>by
 unfold LR at e;cases z:fb L J with
 |none=>simp[z] at e
 |some d=>
  simp only[z,eB] at e;cases e;exact Lx (@h Z W L U) T O s F H D I ⟨A,J,d,o.w,z,λv Y S _=>k F Y ⟨A,o.mono S⟩⟩
theorem PJ{f:Str}(hu:X.A.units+1<aE)(J:∀c C,G.cl c=Y2 C->Cls X.K C/\Ci X.K C f)(hv:PE X (.Name x px) (tVar 0))(ha:PF X G a fa)(hb:PXR X G b fb)(z:d4 (.Name x px) f X.env (eval (.Name x px) X.env)=eval (.Name x px) X.env:=by rfl)(hs:dA b (Y2 (.Subscript (.Attribute (.Name x px) f ap) a spos)) pos.line X.env=pure T2:=by rfl):PSER X G c (.Assign [.Subscript (.Attribute (.Name x px) f ap) a spos] b pos) (Y0 f fa fb):=λA0 He y O cc π s σ H D I ⟨F,ε,r,⟨A,o⟩,e,k⟩=>by
 refine JB hu (Pu hv z) (@ha A) (@hb A0 He O cc) hs π s σ H D I ?_;have e:Fw f fa (fb O) F ε=Y2 r:=e;unfold Fw at e;cases L:fb O F with
 |none=>simp[L] at e
 |some v=>
  cases Y:fa F with
  |none=>simp[L,Y] at e
  |some kd=>
   simp only[L,Y,bo] at e;split at e
   .rename_i d e3;cases W:Bc d kd v with
    |none=>simp[W] at e
    |some d'=>
     simp only[W,eB] at e;cases e;refine⟨A,F,v,o.w,L,λu H1 s1 r1=>?_⟩;have T:=o.mono s1;obtain⟨C,dx,fs,as,U,h2,h3⟩:=T.ob;obtain⟨p,q1,q2,q3,q4,q5,t⟩:=h3.get e3;refine⟨_,o.at0,y,C,dx,fs,_,rfl,U,(J _ _ h2).1,(J _ _ h2).2,q1,F,kd,T.w.ok,Y,λyv H2 S r2=>?_⟩;have o2:=T.mono S;obtain⟨C',v0,u0,Z,g1,g2,g3⟩:=o2.ob;rw[S _ _ U] at g1;cases g1;obtain⟨u',w1,w2⟩:=Ng (t.mono S) q3 W r2 (r1.mono (Al S));refine⟨p,_,rfl,w1,?_⟩;have sx:Hr p H2 (upd H2 p u'):=λb w hb hw=>by rw[Ag hb];exact hw
     refine k _ _ ⟨A,o2.wr q3 q4 sx w2.live ⟨C,dx,fs,Z,by rw[Ag (bv q5)];exact S _ _ U,g2,?_⟩⟩;exact g3.wr e3 q1 sx q3 w2
   .cases e
theorem Rm{u0:Mu->FI}(hp:kJ (ah X.prog X.w) X.A X.env X.xe)(hc:X.calm=U2)(hi:PIR X G tg it u0)(hg:PGD X G tg fg)(hk:∀d ρ ρ',fg d ρ=Y2 ρ'->ρ'[0]?=ρ[0]?)(hb:Vb X G c body gb)(hs:∀x,gL it X.env x=pure x:=by intro _;rfl):PSER X G c (.For tg it body [] pos) (O9 u0 fg gb):=λL T x W cc π s U H D I ⟨ρ,ε,r,⟨A,o⟩,e,k⟩=>by
 unfold O9 at e;cases e1:u0 W ρ with
 |none=>simp[e1] at e
 |some F=>
  have e':B_ fg (gb W) F ρ ε=Y2 r:=by simpa [e1] using e
  have G0:PSs X body (λD U H=>∃L T x,CJ G L T W/\tE G c L T x (gb W) D U H):=λπ s U H D I ⟨L,T,x,cc,q⟩=>@hb L T x W cc π s U H D I q;have F0:PG X tg (λv U H Q=>∃L T,tGD G L T fg v U H Q):=λπ s U H v u Q I r ⟨L,T,q⟩=>@hg L T π s U H v u Q I r q;refine Kf hp hc (@hi L T W cc) F0 G0 hs π s U H D I ⟨A,ρ,F,o.w,e1,λJ H1 s1 sr=>?_⟩;have o1:=o.mono s1;obtain⟨v0,w2⟩:=o1.w.here;have c2:=cc.base v0;generalize K0:hid (A.filter λa=>decide (a∉L)) H1=Hf at v0 w2 c2 sr;have k2:∀z H',EOkS G c L Hf x z H' r.1 r.2->D.nx z H':=λz H' ⟨B,q⟩=>k z H' ⟨B,q.w.base v0 o.w.l0,q.no,q.xA,q.x0,q.s0,q.ob⟩;refine⟨λi m z H'=>m=F.length-i/\i<=F.length/\∃ρ' O,EOkS G c L Hf x z H' ρ' O/\B_ fg (gb W) (F.drop i) ρ' O=Y2 r,⟨F.length,by simp,eA _,ρ,ε,⟨A,w2,o1.no,o1.xA,o1.x0,o1.s0,o1.ob⟩,by simpa using e'⟩,?_⟩;rintro i m C0 H3 ⟨rfl,M0,y0,B0,⟨B,o3⟩,S⟩;have pl:Same (hid A H1) (hid B H3):=by have w4:=o3.w;rw[<-K0] at w4;exact OkW.plain o.w.sub w4
  by_cases Y:i<F.length
  .right;have hd:F[i]?=Y2 F[i]:=by simp[Y]
   have ed:F.drop i=F[i]::F.drop (i+1):=ko Y;rw[ed] at S;unfold B_ at S;refine⟨sr.go i H3 o3.w.same Y,λz H'=>∃ρ' O,EOkS G c L Hf x z H' ρ' O/\B_ fg (gb W) (F.drop (i+1)) ρ' O=Y2 r,λz H' q=>⟨F.length-(i+1),by omega,rfl,Y,q⟩,λy H' yy=>?_⟩;obtain⟨sy,rx⟩:=sr.yld i H3 y H' _ o3.w.same hd yy;have o4:=o3.mono sy;cases e4:fg F[i] y0 with
   |none=>simp[e4] at S
   |some Z=>
    simp only[e4,bo] at S;split at S
    .rename_i no;refine⟨B,H',B,y0,F[i],Z,o4.frameW,rx B o3.w.ok.live pl,e4,λL0 H5 D0=>?_⟩;cases e5:gb W Z B0 with
     |none=>simp[e5] at S
     |some q=>
      simp only[e5,bo] at S;exact⟨L,Hf,x,c2,Z,B0,q,o4.unframe D0 no (by rw[hk _ _ _ e4];exact o4.s0),e5,λz H' o'=>⟨q.1,q.2,o',S⟩⟩
    .cases S
  .left;have ei:i=F.length:=by omega
   subst ei;rw[kW] at S;cases S;exact⟨sr.stop _ H3 o3.w.same (ax _),k2 C0 H3 ⟨B,o3⟩⟩
end
def spIR(G:Gx)(c:Str)(g:Mu->Addr->List D->Option Ef):Sp:=λvs H Q _=>∃A x F ds I J C dx,vs=.ref x::F/\(∀a∈A,Nt (H a))/\x∉A/\(∀p∈I,p.1∈A/\Rg G (x::A) H p.1 p.2)/\H x=Y2 (.ins C dx [])/\G.cl c=Y2 C/\RepL G (hid (x::A) H) F ds/\g I x ds=Y2 J ∧
 ∀z,Hr x H z->Rep G (hid A z) (.ref x) (finE c J)->Q .non z
theorem bN{x:Addr}:hid A (hid [x] H)=hid (x::A) H:=by
 funext b;unfold hid
 by_cases F:b∈A
 .rw[if_pos F,if_pos (aI _ F)]
 .rw[if_neg F]
  by_cases z:b=x
  .rw[if_pos (by simp[z]),if_pos (by simp[z])]
  .rw[if_neg (by simpa using z),if_neg (by simp[F,z])]
theorem jm{w:ag}{base:Heap}{k:Nat}{b:FEr}(F:Fun G.K x qual st f fd)(S:FnScope N ps (Ab st))(hl:ps.length<=N.length)(hb:∀(cdv:ac) (A:ar) (I:List Env) (s:ae) (H:Hp) (E:XK),Room k (A.deeper (dn qual (Ab st) s.heap.objs.size f cdv))->PSIR (cxOf CX0 P w G.K mg base N qual (Ab st) f cdv A I s H E).nox G c (A_ st) b):
  FnOk P w G.K mg base CX0 (k+1) f fd ps (spIR G c λμ=>runI N.length ps.length (b μ)):=by
 refine F.ok S (λvs H Q E h=>?_) (λcdv A I s H vs Q E hr h=>?_)
 .obtain⟨A,x,O,L,μ,ε,C,dx,rfl,Z,T,U,hH,hc,r,e,_⟩:=h;have e:runI N.length ps.length (b μ) x L=Y2 ε:=e;unfold runI at e;split at e
  .rename_i hz;rw[df,r.1];exact hz
  .cases e
 .obtain⟨W,x,O,L,μ,ε,C,dx,rfl,Z,T,U,hH,hc,r,e,k⟩:=h;have e:runI N.length ps.length (b μ) x L=Y2 ε:=e;unfold runI at e;split at e
  .rename_i hz;have Y:∀a∈x::W,Nt (H a):=λa J=>by
    rcases ba.mp J with z | z
    .rw[z,hH];exact Nt.ins
    .exact Z a z
   have r':RepL G (hid (x::W) H) (.ref x::O) (.adr x::L):=.cons (.adr x) r;obtain⟨B,w⟩:=Fp (N:=N) Y r' (by rw[df,r.1];omega);cases e1:b μ (Jf N.length x L) [] with
   |none=>simp[e1] at e
   |some q=>
    simp only[e1,eB] at e;cases e;have hzz:=hb cdv A I s H E hr;have c2:CJ G W (hid [x] H) μ:=λp hp=>⟨(U p hp).1,(U p hp).2.keep (λu z=>by rw[Ao (λy=>T (by simp at y;rw[<-y];exact (U p hp).1))];exact z) (by rw[bN];exact Same.refl _)⟩;refine⟨_,@hzz W (hid [x] H) x μ c2,Jf N.length x L,[],q,?_,e1,λu0 H' s' rv=>k H' (λb o hb ho=>s' b o (by rw[Ao (by simpa using hb)];exact ho)) rv⟩;refine⟨B,⟨Aj,λa J=>w.sub a (aI _ J),λa J=>?_,λa J=>?_,w.ok,λi d a h _=>absurd h (Bg (Dy _ _) i d),λy d _ h=>absurd h (Bg (Dy _ _) 0 d)⟩,Dy _ _,w.sub x bg,T,rfl,C,dx,[],[],hH,hc,.nil⟩
    .rcases w.fr a J with z | z
     .rcases ba.mp z with z | z
      .right;unfold hid;rw[if_pos (by simp[z])]
      .exact .inl z
     .right;unfold hid;split
      .rfl
      .exact z
    .rw[Ao (λz=>T (by simp at z;rw[<-z];exact J))];exact (Z a J).ne
  .cases e
def rdX(g:Mu->List D->Option D)(fs:FA):FXM:=λρ z K=>∃ds d,fs ρ=Y2 ds/\g z ds=Y2 d/\K d z
def mkRX(c:Str)(g:Mu->Addr->List D->Option Ef)(fs:FA):FXM:=λρ z K=>∃ds F,fs ρ=Y2 ds/\(∀x,g z x ds=Y2 F)/\K (finE c F) z
section
variable {a b ob:Expr}{fa fo:FE}{p:Pos}{fs:FA}{h h1 h2:FXM}{g:FM}
theorem Y5{k:Nat}{g:Mu->List D->Option D}(F:FnOk X.prog X.w X.K X.mg X.base CX0 k f fd ps (spR G g))(hr:Room k X.A)(hg:Gl X x)(hm:X.mg x=Y2 (.ref f))(hk:dS X.K (.ref f)=U2)(O:Binds X.K fd ps [])(ha:PFA X G (a::es) fs)(L:(x==("__debug__":Str))=T2:=by decide)(he:ai (a::es) X.env=(T2,eval a X.env)::ai es X.env:=by rfl)(J:(br pos (ai es X.env)).any (·.1)=T2:=by rfl):
  PMX X G (.Call (.Name x p) (a::es) [] pos) (rdX g fs):=λA0 He π s σ H Q I ⟨Z,μ,K,⟨A,Hb,w⟩,⟨Y,d,e1,e2,q⟩,k⟩=>by
 refine Qc (Jk F hr hg hm hk O .nil JM (@ha A) L he J) I (ksM μ) λH1 f n z=>⟨Z,Y,w.okF f n,e1,λvs H2 S r2=>?_⟩;have lv:=((w.okF f n).mono S).live;have cf:CJ G A H2 μ:=λp U=>⟨(w.cellsF f n z p U).1,(w.cellsF f n z p U).2.keep (λu e=>S _ _ e) (Al S)⟩;refine⟨A,Y,μ,d,lv,cf,by rw[dL];exact r2,e2,λv H3 W r3=>⟨S.trans W,?_⟩⟩;have T:=S.trans W;exact k v _ d μ A Hb q (w.mono (J6 f T)) (r3.mono (VR f n (λb O=>w.inA O) T))
theorem bO{k:Nat}{g:Mu->Addr->List D->Option Ef}(y0:G.cl cn=Y2 C)(M:Mk X.K C f)(F:FnOk X.prog X.w X.K X.mg X.base CX0 k f fd ps (spIR G cn g))(hr:Room (k+1) X.A)(hg:Gl X x)(hm:X.mg x=Y2 (.ref C))(J:Binds X.K fd ps [])(ha:PFA X G (a::es) fs)(v0:(x==("__debug__":Str))=T2:=by decide)(he:ai (a::es) X.env=(T2,eval a X.env)::ai es X.env:=by rfl)(Y:(br pos (ai es X.env)).any (·.1)=T2:=by rfl):
  PMX X G (.Call (.Name x p) (a::es) [] pos) (mkRX cn g fs):=λA0 He π s σ H Q I ⟨ρ,T,K,⟨A,Hb,w⟩,⟨ds,ε,e1,e2,q⟩,k⟩=>by
 refine Qc (Uc M F hr hg hm J .nil JM (@ha A) v0 he Y) I (ksM T) λH1 f n z=>⟨ρ,ds,w.okF f n,e1,λvs H2 S rv=>λy dx O u0 Z=>?_⟩;have L:Same H2 (upd (upd H2 dx (.own y)) y (.ins C dx [])):=(Ak u0 _).trans (Ak (by rw[Ag (bv Z)];exact O) _);have lv:=((w.okF f n).mono S).live;refine⟨A,y,vs,ds,T,ε,C,dx,by rw[dL],λb J=>?_,λz=>(lv y z).ne O,λp hp=>?_,Ah,y0,rv.mono (Fe L O),e2 y,λH' sx U=>?_⟩
 .exact (lv b J).mono λu e=>L _ _ e
 .exact⟨(w.cellsF f n z p hp).1,(w.cellsF f n z p hp).2.keep (λu e=>L _ _ (S _ _ e)) ((Al S).trans (Fe L O))⟩
 .have W:Same H1 H':=λb u J=>sx b u (λz=>by have:=S _ _ J;rw[z,O] at this;cases this) (L _ _ (S _ _ J));exact⟨rfl,W,k _ _ _ T A Hb q (w.mono (J6 f W)) (U.mono (VR f n (λb J=>w.inA J) W))⟩
def Vc(h1 J:FXM):FXM:=λρ I K=>h1 ρ I λO F=>J ρ F λL z=>K (.lst [O,L]) z
theorem Nj(ha:PMX X G a h1)(hb:PMX X G b h2)(hs:ai [a,b] X.env=(T2,eval a X.env)::ai [b] X.env:=by rfl)(U:ai [b] X.env=[(T2,eval b X.env)]:=by rfl):PMX X G (.List [a,b] pos) (Vc h1 h2):=λA0 J F s z H Q I ⟨ρ,μ,K,ok,e,k⟩=>by
 have Y:PE X b (λz H Q=>∃J,tMX G A0 J h2 z H Q):=λF s z H Q I ⟨J,q⟩=>@hb A0 J F s z H Q I q;refine Sw (CQ (@ha A0 J) (CQ Y Ep U) hs) F s z H Q I ⟨ρ,μ,_,ok,e,λv1 H1 d1 O A1 u0 q1 W r1=>?_⟩;obtain⟨T,Hc,w2⟩:=W.here;refine⟨_,ρ,O,_,⟨A1,Hc,w2⟩,q1,λv2 H2 d2 L A2 Z q2 S r2=>⟨show 2<=sizeLine by decide,λl hl=>?_⟩⟩;have pl:=OkM.plain W.subA0 S;exact k _ _ _ L A2 Z q2 ((S.base T W.l0).mono (Ak hl _)) (Bb S.w.ok.live hl (.cons (r1.mono pl) (.cons r2 .nil)))
def Vd(J L:FE)(h:FXM):FM:=λρ I K=>h ρ I λv F=>∃y l x z,J ρ=Y2 (.adr l)/\L ρ=Y2 y/\F.lookup l=Y2 x/\Bc x y v=Y2 z/\K (.nx ρ) (putA l z F)
theorem Nk(hu:X.A.units+1<aE)(ho:PF X G ob fo)(ha:PF X G a fa)(hb:PMX X G b h)(hs:dA b (Y2 (.Subscript ob a spos)) pos.line X.env=pure T2:=by rfl):PSM X G (.Assign [.Subscript ob a spos] b pos) (Vd fo fa h):=λA0 He J s F H D I ⟨L,μ,K,ok,e,k⟩=>by
 have Z:PE X a (λF H Q=>∃A,tF G A fa F H Q):=λJ s F H Q I ⟨A,q⟩=>@ha A J s F H Q I q;have O:PE X ob (λF H Q=>∃A,tF G A fo F H Q):=λJ s F H Q I ⟨A,q⟩=>@ho A J s F H Q I q;refine JB hu O Z (@hb A0 He) hs J s F H D I ⟨L,μ,_,ok,e,λv H' d u0 A Hb ⟨y,l,x0,z,e0,e2,hl,e3,q⟩ w r=>?_⟩;have S:=lookup_mem hl;refine⟨A,L,.adr l,w.w.ok,e0,λov H1 Y r1=>?_⟩;cases r1;have W:=w.mono Y;refine⟨A,L,y,W.w.ok,e2,λyv H2 T r2=>?_⟩;have U:=W.mono T;obtain⟨u,q1,q2⟩:=Ng (U.top _ S) (w.inA (Bx S)) e3 r2 (r.mono (Al (Y.trans T)));exact⟨l,_,rfl,q1,k _ _ q _ _ ⟨A,_,U.wr (Bx S) (λb x nb hb=>by rw[Ag nb];exact hb) q2⟩⟩
end
section
open PySem.MeetsSeq PySem.MeetsSeq2 PySem.MeetsSeq3 PySem.SeqAt
def EqW(prog:cq)(w:ag)(A:ar)(s:ae)(y x:ac):Prop:=∀(E:ac->ae->Prop) (Q:Bool->ae->Prop),Q U2 s->af (ah prog w) A (eqBool y x) Q E s
def MW(prog:cq)(w:ag)(A:ar)(R:gT->ae->Prop)(s:ae)(t:Sem Fin):Prop:=
 af (ah prog w) A.in1 t (λfin z=>match fin with | .done f=>R (.ok f) z | .again F=>F.quiet=U2/\gX (ah prog w) A F R z) (λe z=>R (.error e) z) s
def Holds(s:ae)(p:Addr)(is:Array ac):Prop:=∃n T z,s.heap.get? p=Y2 { cls:=.type "list",dict:=T,data:=.seq is n,slots:=z }
section
variable {w:ag}{A:ar}{R:gT->ae->Prop}{is js:Array ac}
theorem Ve(F:Holds s p is)(S:Holds s q js)(O:is.size=js.size)(e:∀(j:Nat) x y,is[j]?=Y2 x->js[j]?=Y2 y->EqW prog w A.in1 s x y)(h:R (.ok (.ret (.bool T2))) s):
  ∀(m i:Nat),i+m=is.size->MW prog w A R s (ku.«list.__eq__.loop» ⟨[.ref p,.ref q,kI i,kI 3],[]⟩)
 |0,i,Z=>by
  obtain⟨n,dd,W,F⟩:=F;obtain⟨m,U,I,S⟩:=S;obtain⟨h0,g0,d0,T,Y⟩:=s;have a1:is[(i:Int).toNat]?=X2:=pf (by simp;omega);have a2:js[(i:Int).toNat]?=X2:=pf (by simp;omega);have a3:(is.size != js.size)=T2:=by rw[O];exact bne_self_eq_false _
  unfold MW
  wp_walk using kq F,kq S
  rw[a1,a2]
  wp_walk using kq F,kq S
  show R (.ok (.ret (.bool (is.size != js.size)))) _;rw[a3];exact h
 |m+1,i,Z=>by
  have z:=Ve F S O e h m (i+1) (by omega);obtain⟨n,dd,W,F⟩:=F;obtain⟨m,U,I,S⟩:=S;obtain⟨h0,g0,d0,T,Y⟩:=s;obtain⟨x,L⟩:∃x,is[i]?=Y2 x:=⟨_,pb (by omega)⟩;obtain⟨y,J⟩:∃y,js[i]?=Y2 y:=⟨_,pb (by omega)⟩;have b1:is[(i:Int).toNat]?=Y2 x:=L;have b2:js[(i:Int).toNat]?=Y2 y:=J;unfold MW
  wp_walk using kq F,kq S
  rw[b1,b2];refine am (e i x y L J _ _ ?_)
  wp_walk
  rw[show (i:Int)+1=((i+1:Nat):Int) from rfl];exact⟨ph plain_eq_loop _,nw entry_eq_loop (by rw[ny plain_eq_loop _];exact z)⟩
theorem gn(F:Holds s p is)(S:Holds s q js)(O:is.size=js.size)(e:∀(j:Nat) x y,is[j]?=Y2 x->js[j]?=Y2 y->EqW prog w A.in1 s x y)(h:R (.ok (.ret (.bool T2))) s):MW prog w A R s (ku.«list.__ne__» ⟨[.ref p,.ref q],[]⟩):=by
 have z:=Ve (prog:=prog) (w:=w) (A:=A) F S O e h is.size 0 (hV _);obtain⟨n,dd,J,F⟩:=F;obtain⟨m,U,I,S⟩:=S;obtain⟨W,Z,d0,T,Y⟩:=s;have f3:=AutoSeq1.sub_list_list;have L:¬ (is.size != js.size)=U2:=by rw[O,bne_self_eq_false];exact cp
 unfold MW
 wp_walk using kq F,kq S
 exact⟨ph plain_eq_loop _,nw entry_eq_loop (by rw[ny plain_eq_loop _];exact z)⟩
theorem Y6(T:A.units<aE)(I:Holds s p is)(S:Holds s q js)(O:is.size=js.size)(e:∀(j:Nat) x y,is[j]?=Y2 x->js[j]?=Y2 y->EqW prog w A.in1 s x y)(h:Q (.bool T2) s):af (ah prog w) A (bX .NotEq (.ref p) (.ref q)) Q E s:=by
 have z:=gn (prog:=prog) (w:=w) (A:=A) (R:=wants (λv L=>v≠.notImplemented/\Q v L) E) I S O e ⟨(λx=>nomatch x),h⟩;obtain⟨n,Y,W,I⟩:=I;obtain⟨m,U,J,S⟩:=S;exact pF (op:=.NotEq) ⟨_,I,rfl⟩ ⟨_,S,rfl⟩ pw (ol (codeAny_call_builtin pw.plain PySem.F.entry_list_ne (pw.check _ _ _ _ _ _ _ _ ⟨_,I,rfl⟩ (PySem.F.args_list_ne_2 _ _) z))) T
end
end
theorem dU{A:ar}{s:ae}{z:List (Key×ac)}:∀{F:List (Key×ac)},(∀(j:Nat) (k:Key) (v:ac),F[j]?=Y2 (k,v)->∃y,ki z k=Y2 y/\gv A s v y U2)->PySem.W.KeqHits A s z F U2
 |[],_=>.nil
 | (k,v)::r,h=>by
  obtain⟨y,J,I⟩:=h 0 k v rfl;exact .hit (e:=U2) (b:=U2) J I (dU λj k v e=>h (j+1) k v e)
def dkAl:D->D->Bool
 |.dk a,.dk b=>decide (a.map (·.1)=b.map (·.1))&&(allO (eqK 8) (a.map (·.2)) (b.map (·.2))==Y2 U2)
 |_,_=>T2
section
theorem PK{f:D->D->Option Bool}:∀{xs ys:List D},allO f xs ys=Y2 U2->∀(j:Nat) x y,xs[j]?=Y2 x->ys[j]?=Y2 y->f x y=Y2 U2
 |[],_,_,j,x,y,h,_=>by simp at h
 |a::xs,[],h,_,_,_,_,_=>by cases h
 |a::xs,b::ys,h,j,x,y,J,I=>by
  unfold allO at h;cases z:f a b with
  |none=>rw[z] at h;cases h
  |some c=>
   cases F:allO f xs ys with
   |none=>rw[z,F] at h;cases h
   |some L=>
    rw[z,F] at h;have h:=bE h;rw[eD] at h;obtain⟨rfl,rfl⟩:=h;cases j with
    |zero=>cases J;cases I;exact z
    |succ j=>exact PK F j x y (by simpa using J) (by simpa using I)
theorem gq(hG:G.K=X.K){A:ar}(hu:A.units+20<aE)(I:Inv X π σ H s){a b:D}{x y:V}{u v:ac}(h:dkAl a b=U2)(rx:Rep G H x a)(ry:Rep G H y b)(ru:RelV x u)(rv:RelV y v):EqW X.prog X.w A s u v:=by
 cases a with
 |dk T=>
  cases b with
  |dk S=>
   simp only[dkAl,eD,decide_eq_true_eq,beq_iff_eq] at h;obtain⟨hk,ha⟩:=h;cases rx with
   | @dk p o1 F _ h1 h2 r1=>
    cases ry with
    | @dk q o2 z _ h3 h4 r2=>
     cases ru;cases rv;intro E Q hQ;unfold eqBool;refine wpAny_holding ?_
     by_cases pq:p=q
     .refine wpAny_ite_split (λ_=>am (nK (ay hQ))) λn=>absurd (by rw[pq];exact beq_self_eq_true _) n
     .refine wpAny_ite_split (λn=>absurd (by have:=eq_of_beq n;injection this) pq) λ_=>?_;obtain⟨z1,B0,Y,O,da⟩:=Ho I.hok (.inr ⟨_,h1⟩);obtain⟨z2,y0,J,L,db⟩:=Ho I.hok (.inr ⟨_,h3⟩);have la:F.length=Y.length:=O.length;have lb:z.length=J.length:=L.length;have l1:F.length=T.length:=by have:=congrArg cw h2;simpa using this
      have l2:z.length=S.length:=by have:=congrArg cw h4;simpa using this
      have l3:T.length=S.length:=by have:=congrArg cw hk;simpa using this
      have nd:(J.map (·.1)).Nodup:=by obtain⟨_,_,_,_,_,_,_,_,nd⟩:=db;exact nd
      refine am (PySem.W.keq_eq B0 y0 da db (by omega) (r:=U2) (λ_=>dU λj k v g1=>?_) ?_)
      .have hj:j<Y.length:=(de.mp g1).1;have kj:F[j]?=Y2 F[j]:=by simp[show j<F.length by omega]
       have U:z[j]?=Y2 z[j]:=by simp[show j<z.length by omega]
       have bj:J[j]?=Y2 J[j]:=by simp[show j<J.length by omega]
       have p1:=FJ O kj g1;have p2:=FJ L U bj;have ek:(F[j]).1=(z[j]).1:=by
        have a1:(F.map (·.1))[j]?=Y2 (F[j]).1:=by rw[be,kj];rfl
        have a2:(z.map (·.1))[j]?=Y2 (z[j]).1:=by rw[be,U];rfl
        rw[h2,hk,<-h4,a2] at a1;exact (bE a1).symm
       have v0:k=(J[j]).1:=by rw[<-p2.1,<-ek];exact p1.1.symm
       refine⟨(J[j]).2,valueAt_of_get nd (i:=j) (by rw[bj,v0]),?_⟩;have dj:(T.map (·.2))[j]?=Y2 (T[j]'(by omega)).2:=by rw[be,cy (by omega)];rfl
       have ej:(S.map (·.2))[j]?=Y2 (S[j]'(by omega)).2:=by rw[be,cy (by omega)];rfl
       have u0:=r1 j (F[j]).2 _ (by rw[be,kj];rfl) dj;have Z:=r2 j (z[j]).2 _ (by rw[be,U];rfl) ej;exact Kr I hG 8 A.in1 (by show A.units+1+8<aE;omega) (PK ha j _ _ dj ej) u0 Z p1.2 p2.2
      .rw[beq_iff_eq.mpr (show Y.length=J.length by omega)];exact ky hQ
  |_=>cases h
 |_=>cases h
def J9:List D->List D->Bool
 |[],[]=>U2
 |a::r,b::t=>dkAl a b&&J9 r t
 |_,_=>T2
theorem Rn:∀{xs ys:List D},J9 xs ys=U2->xs.length=ys.length/\∀(j:Nat) x y,xs[j]?=Y2 x->ys[j]?=Y2 y->dkAl x y=U2
 |[],[],_=>⟨rfl,λj x y h=>by simp at h⟩
 |[],_::_,h=>by cases h
 |_::_,[],h=>by cases h
 |a::r,b::t,h=>by
  unfold J9 at h;rw[eD] at h;obtain⟨J,I⟩:=Rn h.2;refine⟨by simp[J],λj x y F z=>?_⟩;cases j with
  |zero=>cases F;cases z;exact h.1
  |succ j=>exact I j x y (by simpa using F) (by simpa using z)
def neLD(x y:D):Option D:=match x,y with
 |.lst a,.lst b=>if J9 a b=U2 then Y2 (.bl T2) else X2
 |_,_=>X2
def rNeL(G:Gx):R2:=λx y H Q=>∃(A:List Addr) (a b:List D),RepT G A H x (.lst a)/\RepT G A H y (.lst b)/\J9 a b=U2/\Q (.bl T2) H
theorem gr(U:G.K=X.K)(hu:X.A.units+190<aE):OpR X (bX .NotEq) (rNeL G):=by
 intro π s σ H x y v u Q I rx ry h;obtain⟨A,a,b,r1,r2,e,k⟩:=h;obtain⟨p,W,rfl,h1,q1⟩:=r1.lst;obtain⟨q,T,rfl,h2,q2⟩:=r2.lst;cases rx;cases ry;obtain⟨z,Z,p1,_⟩:=I.list (by rw[<-U];exact h1);obtain⟨F,Y,p2,_⟩:=I.list (by rw[<-U];exact h2);obtain⟨e1,e2⟩:=Rn e;have l1:=Z.length;have l2:=Y.length;have m1:=q1.1;have m2:=q2.1;obtain⟨⟨c1,d1,o1,s1⟩,g1,g2,n1,g3⟩:=p1.isList;obtain⟨⟨c2,d2,o2,s2⟩,g4,g5,n2,g6⟩:=p2.isList;simp only at g2 g3 g5 g6;subst g2 g3 g5 g6;refine Y6 (is:=z.toArray) (js:=F.toArray) (by omega) ⟨_,_,_,g1⟩ ⟨_,_,_,g4⟩ (by simp;omega) (λj u w S hw=>?_) ⟨.bl T2,H,I,rfl,k⟩;have J:z[j]?=Y2 u:=by simpa using S
 have O:F[j]?=Y2 w:=by simpa using hw
 have ji:j<z.length:=(de.mp J).1;have jx:W[j]?=Y2 (W[j]'(by omega)):=cy (by omega);have jy:T[j]?=Y2 (T[j]'(by omega)):=cy (by omega);have ja:a[j]?=Y2 (a[j]'(by omega)):=cy (by omega);have jb:b[j]?=Y2 (b[j]'(by omega)):=cy (by omega);obtain⟨u',eu,ru⟩:=Z.get jx;obtain⟨w',ew,L⟩:=Y.get jy;rw[J] at eu;rw[O] at ew;cases eu;cases ew;exact gq U (by show X.A.units+1+20<aE;omega) I (e2 j _ _ ja jb) ((q1.2 j _ _ jx ja).mono Aj) ((q2.2 j _ _ jy jb).mono Aj) ru L
theorem bQ:Cy G (rNeL G) neLD:=by
 intro A H x y dx I d Q F rx z h k;unfold neLD at h;split at h
 .rename_i a b;split at h
  .rename_i e;cases h;exact⟨A,a,b,rx,z,e,k _ H (Same.refl H) (.bl _)⟩
  .cases h
 .cases h
end
def lkD:D->Bool
 |.lst _=>U2
 |.dk _=>U2
 |_=>T2
section
variable {Hb:Hp}
theorem OkM.repV(o:OkM G A0 He Hb A σ H ρ μ)(f:Fzn H H1)(n:∀b,b∉ksM μ->H1 b=H b)(z:∀b∈ksM μ,∀kvs,H b=Y2 (.dK kvs)->∃o,H1 b=Y2 (.frz o (.dK kvs)))(O:∀p∈μ,lkD p.2=U2):
  Same (hid A H) (hid (A.filter λa=>decide (a∉ksM μ)) H1)/\∀p∈μ,Rep G (hid (A.filter λa=>decide (a∉ksM μ)) H1) (.ref p.1) p.2:=by
 have J:Same (hid A H) (hid (A.filter λa=>decide (a∉ksM μ)) H1):=λb u h=>by
  unfold hid at h;split at h
  .cases h
  .rename_i L;rw[Ao λy=>L (cr.mp y).1,n b λy=>L (o.inA y)];exact h
 refine⟨J,λp I=>?_⟩;have F:hid (A.filter λa=>decide (a∉ksM μ)) H1 p.1=H1 p.1:=Ao λy=>of_decide_eq_true (cr.mp y).2 (Bx I);have t:=o.top p I;have l:=O p I;obtain⟨a,d⟩:=p;cases d with
 |lst U=>
  obtain⟨T,q1,q2⟩:=t;have q3:=q2.mono J;refine .lst (.of (by rw[F,f.keep λkvs y=>by rw[q1] at y;cases y];exact q1)) q3.1 q3.2
 |dk S=>
  obtain⟨kvs,q1,q2,q3⟩:=t;obtain⟨ob,q⟩:=z _ (Bx I) kvs q1;exact .dk (by rw[F];exact q) q2 (q3.mono J).2
 |_=>cases l
theorem OkM.okV(o:OkM G A0 He Hb A σ H ρ μ)(f:Fzn H H1)(n:∀b,b∉ksM μ->H1 b=H b)(z:∀b∈ksM μ,∀kvs,H b=Y2 (.dK kvs)->∃o,H1 b=Y2 (.frz o (.dK kvs)))(U:∀p∈μ,lkD p.2=U2)(m:Nat):
  Okp G (A.filter λa=>decide (a∉ksM μ)) σ H1 (ρ.map (derS m μ)):=by
 obtain⟨L,T⟩:=o.repV f n z U;have I:∀{i:Nat}{y:Slot},(ρ.map (derS m μ))[i]?=Y2 y->(∃d,ρ[i]?=Y2 (.fz d)/\y=.fz (der m μ d))∨(ρ[i]?=Y2 y/\∀d,y≠.fz d):=λ{i y} O=>by
  rw[be] at O;cases q:ρ[i]? with
  |none=>rw[q] at O;cases O
  |some w=>
   rw[q] at O;cases w with
   |fz d=>exact .inl ⟨d,rfl,(bE O).symm⟩
   |ow d=>cases O;exact .inr ⟨rfl,λd=>nofun⟩
   |un=>cases O;exact .inr ⟨rfl,λd=>nofun⟩
 have getO:∀{i:Nat}{d:D},(ρ.map (derS m μ))[i]?=Y2 (.ow d)->ρ[i]?=Y2 (.ow d):=λ{i d} O=>by
  rcases I O with ⟨_,_,e⟩ | ⟨e,_⟩
  .cases e
  .exact e
 refine⟨by rw[aw];exact o.w.ok.len,λa W=>?_,λi d O=>?_,λi d O=>?_,λi j d e a J F Z Y=>o.w.ok.inj i j d e a (getO J) (getO F) Z Y⟩
 .obtain⟨J,F⟩:=cr.mp W;rw[n a (of_decide_eq_true F)];exact o.w.ok.live a J
 .rcases I O with ⟨d0,e0,e1⟩ | ⟨_,e⟩
  .cases e1;obtain⟨v,q1,q2⟩:=o.w.ok.fz i d0 e0;exact⟨v,q1,J5 T m (q2.mono L)⟩
  .exact absurd rfl (e d)
 .obtain⟨a,q1,q2,q3⟩:=o.w.ok.ow i d (getO O);have S:a∉ksM μ:=λy=>o.w.ow0 i d a (getO O) q1 (fE _ y);exact⟨a,q1,cr.mpr ⟨q2,decide_eq_true S⟩,q3.keep (n a S) L⟩
end
def ifV(n:Nat)(t:FT)(g J:FM):FM:=λρ z K=>(∀p∈z,lkD p.2=U2)/\(match t (ρ.map (derS n z)) with | some U2=>g ρ z K | some T2=>J ρ z K | none=>False)
def tTV(G:Gx)(A0:List Addr)(He:Hp)(n:Nat)(t:FT):TT:=λI H Q=>∃ρ z A J b,OkM G A0 He J A I H ρ z/\(∀p∈z,lkD p.2=U2)/\t (ρ.map (derS n z))=Y2 b/\∀F,Same H F->Q b F
section
variable {a b c:Expr}{ga:FT}{h1 h2:FXM}{g gs:FM}
theorem ptv(n:Nat)(ht:PFT X G c ga):PT X c (tTV G A0 He n ga):=λU s O H Q I ⟨T,F,A,W,b,w,L,e,k⟩=>
 bJ (@ht (A.filter λa=>decide (a∉ksM F))) I (ksM F) λZ f J z=>⟨_,b,w.okV f J z L n,e,λY S=>⟨S,k _ (J6 f S)⟩⟩
theorem bR(n:Nat)(Y:PFT X G c ga)(h1:PSMs X G s1 g)(h2:PSMs X G s2 gs):PSM X G (.If c s1 s2 pos) (ifV n ga g gs):=λO J W s U H D I ⟨z,F,K,⟨A,L,w⟩,⟨T,e⟩,k⟩=>by
 refine UL (ptv (A0:=O) (He:=J) n Y) (@h1 O J) (@h2 O J) W s U H D I ?_;split at e
 .rename_i S;exact⟨z,F,A,L,_,w,T,S,λZ s1=>iteT ⟨z,F,K,⟨A,L,w.mono s1⟩,e,k⟩⟩
 .rename_i S;exact⟨z,F,A,L,_,w,T,S,λZ s1=>iteF ⟨z,F,K,⟨A,L,w.mono s1⟩,e,k⟩⟩
 .exact e.elim
end
def isDk(z:Mu)(a:Addr):Bool:=match z.lookup a with | some (.dk _)=>U2 | _=>T2
def dv1(F:Mu):D->D
 |.adr a=>(match F.lookup a with | some (.dk z)=>.dk z | _=>.adr a)
 |d=>d
def dvD(z:Mu):D->D
 |.lst ds=>.lst (ds.map (dv1 z))
 |d=>d
def dvS(F:Mu):Slot->Slot
 |.fz d=>.fz (dvD F d)
 |z=>z
def adL:D->Bool
 |.lst ds=>ds.all λd=>match d with | .adr _=>U2 | _=>T2
 |_=>T2
def lnA(f:FE):FXM:=λρ z K=>∃d,f (ρ.map (dvS z))=Y2 d/\adL d=U2/\K d z
section
variable {Hb:Hp}
theorem OkM.okD(o:OkM G A0 He Hb A σ H ρ μ)(f:Fzn H H1)(n:∀b,b∉ksM μ->H1 b=H b)(z:∀b∈ksM μ,∀kvs,H b=Y2 (.dK kvs)->∃o,H1 b=Y2 (.frz o (.dK kvs))):
  Okp G (A.filter λa=>!isDk μ a) σ H1 (ρ.map (dvS μ)):=by
 have J:∀{a:Addr},isDk μ a=U2->a∈ksM μ:=λ{a} h=>by
  unfold isDk at h;split at h
  .rename_i e;exact Bx (lookup_mem e)
  .cases h
 have F:Same (hid A H) (hid (A.filter λa=>!isDk μ a) H1):=λb u h=>by
  unfold hid at h;split at h
  .cases h
  .rename_i W;rw[Ao λy=>W (cr.mp y).1,n b λy=>W (o.inA y)];exact h
 have Y:∀{v:V}{d:D},Rep G (hid A H) v d->Rep G (hid (A.filter λa=>!isDk μ a) H1) v (dv1 μ d):=λ{v d} r=>by
  unfold dv1;split
  .rename_i a;cases r;split
   .rename_i u0 e;have U:=lookup_mem e;obtain⟨kvs,q1,q2,q3⟩:=o.top _ U;obtain⟨ob,q⟩:=z _ (Bx U) kvs q1;have Z:a∉A.filter λa=>!isDk μ a:=λy=>by
     have:=(cr.mp y).2;unfold isDk at this;rw[e] at this;cases this
    exact .dk (by rw[Ao Z];exact q) q2 (q3.mono F).2
   .exact .adr a
  .exact r.mono F
 have getO:∀{i:Nat}{d:D},(ρ.map (dvS μ))[i]?=Y2 (.ow d)->ρ[i]?=Y2 (.ow d):=λ{i d} O=>by
  rw[be] at O;cases q:ρ[i]? with
  |none=>rw[q] at O;cases O
  |some w=>
   rw[q] at O;cases w with
   |fz d=>cases O
   |ow d=>cases O;rfl
   |un=>cases O
 refine⟨by rw[aw];exact o.w.ok.len,λa ha=>?_,λi d O=>?_,λi d O=>?_,λi j d e a S h2 h3 h4=>o.w.ok.inj i j d e a (getO S) (getO h2) h3 h4⟩
 .obtain⟨S,_⟩:=cr.mp ha
  rcases f a with y | ⟨ob,kvs,_,y⟩
  .rw[y];exact o.w.ok.live a S
  .exact dO y
 .rw[be] at O;cases q:ρ[i]? with
  |none=>rw[q] at O;cases O
  |some w=>
   rw[q] at O;cases w with
   |fz d0=>
    cases O;obtain⟨v,q1,q2⟩:=o.w.ok.fz i d0 q;refine⟨v,q1,?_⟩;unfold dvD;split
    .rename_i ds;cases q2 with
     |lst k1 k2 k3=>
      refine .lst (F.seq k1) (by rw[aw];exact k2) λj x d e1 I=>?_;rw[be] at I;cases L:ds[j]? with
      |none=>rw[L] at I;cases I
      |some d1=>
       rw[L] at I;cases I;exact Y (k3 j x d1 e1 L)
    .exact q2.mono F
   |ow d=>cases O
   |un=>cases O
 .obtain⟨a,q1,q2,q3⟩:=o.w.ok.ow i d (getO O);have T:a∉ksM μ:=λy=>o.w.ow0 i d a (getO O) q1 (fE _ y);exact⟨a,q1,cr.mpr ⟨q2,by cases y:isDk μ a with | true=>exact absurd (J y) T | false=>rfl⟩,q3.keep (n a T) F⟩
end
section
variable {a b it ob:Expr}{fa fo:FE}{body:List Stmt}{h h1 h2:FXM}{gb:FM}
theorem bT(ha:PF X G a fa):PMX X G a (lnA fa):=λA0 He π s σ H Q I ⟨ρ,L,K,⟨A,Hb,w⟩,⟨d,e,ad,q⟩,k⟩=>
 Qc (@ha (A.filter λa=>!isDk L a)) I (ksM L) λH1 f n z=>⟨_,d,w.okD f n z,e,λv O T r2=>⟨T,by
  refine k v _ d L A Hb q (w.mono (J6 f T)) ?_;cases d with
  |lst ds=>
   cases r2 with
   |lst J k2 k3=>
    rename_i l W;refine .lst ?_ k2 λj x d e1 e2=>?_
    .rcases J with J | J
     .have Z:O l=Y2 (.lst W)∨∃o,O l=Y2 (.frz o (.lst W)):=J.imp (λy=>Aj _ _ y) λ⟨o,y⟩=>⟨o,Aj _ _ y⟩;have Y:∀F,H l≠Y2 (.dK F):=λF y=>by
       rcases f.at2 T y with y | ⟨o,y⟩<;>rcases Z with t | ⟨U,t⟩<;>(rw[y] at t;cases t)
      have nA:l∉A:=λy=>by
       have S:hid (A.filter λa=>!isDk L a) O l≠X2:=by
        rcases J with t | ⟨U,t⟩<;>(rw[t];exact nofun)
       by_cases dk:isDk L l=U2
       .unfold isDk at dk;split at dk
        .rename_i u0 el;obtain⟨F,q1,_⟩:=w.top _ (lookup_mem el);exact Y F q1
        .cases dk
       .apply S;unfold hid;rw[if_pos (cr.mpr ⟨y,by simpa using dk⟩)]
      refine .inl ?_;have eq:hid A (thw H O) l=O l:=by rw[Ao nA,JN Y]
      rcases Z with t | ⟨U,t⟩
      .exact .inl (by rw[eq];exact t)
      .exact .inr ⟨U,by rw[eq];exact t⟩
     .exact .inr J
    .have:=gz.mp ad d (lA e2);have r:=k3 j x d e1 e2;cases d with
     |adr a=>cases r;exact .adr a
     |_=>cases this
  |_=>cases ad⟩⟩
def forX(h:FXM)(I:FG)(b:FM):FM:=λρ F K=>h ρ F λd z=>∃ds,d=.lst ds/\Ij I b ds ρ z K
theorem Y7(hp:kJ (ah X.prog X.w) X.A X.env X.xe)(hc:X.calm=U2)(hG:G.K=X.K)(hx:PMX X G it h)(hg:PGD X G tg fg)(hb:PSMs X G body gb)(hs:∀x,gL it X.env x=pure x:=by intro _;rfl):PSM X G (.For tg it body [] pos) (forX h fg gb):=λL W π s U H D I ⟨ρ,μ,K,ok,e,k⟩=>by
 have L0:PSs X body (λD U H=>∃L W,tM G L W gb D U H):=λπ s U H D I ⟨L,W,q⟩=>@hb L W π s U H D I q;have K0:PG X tg (λv U H Q=>∃L W,tGD G L W fg v U H Q):=λπ s U H v u Q I r ⟨L,W,q⟩=>@hg L W π s U H v u Q I r q;refine Kf hp hc (Pn (@hx L W)) K0 L0 hs π s U H D I ⟨ρ,μ,_,ok,e,λv H1 d F0 A Hb ⟨F,ed,e⟩ w r=>?_⟩;subst ed;cases r with
 |lst hq lq rq=>
  rename_i l xs;refine⟨l,rfl,⟨xs,by rw[<-hG];exact Aj.seq hq⟩,?_⟩;rw[<-hG];obtain⟨B0,Hc,w2⟩:=w.here;have k2:∀o μ',K o μ'->Jg G L _ D o μ':=λo μ' q=>(k o μ' q).base B0 w.l0;generalize M0:hid (A.filter λa=>decide (a∉L)) H1=Hf at B0 w2 k2;refine⟨λi m z T=>m=F.length-i/\i<=F.length/\∃J μ',OkMS G L Hf z T J μ'/\Ij fg gb (F.drop i) J μ' K,⟨F.length,by simp,eA _,ρ,F0,⟨A,Hc,w2⟩,by simpa using e⟩,?_⟩;rintro i m C0 H3 ⟨rfl,O0,D0,y0,⟨B,Hd,w3⟩,e3⟩;have pl:Same (hid A H1) (hid B H3):=by rw[<-M0] at w3;exact OkM.plain w.subA0 w3
  have Y:SqL G.K H3 l xs:=Aj.seq (pl.seq hq)
  by_cases Z:i<F.length
  .right;have hd:F[i]?=Y2 F[i]:=by simp[Z]
   have ed:F.drop i=F[i]::F.drop (i+1):=ko Z;rw[ed] at e3;obtain⟨u0,e4,e5⟩:=e3;refine⟨⟨xs,xs[i]'(by omega),Y,cy (by omega)⟩,λz T=>∃J μ',OkMS G L Hf z T J μ'/\Ij fg gb (F.drop (i+1)) J μ' K,λz T q=>⟨F.length-(i+1),by omega,rfl,Z,q⟩,λx T y=>?_⟩;obtain⟨rfl,y2⟩:=y;have ex:=y2 xs Y;have rx:Rep G (hid B T) x F[i]:=(rq i x F[i] ex hd).mono pl;obtain⟨Hg,w4,up⟩:=w3.lift;refine⟨ksM y0++L,Hg,B,D0,F[i],u0,w4,rx,e4,λN0 H5 ⟨A5,G0⟩=>⟨L,Hf,u0,y0,_,⟨A5,Hg,up _ _ _ _ G0⟩,e5,λo5 v0 q5=>?_⟩⟩;cases o5 with
   |nx S=>exact λz T O=>⟨S,v0,O,q5⟩
   |ct S=>exact λz T O=>⟨S,v0,O,q5⟩
   |bk S=>exact λz T O=>k2 _ _ q5 z T O
   |rt d5 S=>exact k2 _ _ q5
  .left;have ei:i=F.length:=by omega
   subst ei;rw[kW] at e3;exact⟨⟨xs,Y,by rw[lq];exact ax _⟩,k2 _ _ e3 C0 H3 ⟨B,Hd,w3⟩⟩
def clrX(F:FE):FXM:=λρ z K=>∃l ds,F ρ=Y2 (.adr l)/\z.lookup l=Y2 (.lst ds)/\K .non (putA l (.lst []) z)
def clrK(I:FE):FXM:=λρ F K=>∃l z,I ρ=Y2 (.adr l)/\F.lookup l=Y2 (.dk z)/\K .non (putA l (.dk []) F)
theorem Vf(ho:PF X G ob fo)(J:d4 ob "clear" X.env (eval ob X.env)=eval ob X.env:=by rfl)(z:(apos.endLine==pos.line)=U2:=by rfl):
  PMX X G (.Call (.Attribute ob "clear" apos) [] [] pos) (clrX fo):=λA0 He T s O H Q I ⟨S,μ,K,⟨A,Hb,w⟩,⟨l,ds,e0,hl,q⟩,k⟩=>by
 have L:=lookup_mem hl;refine XD mf PySem.F.slot_list_clear PySem.F.type_list_clear XH (@ho A) J z T s O H Q I ⟨S,.adr l,w.w.ok,e0,λv H1 Y Z=>?_⟩;cases Z;have W:=w.mono Y;obtain⟨U,h1,h2⟩:=W.top _ L;exact⟨Tv (W.top _ L),l,U,rfl,rfl,h1,k _ _ _ _ A _ q (W.wr (Bx L) (λb o nb hb=>by rw[Ag nb];exact hb) ⟨[],Ah,.nil⟩) .non⟩
theorem Wg:MtM X "dict.clear" (λx vs H Q=>∃l kvs,x=.ref l/\vs=[]/\H l=Y2 (.dK kvs)/\Q .non (upd H l (.dK []))):=by
 intro S s O H x vs v T Q I rx F h;obtain⟨l,kvs,rfl,rfl,J,q⟩:=h;cases rx;have z:=F.zero;subst z;exact Z3 I J λU L=>⟨.non,_,L,rfl,q⟩
theorem Y8(ho:PF X G ob fo)(J:d4 ob "clear" X.env (eval ob X.env)=eval ob X.env:=by rfl)(z:(apos.endLine==pos.line)=U2:=by rfl):
  PMX X G (.Call (.Attribute ob "clear" apos) [] [] pos) (clrK fo):=λA0 He Y s T H Q I ⟨U,μ,K,⟨A,Hb,w⟩,⟨l,u0,e0,hl,q⟩,k⟩=>by
 have O:=lookup_mem hl;refine XD PySem.F.plainAttrs_dict qx PySem.F.type_dict_clear Wg (@ho A) J z Y s T H Q I ⟨U,.adr l,w.w.ok,e0,λv H1 Z r1=>?_⟩;cases r1;have W:=w.mono Z;obtain⟨L,S,h2,h3⟩:=W.top _ O;exact⟨.inr (.inr (.inl ⟨rfl,.inl ⟨L,S⟩⟩)),l,L,rfl,rfl,S,k _ _ _ _ A _ q (W.wr (Bx O) (λb o nb hb=>by rw[Ag nb];exact hb) ⟨[],Ah,rfl,.nil⟩) .non⟩
end
def spN(G:Gx)(g:List D->Option D):Sp:=λvs H Q _=>∃A ds d,(∀a∈A,Nt (H a))/\RepL G (hid A H) vs ds/\g ds=Y2 d/\∀p z,Same H z->H p=X2->Top G (p::A) z p d->Q (.ref p) z
def runN(n z:Nat)(f:FE):List D->Option D:=λds=>if ds.length=z then f (Ba n ds) else X2
theorem fn_N{w:ag}{base:Heap}{k:Nat}(F:Fun G.K x qual st f fd)(S:FnScope N ps (Ab st))(Z:ps.length<=N.length)(he:A_ st=[.Return (Y2 e) pos])(hb:∀(cdv:ac) (A:ar) (z:List Env) (s:ae) (H:Hp) (E:XK),Room k (A.deeper (dn qual (Ab st) s.heap.objs.size f cdv))->PN (cxOf CX0 P w G.K mg base N qual (Ab st) f cdv A z s H E).nox G e fe):
  FnOk P w G.K mg base CX0 (k+1) f fd ps (spN G (runN N.length ps.length fe)):=by
 refine F.ok S (λT H Q E h=>?_) (λcdv A z s H T Q E W h=>?_)
 .obtain⟨A,L,d,J,r,e,_⟩:=h;unfold runN at e;split at e
  .rename_i O;rw[r.1];exact O
  .cases e
 .obtain⟨A0,L,d,J,r,e,k⟩:=h;unfold runN at e;split at e
  .rename_i O;have hzz:=hb cdv A z s H E W;obtain⟨B,I⟩:=Fp (N:=N) J r (by rw[r.1,O];exact Z);rw[he];refine⟨_,Iz (Wu (@hzz B)),Ba N.length L,d,I.ok,e,λp H' U Y t=>k p H' U Y (t.sub λa ha=>?_)⟩
   rcases ba.mp ha with y | y
   .rw[y];exact bg
   .exact aI _ (I.sub a y)
  .cases e
def Y9(c m:Str)(g:List D->Option D)(F:FE):FXM:=λρ z K=>∃o d,F ρ=Y2 o/\El c m o=U2/\g [o]=Y2 d/\∀p,p∉ksM z->K (.adr p) ((p,d)::z)
section
variable {a ob:Expr}{fa fo:FE}{p:Pos}
theorem PL{k:Nat}{d:Mx X.K C m qual st ps}{pl:Sem Bool}(O:G.cl c=Y2 C)(cl:Cls X.K C)(F:FnOk X.prog X.w X.K X.mg X.base CX0 k d.f d.fd ps (spN G g))(hr:Room k' X.A)(ho:PF X G ob fo)(J:k<=k':=by omega)(ht:eval (.Call (.Attribute ob m apos) [] [] pos) X.env=(do
   let ov <-eval ob X.env
   kK apos.atName
   let (f,first) <-kL [ov] (kN ov m pl)
   kO pos f first (br pos (ai [] X.env)) (fF pos (fI [] X.env))):=by rfl):
  PMX X G (.Call (.Attribute ob m apos) [] [] pos) (Y9 c m g fo):=λA0 He π s U H Q I ⟨Y,μ,K,⟨A,Hb,w⟩,⟨L,dd,e0,z,e2,q⟩,k⟩=>by
 refine Qu (@ho A) cl d.me F (hr.mono J) d.B .nil JM ht π s U H Q I ⟨Y,L,w.w.ok,e0,λv H1 s1 r1=>?_⟩;cases L with
 |ob c' gs=>
  simp only[El,eD,beq_iff_eq,lH] at z;obtain⟨rfl,hn⟩:=z;cases r1 with
  |ob S T Z r2=>
   rw[O] at S;cases S;have W:=w.mono s1;refine⟨_,_,_,rfl,Aj _ _ T,K1 Z hn,A,[.ob c' gs],dd,W.w.ok.live,?_,e2,λp H2 s2 hp t=>?_⟩
   .exact .cons (.ob O T Z r2) .nil
   .obtain⟨_,np,m⟩:=W.new s2 hp t;exact k _ H2 _ _ _ _ (q p np) m (.adr p)
 |_=>simp[El] at z
theorem Y_(hc:X.calm=U2)(hg:Gl X x)(hm:X.mg x=X2)(hv:dc x=Y2 (.builtin "sorted"))(ha:PF X G a fa)(hn:x≠"__name__":=by decide)(T:(x==("__debug__":Str))=T2:=by decide)(he:ai [a] X.env=[(T2,eval a X.env)]:=by rfl):PN X G (.Call (.Name x p) [a] [] pos) (uF sdkD fa):=λA=>Bt (Jl (DK hc) hg hm hv (CQ (@ha A) Ep he) hn T he rfl) λσ H Q ⟨ρ,d,o,e,k⟩=>by
 obtain⟨dx,e1,F⟩:=Ju e;refine⟨ρ,dx,o,e1,λv H1 Y r1=>?_⟩;cases dx with
 |dk L=>
  have F:sdkL L=Y2 d:=F;obtain⟨p,S,rfl,I,O,h3⟩:=(RepT.dk (.inl r1):_);unfold sdkL at F;cases U:Hw (L.map λp=>kDt p.1) with
  |none=>rw[U] at F;cases F
  |some J=>
   rw[U] at F;have W:(if J.Nodup/\J.length<=60 then Y2 (D.lst ((Bf J).map .str)) else X2)=Y2 d:=F;split at W
   .rename_i Z;cases W;refine⟨p,S,J,rfl,I,RG (G:=G) (H:=hid A H1) (U7 O) U,Z.1,Z.2,λl hl=>k l _ (Y.trans (Ak hl _)) (Y.free hl) ⟨_,Ah,by simp,λi v d I O=>?_⟩⟩;rw[be] at I O;cases q:(Bf J)[i]? with
    |none=>rw[q] at I;cases I
    |some z=>rw[q] at I O;cases I;cases O;exact .str z
   .cases W
 |_=>cases F
end
end PV
namespace K01
open PySem L2 PV
abbrev cs (x:Str):List Nat:=x.cps.toList
def LET:Str:="abcdefghijklmnopqrstuvwxyz"
def IsL(x:Str):Prop:=∀c∈cs x,c∈cs LET
def KEPT:List Str:=["not","and","or","some","all"]
structure Wd (x:Str):Prop where
 lo:1<=x.length
 hi:x.length<=8
 isL:IsL x
 kept:x∉KEPT
structure Wl where
 n:Nat
 ms:List (Str×List Nat)
 ts:List (Str×List (Nat×Nat))
abbrev iN (t:Nat):D:=.int (t:Int)
abbrev pN (q:Nat×Nat):D:=.tup [.int (q.1:Int),.int (q.2:Int)]
def lM(l:List Nat):D:=.lst (l.map iN)
def lT(l:List (Nat×Nat)):D:=.lst (l.map pN)
def eM(I:List (Str×List Nat)):List (Key×D):=I.map λp=>(.inr p.1,lM p.2)
def eT(z:List (Str×List (Nat×Nat))):List (Key×D):=z.map λp=>(.inr p.1,lT p.2)
def kM(l:List Nat):D:=.dk (l.map λ(t:Nat)=>((.inl (t:Int):Key),.bl U2))
def kT(l:List (Nat×Nat)):D:=.dt (l.map λq=>([(.inl (q.1:Int):Key),.inl (q.2:Int)],.bl U2))
def oM(I:List (Str×List Nat)):List (Key×D):=I.map λp=>(.inr p.1,kM p.2)
def oT(z:List (Str×List (Nat×Nat))):List (Key×D):=z.map λp=>(.inr p.1,kT p.2)
def wob(W:Wl):D:=.ob "World" [("size",.int W.n),("marked",.dk (oM W.ms)),("tied",.dk (oT W.ts))]
structure WOk (W:Wl):Prop where
 n5:W.n<=5
 m3:W.ms.length<=3
 t3:W.ts.length<=3
 mw:∀p∈W.ms,Wd p.1
 tw:∀p∈W.ts,Wd p.1
 nd:(W.ms.map (·.1)++W.ts.map (·.1)).Nodup
 ml:∀p∈W.ms,p.2.Nodup/\p.2.length<=100/\∀t∈p.2,t<W.n
 tl:∀p∈W.ts,p.2.Nodup/\p.2.length<=100/\∀q∈p.2,q.1<W.n/\q.2<W.n
abbrev Pr:=Nat×Nat
def mk(W:Wl)(w:Str)(i:Nat):Bool:=match W.ms.find? (λp=>p.1=w) with | some p=>decide (i∈p.2) | none=>T2
def tk(W:Wl)(w:Str)(i j:Nat):Bool:=match W.ts.find? (λp=>p.1=w) with | some p=>decide ((i,j)∈p.2) | none=>T2
abbrev mw (W:Wl):List Str:=W.ms.map (·.1)
abbrev tw (W:Wl):List Str:=W.ts.map (·.1)
def dW(_:List D)(d:D):Prop:=d=.bl U2
end K01
namespace K01
open PySem PySem.Spec L2 PV EX
open PyProof.Rows hiding St
noncomputable section
def c_KEPT_TEXTS:D:=(.tup ((["not","and","or","some","all"]:List Str).map .str))
def Gg:FS:=seqF (ifS (blF (bF ltD (vF 1) (uF lenD (vF 0)))) (retF (bF ixD (vF 0) (vF 1))) (nxF)) (retF (kF (.int 0)))
def Bd:List D->Option D:=runF 2 2 Gg
def Cp:FS:=seqF (setF 10 (bF addD (bF addD (bF Ew (vF 3) (bF addD (vF 9) (kF (.int 3)))) (bF mulD (vF 9) (vF 9))) (bF mulD (uF intD (bF (eqD T2) (vF 9) (vF 5))) (vF 7)))) (setF 8 (bF addD (vF 8) (bF ixE (vF 2) (bF modD (vF 10) (kF (.int 26))))))
def Cq:FS:=seqF (setF 8 (kF (.str ""))) (seqF (forS (rngI (vF 4)) (BV 9) (Cp)) (seqF (ifS (blF (bF (inF T2) (vF 8) (lstF (Aa (kF (.str "not")) (Aa (kF (.str "and")) (Aa (kF (.str "or")) (Aa (kF (.str "some")) (Aa (kF (.str "all")) (nilA))))))))) (setF 8 (bF addD (vF 8) (kF (.str "x")))) (nxF)) (mutF appL 6 (vF 8))))
def HX:FS:=seqF (setF 2 (kF (.str "abcdefghijklmnopqrstuvwxyz"))) (seqF (setF 3 (bF modD (vF 0) (kF (.int 2147483629)))) (seqF (setF 4 (bF addD (kF (.int 1)) (bF modD (vF 3) (kF (.int 8))))) (seqF (setF 5 (bF modD (bF Ew (vF 3) (kF (.int 8))) (vF 4))) (seqF (setW 6 (lstF (nilA))) (seqF (forS (rngI (vF 1)) (BV 7) (Cq)) (fzS [6] (retF (vF 6))))))))
def FP:List D->Option D:=runF 11 2 HX
def Ce:FS:=ifS (blF (bF (eqD T2) (bF modD (vF 0) (kF (.int 3))) (kF (.int 0)))) (mutF appL 2 (bF (eqD T2) (bF modD (bF Ew (bF Ew (vF 0) (kF (.int 3))) (bF shlD (kF (.int 1)) (vF 4))) (kF (.int 2))) (kF (.int 1)))) (seqF (setF 3 (bF modD (bF addD (bF addD (bF addD (bF mulD (vF 3) (vF 3)) (bF mulD (kF (.int 48271)) (vF 3))) (vF 4)) (kF (.int 1))) (kF (.int 2147483629)))) (mutF appL 2 (bF (eqD T2) (bF modD (bF Ew (vF 3) (kF (.int 7))) (bF mulD (kF (.int 2)) (bF modD (vF 0) (kF (.int 3))))) (kF (.int 0)))))
def Il:FS:=seqF (setW 2 (lstF (nilA))) (seqF (setF 3 (bF modD (bF Ew (vF 0) (kF (.int 3))) (kF (.int 2147483629)))) (seqF (forS (rngI (vF 1)) (BV 4) (Ce)) (fzS [2] (retF (vF 2)))))
def Em:List D->Option D:=runF 5 2 Il
def Fz:FT:=trF (bF ixE (vF 9) (vF 10))
def Im:FE:=vF 10
def F_:FT:=trF (bF ixE (vF 9) (vF 10))
def GC:FE:=tupF (Aa (bF Ew (vF 10) (vF 3)) (Aa (bF modD (vF 10) (vF 3)) (nilA)))
def Bo:FS:=ifS (blF (bF ltD (vF 8) (vF 4))) (seqF (setF 9 (Am (Em) (Aa (Am (Bd) (Aa (vF 0) (Aa (bF addD (bF addD (vF 1) (kF (.int 2))) (vF 8)) (nilA)))) (Aa (vF 3) (nilA))))) (putF 6 (bF ixE (vF 5) (vF 8)) (Hq (rngI (vF 3)) (Fz) (Im)))) (seqF (setF 9 (Am (Em) (Aa (Am (Bd) (Aa (vF 0) (Aa (bF subD (bF addD (bF addD (vF 1) (kF (.int 5))) (vF 8)) (vF 4)) (nilA)))) (Aa (bF mulD (vF 3) (vF 3)) (nilA))))) (putF 7 (bF ixE (vF 5) (vF 8)) (Hq (rngI (bF mulD (vF 3) (vF 3))) (F_) (GC))))
def HY:FS:=seqF (setF 2 (Am (Bd) (Aa (vF 0) (Aa (vF 1) (nilA))))) (seqF (setF 3 (bF ixE (lstF (Aa (bF modD (bF Ew (vF 2) (kF (.int 9))) (kF (.int 5))) (Aa (kF (.int 5)) (nilA)))) (uF intD (bF (eqD T2) (bF modD (bF Ew (vF 2) (kF (.int 45))) (kF (.int 12))) (kF (.int 11)))))) (seqF (setF 4 (bF modD (vF 2) (kF (.int 4)))) (seqF (setF 5 (Am (FP) (Aa (Am (Bd) (Aa (vF 0) (Aa (bF addD (vF 1) (kF (.int 1))) (nilA)))) (Aa (bF addD (vF 4) (bF modD (bF Ew (vF 2) (kF (.int 4))) (kF (.int 4)))) (nilA))))) (seqF (setW 6 (kF (.dk []))) (seqF (setW 7 (kF (.dk []))) (seqF (forS (rngI (uF lenE (vF 5))) (BV 8) (Bo)) (fzS [6,7] (retF (lstF (Aa (vF 3) (Aa (vF 6) (Aa (vF 7) (nilA)))))))))))))
def CV:List D->Option D:=runF 10 2 HY
def GD:FS:=ifS (blF (bF gtD (vF 0) (vF 1))) (badF) (nxF)
def Ai:List D->Option D:=runF 2 2 GD
def Dl:FS:=ifS (orT (blF (bF ltD (vF 1) (kF (.int 0)))) (blF (bF geD (vF 1) (vF 0)))) (badF) (nxF)
def Av:List D->Option D:=runF 2 2 Dl
def BJ:FS:=seqF (Dh (Am (Av) (Aa (vF 0) (Aa (vF 3) (nilA))))) (putF 2 (vF 3) (kF (.bl U2)))
def Gr:FS:=seqF (setW 2 (kF (.dk []))) (seqF (forS (seqA (vF 1)) (BV 3) (BJ)) (fzS [2] (retF (vF 2))))
def Cg:List D->Option D:=runF 4 2 Gr
def GF:Mu->FS:=λz=>seqF (setW 2 (kF (.dk []))) (seqF (forR (seqR 1) (BV 3) (λ_=>BJ) z) (fzS [2] (retF (vF 2))))
def Bp:Mu->List D->Option D:=λz=>runF 4 2 (GF z)
def BX:FS:=seqF (Dh (Am (Av) (Aa (vF 0) (Aa (vF 3) (nilA))))) (seqF (Dh (Am (Av) (Aa (vF 0) (Aa (vF 4) (nilA))))) (RM 2 (Aa (vF 3) (Aa (vF 4) (nilA))) (kF (.bl U2))))
def Ha:FS:=seqF (setW 2 (kF (.dt []))) (seqF (forS (seqA (vF 1)) (tupG 2 (BL 3 (BL 4 (nilG)))) (BX)) (fzS [2] (retF (vF 2))))
def Cv:List D->Option D:=runF 5 2 Ha
def Gs:Mu->FS:=λz=>seqF (setW 2 (kF (.dt []))) (seqF (forR (seqR 1) (tupG 2 (BL 3 (BL 4 (nilG)))) (λ_=>BX) z) (fzS [2] (retF (vF 2))))
def By:Mu->List D->Option D:=λz=>runF 5 2 (Gs z)
def En:FE:=bF (inF T2) (vF 1) (kF (.str "abcdefghijklmnopqrstuvwxyz"))
def K3:FS:=seqF (ifS (orT (blF (bF (inF T2) (vF 0) (kF c_KEPT_TEXTS))) (orT (blF (bF (eqD T2) (uF lenE (vF 0)) (kF (.int 0)))) (blF (bF gtD (uF lenE (vF 0)) (kF (.int 8)))))) (retF (kF (.bl T2))) (nxF)) (retF (uF allD (Hq (seqA (vF 0)) (allT) (En))))
def BP:List D->Option D:=runF 1 1 K3
def Bq:FEs:=Cz (ifE (Fx (notT (trF (Am (BP) (Aa (vF 4) (nilA))))))) (Fw "marked" (vF 4) (Am (Cg) (Aa (vF 1) (Aa (vF 5) (nilA)))))
def Br:FEs:=Cz (ifE (orTE (Fx (notT (trF (Am (BP) (Aa (vF 4) (nilA)))))) (inTE "marked" (vF 4)))) (Fw "tied" (vF 4) (Am (Cv) (Aa (vF 1) (Aa (vF 6) (nilA)))))
def Dz:FEs:=Cz (pureE (Dh (Am (Ai) (Aa (vF 1) (Aa (kF (.int 5)) (nilA)))))) (Cz (pureE (Dh (Am (Ai) (Aa (uF lenE (vF 2)) (Aa (kF (.int 3)) (nilA)))))) (Cz (pureE (Dh (Am (Ai) (Aa (uF lenE (vF 3)) (Aa (kF (.int 3)) (nilA)))))) (Cz (O2 "size" (vF 1)) (Cz (Gb "marked" (kF (.dk []))) (Cz (Gb "tied" (kF (.dk []))) (Cz (forE (Ky (vF 2)) (tupG 2 (BL 4 (BL 5 (nilG)))) (Bq)) (Cz (forE (Ky (vF 3)) (tupG 2 (BL 4 (BL 6 (nilG)))) (Br)) (nilE))))))))
def CK:Addr->List D->Option Ef:=runI 7 4 Dz
def CW:FEr:=G9 (JP (ifE (Fx (notT (trF (Am (BP) (Aa (vF 4) (nilA)))))))) (Y0 "marked" (vF 4) (Gf (Bp) (λ_=>Aa (vF 1) (Aa (vF 5) (nilA)))))
def CZ:FEr:=G9 (JP (ifE (orTE (Fx (notT (trF (Am (BP) (Aa (vF 4) (nilA)))))) (inTE "marked" (vF 4))))) (Y0 "tied" (vF 4) (Gf (By) (λ_=>Aa (vF 1) (Aa (vF 6) (nilA)))))
def Dm:FEr:=G9 (JP (pureE (Dh (Am (Ai) (Aa (vF 1) (Aa (kF (.int 5)) (nilA))))))) (G9 (LR (Gf (λ_=>Ai) (λz=>Aa (lenR 2 z) (Aa (kF (.int 3)) (nilA))))) (G9 (LR (Gf (λ_=>Ai) (λz=>Aa (lenR 3 z) (Aa (kF (.int 3)) (nilA))))) (G9 (JP (O2 "size" (vF 1))) (G9 (JP (Gb "marked" (kF (.dk [])))) (G9 (JP (Gb "tied" (kF (.dk [])))) (G9 (O9 (Ik 2) (tupG 2 (BL 4 (BL 5 (nilG)))) (CW)) (G9 (O9 (Ik 3) (tupG 2 (BL 4 (BL 6 (nilG)))) (CZ)) (JP nilE))))))))
def Ck:Mu->Addr->List D->Option Ef:=λz=>runI 7 4 (Dm z)
def Eu:FM:=seqM (Nf (mutX 2 [2] insM (Aa (bF modD (bF ixD (vF 1) (bF modD (vF 3) (uF lenD (vF 1)))) (bF addD (uF lenD (vU 2)) (kF (.int 1)))) (Aa (bF ixD (vF 0) (vF 3)) (nilA))))) (ifM [] (blF (bF (eqD T2) (bF modD (bF Ew (bF ixD (vF 1) (bF modD (vF 3) (uF lenD (vF 1)))) (kF (.int 7))) (kF (.int 3))) (kF (.int 0)))) (Nf (mutX 2 [] appM (Aa (bF ixD (vF 0) (vF 3)) (nilA)))) (nxM))
def JQ:FM:=seqM (Nb 2 (newX (lstF (nilA)))) (seqM (forM (rngI (uF lenD (vF 0))) (BV 3) (Eu)) (puM (retF (vF 2))))
def Eb:GM:=runM 4 2 JQ
def Hh:Mu->FS:=λz=>seqF (setW 1 (kF (.dk []))) (seqF (forR (O7 0) (BV 2) (putR 1 (vF 2) (lstR 0 (vF 2))) z) (fzS [1] (retF (vF 1))))
def Dn:Mu->List D->Option D:=λz=>runF 3 1 (Hh z)
def DW:FS:=retF (uF sdkD (uF (fldD "marked") (vF 0)))
def Ca:List D->Option D:=runF 1 1 DW
def C_:List D->Option D:=runN 1 1 (uF sdkD (uF (fldD "marked") (vF 0)))
def Do:FS:=retF (uF sdkD (uF (fldD "tied") (vF 0)))
def Cm:List D->Option D:=runF 1 1 Do
def DX:List D->Option D:=runN 1 1 (uF sdkD (uF (fldD "tied") (vF 0)))
def J_:FS:=retF (andF (uF (isiD "int") (vF 0)) (notF (uF (isiD "bool") (vF 0))))
def Hi:List D->Option D:=runF 1 1 J_
def KC:FS:=retF (andF (uF (isiD "bool") (vF 0)) (bF (eqD T2) (vF 0) (vF 1)))
def FQ:List D->Option D:=runF 2 2 KC
def Io:FS:=seqF (ifS (blF (bF (inF U2) (vF 1) (uF (fldD "marked") (vF 0)))) (badF) (nxF)) (seqF (Dh (Am (Av) (Aa (uF (fldD "size") (vF 0)) (Aa (vF 2) (nilA))))) (retF (bF (inF T2) (vF 2) (bF ixE (uF (fldD "marked") (vF 0)) (vF 1)))))
def Gh:List D->Option D:=runF 3 3 Io
def Gu:FS:=seqF (ifS (blF (bF (inF U2) (vF 1) (uF (fldD "tied") (vF 0)))) (badF) (nxF)) (seqF (Dh (Am (Av) (Aa (uF (fldD "size") (vF 0)) (Aa (vF 2) (nilA))))) (seqF (Dh (Am (Av) (Aa (uF (fldD "size") (vF 0)) (Aa (vF 3) (nilA))))) (retF (inTF (Aa (vF 2) (Aa (vF 3) (nilA))) (bF ixE (uF (fldD "tied") (vF 0)) (vF 1))))))
def Ec:List D->Option D:=runF 4 4 Gu
def Gv:FS:=ifS (notT (trF (Am (FQ) (Aa (J3 "World" "has" (Gh) (vF 0) (Aa (vF 5) (Aa (vF 4) (nilA)))) (Aa (bF (inF T2) (vF 4) (bF ixE (vF 2) (vF 5))) (nilA)))))) (retF (kF (.bl T2))) (nxF)
def Ed:FS:=ifS (notT (trF (Am (FQ) (Aa (J3 "World" "leads" (Ec) (vF 0) (Aa (vF 5) (Aa (vF 4) (Aa (vF 6) (nilA))))) (Aa (bF (inF T2) (tupF (Aa (vF 4) (Aa (vF 6) (nilA)))) (bF ixE (vF 3) (vF 5))) (nilA)))))) (retF (kF (.bl T2))) (nxF)
def Gw:FS:=forS (seqA (vF 3)) (BV 5) (Ed)
def DN:FS:=seqF (forS (seqA (vF 2)) (BV 5) (Gv)) (forS (rngI (vF 1)) (BV 6) (Gw))
def Ip:FS:=seqF (ifS (orT (notT (trF (Am (Hi) (Aa (uF (fldD "size") (vF 0)) (nilA))))) (blF (bF (eqD U2) (uF (fldD "size") (vF 0)) (vF 1)))) (retF (kF (.bl T2))) (nxF)) (seqF (ifS (orT (blF (bF (eqD U2) (J3 "World" "mark_words" (Ca) (vF 0) nilA) (uF sdkD (vF 2)))) (blF (bF (eqD U2) (J3 "World" "tie_words" (Cm) (vF 0) nilA) (uF sdkD (vF 3))))) (retF (kF (.bl T2))) (nxF)) (seqF (forS (rngI (vF 1)) (BV 4) (DN)) (retF (kF (.bl U2)))))
def Cr:List D->Option D:=runF 7 4 Ip
def Vg:FM:=Vd (bF ixE (vF 5) (kF (.int 0))) (vF 6) (calX (Eb) (Aa (bF ixE (vF 2) (vF 6)) (Aa (vF 4) (nilA))))
def Vh:FM:=Vd (bF ixE (vF 5) (kF (.int 1))) (vF 6) (calX (Eb) (Aa (bF ixE (vF 3) (vF 6)) (Aa (vF 4) (nilA))))
def Vi:FM:=Nf (clrX (vF 13))
def Vj:FM:=seqM (puM (asgF (Am (CV) (Aa (vF 0) (Aa (kF (.int 0)) (nilA)))) (tupG 3 (BL 1 (BL 2 (BL 3 (nilG))))))) (seqM (puM (setF 4 (bF addD (lstF (Aa (kF (.int 5)) (nilA))) (slF (vF 0) (someO (kF (.int 16))) (someO (kF (.int 63))))))) (seqM (Nb 5 (Vc (newX (kF (.dk []))) (newX (kF (.dk []))))) (seqM (forM (revI (uF NT (vF 2))) (BV 6) (Vg)) (seqM (forM (revI (uF NT (vF 3))) (BV 6) (Vh)) (seqM (Nb 7 (Vc (rdX (Dn) (Aa (bF ixE (vF 5) (kF (.int 0))) (nilA))) (rdX (Dn) (Aa (bF ixE (vF 5) (kF (.int 1))) (nilA))))) (seqM (Nb 8 (mkRX "World" (Ck) (Aa (vF 1) (Aa (bF ixE (vF 5) (kF (.int 0))) (Aa (bF ixE (vF 5) (kF (.int 1))) (nilA)))))) (seqM (ifV 6 (orT (blF (bF neLD (vF 5) (vF 7))) (notT (trF (Am (Cr) (Aa (vF 8) (Aa (vF 1) (Aa (vF 2) (Aa (vF 3) (nilA))))))))) (puM (retF (kF (.bl T2)))) (nxM)) (seqM (puM (asgF (Am (CV) (Aa (vF 0) (Aa (kF (.int 8)) (nilA)))) (tupG 3 (BL 9 (BL 10 (BL 11 (nilG))))))) (seqM (puM (setF 12 (mkI "World" (CK) (Aa (vF 9) (Aa (vF 10) (Aa (vF 11) (nilA))))))) (seqM (forX (lnA (bF addD (uF Hs (bF ixE (vF 5) (kF (.int 0)))) (uF Hs (bF ixE (vF 5) (kF (.int 1)))))) (BV 13) (Vi)) (seqM (Vd (bF ixE (vF 5) (kF (.int 0))) (kF (.str "zebra")) (pvX [] (lstF (Aa (kF (.int 0)) (nilA))))) (seqM (Nf (clrK (bF ixE (vF 5) (kF (.int 1))))) (seqM (Nb 14 (Vc (Y9 "World" "mark_words" (C_) (vF 8)) (Y9 "World" "tie_words" (DX) (vF 8)))) (seqM (Nf (mutE (bF ixE (vF 14) (kF (.int 0))) appM (Aa (kF (.str "w")) (nilA)))) (seqM (Nf (clrX (bF ixE (vF 14) (kF (.int 1))))) (puM (retF (andF (Am (Cr) (Aa (vF 12) (Aa (vF 9) (Aa (vF 10) (Aa (vF 11) (nilA)))))) (Am (Cr) (Aa (vF 8) (Aa (vF 1) (Aa (vF 2) (Aa (vF 3) (nilA))))))))))))))))))))))))
def Ro:List D->Option D:=theD (runM 15 1 Vj) dW
end
def top(i:Nat):Stmt:=PySem.Challenge.pw_twinrounds_k01_worlds_asked.main.body.getD i (.Pass ⟨0,0,0,0⟩)
abbrev La:Stmt:=top 18
abbrev KD:Stmt:=top 20
abbrev Lb:Stmt:=top 19
abbrev FW:Stmt:=top 21
abbrev Ir:Stmt:=top 12
abbrev Gi:Stmt:=top 13
abbrev JR:Stmt:=top 14
abbrev KH:Stmt:=top 15
abbrev K4:Stmt:=top 11
abbrev G_:Stmt:=inClass (top 16) 0
abbrev JS:Stmt:=top 23
abbrev Ld:Stmt:=top 24
abbrev GJ:Stmt:=inClass (top 16) 3
abbrev Gj:Stmt:=inClass (top 16) 4
abbrev KJ:Stmt:=top 22
abbrev KN:Stmt:=top 25
abbrev Le:Stmt:=inClass (top 16) 1
abbrev JT:Stmt:=inClass (top 16) 2
abbrev Lf:Stmt:=top 26
abbrev dX:Stmt:=top 27
set_option genInjectivity false in
structure Tx (G:Gx) (mg:Str->Option ac) where
 C_World:Addr
 gc_World:G.cl "World"=Y2 C_World
 cl_World:Cls G.K C_World
 mC_World:mg "World"=Y2 (.ref C_World)
 x__law_cell:Dx G.K mg "_law_cell" La ["_law_script","_law_k"]
 x__law_words:Dx G.K mg "_law_words" KD ["_law_cell_here","_law_many"]
 x__law_bits:Dx G.K mg "_law_bits" Lb ["_law_cell_here","_law_many"]
 x__law_world:Dx G.K mg "_law_world" FW ["_law_script","_law_start"]
 x_refuse_above:Dx G.K mg "refuse_above" Ir ["number","most"]
 x_refuse_no_thing:Dx G.K mg "refuse_no_thing" Gi ["size","thing"]
 x_kept_things:Dx G.K mg "kept_things" JR ["size","things"]
 x_kept_pairs:Dx G.K mg "kept_pairs" KH ["size","pairs"]
 x_is_word:Dx G.K mg "is_word" K4 ["text"]
 x_World___init__:Ix G.K C_World "World.__init__" G_ ["self","size","marks","ties"]
 x__law_strewn:Dx G.K mg "_law_strewn" JS ["_law_rows","_law_cells"]
 x__law_copy:Dx G.K mg "_law_copy" Ld ["_law_rows"]
 x_World_mark_words:Mx G.K C_World "mark_words" "World.mark_words" GJ ["self"]
 x_World_tie_words:Mx G.K C_World "tie_words" "World.tie_words" Gj ["self"]
 x__law_whole:Dx G.K mg "_law_whole" KJ ["_law_found"]
 x__law_truth:Dx G.K mg "_law_truth" KN ["_law_found","_law_due"]
 x_World_has:Mx G.K C_World "has" "World.has" Le ["self","word","thing"]
 x_World_leads:Mx G.K C_World "leads" "World.leads" JT ["self","word","one","other"]
 x__law_good:Dx G.K mg "_law_good" Lf ["_law_world_here","_law_size","_law_marks","_law_ties"]
 x_law:Dx G.K mg "law" dX ["_law_script"]
 z_all:mg "all"=X2
 z_bool:mg "bool"=X2
 z_int:mg "int"=X2
 z_isinstance:mg "isinstance"=X2
 z_len:mg "len"=X2
 z_list:mg "list"=X2
 z_range:mg "range"=X2
 z_reversed:mg "reversed"=X2
 z_sorted:mg "sorted"=X2
 s_MOST_LETTERS:Sx mg "MOST_LETTERS" (.int 8)
 s_LETTERS:Sx mg "LETTERS" (.str "abcdefghijklmnopqrstuvwxyz")
 s_MOST_THINGS:Sx mg "MOST_THINGS" (.int 5)
 s_MOST_WORDS:Sx mg "MOST_WORDS" (.int 3)
 fl_size:∀c C,G.cl c=Y2 C->Cls G.K C/\Ci G.K C "size"
 fl_marked:∀c C,G.cl c=Y2 C->Cls G.K C/\Ci G.K C "marked"
 fl_tied:∀c C,G.cl c=Y2 C->Cls G.K C/\Ci G.K C "tied"
 c_KEPT_TEXTS:Kx G mg "KEPT_TEXTS" K01.c_KEPT_TEXTS
section
variable {w:ag}{base:Heap}
abbrev Lg:List Str:=["_law_script","_law_k"]
theorem Qf:FnScope Lg ["_law_script","_law_k"] (Ab La):=scO
theorem Fb(T:Tx G mg):DOk P w base T.x__law_cell 1 (spD G Bd):=
 fnX (k:=0) (N:=Lg) (b:=Gg) T.x__law_cell Qf λ_ _ _ _ _ _ z=>Ad (Dt (tLt (vp 1) (pU (Bl (Cd rfl) JD rfl T.z_len Es (vp 0)))) (Ae (Ax (iD (vp 0) (vp 1)))) (Di)) (Ae (Ax (S_)))
abbrev KQ:List Str:=["_law_cell_here","_law_many","_law_letters","_law_number","_law_long","_law_at","_law_found","_law_k","_law_word","_law_j","_law_place"]
theorem Aw:FnScope KQ ["_law_cell_here","_law_many"] (Ab KD):=scO
theorem OJ(T:Tx G mg):DOk P w base T.x__law_words 1 (spD G FP):=
 fnX (k:=0) (N:=KQ) (b:=HX) T.x__law_words Aw λ_ _ _ _ _ _ z=>Ad (sF Aw.nd 2 (M4)) (Ad (sF Aw.nd 3 (bMod (vp 0) (iP))) (Ad (sF Aw.nd 4 (bAdd (iP) (pU (bMod (vp 3) (iP))))) (Ad (sF Aw.nd 5 (bMod (pU (bDiv (vp 3) (iP))) (vp 4))) (Ad (sW Aw.nd 6 (Td (Ac))) (Ad (Ea d6 rfl (Ez rfl T.z_range (vp 1)) (Bm (gN Aw.nd 7)) (Ad (sF Aw.nd 8 (M4)) (Ad (Ea d6 rfl (Ez rfl T.z_range (vp 4)) (Bm (gN Aw.nd 9)) (Ad (sF Aw.nd 10 (bAdd (pU (bAdd (pU (bDiv (vp 3) (pU (bAdd (vp 9) (iP))))) (pU (bMul (vp 9) (vp 9))))) (pU (bMul (pU (JC Oh Ui rfl T.z_int TY (pU (cEq z (vp 9) (vp 5))))) (vp 7))))) (Ae (sF Aw.nd 8 (bAdd (vp 8) (pU (iX z (vp 2) (pU (bMod (vp 10) (iP)))))))))) (Ad (Dt (tIn z (vp 8) (pU (M6 (iS (iS (iS (iS (iS (Ac))))))))) (Ae (sF Aw.nd 8 (bAdd (vp 8) (sP)))) (Di)) (Ae (QH (pv 6) (vr 8))))))) (Ae (H_ [6] (Ax (vr 6)))))))))
abbrev Lh:List Str:=["_law_cell_here","_law_many","_law_found","_law_number","_law_k"]
theorem Dp:FnScope Lh ["_law_cell_here","_law_many"] (Ab Lb):=scO
theorem KR(T:Tx G mg):DOk P w base T.x__law_bits 1 (spD G Em):=
 fnX (k:=0) (N:=Lh) (b:=Il) T.x__law_bits Dp λ_ _ _ _ _ _ z=>Ad (sW Dp.nd 2 (Td (Ac))) (Ad (sF Dp.nd 3 (bMod (pU (bDiv (vp 0) (iP))) (iP))) (Ad (Ea d6 rfl (Ez rfl T.z_range (vp 1)) (Bm (gN Dp.nd 4)) (Ae (Dt (tEq z (pU (bMod (vp 0) (iP))) (iP)) (Ae (QH (pv 2) (cEq z (pU (bMod (pU (bDiv (pU (bDiv (vp 0) (iP))) (pU (Ko aC aG (iP) (vp 4))))) (iP))) (iP)))) (Ad (sF Dp.nd 3 (bMod (pU (bAdd (pU (bAdd (pU (bAdd (pU (bMul (vp 3) (vp 3))) (pU (bMul (iP) (vp 3))))) (vp 4))) (iP))) (iP))) (Ae (QH (pv 2) (cEq z (pU (bMod (pU (bDiv (vp 3) (iP))) (pU (bMul (iP) (pU (bMod (vp 0) (iP))))))) (iP)))))))) (Ae (H_ [2] (Ax (vr 2))))))
abbrev Bv:List Str:=["_law_script","_law_start","_law_cell_here","_law_size","_law_many","_law_words_here","_law_marks","_law_ties","_law_k","_law_bits_here"]
theorem BR:FnScope Bv ["_law_script","_law_start"] (Ab FW):=scO
theorem JV(T:Tx G mg):DOk P w base T.x__law_world 2 (spD G CV):=
 fnX (k:=1) (N:=Bv) (b:=HY) T.x__law_world BR λ_ _ _ _ _ _ z=>Ad (sF BR.nd 2 (fX (Fb T) z (pav 0 (pav 1 (Ac))))) (Ad (sF BR.nd 3 (iX z (pU (M6 (Af (bMod (pU (bDiv (vp 2) (iP))) (iP)) (iI (Ac)) Dk))) (pU (JC Oh Ui rfl T.z_int TY (pU (cEq z (pU (bMod (pU (bDiv (vp 2) (iP))) (iP))) (iP))))))) (Ad (sF BR.nd 4 (bMod (vp 2) (iP))) (Ad (sF BR.nd 5 (fX (OJ T) z (Af (fX (Fb T) z (pav 0 (Af (bAdd (vp 1) (iP)) (Ac) Dk))) (Af (bAdd (vp 4) (pU (bMod (pU (bDiv (vp 2) (iP))) (iP)))) (Ac) Dk) HW))) (Ad (sW BR.nd 6 (Ib)) (Ad (sW BR.nd 7 (Ib)) (Ad (Ea d6 rfl (Ez rfl T.z_range (pU (Bl ((Cd rfl).or Dv) Ie rfl T.z_len Es (vp 5)))) (Bm (gN BR.nd 8)) (Ae (Dt (tLt (vp 8) (vp 4)) (Ad (sF BR.nd 9 (fX (KR T) z (Af (fX (Fb T) z (pav 0 (Af (bAdd (pU (bAdd (vp 1) (iP))) (vp 8)) (Ac) Dk))) (pav 3 (Ac)) HW))) (Ae (MK (Cw z) (pv 6) (iX z (vp 5) (vp 8)) (QG (nT Bv "_law_thing") (by show LC "_law_thing" Bv++(["_law_thing"]:List Str)=_;decide +kernel) (cO (N:=Bv) (sc:=Ab FW) rfl rfl) rfl (Ez rfl T.z_range (vp 3)) (λ_ _ _=>Q6 (EY (pU (iX z (vp 9) (vp 10))) rfl)) (λ_ _ _=>vr 10))))) (Ad (sF BR.nd 9 (fX (KR T) z (Af (fX (Fb T) z (pav 0 (Af (bSub (pU (bAdd (pU (bAdd (vp 1) (iP))) (vp 8))) (vp 4)) (Ac) Dk))) (Af (bMul (vp 3) (vp 3)) (Ac) Dk) HW))) (Ae (MK (Cw z) (pv 7) (iX z (vp 5) (vp 8)) (QG (nT Bv "_law_at") (by show LC "_law_at" Bv++(["_law_at"]:List Str)=_;decide +kernel) (cO (N:=Bv) (sc:=Ab FW) rfl rfl) rfl (Ez rfl T.z_range (pU (bMul (vp 3) (vp 3)))) (λ_ _ _=>Q6 (EY (pU (iX z (vp 9) (vp 10))) rfl)) (λ_ _ _=>Xj (Af (bDiv (vp 10) (vp 3)) (Af (bMod (vp 10) (vp 3)) (Ac) Dk) Dk))))))))) (Ae (H_ [6,7] (Ax (M6 (pav 3 (pav 6 (pav 7 (Ac))))))))))))))
abbrev Iu:List Str:=["number","most"]
theorem Lr:FnScope Iu ["number","most"] (Ab Ir):=scO
theorem Bs(T:Tx G mg):DOk P w base T.x_refuse_above 1 (spD G Ai):=
 fnX (k:=0) (N:=Iu) (b:=GD) T.x_refuse_above Lr λ_ _ _ _ _ _ z=>Ae (Dt (tGt (vp 0) (vp 1)) (Ae (Dc)) (Di))
abbrev Gk:List Str:=["size","thing"]
theorem Jh:FnScope Gk ["size","thing"] (Ab Gi):=scO
theorem Aq(T:Tx G mg):DOk P w base T.x_refuse_no_thing 1 (spD G Av):=
 fnX (k:=0) (N:=Gk) (b:=Dl) T.x_refuse_no_thing Jh λ_ _ _ _ _ _ z=>Ae (Dt (PFW.pt (Kp (tLt (vp 1) (iP)) (Gz (tGe (vp 1) (vp 0))))) (Ae (Dc)) (Di))
abbrev Gy:List Str:=["size","things","kept","thing"]
theorem CN:FnScope Gy ["size","things"] (Ab JR):=scO
theorem Nm(T:Tx G mg):DOk P w base T.x_kept_things 2 (spD G Cg):=
 fnX (k:=1) (N:=Gy) (b:=Gr) T.x_kept_things CN λ_ _ _ _ _ _ z=>Ad (sW CN.nd 2 (Ib)) (Ad (Ea d6 rfl (Ih rfl (vr 1)) (Bm (gN CN.nd 3)) (Ad (CG (fX (Aq T) z (pav 0 (pav 3 (Ac))))) (Ae (MK (Cw z) (pv 2) (vr 3) (Hy))))) (Ae (H_ [2] (Ax (vr 2)))))
theorem Ls(T:Tx G mg):FnOk P w G.K mg base CX0 2 T.x_kept_things.f T.x_kept_things.fd ["size","things"] (spR G Bp):=
 fn_R (k:=1) (N:=Gy) (b:=GF) T.x_kept_things.F CN (by decide) λ_ _ _ _ _ _ z=>G8 (Ni (sW CN.nd 2 (Ib))) (G8 (Qe d6 rfl (Va rfl (pv 1)) (Bm (gN CN.nd 3)) (G7 (Ad (CG (fX (Aq T) z (pav 0 (pav 3 (Ac))))) (Ae (MK (Cw z) (pv 2) (vr 3) (Hy)))))) (G7 (Ae (H_ [2] (Ax (vr 2))))))
abbrev Hj:List Str:=["size","pairs","kept","one","other"]
theorem Bk:FnScope Hj ["size","pairs"] (Ab KH):=scO
theorem Oa(T:Tx G mg):DOk P w base T.x_kept_pairs 2 (spD G Cv):=
 fnX (k:=1) (N:=Hj) (b:=Ha) T.x_kept_pairs Bk λ_ _ _ _ _ _ z=>Ad (sW Bk.nd 2 (dG)) (Ad (Ea d6 rfl (Ih rfl (vr 1)) (Ga rfl rfl (Ay (gN Bk.nd 3) (Ay (gN Bk.nd 4) (Ej)))) (Ad (CG (fX (Aq T) z (pav 0 (pav 3 (Ac))))) (Ad (CG (fX (Aq T) z (pav 0 (pav 4 (Ac))))) (Ae (RN (Cw z) (pv 2) (pav 3 (pav 4 (Ac))) (Hy)))))) (Ae (H_ [2] (Ax (vr 2)))))
theorem Np(T:Tx G mg):FnOk P w G.K mg base CX0 2 T.x_kept_pairs.f T.x_kept_pairs.fd ["size","pairs"] (spR G By):=
 fn_R (k:=1) (N:=Hj) (b:=Gs) T.x_kept_pairs.F Bk (by decide) λ_ _ _ _ _ _ z=>G8 (Ni (sW Bk.nd 2 (dG))) (G8 (Qe d6 rfl (Va rfl (pv 1)) (Ga rfl rfl (Ay (gN Bk.nd 3) (Ay (gN Bk.nd 4) (Ej)))) (G7 (Ad (CG (fX (Aq T) z (pav 0 (pav 3 (Ac))))) (Ad (CG (fX (Aq T) z (pav 0 (pav 4 (Ac))))) (Ae (RN (Cw z) (pv 2) (pav 3 (pav 4 (Ac))) (Hy))))))) (G7 (Ae (H_ [2] (Ax (vr 2))))))
abbrev HB:List Str:=["text"]
theorem T3:FnScope HB ["text"] (Ab K4):=scO
theorem Hk(T:Tx G mg):DOk P w base T.x_is_word 1 (spD G BP):=
 fnX (k:=0) (N:=HB) (b:=K3) T.x_is_word T3 λ_ _ _ _ _ _ z=>Ad (Dt (PFW.pt (Kp (tIn z (vp 0) (pU (Er (Ey (v:=.ref T.c_KEPT_TEXTS.a) rfl T.c_KEPT_TEXTS.m rfl) T.c_KEPT_TEXTS.r))) (Kp (tEq z (pU (Bl ((Cd rfl).or Dv) Ie rfl T.z_len Es (vp 0))) (iP)) (Gz (tGt (pU (Bl ((Cd rfl).or Dv) Ie rfl T.z_len Es (vp 0))) (pU (Er (Ey (v:=(.int 8)) rfl T.s_MOST_LETTERS.m ⟨_,rfl⟩) (.int _)))))))) (Ae (Ax (Hy))) (Di)) (Ae (Ax (Bl (Wa rfl) ak rfl T.z_all gK (pU (QG (nT HB "letter") (by show LC "letter" HB++(["letter"]:List Str)=_;decide +kernel) (cO (N:=HB) (sc:=Ab K4) rfl rfl) rfl (PFI.top (Ih rfl (vr 0))) (λ_ _ _=>Xu) (λ_ _ _=>cIn z (vp 1) (pU (Er (Ey (v:=(.str "abcdefghijklmnopqrstuvwxyz")) rfl T.s_LETTERS.m ⟨_,rfl⟩) (.str _)))))))))
abbrev D_:List Str:=["self","size","marks","ties","word","things","pairs"]
theorem An:FnScope D_ ["self","size","marks","ties"] (Ab G_):=scO
theorem KY(T:Tx G mg):FnOk P w G.K mg base CX0 3 T.x_World___init__.f T.x_World___init__.fd ["self","size","marks","ties"] (spI G "World" CK):=
 fn_I (c:="World") (k:=2) (N:=D_) (b:=Dz) T.x_World___init__.F An (by decide) λJ A I s H E z=>Ek (Jx (CG (fX (Bs T) z (pav 1 (Af (Er (Ey (v:=(.int 5)) rfl T.s_MOST_THINGS.m ⟨_,rfl⟩) (.int _)) (Ac) HS)))) MP) (Ek (Jx (CG (fX (Bs T) z (Af (Bl ((Cd rfl).or Dv) Ie rfl T.z_len Es (vp 2)) (Af (Er (Ey (v:=(.int 3)) rfl T.s_MOST_WORDS.m ⟨_,rfl⟩) (.int _)) (Ac) HS) HW))) MP) (Ek (Jx (CG (fX (Bs T) z (Af (Bl ((Cd rfl).or Dv) Ie rfl T.z_len Es (vp 3)) (Af (Er (Ey (v:=(.int 3)) rfl T.s_MOST_WORDS.m ⟨_,rfl⟩) (.int _)) (Ac) HS) HW))) MP) (Ek (RW T.fl_size (pv 0) (vr 1)) (Ek (Jz T.fl_marked (pv 0) Ib) (Ek (Jz T.fl_tied (pv 0) Ib) (Ek (VD d6 rfl (Oz (top:=T2) (vr 2)) (Ga rfl rfl (Ay (gN An.nd 4) (Ay (gN An.nd 5) (Ej)))) (QT (Gd (by decide) (Gd (by decide) (QS)))) (RV (QR (Jy (GX (EY (pU (fX (Hk T) z (pav 4 (Ac)))) rfl))) (Ae Dc)) (U_ (RX (Cw z) T.fl_marked (pv 0) (vr 4) (fX (Nm T) z (pav 1 (pav 5 (Ac)))))))) (Ek (VD d6 rfl (Oz (top:=T2) (vr 3)) (Ga rfl rfl (Ay (gN An.nd 4) (Ay (gN An.nd 6) (Ej)))) (QT (Gd (by decide) (Gd (by decide) (QS)))) (RV (QR (PWE.pt (Yk (Jy (GX (EY (pU (fX (Hk T) z (pav 4 (Ac)))) rfl))) (VB (Yl (Cw z) T.fl_marked (pv 0) (vr 4))))) (Ae Dc)) (U_ (RX (Cw z) T.fl_tied (pv 0) (vr 4) (fX (Oa T) z (pav 1 (pav 6 (Ac)))))))) (VF))))))))
theorem Ji(T:Tx G mg):FnOk P w G.K mg base CX0 3 T.x_World___init__.f T.x_World___init__.fd ["self","size","marks","ties"] (spIR G "World" Ck):=
 jm (c:="World") (k:=2) (N:=D_) (b:=Dm) T.x_World___init__.F An (by decide) λJ A I s H E z=>Dd (Fj (Jx (CG (fX (Bs T) z (pav 1 (Af (Er (Ey (v:=(.int 5)) rfl T.s_MOST_THINGS.m ⟨_,rfl⟩) (.int _)) (Ac) HS)))) MP)) (Dd (PB (O6 (Bs T) (z.mono (by omega)) rfl T.x_refuse_above.m T.x_refuse_above.F.kp T.x_refuse_above.B (Ri (VV rfl T.z_len Es (pv 2)) (Qd (Af (Er (Ey (v:=(.int 3)) rfl T.s_MOST_WORDS.m ⟨_,rfl⟩) (.int _)) (Ac) HS))))) (Dd (PB (O6 (Bs T) (z.mono (by omega)) rfl T.x_refuse_above.m T.x_refuse_above.F.kp T.x_refuse_above.B (Ri (VV rfl T.z_len Es (pv 3)) (Qd (Af (Er (Ey (v:=(.int 3)) rfl T.s_MOST_WORDS.m ⟨_,rfl⟩) (.int _)) (Ac) HS))))) (Dd (Fj (RW T.fl_size (pv 0) (vr 1))) (Dd (Fj (Jz T.fl_marked (pv 0) Ib)) (Dd (Fj (Jz T.fl_tied (pv 0) Ib)) (Dd (Rm d6 rfl (O8 (pv 2)) (Ga rfl rfl (Ay (gN An.nd 4) (Ay (gN An.nd 5) (Ej)))) (QT (Gd (by decide) (Gd (by decide) (QS)))) (O_ (Fj (QR (Jy (GX (EY (pU (fX (Hk T) z (pav 4 (Ac)))) rfl))) (Ae Dc))) (Rk (PJ (Cw z) T.fl_marked (pv 0) (vr 4) (Rj (Ls T) (z.mono (by omega)) rfl T.x_kept_things.m T.x_kept_things.F.kp T.x_kept_things.B (Qd (pav 1 (pav 5 (Ac))))))))) (Dd (Rm d6 rfl (O8 (pv 3)) (Ga rfl rfl (Ay (gN An.nd 4) (Ay (gN An.nd 6) (Ej)))) (QT (Gd (by decide) (Gd (by decide) (QS)))) (O_ (Fj (QR (PWE.pt (Yk (Jy (GX (EY (pU (fX (Hk T) z (pav 4 (Ac)))) rfl))) (VB (Yl (Cw z) T.fl_marked (pv 0) (vr 4))))) (Ae Dc))) (Rk (PJ (Cw z) T.fl_tied (pv 0) (vr 4) (Rj (Np T) (z.mono (by omega)) rfl T.x_kept_pairs.m T.x_kept_pairs.F.kp T.x_kept_pairs.B (Qd (pav 1 (pav 6 (Ac))))))))) (Y4))))))))
abbrev JW:List Str:=["_law_rows","_law_cells","_law_found","_law_k"]
theorem GK:FnScope JW ["_law_rows","_law_cells"] (Ab JS):=scO
theorem Iv(T:Tx G mg):DOk P w base T.x__law_strewn 1 (spM G Eb):=
 fnM (k:=0) (N:=JW) (b:=JQ) T.x__law_strewn GK λ_ _ _ _ _ _ z=>BW (sXM GK.nd 2 (QZ (Td (Ac)))) (BW (QX d6 rfl (Ez rfl T.z_range (pU (Bl (Cd rfl) JD rfl T.z_len Es (vp 0)))) (Bm (gN GK.nd 3)) (BW (G6 (mIns [2] (pv 2) (Af (bMod (pU (iD (vp 1) (pU (bMod (vp 3) (pU (Bl (Cd rfl) JD rfl T.z_len Es (vp 1))))))) (pU (bAdd (pU (Bl (Cd rfl) JD rfl T.z_len Es (vq 2))) (iP)))) (Af (iD (vp 0) (vp 3)) (Ac) Bu) Dk))) (Ge (gW [] (tEq z (pU (bMod (pU (bDiv (pU (iD (vp 1) (pU (bMod (vp 3) (pU (Bl (Cd rfl) JD rfl T.z_len Es (vp 1))))))) (iP))) (iP))) (iP)) (Ge (G6 (mApp [] (pv 2) (Af (iD (vp 0) (vp 3)) (Ac) Bu)))) (VJ))))) (Ge (Fy (Ax (vr 2)))))
abbrev Li:List Str:=["_law_rows","_law_found","_law_word"]
theorem Hl:FnScope Li ["_law_rows"] (Ab Ld):=scO
theorem JX(T:Tx G mg):FnOk P w G.K mg base CX0 1 T.x__law_copy.f T.x__law_copy.fd ["_law_rows"] (spR G Dn):=
 fn_R (k:=0) (N:=Li) (b:=Hh) T.x__law_copy.F Hl (by decide) λ_ _ _ _ _ _ z=>G8 (Ni (sW Hl.nd 1 (Ib))) (G8 (Qe d6 rfl (Yz (pv 0)) (Bm (gN Hl.nd 2)) (bL (bM (Cw z) (pv 1) (vr 2) (bK (Cw z) rfl rfl T.z_list (pv 0) (vr 2) (by intro _ _;rfl))))) (G7 (Ae (H_ [1] (Ax (vr 1))))))
abbrev DY:List Str:=["self"]
theorem Ex:FnScope DY ["self"] (Ab GJ):=scO
theorem JK(T:Tx G mg):FnOk P w G.K mg base CX0 1 T.x_World_mark_words.f T.x_World_mark_words.fd ["self"] (spD G Ca):=
 fn_D (k:=0) (N:=DY) (b:=DW) T.x_World_mark_words.F Ex (by decide) λ_ _ _ _ _ _ z=>Ae (Ax (Bl (DK rfl) Mf rfl T.z_sorted Fd (pU (Dw T.fl_marked (vp 0)))))
theorem Iw(T:Tx G mg):FnOk P w G.K mg base CX0 1 T.x_World_mark_words.f T.x_World_mark_words.fd ["self"] (spN G C_):=
 fn_N (k:=0) (N:=DY) T.x_World_mark_words.F Ex (by decide) rfl λ_ _ _ _ _ _ z=>Y_ rfl rfl T.z_sorted Fd (Dw T.fl_marked (vp 0))
abbrev Dq:List Str:=["self"]
theorem GP:FnScope Dq ["self"] (Ab Gj):=scO
theorem Jj(T:Tx G mg):FnOk P w G.K mg base CX0 1 T.x_World_tie_words.f T.x_World_tie_words.fd ["self"] (spD G Cm):=
 fn_D (k:=0) (N:=Dq) (b:=Do) T.x_World_tie_words.F GP (by decide) λ_ _ _ _ _ _ z=>Ae (Ax (Bl (DK rfl) Mf rfl T.z_sorted Fd (pU (Dw T.fl_tied (vp 0)))))
theorem JL(T:Tx G mg):FnOk P w G.K mg base CX0 1 T.x_World_tie_words.f T.x_World_tie_words.fd ["self"] (spN G DX):=
 fn_N (k:=0) (N:=Dq) T.x_World_tie_words.F GP (by decide) rfl λ_ _ _ _ _ _ z=>Y_ rfl rfl T.z_sorted Fd (Dw T.fl_tied (vp 0))
abbrev KZ:List Str:=["_law_found"]
theorem Ob:FnScope KZ ["_law_found"] (Ab KJ):=scO
theorem Oc(T:Tx G mg):DOk P w base T.x__law_whole 1 (spD G Hi):=
 fnX (k:=0) (N:=KZ) (b:=J_) T.x__law_whole Ob λ_ _ _ _ _ _ z=>Ae (Ax (TJ (TX aR rfl rfl T.z_isinstance Gp rfl T.z_int TY (vp 0)) (TF (fW (TX Q9 rfl rfl T.z_isinstance Gp rfl T.z_bool Uj (vp 0))))))
abbrev Ka:List Str:=["_law_found","_law_due"]
theorem Od:FnScope Ka ["_law_found","_law_due"] (Ab KN):=scO
theorem JZ(T:Tx G mg):DOk P w base T.x__law_truth 1 (spD G FQ):=
 fnX (k:=0) (N:=Ka) (b:=KC) T.x__law_truth Od λ_ _ _ _ _ _ z=>Ae (Ax (TJ (TX Q9 rfl rfl T.z_isinstance Gp rfl T.z_bool Uj (vp 0)) (TF (cEq z (vp 0) (vp 1)))))
abbrev Lj:List Str:=["self","word","thing"]
theorem Qg:FnScope Lj ["self","word","thing"] (Ab Le):=scO
theorem Qh(T:Tx G mg):FnOk P w G.K mg base CX0 2 T.x_World_has.f T.x_World_has.fd ["self","word","thing"] (spD G Gh):=
 fn_D (k:=1) (N:=Lj) (b:=Io) T.x_World_has.F Qg (by decide) λ_ _ _ _ _ _ z=>Ad (Dt (tNi z (vp 1) (pU (Dw T.fl_marked (vp 0)))) (Ae (Dc)) (Di)) (Ad (CG (fX (Aq T) z (Af (Dw T.fl_size (vp 0)) (pav 2 (Ac)) FN))) (Ae (Ax (cIn z (vp 2) (pU (iX z (pU (Dw T.fl_marked (vp 0))) (vp 1)))))))
abbrev Ja:List Str:=["self","word","one","other"]
theorem Nq:FnScope Ja ["self","word","one","other"] (Ab JT):=scO
theorem Nr(T:Tx G mg):FnOk P w G.K mg base CX0 2 T.x_World_leads.f T.x_World_leads.fd ["self","word","one","other"] (spD G Ec):=
 fn_D (k:=1) (N:=Ja) (b:=Gu) T.x_World_leads.F Nq (by decide) λ_ _ _ _ _ _ z=>Ad (Dt (tNi z (vp 1) (pU (Dw T.fl_tied (vp 0)))) (Ae (Dc)) (Di)) (Ad (CG (fX (Aq T) z (Af (Dw T.fl_size (vp 0)) (pav 2 (Ac)) FN))) (Ad (CG (fX (Aq T) z (Af (Dw T.fl_size (vp 0)) (pav 3 (Ac)) FN))) (Ae (Ax (gU z (pav 2 (pav 3 (Ac))) (pU (iX z (pU (Dw T.fl_tied (vp 0))) (vp 1))))))))
abbrev Ln:List Str:=["_law_world_here","_law_size","_law_marks","_law_ties","_law_one","_law_word","_law_other"]
theorem Dr:FnScope Ln ["_law_world_here","_law_size","_law_marks","_law_ties"] (Ab Lf):=scO
theorem Hm(T:Tx G mg):DOk P w base T.x__law_good 3 (spD G Cr):=
 fnX (k:=2) (N:=Ln) (b:=Ip) T.x__law_good Dr λ_ _ _ _ _ _ z=>Ad (Dt (PFW.pt (Kp (GX (EY (pU (fX (Oc T) z (Af (Dw T.fl_size (vp 0)) (Ac) FN))) rfl)) (Gz (tNe z (pU (Dw T.fl_size (vp 0))) (vp 1))))) (Ae (Ax (Hy))) (Di)) (Ad (Dt (PFW.pt (Kp (tNe z (pU (mO T.gc_World T.cl_World (JK T) z (vr 0))) (pU (Bl (DK rfl) Mf rfl T.z_sorted Fd (vp 2)))) (Gz (tNe z (pU (mO T.gc_World T.cl_World (Jj T) z (vr 0))) (pU (Bl (DK rfl) Mf rfl T.z_sorted Fd (vp 3))))))) (Ae (Ax (Hy))) (Di)) (Ad (Ea d6 rfl (Ez rfl T.z_range (vp 1)) (Bm (gN Dr.nd 4)) (Ad (Ea d6 rfl (Ih rfl (vr 2)) (Bm (gN Dr.nd 5)) (Ae (Dt (GX (EY (pU (fX (JZ T) z (Af (mA T.gc_World T.cl_World (Qh T) z (vr 0) (pav 5 (pav 4 (Ac)))) (Af (cIn z (vp 4) (pU (iX z (vp 2) (vp 5)))) (Ac) NZ) HW))) rfl)) (Ae (Ax (Hy))) (Di)))) (Ae (Ea d6 rfl (Ez rfl T.z_range (vp 1)) (Bm (gN Dr.nd 6)) (Ae (Ea d6 rfl (Ih rfl (vr 3)) (Bm (gN Dr.nd 5)) (Ae (Dt (GX (EY (pU (fX (JZ T) z (Af (mA T.gc_World T.cl_World (Nr T) z (vr 0) (pav 5 (pav 4 (pav 6 (Ac))))) (Af (cIn z (pU (Xj (pav 4 (pav 6 (Ac))))) (pU (iX z (vp 3) (vp 5)))) (Ac) NZ) HW))) rfl)) (Ae (Ax (Hy))) (Di))))))))) (Ae (Ax (Hy)))))
abbrev dY:List Str:=["_law_script","_law_size","_law_marks","_law_ties","_law_cells","_law_handed","_law_word","_law_kept","_law_world_here","_law_far","_law_more","_law_others","_law_beside","_law_rows","_law_told"]
theorem DG:FnScope dY ["_law_script"] (Ab dX):=scO
theorem gw(T:Tx G mg):DOk P w base T.x_law 5 (spD G Ro):=
 fnDM (k:=4) (N:=dY) (b:=Vj) T.x_law DG λ_ _ _ _ _ _ z=>BW (Fy (U6 (Ga rfl rfl (Ay (gN DG.nd 1) (Ay (gN DG.nd 2) (Ay (gN DG.nd 3) (Ej))))) (fX (JV T) z (pav 0 (iI (Ac)))))) (BW (Fy (sF DG.nd 4 (bAdd (pU (M6 (iI (Ac)))) (pU (Xl rfl (vp 0) (Q0 (iP)) (Q0 (iP))))))) (BW (sXM DG.nd 5 (Nj (QZ (Ib)) (QZ (Ib)))) (BW (QX d6 rfl (VM rfl rfl T.z_reversed (JC ((HH.or (Jw rfl)).or (J0 rfl)) O3 rfl T.z_list L_ (vp 2))) (Bm (gN DG.nd 6)) (Ge (Nk (Cw z) (iX z (vp 5) (iP)) (vr 6) (fM (Iv T) z (Af (iX z (vp 2) (vp 6)) (pav 4 (Ac)) Bu))))) (BW (QX d6 rfl (VM rfl rfl T.z_reversed (JC ((HH.or (Jw rfl)).or (J0 rfl)) O3 rfl T.z_list L_ (vp 3))) (Bm (gN DG.nd 6)) (Ge (Nk (Cw z) (iX z (vp 5) (iP)) (vr 6) (fM (Iv T) z (Af (iX z (vp 3) (vp 6)) (pav 4 (Ac)) Bu))))) (BW (sXM DG.nd 7 (Nj (Y5 (JX T) (z.mono (by omega)) rfl T.x__law_copy.m T.x__law_copy.F.kp T.x__law_copy.B (Af (iX z (vp 5) (iP)) (Ac) Bu)) (Y5 (JX T) (z.mono (by omega)) rfl T.x__law_copy.m T.x__law_copy.F.kp T.x__law_copy.B (Af (iX z (vp 5) (iP)) (Ac) Bu)))) (BW (sXM DG.nd 8 (bO T.gc_World T.x_World___init__.mM (Ji T) (z.mono (by omega)) rfl T.mC_World T.x_World___init__.B (pav 1 (Af (iX z (vp 5) (iP)) (Af (iX z (vp 5) (iP)) (Ac) Bu) Bu)))) (BW (bR 6 (PFW.pt (Kp (Ei (gr rfl z.unitsW) bQ (vp 5) (vp 7) (Jb _)) (Gz (GX (EY (pU (fX (Hm T) z (pav 8 (pav 1 (pav 2 (pav 3 (Ac))))))) rfl))))) (Ge (Fy (Ax (Hy)))) (VJ)) (BW (Fy (U6 (Ga rfl rfl (Ay (gN DG.nd 9) (Ay (gN DG.nd 10) (Ay (gN DG.nd 11) (Ej))))) (fX (JV T) z (pav 0 (iI (Ac)))))) (BW (Fy (sF DG.nd 12 (gM T.gc_World T.x_World___init__.mM (KY T) (z.mono (by omega)) rfl T.mC_World T.x_World___init__.B (pav 9 (pav 10 (pav 11 (Ac))))))) (BW (Y7 d6 rfl rfl (bT (bAdd (pU (VN rfl rfl T.z_list (iX z (vp 5) (iP)))) (pU (VN rfl rfl T.z_list (iX z (vp 5) (iP)))))) (Bm (gN DG.nd 13)) (Ge (G6 (Vf (vr 13))))) (BW (Nk (Cw z) (iX z (vp 5) (iP)) (M4) (gY [] (M6 (iI (Ac))))) (BW (G6 (Y8 (iX z (vp 5) (iP)))) (BW (sXM DG.nd 14 (Nj (PL (d:=T.x_World_mark_words) T.gc_World T.cl_World (Iw T) z (vr 8)) (PL (d:=T.x_World_tie_words) T.gc_World T.cl_World (JL T) z (vr 8)))) (BW (G6 (Yw (iX z (vp 14) (iP)) (iS (Ac)))) (BW (G6 (Vf (iX z (vp 14) (iP)))) (Ge (Fy (Ax (TJ (fX (Hm T) z (pav 12 (pav 9 (pav 10 (pav 11 (Ac)))))) (TF (fX (Hm T) z (pav 8 (pav 1 (pav 2 (pav 3 (Ac))))))))))))))))))))))))))
end
abbrev gx (K:av) (C_World:Addr):Gx:=gx1 K "World" C_World
def dZ(K:av):Sp:=λvs H Q _=>∃(a:Addr) (L:List Int),vs=[.ref a]/\SqL K H a (L.map V.int)/\L.length<=63/\∀z,Q (.bl U2) z
theorem g8(S:∀L:List Int,L.length<=63->Ro [.lst (L.map .int)]=Y2 (.bl U2)){K:av}{F:Addr}(vs:List V)(H:Hp)(Q:VK)(E:XK)(h:dZ K vs H Q E):spD (gx K F) Ro vs H Q E:=by
 obtain⟨a,L,rfl,T,Y,k⟩:=h;refine⟨[],[.lst (L.map .int)],.bl U2,(λ_ z=>nomatch z),RepL.cons ?_ RepL.nil,S L Y,λv U _ r=>?_⟩
 .have e:hid [] H=H:=by funext b;exact Ao (λz=>nomatch z)
  rw[e];refine .lst T (by simp) λi x d I J=>?_;rw[be] at I J;cases O:L[i]? with
  |none=>rw[O] at I;cases I
  |some z=>rw[O] at I J;cases I;cases J;exact .int z
 .cases r;exact k U
end K01
namespace K01
open PySem L2 PV
theorem bU(L:List Int)(k:Nat):Bd [.lst (L.map .int),.int (k:Int)]=Y2 (.int (L.getD k 0)):=by
 by_cases h:k<L.length
 .have z:L.getD k 0=L[k]:=by simp[h]
  rw[z];have e:atI (L.map D.int) (k:Int)=Y2 (.int L[k]):=by
   rw[X3 (by omega) (by simpa using h)];simp[h]
  simp[Bd,runF,Gg,seqF,ifS,blF,bF,vF,uF,Ba,lenD,Q_,h,retF,ixD,e]
 .have z:L.getD k 0=0:=by simp[gy.mp h]
  rw[z];simp[Bd,runF,Gg,seqF,ifS,blF,bF,vF,uF,Ba,lenD,Q_,h,retF,nxF,kF]
theorem Mg(L:List Int)(k:Nat):∃i,Bd [.lst (L.map .int),.int (k:Int)]=Y2 (.int i):=⟨_,bU L k⟩
theorem Qi(x y:Str):cs (x++y)=cs x++cs y:=by show (x.cps++y.cps).toList=_;simp[cs]
theorem T4(x:Str):(cs x).length=x.length:=by simp[cs,ip]
theorem ZC{y:Str}(h:cs x=cs y):x=y:=by
 cases x with | mk a=>cases y with | mk b=>simp[cs] at h;rw[h]
theorem Qj:LET.length=26:=by decide +kernel
theorem Vk{y:Str}(h:IsL x)(k:IsL y):IsL (x++y):=λc I=>by
 rw[Qi] at I
 rcases dv.mp I with q | q
 .exact h c q
 .exact k c q
theorem Wh:IsL "":=by
 have e:cs ("":Str)=[]:=by decide +kernel
 intro c I;rw[e] at I;cases I
theorem jo(i:Int)(I:0<=i)(h1:i<26):∃c,(cs LET)[i.toNat]?=Y2 c/\c∈cs LET/\ixD (.str LET) (.int i)=Y2 (.str ⟨#[c]⟩):=by
 have Y:(cs LET).length=26:=by rw[T4];exact Qj
 have z:i.toNat<(cs LET).length:=by omega
 refine⟨(cs LET)[i.toNat],by simp[z],ni z,?_⟩;show (if LET.length<=sizeLine then (atI (cs LET) i).map (λc=>D.str ⟨#[c]⟩) else X2)=_;rw[if_pos (JF (by rw[Qj];decide)),X3 I (by rw[Y];omega)];simp[z]
def plc(n z:Int)(k j:Nat):Int:=n/((j:Int)+3)+(j:Int)*j+(if (j:Int)=z then 1 else 0)*(k:Int)
def chr(n z:Int)(k j:Nat):Nat:=(cs LET).getD (plc n z k j%26).toNat 0
def wrd(n z:Int)(k:Nat)(m:Nat):Str:=⟨((bp m).map (chr n z k)).toArray⟩
theorem Rp(n z:Int)(k m:Nat):wrd n z k (m+1)=wrd n z k m++⟨#[chr n z k m]⟩:=by
 apply ZC;rw[Qi];simp[wrd,cs,oQ]
theorem JH(n z:Int)(k m:Nat):(wrd n z k m).length=m:=by simp[wrd,ip]
theorem Rq(n z:Int)(k j:Nat):chr n z k j∈cs LET/\ixD (.str LET) (.int (plc n z k j%26))=Y2 (.str ⟨#[chr n z k j]⟩):=by
 obtain⟨c,I,F,O⟩:=jo (plc n z k j%26) (hW _ (by decide)) (kZ _ (by decide));have e:chr n z k j=c:=by unfold chr;rw[nC,I];rfl
 rw[e];exact⟨F,O⟩
theorem Vl(n z:Int)(k:Nat):∀m,IsL (wrd n z k m)
 |0=>Wh
 |m+1=>by
  rw[Rp];refine Vk (Vl n z k m) λc I=>?_;simp[cs] at I;subst I;exact (Rq n z k m).1
theorem g_:(cs LET).Nodup:=by decide +kernel
theorem h_(n:Int)(at_:Nat){k F:Nat}(T:k<7)(L:F<7)(h:k≠F):chr n at_ k at_≠chr n at_ F at_:=by
 have Y:(cs LET).length=26:=by rw[T4];exact Qj
 intro e;have b:∀k:Nat,(plc n at_ k at_%26).toNat<(cs LET).length:=λk=>by
  have S:0<=plc n at_ k at_%26:=hW _ (by decide);have U:plc n at_ k at_%26<26:=kZ _ (by decide);rw[Y];omega
 have J:∀k:Nat,chr n at_ k at_=(cs LET)[(plc n at_ k at_%26).toNat]'(b k):=λk=>by
  unfold chr;rw[nC,cy (b k)];rfl
 rw[J,J] at e;have I:=(pP g_).mp e;have p:∀k:Nat,plc n at_ k at_=n/((at_:Int)+3)+(at_:Int)*at_+k:=λk=>by unfold plc;rw[if_pos rfl,Int.one_mul]
 rw[p,p] at I;generalize n/((at_:Int)+3)+(at_:Int)*at_=z at I;have S:0<=(z+(k:Int))%26:=hW _ (by decide);have O:0<=(z+(F:Int))%26:=hW _ (by decide);omega
theorem iB(n:Int)(z m:Nat)(S:z<m){k F:Nat}(O:k<7)(I:F<7)(h:k≠F):wrd n z k m≠wrd n z F m:=by
 intro e;have L:cs (wrd n z k m)=cs (wrd n z F m):=by rw[e]
 simp only[wrd,cs] at L;have J:=congrArg (λl=>l[z]?) L;simp[S] at J;exact h_ n z O I h J
def fix(x:Str):Str:=if x∈KEPT then x++"x" else x
def fin(n z:Int)(m:Nat)(k:Nat):Str:=fix (wrd n z k m)
theorem iC:∀y∈KEPT,(y++("x":Str)).length<=5/\(y++("x":Str))∉KEPT/\y.length<=4:=by decide +kernel
theorem iG(h1:1<=x.length)(J:x.length<=8)(z:IsL x):Wd (fix x):=by
 unfold fix;split
 .rename_i h;obtain⟨L,F,_⟩:=iC x h;refine⟨by rw[Je];omega,by omega,Vk z ?_,F⟩;intro c I;have e:cs ("x":Str)=[120]:=by decide +kernel
  rw[e] at I;simp at I;subst I;decide +kernel
 .rename_i h;exact⟨h1,J,z,h⟩
theorem bV{y:Str}(Y:x.length=y.length)(h:fix x=fix y):x=y:=by
 have z:ip "x"=1:=by decide +kernel
 unfold fix at h;split at h<;>split at h
 .have:=congrArg cs h;rw[Qi,Qi] at this;exact ZC (List.append_cancel_right this)
 .have:=congrArg ip h;rw[Je] at this;omega
 .have:=congrArg ip h;rw[Je] at this;omega
 .exact h
theorem bW(x:Str):inF T2 (.str x) (.lst [.str "not",.str "and",.str "or",.str "some",.str "all"])=Y2 (.bl (decide (x∈KEPT))):=by
 have e:=Uy x KEPT;have:(KEPT.any λy=>y==x)=decide (x∈KEPT):=by
  rw[i8];simp only[p7,beq_iff_eq,decide_eq_true_eq];exact⟨λ⟨y,F,z⟩=>z▸F,λh=>⟨x,h,rfl⟩⟩
 rw[this] at e;exact e
end K01
section
open PySem L2 PV
local macro_rules | `(tactic| w_up) => `(tactic| (rw [List.map_cons, Ff, e_tg, Fv, G4]; simp only [List.set_cons_zero, List.set_cons_succ]))
local macro_rules | `(tactic| simp only [cK, $ls,*] $[$l:location]?) => `(tactic| simp only [cM, e_nx, cP, e_if, cQ, cR, X8, X_, cT, YB, YC, Us, e_b, e_bs, e_u, e_us, YD, Ut, YF, Uu, cW, cX, cY, YG, YH, YJ, YK, YL, e_bl, cZ, cg, YM, YQ, YS, Uv, e_sl, cj, Uw, RB, e_v, e_vs, e_vU, cu, e_k, Tf, cz, YT, YW, YX, YZ, dC, Yb, RC, dB, e_tr, Yc, Uz, dF, Yd, NK, Ff, GZ, Fv, e_tg, G4, List.length_cons, List.length_nil, List.map_cons, List.map_nil, List.cons_append, List.nil_append, List.replicate_succ, List.replicate_zero, List.getElem?_cons_zero, List.getElem?_cons_succ, List.set_cons_zero, List.set_cons_succ, Nat.reduceAdd, Nat.reduceSub, Nat.reduceEqDiff, Nat.zero_add, truB, Bool.not_true, Bool.not_false, decide_true, decide_false, List.append_nil, Int.reduceLT, Int.reduceLE, Int.reduceNeg, Int.reduceEq, Int.reduceToNat, Nat.reduceLeDiff, $ls,*] $[$l:location]?)
local macro_rules | `(tactic| simp only [cK]) => `(tactic| simp only [cK, e_nx])
local macro_rules | `(tactic| simp only [kC, $ls,*] $[$l:location]?) => `(tactic| simp only [$ls,*, cM, e_nx, cP, e_if, cQ, cR, X8, X_, cT, YB, YC, Us, e_b, e_bs, e_u, e_us, YD, Ut, YF, Uu, cW, cX, cY, YG, YH, YJ, YK, YL, e_bl, cZ, cg, YM, YQ, YS, Uv, e_sl, cj, Uw, RB, e_v, e_vs, e_vU, cu, e_k, Tf, cz, YT, YW, YX, YZ, dC, Yb, RC, dB, e_tr, Yc, Uz, dF, Yd, NK, Ff, GZ, Fv, e_tg, G4, List.length_cons, List.length_nil, List.map_cons, List.map_nil, List.cons_append, List.nil_append, List.replicate_succ, List.replicate_zero, List.getElem?_cons_zero, List.getElem?_cons_succ, List.set_cons_zero, List.set_cons_succ, Nat.reduceAdd, Nat.reduceSub, Nat.reduceEqDiff, Nat.zero_add, truB, Bool.not_true, Bool.not_false, decide_true, decide_false, List.append_nil, Int.reduceLT, Int.reduceLE, Int.reduceNeg, Int.reduceEq, Int.reduceToNat, Nat.reduceLeDiff] $[$l:location]?)
local macro_rules | `(tactic| simp only [kiC, $ls,*] $[$l:location]?) => `(tactic| simp only [kC, $ls,*, Fq, E_, QJ, Te, Q_, X4, X5, Um, Uo] $[$l:location]?)
local macro_rules | `(tactic| simp only [dK, $ls,*] $[$l:location]?) => `(tactic| simp only [cK, gO, HQ, az, VG, Tq, a_, QV, VH, QW, gP, bA, jf, jg, gQ, HR, J1, $ls,*] $[$l:location]?)
local macro_rules | `(tactic| simp only [ciK, $ls,*] $[$l:location]?) => `(tactic| simp only [cK, Fq, E_, QJ, Te, Q_, X4, X5, Um, Uo, $ls,*] $[$l:location]?)
local macro_rules | `(tactic| simp only [diK, $ls,*] $[$l:location]?) => `(tactic| simp only [dK, Fq, E_, QJ, Te, Q_, X4, X5, Um, Uo, $ls,*] $[$l:location]?)
namespace K01
open PySem L2 PV
theorem dg(b:Bool):intD (.bl b)=Y2 (.int (if b then 1 else 0)):=zE_ _
theorem sml(h:j<8):(j:Int)<8/\0<=(j:Int):=by omega
theorem bY(i O n l z:Int)(L:Slot)(k m:Nat)(hk:k<7)(hm:m<=8)(T I:Slot):∃J F:Slot,
  forF (tgB (BV 9) Cp) (rngD m) [.fz (.int i),.fz (.int O),.fz (.str LET),.fz (.int n),.fz (.int l),.fz (.int z),L,.fz (.int (k:Int)),.fz (.str ""),T,I]
   = Y2 (.nx [.fz (.int i),.fz (.int O),.fz (.str LET),.fz (.int n),.fz (.int l),.fz (.int z),L,.fz (.int (k:Int)),.fz (.str (wrd n z k m)),J,F]):=by
 obtain⟨Y,e,J,F,rfl⟩:=IK (b:=tgB (BV 9) Cp) (ds:=rngD m) (ρ:=[.fz (.int i),.fz (.int O),.fz (.str LET),.fz (.int n),.fz (.int l),.fz (.int z),L,.fz (.int (k:Int)),.fz (.str ""),T,I])
  (P:=λj S=>∃J F:Slot,S=[.fz (.int i),.fz (.int O),.fz (.str LET),.fz (.int n),.fz (.int l),.fz (.int z),L,.fz (.int (k:Int)),.fz (.str (wrd n z k j)),J,F]) 0 ⟨T,I,rfl⟩ (by
   rintro j d S U ⟨J,F,rfl⟩;have hj:j<m:=by
    have:=(de.mp U).1;rw[Dj] at this;exact this
   have ed:d=.int (j:Int):=by
    have:=U;simp[rngD,hj] at this;exact this.symm
   subst ed;have u0:=sml (show j<8 by omega);have e1:=E_ n ((j:Int)+3) (by omega) (by omega);have e2:=MF (j:Int) (j:Int) (by omega);have e3:=MF (if decide ((j:Int)=z) then (1:Int) else 0) (k:Int) (by omega);have Z:n/((j:Int)+3)+(j:Int)*j+(if decide ((j:Int)=z)=U2 then (1:Int) else 0)*(k:Int)=plc n z k j:=by unfold plc;simp
   have ex:=(Rq n z k j).2;have W:=X7 (i:=wrd n z k j) (j:=⟨#[chr n z k j]⟩) (by rw[JH];show j+1<=_;omega);rw[<-Rp] at W;refine⟨_,?_,.fz (.int (j:Int)),.fz (.int (plc n z k j)),by rw[hV]⟩;rw[hV];show Cp [.fz (.int i),.fz (.int O),.fz (.str LET),.fz (.int n),.fz (.int l),.fz (.int z),L,.fz (.int (k:Int)),.fz (.str (wrd n z k j)),.fz (.int (j:Int)),F]=_;simp only[diK,Cp,dg,e1,e2,e3,Z,ex,W])
 rw[Dj,hV] at *;exact⟨J,F,e⟩
theorem jq:ip "x"=1:=by decide +kernel
theorem Vm(L:List D)(x:D)(h:L.length<=1000):appL (.lst L) x=Y2 (.lst (L++[x])):=by
 unfold appL;show (if L.length<sizeLine then Y2 (D.lst (L++[x])) else X2)=_;rw[if_pos (km h (by decide))]
theorem ZD(i O n:Int)(l z k:Nat)(hk:k<7)(L:l<=8)(fs:List D)(hf:fs.length<=1000)(z8 Y F:Slot):∃T I:Slot,Cq [.fz (.int i),.fz (.int O),.fz (.str LET),.fz (.int n),.fz (.int (l:Int)),.fz (.int (z:Int)),.ow (.lst fs),.fz (.int (k:Int)),z8,Y,F]
  = Y2 (.nx [.fz (.int i),.fz (.int O),.fz (.str LET),.fz (.int n),.fz (.int (l:Int)),.fz (.int (z:Int)),.ow (.lst (fs++[.str (fin n z l k)])),.fz (.int (k:Int)),.fz (.str (fin n z l k)),T,I]):=by
 obtain⟨T,I,W⟩:=bY i O n l z (.ow (.lst fs)) k l hk L Y F;have e2:=IV (l:Int) (by omega);have J:=bW (wrd n z k l);have e4:=X7 (i:=wrd n z k l) (j:="x") (by rw[JH,jq];omega);have Z:=Vm fs (.str (fin n z l k)) hf;refine⟨T,I,?_⟩
 by_cases S:wrd n z k l∈KEPT
 .have U:wrd n z k l++"x"=fin n z l k:=by unfold fin fix;rw[if_pos S]
  rw[decide_eq_true S] at J;rw[U] at e4;simp only[diK,Cq,e2,fA,W,J,e4,Z]
 .have U:wrd n z k l=fin n z l k:=by unfold fin fix;rw[if_neg S]
  rw[decide_eq_false S] at J;rw[U] at W J;simp only[diK,Cq,e2,fA,W,J,Z]
theorem ZF(i:Int)(mm:Nat)(hm:mm<=6):∃S:List Str,FP [.int i,.int (mm:Int)]=Y2 (.lst (S.map .str))/\S.length=mm/\(∀x∈S,Wd x)/\S.Nodup:=by
 have n0:0<=i%2147483629:=hW _ (by decide);generalize en:i%2147483629=n at n0;have l0:0<=n%8:=hW _ (by decide);have l8:n%8<8:=kZ _ (by decide);obtain⟨l,el⟩:∃l:Nat,(l:Int)=1+n%8:=⟨(1+n%8).toNat,by omega⟩;have Y:1<=l:=by omega
 have L:l<=8:=by omega
 have a0:0<=n/8%(l:Int):=hW _ (by omega);have al:n/8%(l:Int)<l:=kZ _ (by omega);obtain⟨F,ea⟩:∃a:Nat,(a:Int)=n/8%(l:Int):=⟨(n/8%(l:Int)).toNat,by omega⟩;have Z:F<l:=by omega
 refine⟨(bp mm).map (fin n F l),?_,by simp,λx hx=>?_,?_⟩
 .have hL:(m7 "abcdefghijklmnopqrstuvwxyz")=LET:=rfl;obtain⟨u0,e,U,O,J,I,rfl⟩:=IK (b:=tgB (BV 7) Cq) (ds:=rngD mm) (ρ:=[.fz (.int i),.fz (.int (mm:Int)),.fz (.str LET),.fz (.int n),.fz (.int (l:Int)),.fz (.int (F:Int)),.ow (.lst []),.un,.un,.un,.un])
   (P:=λk T=>∃U O J I:Slot,T=[.fz (.int i),.fz (.int (mm:Int)),.fz (.str LET),.fz (.int n),.fz (.int (l:Int)),.fz (.int (F:Int)),.ow (.lst (((bp k).map (fin n F l)).map .str)),U,O,J,I]) 0 ⟨.un,.un,.un,.un,rfl⟩ (by
    rintro k d T hd ⟨U,O,J,I,rfl⟩;have hk:k<mm:=by
     have:=(de.mp hd).1;rw[Dj] at this;exact this
    have ed:d=.int (k:Int):=by
     have:=hd;simp[rngD,hk] at this;exact this.symm
    subst ed;obtain⟨y9,W,st⟩:=ZD i mm n l F k (by omega) L (((bp k).map (fin n F l)).map .str) (by simp;omega) O J I;rw[hV];have er:((bp k).map (fin n F l)).map D.str++[.str (fin n F l k)]=((bp (k+1)).map (fin n F l)).map .str:=by simp[oQ]
    rw[er] at st;refine⟨_,?_,.fz (.int (k:Int)),.fz (.str (fin n F l k)),y9,W,rfl⟩;rw[e_tg,Fv,G4];exact st)
  rw[Dj,hV] at *;have e6:=IV (mm:Int) (by omega);have e7:(1:Int)+n%8=(l:Int):=el.symm;have e8:=E_ n 8 (by decide) (by decide);have e9:=Fq (n/8) (l:Int) (by omega);rw[<-ea] at e9;simp only[diK,FP,HX,hL,en,e7,e8,e9,e6,fA,e,lI,Int.reduceMod]
 .obtain⟨k,hk,rfl⟩:=aS.mp hx;exact iG (by rw[JH];exact Y) (by rw[JH];exact L) (Vl _ _ _ _)
 .rw[List.nodup_iff_pairwise_ne,lJ];refine rB (R:=λa b=>a≠b) (λ{a b} ha hb h=>?_) rC;have ha:=eW.mp ha;have hb:=eW.mp hb;intro z;exact iB n F l Z (by omega) (by omega) h (bV (by rw[JH,JH]) z)
theorem Ds(n:Nat)(t:Nat)(h:t<n):Av [.int (n:Int),.int (t:Int)]=Y2 .non:=by
 have F:¬ ((t:Int)<0):=by omega
 have z:¬ ((n:Int)<=t):=by omega
 simp only[ciK,Av,Dl,F,z]
theorem Rr{t:Nat}{l:List Nat}(h:t∉l):(.inl (t:Int):Key)∉(l.map λ(t:Nat)=>((.inl (t:Int):Key),D.bl U2)).map (·.1):=by
 intro z;rw[cS] at z;obtain⟨u,S,e⟩:=aS.mp z;simp at e;have L:u=t:=by omega
 exact h (L▸S)
theorem PP(n:Nat)(x J:Slot):∀(r p:List Nat) (z:Slot),(p++r).Nodup->(∀t∈r,t<n)->(p++r).length<=100 ->
  ∃S,forF (tgB (BV 3) BJ) (r.map iN) [.fz (.int (n:Int)),x,.ow (kM p),z]=Y2 (.nx [.fz (.int (n:Int)),x,.ow (kM (p++r)),S])
 |[],p,z,_,_,_=>⟨z,by rw[dL];rfl⟩
 |t::r,p,z,I,Y,F=>by
  have L:t∉p:=by
   intro q;rw[ck] at I;exact I.2.2 t q t (by simp) rfl
  have W:=Ds n t (Y t (by simp));have U:Bc (kM p) (.int (t:Int)) (.bl U2)=Y2 (kM (p++[t])):=by
   show Bc (.dk _) _ _=_;rw[Ym _ _ _ (by simp at F ⊢;omega),putL_new (Rr L)];simp[kM]
  have b:BJ [.fz (.int (n:Int)),x,.ow (kM p),.fz (iN t)]=Y2 (.nx [.fz (.int (n:Int)),x,.ow (kM (p++[t])),.fz (iN t)]):=by
   simp only[dK,BJ,W,U]
  obtain⟨S,O⟩:=PP n x J r (p++[t]) (.fz (iN t)) (by simpa using I) (λu T=>Y u (by simp[T])) (by simpa using F);refine⟨S,?_⟩
  w_up
  rw[b,GZ,O];simp
theorem bZ(n:Nat)(l:List Nat)(F:l.Nodup)(Y:∀t∈l,t<n)(z:l.length<=100):Cg [.int (n:Int),lM l]=Y2 (kM l):=by
 obtain⟨S,e⟩:=PP n (.fz (lM l)) .un l [] .un (by simpa using F) Y (by simpa using z);rw[lf] at e;have I:(D.dk [])=kM []:=rfl;simp only[dK,Cg,Gr,I,lM,e] at e ⊢
theorem Rt{t:Nat×Nat}{l:List (Nat×Nat)}(h:t∉l):[(.inl (t.1:Int):Key),.inl (t.2:Int)]∉(l.map λ(q:Nat×Nat)=>([(.inl (q.1:Int):Key),.inl (q.2:Int)],D.bl U2)).map (·.1):=by
 intro z;rw[cS] at z;obtain⟨u,S,e⟩:=aS.mp z;simp at e;have L:u=t:=by
  obtain⟨a,b⟩:=u;obtain⟨c,d⟩:=t;simp at e ⊢;omega
 exact h (L▸S)
theorem Nu(n:Nat)(x:Slot):∀(r p:List (Nat×Nat)) (z Y:Slot),(p++r).Nodup->(∀t∈r,t.1<n/\t.2<n)->(p++r).length<=100 ->
  ∃S I,forF (tgB (tupG 2 (BL 3 (BL 4 nilG))) BX) (r.map pN) [.fz (.int (n:Int)),x,.ow (kT p),z,Y]=Y2 (.nx [.fz (.int (n:Int)),x,.ow (kT (p++r)),S,I])
 |[],p,z,Y,_,_,_=>⟨z,Y,by rw[dL];rfl⟩
 |t::r,p,z,Y,J,L,F=>by
  have T:t∉p:=by
   intro q;rw[ck] at J;exact J.2.2 t q t (by simp) rfl
  have e1:=Ds n t.1 (L t (by simp)).1;have O:=Ds n t.2 (L t (by simp)).2;have Z:Ig (kT p) [.int (t.1:Int),.int (t.2:Int)] (.bl U2)=Y2 (kT (p++[t])):=by
   show Ig (.dt _) _ _=_;rw[Yn _ _ _ _ (by simp at F ⊢;omega),putL_new (Rt T)];simp[kT]
  have b:BX [.fz (.int (n:Int)),x,.ow (kT p),.fz (.int (t.1:Int)),.fz (.int (t.2:Int))]=Y2 (.nx [.fz (.int (n:Int)),x,.ow (kT (p++[t])),.fz (.int (t.1:Int)),.fz (.int (t.2:Int))]):=by
   simp only[dK,BX,e1,O,Z]
  obtain⟨S,I,U⟩:=Nu n x r (p++[t]) (.fz (.int (t.1:Int))) (.fz (.int (t.2:Int))) (by simpa using J) (λu W=>L u (by simp[W])) (by simpa using F);refine⟨S,I,?_⟩;rw[bb,Ff,e_tg,HR,G4];simp only[lK,lL];rw[b,GZ,U];simp
theorem ZG(n:Nat)(l:List (Nat×Nat))(F:l.Nodup)(Y:∀t∈l,t.1<n/\t.2<n)(z:l.length<=100):Cv [.int (n:Int),lT l]=Y2 (kT l):=by
 obtain⟨S,I,e⟩:=Nu n (.fz (lT l)) l [] .un .un (by simpa using F) Y (by simpa using z);rw[lf] at e;have J:(D.dt [])=kT []:=rfl;simp only[dK,Cv,Ha,J,lT,e] at e ⊢
theorem iH(c:Nat):inD T2 (.str ⟨#[c]⟩) (.str LET)=Y2 (.bl (!(jI LET ⟨#[c]⟩ 0 LET.length 1).isEmpty)):=zE_ _
theorem iJ:∀c∈cs LET,(!(jI LET ⟨#[c]⟩ 0 LET.length 1).isEmpty)=U2:=by decide +kernel
theorem bc(h:x∉KEPT):inF T2 (.str x) c_KEPT_TEXTS=Y2 (.bl T2):=by
 have e:inF T2 (.str x) c_KEPT_TEXTS=inD T2 (.str x) (.lst (KEPT.map .str)):=rfl;rw[e,Uy];have:(KEPT.any λy=>y==x)=T2:=by
  rw[q0];intro y z O;have:=beq_iff_eq.mp O;exact h (this▸z)
 rw[this]
theorem iK(x:Str)(h:x.length<=10000000):lenE (.str x)=Y2 (.int x.length):=jX x h
theorem Mh(h:Wd x):BP [.str x]=Y2 (.bl U2):=by
 have k:=bc h.kept;have W:=h.lo;have U:=h.hi;have l:=iK x (by omega);have S:¬ ((x.length:Int)=0):=by omega
 have J:¬ ((8:Int)<x.length):=by omega
 have O:∀l:List Nat,(∀c∈l,c∈cs LET)->Hv [.fz (.str x)] allT En (l.map λc=>.str ⟨#[c]⟩)=Y2 (l.map λ_=>.bl U2):=by
  intro l
  induction l with
  |nil=>intro _;rfl
  |cons c r z=>
   intro Y;have v:En ([.fz (.str x)]++[.fz (.str ⟨#[c]⟩)])=Y2 (.bl U2):=by
    have e:inF T2 (.str ⟨#[c]⟩) (.str LET)=Y2 (.bl U2):=by
     show inD T2 (.str ⟨#[c]⟩) (.str LET)=_;rw[iH,iJ c (Y c (by simp))]
    have I:(m7 "abcdefghijklmnopqrstuvwxyz")=LET:=rfl;simp only[cK,En,I,e]
   rw[bb,NB,YW,v,z λd F=>Y d (by simp[F])];rfl
 have L:Hq (seqA (vF 0)) allT En [.fz (.str x)]=Y2 (.lst ((cs x).map λ_=>.bl U2)):=by
  refine Ur (ds:=(cs x).map λc=>.str ⟨#[c]⟩) (by rfl) (by rw[aw,T4];omega) (O (cs x) h.isL)
 have T:∀l:List Nat,allD (.lst (l.map λ_=>.bl U2))=Y2 (.bl U2):=by
  intro l;have q:∀l:List Nat,blsD (l.map λ_=>D.bl U2)=Y2 (l.map λ_=>U2):=by
   intro l
   induction l with
   |nil=>rfl
   |cons c r z=>simp[blsD,z]
  show (blsD (l.map λ_=>D.bl U2)).map _=_;rw[q];simp
 simp only[ciK,BP,K3,k,l,S,J,L,T]
theorem HD(i j:Int)(h:i<=j):Ai [.int i,.int j]=Y2 .non:=by
 have c:¬ (j<i):=by omega
 simp only[ciK,Ai,GD,c]
abbrev fS (n:Nat):Str×Bool×D:=("size",T2,.int (n:Int))
abbrev fM (ms:List (Str×List Nat)):Str×Bool×D:=("marked",U2,.dk (oM ms))
abbrev fT (ts:List (Str×List (Nat×Nat))):Str×Bool×D:=("tied",U2,.dk (oT ts))
theorem q1:(("marked":Str)=="size")=T2:=by decide +kernel
theorem q2:(("tied":Str)=="size")=T2:=by decide +kernel
theorem q3:(("tied":Str)=="marked")=T2:=by decide +kernel
theorem n1:¬ (("size":Str)="marked"):=by decide +kernel
theorem n2:¬ (("size":Str)="tied"):=by decide +kernel
theorem n3:¬ (("marked":Str)="tied"):=by decide +kernel
theorem lkM(n:Nat)(d e:D):bn ("marked":Str) [fS n,("marked",U2,d),("tied",U2,e)]=Y2 (U2,d):=by
 rw[bi,q1];show bn ("marked":Str) [("marked",U2,d),("tied",U2,e)]=_;rw[bi,show (("marked":Str)=="marked")=U2 by decide +kernel]
theorem lkT(n:Nat)(d e:D):bn ("tied":Str) [fS n,("marked",U2,d),("tied",U2,e)]=Y2 (U2,e):=by
 rw[bi,q2];show bn ("tied":Str) [("marked",U2,d),("tied",U2,e)]=_;rw[bi,q3];show bn ("tied":Str) [("tied",U2,e)]=_;rw[bi,show (("tied":Str)=="tied")=U2 by decide +kernel]
theorem rpM(n:Nat)(d e d':D):repE "marked" d' [fS n,("marked",U2,d),("tied",U2,e)]=[fS n,("marked",U2,d'),("tied",U2,e)]:=by
 unfold repE repE;rw[if_neg n1,if_pos rfl]
theorem rpT(n:Nat)(d e L:D):repE "tied" L [fS n,("marked",U2,d),("tied",U2,e)]=[fS n,("marked",U2,d),("tied",U2,L)]:=by
 unfold repE repE repE;rw[if_neg n2,if_neg n3,if_pos rfl]
theorem Eo{F:Type}{w:Str}(f:F->D){l:List (Str×F)}(h:w∉l.map (·.1)):(.inr w:Key)∉(l.map λp=>((.inr p.1:Key),f p.2)).map (·.1):=by
 intro z;rw[cS] at z;obtain⟨u,S,e⟩:=aS.mp z;simp at e;exact h (aS.mpr ⟨u,S,e⟩)
theorem Nv(n:Nat)(hn:n<=5)(x:Addr)(a b:D)(e:D)(z:Slot):∀(r p:List (Str×List Nat)) (O L:Slot),((p++r).map (·.1)).Nodup->(∀q∈r,Wd q.1/\q.2.Nodup/\q.2.length<=100/\∀t∈q.2,t<n)->(p++r).length<=3->(∀d,O≠.ow d)->(∀d,L≠.ow d)->(∀d,z≠.ow d) ->
  ∃I F,(∀d,I≠.ow d)/\(∀d,F≠.ow d)/\B_ (tupG 2 (BL 4 (BL 5 nilG))) Bq (r.map λq=>.tup [.str q.1,lM q.2]) [.fz (.adr x),.fz (.int (n:Int)),.fz a,.fz b,O,L,z] [fS n,fM p,("tied",U2,e)]=Y2 ([.fz (.adr x),.fz (.int (n:Int)),.fz a,.fz b,I,F,z],[fS n,fM (p++r),("tied",U2,e)])
 |[],p,O,L,_,_,_,W,U,_=>⟨O,L,W,U,by rw[dL];rfl⟩
 |t::r,p,O,L,S,Y,J,W,U,T=>by
  obtain⟨w,l⟩:=t;obtain⟨hw,l1,l2,l3⟩:=Y (w,l) (by simp);have nt:w∉p.map (·.1):=by
   intro q;rw[fR,ck] at S;exact S.2.2 w q w (by simp) rfl
  have e1:=Mh hw;have e2:=bZ n l l1 l3 l2;have e3:Bc (.dk (oM p)) (.str w) (kM l)=Y2 (.dk (oM (p++[(w,l)]))):=by
   rw[Gq _ _ _ (by simp[oM] at J ⊢;omega)];have:(.inr w:Key)∉(oM p).map (·.1):=Eo kM nt;rw[putL_new this];simp[oM]
  have b0:Bq [.fz (.adr x),.fz (.int (n:Int)),.fz a,.fz b,.fz (.str w),.fz (lM l),z] [fS n,fM p,("tied",U2,e)]=Y2 ([.fz (.adr x),.fz (.int (n:Int)),.fz a,.fz b,.fz (.str w),.fz (lM l),z],[fS n,fM (p++[(w,l)]),("tied",U2,e)]):=by
   have t0:ifE (Fx (notT (trF (Am (BP) (Aa (vF 4) (nilA)))))) [.fz (.adr x),.fz (.int (n:Int)),.fz a,.fz b,.fz (.str w),.fz (lM l),z] [fS n,fM p,("tied",U2,e)]=Y2 ([.fz (.adr x),.fz (.int (n:Int)),.fz a,.fz b,.fz (.str w),.fz (lM l),z],[fS n,fM p,("tied",U2,e)]):=by
    have:notT (trF (Am (BP) (Aa (vF 4) (nilA)))) [.fz (.adr x),.fz (.int (n:Int)),.fz a,.fz b,.fz (.str w),.fz (lM l),z]=Y2 T2:=by simp only[cK,e1]
    unfold ifE Fx;rw[this]
   have t1:Fw "marked" (vF 4) (Am (Cg) (Aa (vF 1) (Aa (vF 5) (nilA)))) [.fz (.adr x),.fz (.int (n:Int)),.fz a,.fz b,.fz (.str w),.fz (lM l),z] [fS n,fM p,("tied",U2,e)]=Y2 ([.fz (.adr x),.fz (.int (n:Int)),.fz a,.fz b,.fz (.str w),.fz (lM l),z],[fS n,fM (p++[(w,l)]),("tied",U2,e)]):=by
    have v1:Am (Cg) (Aa (vF 1) (Aa (vF 5) (nilA))) [.fz (.adr x),.fz (.int (n:Int)),.fz a,.fz b,.fz (.str w),.fz (lM l),z]=Y2 (kM l):=by simp only[cK,e2]
    have Z:vF 4 [.fz (.adr x),.fz (.int (n:Int)),.fz a,.fz b,.fz (.str w),.fz (lM l),z]=Y2 (.str w):=rfl;unfold Fw;rw[v1,Z];show (match bn ("marked":Str) [fS n,fM p,("tied",U2,e)] with | some (U2,d)=>(Bc d (.str w) (kM l)).map λd'=>(_,repE "marked" d' [fS n,fM p,("tied",U2,e)]) | _=>X2)=_;rw[lkM];show (Bc (.dk (oM p)) (.str w) (kM l)).map _=_;rw[e3];show Y2 (_,repE "marked" _ [fS n,fM p,("tied",U2,e)])=_;rw[rpM]
   unfold Bq;rw[Et,t0,Be,t1]
  obtain⟨I,F,g4,g5,ih⟩:=Nv n hn x a b e z r (p++[(w,l)]) (.fz (.str w)) (.fz (lM l)) (by simpa using S) (λu hu=>Y u (by simp[hu])) (by simpa using J) (λd=>by simp) (λd=>by simp) T;refine⟨I,F,g4,g5,?_⟩;rw[bb];unfold B_;rw[HR];have no:noOw [.fz (.adr x),.fz (.int (n:Int)),.fz a,.fz b,.fz (.str w),.fz (lM l),z]=U2:=by
   unfold noOw;cases z with
   |ow d=>exact absurd rfl (T d)
   |un=>rfl
   |fz d=>rfl
  show (if noOw [.fz (.adr x),.fz (.int (n:Int)),.fz a,.fz b,.fz (.str w),.fz (lM l),z]=U2 then (Bq [.fz (.adr x),.fz (.int (n:Int)),.fz a,.fz b,.fz (.str w),.fz (lM l),z] _).bind _ else X2)=_;rw[if_pos no,b0];show B_ _ _ _ _ _=_;rw[ih];simp
theorem PQ(n:Nat)(hn:n<=5)(x:Addr)(a b:D)(I:List (Str×List Nat))(L:Slot)(Z:∀d,L≠.ow d):∀(r p:List (Str×List (Nat×Nat))) (S O:Slot),((p++r).map (·.1)).Nodup->(∀q∈r,Wd q.1/\q.1∉I.map (·.1)/\q.2.Nodup/\q.2.length<=100/\∀t∈q.2,t.1<n/\t.2<n)->(p++r).length<=3->(∀d,S≠.ow d)->(∀d,O≠.ow d) ->
  ∃J F,B_ (tupG 2 (BL 4 (BL 6 nilG))) Br (r.map λq=>.tup [.str q.1,lT q.2]) [.fz (.adr x),.fz (.int (n:Int)),.fz a,.fz b,S,L,O] [fS n,fM I,fT p]=Y2 ([.fz (.adr x),.fz (.int (n:Int)),.fz a,.fz b,J,L,F],[fS n,fM I,fT (p++r)])
 |[],p,S,O,_,_,_,h4,h6=>⟨S,O,by rw[dL];rfl⟩
 |t::r,p,S,O,U,Y,z,h4,h6=>by
  obtain⟨w,l⟩:=t;obtain⟨hw,nm,l1,l2,l3⟩:=Y (w,l) (by simp);have nt:w∉p.map (·.1):=by
   intro q;rw[fR,ck] at U;exact U.2.2 w q w (by simp) rfl
  have e1:=Mh hw;have e2:=ZG n l l1 l3 l2;have e3:Bc (.dk (oT p)) (.str w) (kT l)=Y2 (.dk (oT (p++[(w,l)]))):=by
   rw[Gq _ _ _ (by simp[oT] at z ⊢;omega)];have:(.inr w:Key)∉(oT p).map (·.1):=Eo kT nt;rw[putL_new this];simp[oT]
  have e4:getK (.inr w:Key) (oM I)=X2:=JG (Eo kM nm);have b0:Br [.fz (.adr x),.fz (.int (n:Int)),.fz a,.fz b,.fz (.str w),L,.fz (lT l)] [fS n,fM I,fT p]=Y2 ([.fz (.adr x),.fz (.int (n:Int)),.fz a,.fz b,.fz (.str w),L,.fz (lT l)],[fS n,fM I,fT (p++[(w,l)])]):=by
   have t0:ifE (orTE (Fx (notT (trF (Am (BP) (Aa (vF 4) (nilA)))))) (inTE "marked" (vF 4))) [.fz (.adr x),.fz (.int (n:Int)),.fz a,.fz b,.fz (.str w),L,.fz (lT l)] [fS n,fM I,fT p]=Y2 ([.fz (.adr x),.fz (.int (n:Int)),.fz a,.fz b,.fz (.str w),L,.fz (lT l)],[fS n,fM I,fT p]):=by
    have u1:notT (trF (Am (BP) (Aa (vF 4) (nilA)))) [.fz (.adr x),.fz (.int (n:Int)),.fz a,.fz b,.fz (.str w),L,.fz (lT l)]=Y2 T2:=by simp only[cK,e1]
    have T:vF 4 [.fz (.adr x),.fz (.int (n:Int)),.fz a,.fz b,.fz (.str w),L,.fz (lT l)]=Y2 (.str w):=rfl;have u2:inTE "marked" (vF 4) [.fz (.adr x),.fz (.int (n:Int)),.fz a,.fz b,.fz (.str w),L,.fz (lT l)] [fS n,fM I,fT p]=Y2 T2:=by
     unfold inTE;rw[T];show (match bn ("marked":Str) [fS n,fM I,fT p] with | some (U2,.dk W)=>(keyD (.str w)).map λq=>(getK q W).isSome | _=>X2)=_;rw[lkM];show Y2 ((getK (.inr w:Key) (oM I)).isSome)=_;rw[e4];rfl
    unfold ifE orTE Fx;rw[u1];show (match inTE "marked" (vF 4) _ _ with | some T2=>Y2 _ | _=>X2)=_;rw[u2]
   have t1:Fw "tied" (vF 4) (Am (Cv) (Aa (vF 1) (Aa (vF 6) (nilA)))) [.fz (.adr x),.fz (.int (n:Int)),.fz a,.fz b,.fz (.str w),L,.fz (lT l)] [fS n,fM I,fT p]=Y2 ([.fz (.adr x),.fz (.int (n:Int)),.fz a,.fz b,.fz (.str w),L,.fz (lT l)],[fS n,fM I,fT (p++[(w,l)])]):=by
    have v1:Am (Cv) (Aa (vF 1) (Aa (vF 6) (nilA))) [.fz (.adr x),.fz (.int (n:Int)),.fz a,.fz b,.fz (.str w),L,.fz (lT l)]=Y2 (kT l):=by simp only[cK,e2]
    have T:vF 4 [.fz (.adr x),.fz (.int (n:Int)),.fz a,.fz b,.fz (.str w),L,.fz (lT l)]=Y2 (.str w):=rfl;unfold Fw;rw[v1,T];show (match bn ("tied":Str) [fS n,fM I,fT p] with | some (U2,d)=>(Bc d (.str w) (kT l)).map λd'=>(_,repE "tied" d' [fS n,fM I,fT p]) | _=>X2)=_;rw[lkT];show (Bc (.dk (oT p)) (.str w) (kT l)).map _=_;rw[e3];show Y2 (_,repE "tied" _ [fS n,fM I,fT p])=_;rw[rpT]
   unfold Br;rw[Et,t0,Be,t1]
  obtain⟨J,F,ih⟩:=PQ n hn x a b I L Z r (p++[(w,l)]) (.fz (.str w)) (.fz (lT l)) (by simpa using U) (λu hu=>Y u (by simp[hu])) (by simpa using z) (λd=>by simp) (λd=>by simp);refine⟨J,F,?_⟩;rw[bb];unfold B_;have tg:tupG 2 (BL 4 (BL 6 nilG)) (.tup [.str w,lT l]) [.fz (.adr x),.fz (.int (n:Int)),.fz a,.fz b,S,L,O]=Y2 [.fz (.adr x),.fz (.int (n:Int)),.fz a,.fz b,.fz (.str w),L,.fz (lT l)]:=by rw[HR];rfl
  rw[tg];have no:noOw [.fz (.adr x),.fz (.int (n:Int)),.fz a,.fz b,.fz (.str w),L,.fz (lT l)]=U2:=by
   unfold noOw;cases L with
   |ow d=>exact absurd rfl (Z d)
   |un=>rfl
   |fz d=>rfl
  show (if noOw [.fz (.adr x),.fz (.int (n:Int)),.fz a,.fz b,.fz (.str w),L,.fz (lT l)]=U2 then (Br [.fz (.adr x),.fz (.int (n:Int)),.fz a,.fz b,.fz (.str w),L,.fz (lT l)] _).bind _ else X2)=_;rw[if_pos no,b0];show B_ _ _ _ _ _=_;rw[ih];simp
theorem Vn(W:Wl)(h:WOk W)(x:Addr):CK x [.int (W.n:Int),.dk (eM W.ms),.dk (eT W.ts)]=Y2 [fS W.n,fM W.ms,fT W.ts]:=by
 have J:(W.ms.map (·.1)).Nodup:=(ck.mp h.nd).1;have I:(W.ts.map (·.1)).Nodup:=(ck.mp h.nd).2.1;obtain⟨O,L,g4,g5,m⟩:=Nv W.n h.n5 x (.dk (eM W.ms)) (.dk (eT W.ts)) (.dk []) .un W.ms [] .un .un (by simpa using J) (λq S=>⟨h.mw q S,h.ml q S⟩) (by simpa using h.m3) (λd=>by simp) (λd=>by simp) (λd=>by simp);obtain⟨U,T,t⟩:=PQ W.n h.n5 x (.dk (eM W.ms)) (.dk (eT W.ts)) W.ms L g5 W.ts [] O .un (by simpa using I) (λq S=>⟨h.tw q S,λz=>(ck.mp h.nd).2.2 q.1 z q.1 (aS.mpr ⟨q,S,rfl⟩) rfl,h.tl q S⟩) (by simpa using h.t3) g4 (λd=>by simp);rw[lf] at m t;change B_ _ _ _ _ [fS W.n,fM [],fT []]=Y2 (_,[fS W.n,fM W.ms,fT []]) at m;have r1:=HD (W.n:Int) 5 (by have:=h.n5;omega);have r2:=HD ((eM W.ms).length:Int) 3 (by have:=h.m3;simp[eM];omega);have r3:=HD ((eT W.ts).length:Int) 3 (by have:=h.t3;simp[eT];omega);have F:noOw [.fz (.adr x),.fz (.int (W.n:Int)),.fz (.dk (eM W.ms)),.fz (.dk (eT W.ts)),.un,.un,.un]=U2:=rfl;have p1:pureE (Dh (Am (Ai) (Aa (vF 1) (Aa (kF (.int 5)) (nilA))))) [.fz (.adr x),.fz (.int (W.n:Int)),.fz (.dk (eM W.ms)),.fz (.dk (eT W.ts)),.un,.un,.un] []=Y2 ([.fz (.adr x),.fz (.int (W.n:Int)),.fz (.dk (eM W.ms)),.fz (.dk (eT W.ts)),.un,.un,.un],[]):=Ma (by simp only[cK,r1]) F;have p2:pureE (Dh (Am (Ai) (Aa (uF lenE (vF 2)) (Aa (kF (.int 3)) (nilA))))) [.fz (.adr x),.fz (.int (W.n:Int)),.fz (.dk (eM W.ms)),.fz (.dk (eT W.ts)),.un,.un,.un] []=Y2 ([.fz (.adr x),.fz (.int (W.n:Int)),.fz (.dk (eM W.ms)),.fz (.dk (eT W.ts)),.un,.un,.un],[]):=Ma (by simp only[dK,r2]) F;have p3:pureE (Dh (Am (Ai) (Aa (uF lenE (vF 3)) (Aa (kF (.int 3)) (nilA))))) [.fz (.adr x),.fz (.int (W.n:Int)),.fz (.dk (eM W.ms)),.fz (.dk (eT W.ts)),.un,.un,.un] []=Y2 ([.fz (.adr x),.fz (.int (W.n:Int)),.fz (.dk (eM W.ms)),.fz (.dk (eT W.ts)),.un,.un,.un],[]):=Ma (by simp only[dK,r3]) F;have s1:O2 "size" (vF 1) [.fz (.adr x),.fz (.int (W.n:Int)),.fz (.dk (eM W.ms)),.fz (.dk (eT W.ts)),.un,.un,.un] []=Y2 ([.fz (.adr x),.fz (.int (W.n:Int)),.fz (.dk (eM W.ms)),.fz (.dk (eT W.ts)),.un,.un,.un],[fS W.n]):=rfl;have s2:Gb "marked" (kF (.dk [])) [.fz (.adr x),.fz (.int (W.n:Int)),.fz (.dk (eM W.ms)),.fz (.dk (eT W.ts)),.un,.un,.un] [fS W.n]=Y2 ([.fz (.adr x),.fz (.int (W.n:Int)),.fz (.dk (eM W.ms)),.fz (.dk (eT W.ts)),.un,.un,.un],[fS W.n,fM []]):=by
  have l:bn ("marked":Str) [fS W.n]=X2:=by
   rw[bi,q1];rfl
  unfold Gb;show (if (bn ("marked":Str) [fS W.n]).isNone=U2/\[fS W.n].length<1000 then Y2 (_,[fS W.n]++[(("marked":Str),U2,D.dk [])]) else X2)=_;rw[l,if_pos ⟨rfl,(by show 1<1000;decide)⟩];rfl
 have Z:Gb "tied" (kF (.dk [])) [.fz (.adr x),.fz (.int (W.n:Int)),.fz (.dk (eM W.ms)),.fz (.dk (eT W.ts)),.un,.un,.un] [fS W.n,fM []]=Y2 ([.fz (.adr x),.fz (.int (W.n:Int)),.fz (.dk (eM W.ms)),.fz (.dk (eT W.ts)),.un,.un,.un],[fS W.n,fM [],fT []]):=by
  have l:bn ("tied":Str) [fS W.n,fM []]=X2:=by
   rw[bi,q2];show bn ("tied":Str) [fM []]=X2;rw[bi,q3];rfl
  unfold Gb;show (if (bn ("tied":Str) [fS W.n,fM []]).isNone=U2/\[fS W.n,fM []].length<1000 then Y2 (_,[fS W.n,fM []]++[(("tied":Str),U2,D.dk [])]) else X2)=_;rw[l,if_pos ⟨rfl,(by show 2<1000;decide)⟩];rfl
 have i1:Ky (vF 2) [.fz (.adr x),.fz (.int (W.n:Int)),.fz (.dk (eM W.ms)),.fz (.dk (eT W.ts)),.un,.un,.un]=Y2 (W.ms.map λq=>.tup [.str q.1,lM q.2]):=by
  show Y2 ((eM W.ms).map λp=>D.tup [kDt p.1,p.2])=_;simp only[eM,cS,lG,J1]
 have i2:Ky (vF 3) [.fz (.adr x),.fz (.int (W.n:Int)),.fz (.dk (eM W.ms)),.fz (.dk (eT W.ts)),O,L,.un]=Y2 (W.ts.map λq=>.tup [.str q.1,lT q.2]):=by
  show Y2 ((eT W.ts).map λp=>D.tup [kDt p.1,p.2])=_;simp only[eT,cS,lG,J1]
 have Y:Jf 7 x [.int (W.n:Int),.dk (eM W.ms),.dk (eT W.ts)]=[.fz (.adr x),.fz (.int (W.n:Int)),.fz (.dk (eM W.ms)),.fz (.dk (eT W.ts)),.un,.un,.un]:=rfl;unfold CK runI;rw[if_pos (show [D.int (W.n:Int),.dk (eM W.ms),.dk (eT W.ts)].length+1=4 from rfl),Y];unfold Dz;rw[Et,p1,Be,Et,p2,Be,Et,p3,Be,Et,s1,Be,Et,s2,Be,Et,Z,Be,Et,Yp i1,m,Be,Et,Yp i2,t,Be,Yo];rfl
theorem jr(W:Wl)(h:WOk W)(fs:FA)(ρ:Rho)(F:fs ρ=Y2 [.int (W.n:Int),.dk (eM W.ms),.dk (eT W.ts)]):mkI "World" CK fs ρ=Y2 (wob W):=by
 unfold mkI;rw[F];simp only[bo,Vn W h 0];rw[if_pos (λx=>Vn W h x)];rfl
theorem PX{F:FT}(f:Nat->Bool)(h:Nat->D)(z:FI)(J:z ρ=Y2 (rngD n))(T:n<=1000)(h1:∀k,k<n->F (ρ++[.fz (.int k)])=Y2 (f k))(S:∀k,k<n->fe (ρ++[.fz (.int k)])=Y2 (h k)):Hq z F fe ρ=Y2 (.lst (((bp n).filter f).map h)):=by
 have c:∀l:List Nat,(∀k∈l,k<n)->Hv ρ F fe (l.map λ(k:Nat)=>D.int k)=Y2 ((l.filter f).map h):=by
  intro l
  induction l with
  |nil=>intro _;rfl
  |cons k r I=>
   intro Y;rw[bb,NB,h1 k (Y k (by simp)),S k (Y k (by simp)),I λd O=>Y d (by simp[O]),List.filter_cons];cases f k<;>rfl
 exact Ur J (by rw[Dj];omega) (c (bp n) λk L=>eW.mp L)
theorem Pa{l:List Str}(I:l.Nodup){i j:Nat}(F:i<l.length)(W:j<l.length)(e:l[i]=l[j]):i=j:=by
 have h:=rD.mp I
 rcases rE i j with z | z | z
 .exact absurd e (h i j F W z)
 .exact z
 .exact absurd e.symm (h j i W F z)
theorem GQ(n:Nat)(f:Nat->Bool):((bp n).filter f).Nodup:=List.Nodup.sublist List.filter_sublist rC
theorem iM(n:Nat)(F:n<=100)(ρ:Rho)(i:Nat)(h:ρ[i]?=Y2 (.fz (.int (n:Int)))):rngI (vF i) ρ=Y2 (rngD n):=by
 have z:=IV (n:Int) (by omega);simp only[Tf,e_v,h,e_vs,z,fA]
theorem shl1(k:Nat)(I:k<30):shlD (.int 1) (.int (k:Int))=Y2 (.int (2^k)):=by
 show (if CShl 1 (k:Int) then Y2 (D.int (1*2^(k:Int).toNat)) else X2)=_;rw[if_pos ⟨by omega,by omega,by decide +kernel⟩];simp
theorem Wi(k:Nat)(I:k<26):(0:Int)<2^k/\(2:Int)^k<1073741824:=by
 have:∀k<26,(0:Int)<2^k/\(2:Int)^k<1073741824:=by decide +kernel
 exact this k I
theorem three(i:Int):i%3=0∨i%3=1∨i%3=2:=by omega
theorem ZJ(i O:Int)(k:Nat)(hk:k<26)(fs:List D)(I:fs.length<=1000)(n:Int)(S:0<=n/\n<2147483629):∃(b:Bool) (z:Int),0<=z/\z<2147483629 ∧
  Ce [.fz (.int i),.fz (.int O),.ow (.lst fs),.fz (.int n),.fz (.int (k:Int))]=Y2 (.nx [.fz (.int i),.fz (.int O),.ow (.lst (fs++[.bl b])),.fz (.int z),.fz (.int (k:Int))]):=by
 obtain⟨p0,Z⟩:=Wi k hk;have Y:=shl1 k (by omega)
 rcases three i with h | h | h
 .have d1:=E_ i 3 (by decide) (by decide);have d2:=E_ (i/3) (2^k) p0 Z;refine⟨decide (i/3/2^k%2=1),n,S.1,S.2,?_⟩;have a:=Vm fs (.bl (decide (i/3/2^k%2=1))) I;have F:=Fq i 3 (by decide);rw[h] at F;simp only[ciK,Ce,F,Y,d1,d2,a,lI]
 all_goals
  have F:=Fq i 3 (by decide);rw[h] at F;have W:=MF n n (by omega);have U:=aW 48271 n (by decide);have T:=Fq (n*n+48271*n+(k:Int)+1) 2147483629 (by decide);have L:0<=(n*n+48271*n+(k:Int)+1)%2147483629:=hW _ (by decide);have b1:(n*n+48271*n+(k:Int)+1)%2147483629<2147483629:=kZ _ (by decide);generalize (n*n+48271*n+(k:Int)+1)%2147483629=z at T L b1
 .have J:mulD (.int 2) (.int 1)=Y2 (.int 2):=by rfl
  have a:=Vm fs (.bl (decide (z/7%2=0))) I;refine⟨decide (z/7%2=0),z,L,b1,?_⟩;simp only[ciK,Ce,F,W,U,J,T,a,lI]
 .have J:mulD (.int 2) (.int 2)=Y2 (.int 4):=by rfl
  have a:=Vm fs (.bl (decide (z/7%4=0))) I;refine⟨decide (z/7%4=0),z,L,b1,?_⟩;simp only[ciK,Ce,F,W,U,J,T,a,lI]
theorem Vo(i:Int)(mm:Nat)(hm:mm<=25):∃bs:List Bool,Em [.int i,.int (mm:Int)]=Y2 (.lst (bs.map .bl))/\bs.length=mm:=by
 have n0:0<=i/3%2147483629:=hW _ (by decide);have n1:i/3%2147483629<2147483629:=kZ _ (by decide);obtain⟨S,e,bs,F,z4,rfl,Y,_⟩:=IK (b:=tgB (BV 4) Ce) (ds:=rngD mm) (ρ:=[.fz (.int i),.fz (.int (mm:Int)),.ow (.lst []),.fz (.int (i/3%2147483629)),.un])
  (P:=λk I=>∃(bs:List Bool) (F:Int) (z:Slot),I=[.fz (.int i),.fz (.int (mm:Int)),.ow (.lst (bs.map .bl)),.fz (.int F),z]/\bs.length=k/\0<=F/\F<2147483629) 0 ⟨[],_,.un,rfl,rfl,n0,n1⟩ (by
   rintro k d I O ⟨bs,F,z,rfl,Y,L,J⟩;have T:k<mm:=by
    have:=(de.mp O).1
    rwa [Dj] at this
   have ed:d=.int (k:Int):=by
    have:=O;simp[rngD,T] at this;exact this.symm
   subst ed;obtain⟨b,n2,Z,W,U⟩:=ZJ i mm k (by omega) (bs.map .bl) (by simp;omega) F ⟨L,J⟩;refine⟨_,?_,bs++[b],n2,.fz (.int (k:Int)),rfl,by simp;omega,Z,W⟩;rw[e_tg,Fv,G4];rw[fR];exact U)
 rw[Dj,hV] at Y;refine⟨bs,?_,Y⟩;have e6:=IV (mm:Int) (by omega);simp only[diK,Em,Il,e6,fA,e,lI]
theorem Py{z:List Str}{k:Nat}(h:k<z.length):ixE (.lst (z.map .str)) (.int (k:Int))=Y2 (.str z[k]):=by
 show atI (z.map D.str) (k:Int)=_;rw[QK,be];simp[h]
theorem dh{bs:List Bool}{k:Nat}(h:k<bs.length):ixE (.lst (bs.map .bl)) (.int (k:Int))=Y2 (.bl bs[k]):=by
 show atI (bs.map D.bl) (k:Int)=_;rw[QK,be];simp[h]
structure Mk (n:Nat) (ms:List (Str×List Nat)):Prop where
 ok:∀p∈ms,p.2.Nodup/\p.2.length<=100/\∀t∈p.2,t<n
structure Tk (n:Nat) (ts:List (Str×List (Nat×Nat))):Prop where
 ok:∀p∈ts,p.2.Nodup/\p.2.length<=100/\∀q∈p.2,q.1<n/\q.2<n
theorem Wj(st:Nat)(L:List Int)(c:D)(n m:Nat)(hn:n<=5)(F:List Str)(k:Nat)(hk:k<m)(S:k<F.length)(I:List (Str×List Nat))(hl:I.length<=50)(W:F[k]∉I.map (·.1))(Z:Mk n I)(J T:Slot):
  ∃l z,Bo [.fz (.lst (L.map .int)),.fz (.int (st:Int)),.fz c,.fz (.int (n:Int)),.fz (.int (m:Int)),.fz (.lst (F.map .str)),.ow (.dk (eM I)),J,.fz (.int (k:Int)),T]
   = Y2 (.nx [.fz (.lst (L.map .int)),.fz (.int (st:Int)),.fz c,.fz (.int (n:Int)),.fz (.int (m:Int)),.fz (.lst (F.map .str)),.ow (.dk (eM (I++[(F[k],l)]))),J,.fz (.int (k:Int)),z])/\Mk n (I++[(F[k],l)]):=by
 obtain⟨i,ci⟩:=Mg L (st+2+k);obtain⟨bs,hb,u0⟩:=Vo i n (by omega);have ce:(st:Int)+2+(k:Int)=((st+2+k:Nat):Int):=by omega
 have lt:decide ((k:Int)<(m:Int))=U2:=by simp;omega
 have cm:Hq (rngI (vF 3)) Fz Im [.fz (.lst (L.map .int)),.fz (.int (st:Int)),.fz c,.fz (.int (n:Int)),.fz (.int (m:Int)),.fz (.lst (F.map .str)),.ow (.dk (eM I)),J,.fz (.int (k:Int)),.fz (.lst (bs.map .bl))]=Y2 (lM ((bp n).filter λt=>bs.getD t T2)):=
  PX (λt=>bs.getD t T2) iN _ (iM n (by omega) _ 3 rfl) (by omega) (λt O=>by
   have ix:=dh (bs:=bs) (k:=t) (by omega);have eg:bs.getD t T2=bs[t]'(by omega):=by rw[nC,cy (by omega)];rfl
   simp only[cK,Fz,ix,eg]) λt O=>rfl
 have U:Bc (.dk (eM I)) (.str F[k]) (lM ((bp n).filter λt=>bs.getD t T2))=Y2 (.dk (eM (I++[(F[k],(bp n).filter λt=>bs.getD t T2)]))):=by
  rw[Gq _ _ _ (by simp[eM];omega)];have:(.inr F[k]:Key)∉(eM I).map (·.1):=Eo lM W;rw[putL_new this];simp[eM]
 have ix:=Py S;refine⟨(bp n).filter λt=>bs.getD t T2,.fz (.lst (bs.map .bl)),?_,⟨λp Y=>?_⟩⟩
 .simp only[ciK,Bo,lt,ce,ci,hb,VH,NK,ix,cm,QW,U]
 .rcases dv.mp Y with q | q
  .exact Z.ok p q
  .obtain rfl:=fN.mp q;refine⟨GQ n _,?_,λt O=>eW.mp (cr.mp O).1⟩;have:=rF (λt=>bs.getD t T2) (bp n);rw[oO] at this;show ((bp n).filter _).length<=100;omega
theorem ZK(st:Nat)(L:List Int)(c:D)(n m:Nat)(Y:n<=5)(F:List Str)(k:Nat)(hk:m<=k)(U:k<F.length)(I:List (Str×List (Nat×Nat)))(hl:I.length<=50)(nt:F[k]∉I.map (·.1))(hm:Tk n I)(J z9:Slot):
  ∃l z,Bo [.fz (.lst (L.map .int)),.fz (.int (st:Int)),.fz c,.fz (.int (n:Int)),.fz (.int (m:Int)),.fz (.lst (F.map .str)),J,.ow (.dk (eT I)),.fz (.int (k:Int)),z9]
   = Y2 (.nx [.fz (.lst (L.map .int)),.fz (.int (st:Int)),.fz c,.fz (.int (n:Int)),.fz (.int (m:Int)),.fz (.lst (F.map .str)),J,.ow (.dk (eT (I++[(F[k],l)]))),.fz (.int (k:Int)),z])/\Tk n (I++[(F[k],l)]):=by
 have T:n*n<=25:=rG Y Y;obtain⟨i,ci⟩:=Mg L (st+5+k-m);obtain⟨bs,hb,u0⟩:=Vo i (n*n) T;have ce:(st:Int)+5+(k:Int)-(m:Int)=((st+5+k-m:Nat):Int):=by omega
 have lt:decide ((k:Int)<(m:Int))=T2:=by simp;omega
 have S:=MF (n:Int) (n:Int) (by omega);have mc:(n:Int)*(n:Int)=((n*n:Nat):Int):=by simp
 rw[mc] at S;have rg:rngI (bF mulD (vF 3) (vF 3)) [.fz (.lst (L.map .int)),.fz (.int (st:Int)),.fz c,.fz (.int (n:Int)),.fz (.int (m:Int)),.fz (.lst (F.map .str)),J,.ow (.dk (eT I)),.fz (.int (k:Int)),.fz (.lst (bs.map .bl))]=Y2 (rngD (n*n)):=by
  have e6:=IV ((n*n:Nat):Int) (by omega);rw[fA] at e6;simp only[cK,S,e6]
 have cm:Hq (rngI (bF mulD (vF 3) (vF 3))) F_ GC [.fz (.lst (L.map .int)),.fz (.int (st:Int)),.fz c,.fz (.int (n:Int)),.fz (.int (m:Int)),.fz (.lst (F.map .str)),J,.ow (.dk (eT I)),.fz (.int (k:Int)),.fz (.lst (bs.map .bl))]=Y2 (.lst (((bp (n*n)).filter λt=>bs.getD t T2).map λt=>pN (t/n,t%n))):=
  PX (λt=>bs.getD t T2) (λt=>pN (t/n,t%n)) _ rg (by omega) (λt O=>by
   have ix:=dh (bs:=bs) (k:=t) (by omega);have eg:bs.getD t T2=bs[t]'(by omega):=by rw[nC,cy (by omega)];rfl
   simp only[cK,F_,ix,eg]) λt O=>by
   have n0:0<n:=by
    rcases rH n with z | z
    .subst z;simp at O
    .exact z
   have d1:=E_ (t:Int) (n:Int) (by omega) (by omega);have d2:=Fq (t:Int) (n:Int) (by omega);have q1:(t:Int)/(n:Int)=((t/n:Nat):Int):=by simp
   have q2:(t:Int)%(n:Int)=((t%n:Nat):Int):=by simp
   rw[q1] at d1;rw[q2] at d2;simp only[cK,GC,d1,d2]
 have el:(.lst (((bp (n*n)).filter λt=>bs.getD t T2).map λt=>pN (t/n,t%n)):D)=lT (((bp (n*n)).filter λt=>bs.getD t T2).map λt=>(t/n,t%n)):=by simp[lT]
 rw[el] at cm;have pk:Bc (.dk (eT I)) (.str F[k]) (lT (((bp (n*n)).filter λt=>bs.getD t T2).map λt=>(t/n,t%n)))=Y2 (.dk (eT (I++[(F[k],((bp (n*n)).filter λt=>bs.getD t T2).map λt=>(t/n,t%n))]))):=by
  rw[Gq _ _ _ (by simp[eT];omega)];have:(.inr F[k]:Key)∉(eT I).map (·.1):=Eo lT nt;rw[putL_new this];simp[eT]
 have ix:=Py U;refine⟨((bp (n*n)).filter λt=>bs.getD t T2).map λt=>(t/n,t%n),.fz (.lst (bs.map .bl)),?_,⟨λp hp=>?_⟩⟩
 .simp only[ciK,Bo,lt,ce,ci,S,hb,VH,NK,ix,cm,QW,pk]
 .rcases dv.mp hp with q | q
  .exact hm.ok p q
  .obtain rfl:=fN.mp q;refine⟨?_,?_,λq hq=>?_⟩
   .rw[nD,lJ];refine List.Pairwise.imp (λ{a b} W e=>W ?_) (GQ (n*n) _);simp only[nO] at e;have Z:=rJ a n;have h2:=rJ b n;rw[e.1,e.2] at Z;exact Z.symm.trans h2
   .have:=rF (λt=>bs.getD t T2) (bp (n*n));rw[oO] at this;show (((bp (n*n)).filter _).map _).length<=100;rw[aw];omega
   .obtain⟨t,O,rfl⟩:=aS.mp hq;have O:=eW.mp (cr.mp O).1;have n0:0<n:=by
     rcases rH n with z | z
     .subst z;simp at O
     .exact z
    exact⟨Nat.div_lt_of_lt_mul O,pz _ n0⟩
theorem Wk(a:Int)(b:Bool):ixE (.lst [.int a,.int 5]) (.int (if b then 1 else 0))=Y2 (.int (if b then 5 else a)):=by cases b<;>rfl
theorem iQ(l:List D):lenE (.lst l)=Y2 (.int l.length):=Ux l
def Eqn(a b:Int):Prop:=a=b
theorem nums(c:Int):∃n m t:Nat,Eqn (n:Int) (if decide (c/45%12=11) then 5 else c/9%5)/\n<=5/\Eqn (m:Int) (c%4)/\m<=3/\Eqn (t:Int) (c/4%4)/\t<=3:=by
 have L:∀(x:Int) (k:Nat),0<=x->x<=k->∃n:Nat,(n:Int)=x/\n<=k:=λx k U T=>⟨x.toNat,by omega,by omega⟩;obtain⟨n,J,z⟩:=L (if decide (c/45%12=11) then 5 else c/9%5) 5 (by split<;>omega) (by split<;>omega);obtain⟨m,S,F⟩:=L (c%4) 3 (by omega) (by omega);obtain⟨t,I,O⟩:=L (c/4%4) 3 (by omega) (by omega);exact⟨n,m,t,J,z,S,F,I,O⟩
theorem Ru(st:Nat)(L:List Int):∃W:Wl,WOk W/\CV [.lst (L.map .int),.int (st:Int)]=Y2 (.lst [.int (W.n:Int),.dk (eM W.ms),.dk (eT W.ts)]):=by
 obtain⟨c,hc⟩:=Mg L st;obtain⟨c1,D0⟩:=Mg L (st+1);obtain⟨n,m,t,en,hn,em,L0,et,K0⟩:=nums c;obtain⟨F,y0,B0,u0,O⟩:=ZF c1 (m+t) (by omega);obtain⟨G0,e,J,I,z8,Z,rfl,Y,U,a3,a4⟩:=IK (b:=tgB (BV 8) Bo) (ds:=rngD (m+t)) (ρ:=[.fz (.lst (L.map .int)),.fz (.int (st:Int)),.fz (.int c),.fz (.int (n:Int)),.fz (.int (m:Int)),.fz (.lst (F.map .str)),.ow (.dk (eM [])),.ow (.dk (eT [])),.un,.un])
  (P:=λk ρ=>∃(J:List (Str×List Nat)) (I:List (Str×List (Nat×Nat))) (z8 Z:Slot),ρ=[.fz (.lst (L.map .int)),.fz (.int (st:Int)),.fz (.int c),.fz (.int (n:Int)),.fz (.int (m:Int)),.fz (.lst (F.map .str)),.ow (.dk (eM J)),.ow (.dk (eT I)),z8,Z]/\J.map (·.1)=(F.take m).take k/\I.map (·.1)=(F.drop m).take (k-m)/\Mk n J/\Tk n I) 0 ⟨[],[],.un,.un,rfl,by simp,by simp,⟨by simp⟩,⟨by simp⟩⟩ (by
   rintro k d ρ hd ⟨J,I,z8,Z,rfl,Y,U,a3,a4⟩;have hk:k<m+t:=by
    have:=(de.mp hd).1
    rwa [Dj] at this
   have ed:d=.int (k:Int):=by
    have:=hd;simp[rngD,hk] at this;exact this.symm
   subst ed;rw[hV] at *;have S:k<F.length:=by omega
   by_cases C0:k<m
   .have nt:F[k]∉J.map (·.1):=by
     rw[Y,lN];intro q;obtain⟨j,hj,ej⟩:=mj q;rw[ij] at hj;rw[rK] at ej;have:=Pa O (by omega) S ej;omega
    have l1:=congrArg cw Y;simp at l1;obtain⟨l,z,st,T⟩:=Wj st L (.int c) n m hn F k C0 S J (by omega) nt a3 (.ow (.dk (eT I))) Z;refine⟨_,?_,J++[(F[k],l)],I,.fz (.int (k:Int)),z,rfl,?_,?_,T,a4⟩
    .rw[e_tg,Fv,G4];exact st
    .rw[fR,Y,lN,lN,show min k m=k by omega,show min (k+1) m=k+1 by omega,rL,cy S];rfl
    .rw[U,show k-m=0 by omega,show k+1-m=0 by omega]
   .have nt:F[k]∉I.map (·.1):=by
     rw[U];intro q;obtain⟨j,hj,ej⟩:=mj q;rw[ij,io] at hj;rw[rK,List.getElem_drop] at ej;have:=Pa O (by omega) S ej;omega
    have l1:=congrArg cw U;simp at l1;obtain⟨l,z,st,T⟩:=ZK st L (.int c) n m hn F k (by omega) S I (by omega) nt a4 (.ow (.dk (eM J))) Z;refine⟨_,?_,J,I++[(F[k],l)],.fz (.int (k:Int)),z,rfl,?_,?_,a3,T⟩
    .rw[e_tg,Fv,G4];exact st
    .rw[Y,lN,lN,show min k m=m by omega,show min (k+1) m=m by omega]
    .rw[fR,U,show k+1-m=(k-m)+1 by omega,rL,qF,show m+(k-m)=k by omega,cy S];rfl)
 rw[Dj,hV] at *;have b1:J.map (·.1)=F.take m:=by rw[Y,lN,show min (m+t) m=m by omega]
 have b2:I.map (·.1)=F.drop m:=by rw[U,oP (by rw[io];omega)]
 refine⟨⟨n,J,I⟩,⟨hn,?_,?_,λp hp=>?_,λp hp=>?_,?_,a3.ok,a4.ok⟩,?_⟩
 .have:=congrArg cw b1;simp at this;show J.length<=3;omega
 .have:=congrArg cw b2;simp at this;show I.length<=3;omega
 .refine u0 _ (List.mem_of_mem_take (i:=m) ?_);rw[<-b1];exact aS.mpr ⟨p,hp,rfl⟩
 .refine u0 _ (List.mem_of_mem_drop (i:=m) ?_);rw[<-b2];exact aS.mpr ⟨p,hp,rfl⟩
 .show (J.map (·.1)++I.map (·.1)).Nodup;rw[b1,b2,rM];exact O
 .have e6:=IV ((m+t:Nat):Int) (by omega);unfold Eqn at en em et;rw[fA] at e6;have F0:Bd [.lst (L.map .int),.int (st:Int)]=Y2 (.int c):=hc;have v0:Bd [.lst (L.map .int),.int ((st:Int)+1)]=Y2 (.int c1):=D0;have sp:=Wk (c/9%5) (decide (c/45%12=11));rw[<-en] at sp;have mt:(m:Int)+(t:Int)=((m+t:Nat):Int):=by simp
  have lw:lenE (.lst (F.map .str))=Y2 (.int ((m+t:Nat):Int)):=by rw[iQ,aw,B0]
  have w0:(.dk []:D)=.dk (eM []):=rfl;have w1:(.dk []:D)=.dk (eT []):=rfl;have e':forF (tgB (BV 8) Bo) (rngD (m+t)) [.fz (.lst (L.map .int)),.fz (.int (st:Int)),.fz (.int c),.fz (.int (n:Int)),.fz (.int (m:Int)),.fz (.lst (F.map .str)),.ow (.dk []),.ow (.dk []),.un,.un]=_:=e;simp only[diK,CV,HY,dg,F0,lI,Int.reduceAdd,v0,sp,<-em,<-et,mt,y0,lw,e6,e']
theorem Nx{F:Type}(f:F->D)(w:Str):∀(l:List (Str×F)),getK (.inr w:Key) (l.map λp=>((.inr p.1:Key),f p.2))=(l.find? (λp=>p.1=w)).map λp=>f p.2
 |[]=>rfl
 |p::r=>by
  rw[bb,kR];show (if (.inr p.1:Key)=.inr w then Y2 (f p.2) else getK (.inr w:Key) (r.map λp=>((.inr p.1:Key),f p.2)))=_
  by_cases h:p.1=w
  .simp[h]
  .have:¬ ((.inr p.1:Key)=.inr w):=λz=>h (nP z);rw[if_neg this,Nx f w r];simp[h]
theorem T5(W:Wl):fldD "size" (wob W)=Y2 (.int (W.n:Int)):=by
 show bn ("size":Str) _=_;rfl
theorem Ny(W:Wl):fldD "marked" (wob W)=Y2 (.dk (oM W.ms)):=by
 show bn ("marked":Str) [(("size":Str),D.int (W.n:Int)),("marked",.dk (oM W.ms)),("tied",.dk (oT W.ts))]=_;simp only[bn,q1];rfl
theorem T6(W:Wl):fldD "tied" (wob W)=Y2 (.dk (oT W.ts)):=by
 show bn ("tied":Str) [(("size":Str),D.int (W.n:Int)),("marked",.dk (oM W.ms)),("tied",.dk (oT W.ts))]=_;simp only[bn,q2,q3];rfl
theorem bf(x:Nat)(l:List Nat):inF T2 (.int (x:Int)) (lM l)=Y2 (.bl (l.any λt=>decide (t=x))):=by
 have h:∀F:List Nat,flVs (F.map iN)=Y2 (F.map λ(t:Nat)=>V.int t):=λF=>by
  induction F with
  |nil=>rfl
  |cons y r J=>simp[flVs,flV,J]
 show ((flV (.int (x:Int))).bind λv=>(flVs (l.map iN)).map λI=>D.bl (inV v I))=_;rw[h];show Y2 (D.bl (inV (.int (x:Int)) (l.map λ(t:Nat)=>V.int t)))=_;have e:∀t:Nat,eqV (.int (t:Int)) (.int (x:Int))=decide (t=x):=λt=>by
  by_cases z:t=x
  .subst z;simp[eqV]
  .have:¬ ((t:Int)=(x:Int)):=by omega
   simp[eqV,z,this]
 simp only[inV,oX,lG,e]
theorem Rv(x y:Nat)(l:List (Nat×Nat)):inF T2 (.tup [.int (x:Int),.int (y:Int)]) (lT l)=Y2 (.bl (l.any λq=>decide (q.1=x)&&decide (q.2=y))):=by
 have k:∀q:Nat×Nat,eqK 62 (pN q) (.tup [.int (x:Int),.int (y:Int)])=Y2 (decide (q.1=x)&&decide (q.2=y)):=λq=>by
  have e:∀a b:Nat,eqK 61 (.int (a:Int)) (.int (b:Int))=Y2 (decide (a=b)):=λa b=>by
   show Y2 (eqV (.int (a:Int)) (.int (b:Int)))=_
   by_cases z:a=b
   .subst z;simp[eqV]
   .have:¬ ((a:Int)=(b:Int)):=by omega
    simp[eqV,z,this]
  show (if 2=2 then allO (eqK 61) [.int (q.1:Int),.int (q.2:Int)] [.int (x:Int),.int (y:Int)] else X2)=_;rw[if_pos rfl];simp only[allO,e];cases decide (q.1=x)<;>cases decide (q.2=y)<;>rfl
 have J:(l.map pN).all (knows (.tup [.int (x:Int),.int (y:Int)]))=U2:=by
  rw[gz];intro d F;obtain⟨q,_,rfl⟩:=aS.mp F;unfold knows;rw[k q];rfl
 have I:(l.map pN).any (eqTo (.tup [.int (x:Int),.int (y:Int)]))=l.any λq=>decide (q.1=x)&&decide (q.2=y):=by
  rw[oX];congr 1;funext q;show eqTo _ (pN q)=_;unfold eqTo;rw[k q]
 show (if (l.map pN).all (knows (.tup [.int (x:Int),.int (y:Int)]))=U2 then Y2 (D.bl ((l.map pN).any (eqTo (.tup [.int (x:Int),.int (y:Int)])))) else X2)=_;rw[if_pos J,I]
theorem jt(x:Nat)(l:List Nat):inF T2 (.int (x:Int)) (kM l)=Y2 (.bl (l.any λt=>decide (t=x))):=by
 have h:∀l:List Nat,(getK (.inl (x:Int):Key) (l.map λ(t:Nat)=>((.inl (t:Int):Key),D.bl U2))).isSome=l.any λt=>decide (t=x):=λl=>by
  induction l with
  |nil=>rfl
  |cons t r F=>
   rw[bb,kQ,<-F];show (if (.inl (t:Int):Key)=.inl (x:Int) then _ else _:Option D).isSome=_
   by_cases z:t=x
   .subst z;simp
   .have:¬ ((.inl (t:Int):Key)=.inl (x:Int)):=λq=>z (by have:=pJ q;omega);rw[if_neg this];simp[z]
 show inF T2 (.int (x:Int)) (.dk _)=_;rw[VG];simp only[hZ,if_false,h]
theorem ZL{z:Type}(f:z->D){l:List (Str×z)}(h:(l.map (·.1)).Nodup):((l.map λp=>((.inr p.1:Key),f p.2)).map (·.1)).Nodup:=by
 unfold nD at h ⊢;rw[lJ] at h;rw[cS,lJ];exact h.imp λJ e=>J (nP e)
theorem at_M(W:Wl)(h:WOk W){p:Str×List Nat}(z:p∈W.ms):ixE (.dk (eM W.ms)) (.str p.1)=Y2 (lM p.2):=by
 rw[HQ];exact MT (ZL lM (ck.mp h.nd).1) (aS.mpr ⟨p,z,rfl⟩)
theorem at_T(W:Wl)(h:WOk W){p:Str×List (Nat×Nat)}(z:p∈W.ts):ixE (.dk (eT W.ts)) (.str p.1)=Y2 (lT p.2):=by
 rw[HQ];exact MT (ZL lT (ck.mp h.nd).2.1) (aS.mpr ⟨p,z,rfl⟩)
theorem Ry:∀{l m:List Nat},l.Nodup->(∀x∈l,x∈m)->l.length<=m.length
 |[],_,_,_=>eA _
 |x::r,m,h,I=>by
  obtain⟨L,J⟩:=hJ.mp h;have F:x∈m:=I x bg;have:=Ry (l:=r) (m:=m.erase x) J λy z=>(qL (λe=>by subst e;exact L z)).mpr (I y (aI _ z));rw[qM F] at this;have O:0<m.length:=qN F;simp;omega
theorem Mj{I:Type}{l:List I}(J:l.Nodup){i j:Nat}(F:i<l.length)(W:j<l.length)(e:l[i]=l[j]):i=j:=by
 have h:=rD.mp J
 rcases rE i j with z | z | z
 .exact absurd e (h i j F W z)
 .exact z
 .exact absurd e.symm (h j i W F z)
theorem Vp{l:List Nat}(z:l.Nodup)(h:∀t∈l,t<n):l.length<=n:=by
 have:=Ry z λt O=>eW.mpr (h t O);simpa using this
theorem ZM{l:List (Nat×Nat)}(O:l.Nodup)(h:∀q∈l,q.1<n/\q.2<n):l.length<=n*n:=by
 have e:(l.map λq=>q.1*n+q.2).Nodup:=by
  unfold nD;rw[lJ];refine rB (λ{a b} Y W J e=>J ?_) O;have I:=h a Y;have F:=h b W;have L:(a.1*n+a.2)/n=a.1:=by rw[nE,rN (by omega),rO I.2];omega
  have d2:(b.1*n+b.2)/n=b.1:=by rw[nE,rN (by omega),rO F.2];omega
  have z:(a.1*n+a.2)%n=a.2:=by rw[nE,rP,rQ I.2]
  have S:(b.1*n+b.2)%n=b.2:=by rw[nE,rP,rQ F.2]
  have Z:a.1*n+a.2=b.1*n+b.2:=e;rw[Z] at L z;exact Prod.ext (L.symm.trans d2) (z.symm.trans S)
 have:=Vp (n:=n*n) e λt T=>by
  obtain⟨q,U,rfl⟩:=aS.mp T;have:=h q U
  calc q.1*n+q.2<q.1*n+n:=by omega
   _=(q.1+1)*n:=by rw[Nat.add_mul,Nat.one_mul]
   _<=n*n:=Nat.mul_le_mul_right _ (by omega)
 simpa using this
theorem ju(x y:Nat)(l:List (Nat×Nat)):inTO (Y2 [.int (x:Int),.int (y:Int)]) (Y2 (kT l))=Y2 (.bl (l.any λq=>decide (q.1=x)&&decide (q.2=y))):=by
 have h:∀l:List (Nat×Nat),(getK [(.inl (x:Int):Key),.inl (y:Int)] (l.map λ(q:Nat×Nat)=>([(.inl (q.1:Int):Key),.inl (q.2:Int)],D.bl U2))).isSome=l.any λq=>decide (q.1=x)&&decide (q.2=y):=λl=>by
  induction l with
  |nil=>rfl
  |cons t r F=>
   rw[bb,kQ,<-F];show (if [(.inl (t.1:Int):Key),.inl (t.2:Int)]=[.inl (x:Int),.inl (y:Int)] then _ else _:Option D).isSome=_
   by_cases z:t.1=x/\t.2=y
   .obtain⟨Z,Y⟩:=z;subst Z Y;simp
   .have:¬ ([(.inl (t.1:Int):Key),.inl (t.2:Int)]=[.inl (x:Int),.inl (y:Int)]):=λq=>by
     simp only[nN,Sum.inl.injEq,and_true] at q;exact z ⟨by omega,by omega⟩
    rw[if_neg this];have:(decide (t.1=x)&&decide (t.2=y))=T2:=by
     rw[Bool.and_eq_false_iff]
     by_cases Z:t.1=x
     .right;exact decide_eq_false λY=>z ⟨Z,Y⟩
     .left;exact decide_eq_false Z
    rw[this,qu]
 have e:inTO (Y2 [.int (x:Int),.int (y:Int)]) (Y2 (kT l))=Y2 (.bl ((getK [(.inl (x:Int):Key),.inl (y:Int)] (l.map λ(q:Nat×Nat)=>([(.inl (q.1:Int):Key),.inl (q.2:Int)],D.bl U2))).isSome)):=by
  unfold kT inTO;simp only[bo];rw[if_pos (JF (by show 2<=10000000;decide))];rfl
 rw[e,h]
theorem jw(fs:FA)(z:FE)(ρ:Rho):inTF fs z ρ=inTO (fs ρ) (z ρ):=zE_ _
theorem Rz(I:List (Str×List Nat)):(oM I).map (λp=>kDt p.1)=(I.map (·.1)).map .str:=by simp[oM,J1]
theorem R1(z:List (Str×List (Nat×Nat))):(oT z).map (λp=>kDt p.1)=(z.map (·.1)).map .str:=by simp[oT,J1]
theorem K5{k:List (Key×D)}{z:List Str}(h:k.map (λp=>kDt p.1)=z.map .str)(F:z.Nodup)(Y:z.length<=60):sdkD (.dk k)=Y2 (.lst ((Bf z).map .str)):=by
 show sdkL k=_;unfold sdkL;rw[h,WT,bo,if_pos ⟨F,Y⟩]
theorem Vq(i:Nat)(l:List Nat):(l.any λt=>decide (t=i))=decide (i∈l):=by
 rw[i8];simp
theorem Nz(i j:Nat)(l:List (Nat×Nat)):(l.any λq=>decide (q.1=i)&&decide (q.2=j))=decide ((i,j)∈l):=by
 rw[i8];simp
theorem Gm{z:Type}{w:Str}{l:List (Str×z)}(h:w∈l.map (·.1)):∃q,q∈l/\l.find? (λp=>p.1=w)=Y2 q:=by
 obtain⟨p,F,e⟩:=aS.mp h;cases q:l.find? (λp=>p.1=w) with
 |none=>exact absurd (by simpa using e) (by simpa using List.find?_eq_none.mp q p F)
 |some x=>exact⟨x,List.mem_of_find?_eq_some q,rfl⟩
theorem jz(W:Wl){w:Str}(h:w∈mw W)(i:Nat):∃d,ixE (.dk (oM W.ms)) (.str w)=Y2 d/\inF T2 (.int (i:Int)) d=Y2 (.bl (mk W w i)):=by
 obtain⟨q,_,e⟩:=Gm h;refine⟨kM q.2,?_,?_⟩
 .rw[HQ];unfold oM;rw[Nx kM w,e];rfl
 .rw[jt,Vq,mk,e]
theorem j5(W:Wl){w:Str}(h:w∈tw W)(i j:Nat):∃d,ixE (.dk (oT W.ts)) (.str w)=Y2 d/\inTO (Y2 [.int (i:Int),.int (j:Int)]) (Y2 d)=Y2 (.bl (tk W w i j)):=by
 obtain⟨q,_,e⟩:=Gm h;refine⟨kT q.2,?_,?_⟩
 .rw[HQ];unfold oT;rw[Nx kT w,e];rfl
 .rw[ju,Nz,tk,e]
theorem j6(W:Wl){w:Str}(h:w∈mw W)(i:Nat):∃d,ixE (.dk (eM W.ms)) (.str w)=Y2 d/\inF T2 (.int (i:Int)) d=Y2 (.bl (mk W w i)):=by
 obtain⟨q,_,e⟩:=Gm h;refine⟨lM q.2,?_,?_⟩
 .rw[HQ];unfold eM;rw[Nx lM w,e];rfl
 .rw[bf,Vq,mk,e]
theorem j7(W:Wl){w:Str}(h:w∈tw W)(i j:Nat):∃d,ixE (.dk (eT W.ts)) (.str w)=Y2 d/\inF T2 (.tup [.int (i:Int),.int (j:Int)]) d=Y2 (.bl (tk W w i j))/\inF T2 (.tup [.int (j:Int),.int (i:Int)]) d=Y2 (.bl (tk W w j i)):=by
 obtain⟨q,_,e⟩:=Gm h;refine⟨lT q.2,?_,?_,?_⟩
 .rw[HQ];unfold eT;rw[Nx lT w,e];rfl
 .rw[Rv,Nz,tk,e]
 .rw[Rv,Nz,tk,e]
structure Sp (W V:Wl):Prop where
 mm:∀w∈mw W,w∈mw V
 tt:∀w∈tw W,w∈tw V
def mzO(c m:Str)(g:List D->Option D)(o:Option D)(ds:Option (List D)):Option D:=o.bind λo=>if El c m o=U2 then ds.bind λds=>g (o::ds) else X2
theorem Qk(c m:Str)(g:List D->Option D)(z:FE)(fs:FA)(ρ:Rho):J3 c m g z fs ρ=mzO c m g (z ρ) (fs ρ):=zE_ _
theorem Vr{o:D}(h:El c m o=U2):mzO c m g (Y2 o) (Y2 ds)=g (o::ds):=by
 show (if El c m o=U2 then _ else _)=_;rw[if_pos h];rfl
theorem di(W:Wl):El "World" "mark_words" (wob W)=U2:=rfl
theorem dm(W:Wl):El "World" "tie_words" (wob W)=U2:=rfl
theorem ZP{l:List Str}(h:l.Nodup):(Bf l).length<=l.length:=sub_len (RD (IW l)) λx z=>(G5 x l).mp z
theorem Pb{l m:List Str}(h:l.Perm m):Bf l=Bf m:=Tg (IW l) (IW m) λx=>by rw[G5,G5,h.mem_iff]
theorem Vs(F:List Str):eqD U2 (.lst (F.map .str)) (.lst (F.map .str))=Y2 (.bl T2):=by
 have h:∀F:List Str,allO (eqK 180) (F.map .str) (F.map .str)=Y2 U2:=λF=>by
  induction F with
  |nil=>rfl
  |cons z r I=>
   show (match eqK 180 (.str z) (.str z),allO (eqK 180) (r.map .str) (r.map .str) with | some a,Y2 b=>Y2 (a&&b) | _,_=>X2)=_;rw[I];have:eqK 180 (.str z) (.str z)=Y2 U2:=by show Y2 (eqV (.str z) (.str z))=_;simp[eqV]
   rw[this];rfl
 unfold eqD;have:eqvD (.lst (F.map .str)) (.lst (F.map .str))=Y2 U2:=by
  show (if (F.map D.str).length=(F.map D.str).length then allO (eqK 180) (F.map .str) (F.map .str) else Y2 T2)=_;rw[if_pos rfl,h]
 rw[this];rfl
theorem Wm(W:Wl)(h:WOk W):Ca [wob W]=Y2 (.lst ((Bf (mw W)).map .str))/\Cm [wob W]=Y2 (.lst ((Bf (tw W)).map .str)):=by
 have z:=ck.mp h.nd;have I:=h.m3;have Z:=h.t3;have F:=K5 (Rz W.ms) z.1 (by simp;omega);have S:=K5 (R1 W.ts) z.2.1 (by simp;omega);have O:=Ny W;have J:=T6 W;constructor
 .simp only[cK,Ca,DW,O,F]
 .simp only[cK,Cm,Do,J,S]
theorem bh{z J:Type}(f:z->J)(l:List z)(F I:Option Int):cutD (l.map f) F I=(cutD l F I).map f:=by
 unfold cutD;rw[aw,rR,rS]
theorem bu{z:Type}(l:List z)(F I:Option Int):(cutD l F I).length<=l.length:=by
 unfold cutD;rw[ij,io];omega
theorem Ql(I:List (Str×List Nat)):(eM I).map (λp=>kDt p.1)=(I.map (·.1)).map .str:=by simp[eM,J1]
theorem Qm(z:List (Str×List (Nat×Nat))):(eT z).map (λp=>kDt p.1)=(z.map (·.1)).map .str:=by simp[eT,J1]
def adX{α:Type}[DecidableEq α](p:List α)(t:α):List α:=if t∈p then p else p++[t]
abbrev ddX {α:Type} [DecidableEq α] (l:List α):List α:=l.foldl adX []
section
variable {α:Type} [DecidableEq α]
theorem iR(p:List α)(t x:α):x∈adX p t↔x∈p∨x=t:=by
 unfold adX;split
 .rename_i h;exact⟨.inl,λz=>z.elim id λe=>e▸h⟩
 .simp
theorem j8{p:List α}(t:α)(h:p.Nodup):(adX p t).Nodup:=by
 unfold adX;split
 .exact h
 .rename_i n;exact ck.mpr ⟨h,by simp,λa F b z e=>n (by rw[fN.mp z] at e;exact e▸F)⟩
theorem T7(p:List α)(t:α):(adX p t).length<=p.length+1:=by
 unfold adX;split
 .omega
 .simp
theorem N5:∀(l p:List α) (x:α),x∈l.foldl adX p↔x∈p∨x∈l
 |[],p,x=>by simp
 |t::l,p,x=>by
  rw[rT,N5 l,iR];simp[or_assoc]
theorem ZQ:∀(l p:List α),p.Nodup->(l.foldl adX p).Nodup
 |[],p,h=>h
 |t::l,p,h=>ZQ l _ (j8 t h)
theorem T8:∀(l p:List α),(l.foldl adX p).length<=p.length+l.length
 |[],p=>by simp
 |t::l,p=>by
  have:=T8 l (adX p t);have:=T7 p t;rw[rT,df];omega
end
theorem Vt{z:Type}[DecidableEq z]{k:z}{v:D}:∀{l:List (z×D)},(∀p∈l,p.2=v)->repK k v l=l
 |[],_=>rfl
 | (F,d)::r,h=>by
  have e:d=v:=h (F,d) bg;subst e;have I:=Vt (k:=k) (v:=d) (l:=r) λp J=>h p (aI _ J);show ((F,if F=k then d else d)::repK k d r)=_;rw[I,ite_self]
theorem Vu{F:Type}[DecidableEq F]{k:F}{v:D}{l:List (F×D)}(I:k∈l.map (·.1))(h:∀p∈l,p.2=v):putL k v l=l:=by
 unfold putL;rw[if_pos,Vt h];cases e:getK k l with
 |some d=>rfl
 |none=>
  exfalso
  induction l with
  |nil=>cases I
  |cons p r J=>
   unfold getK at e;split at e
   .cases e
   .rename_i n
    rcases ba.mp I with z | z
    .exact n z.symm
    .exact J z (λq S=>h q (aI _ S)) e
theorem putM(p:List Nat)(t:Nat)(Y:p.length<=100):Bc (kM p) (.int (t:Int)) (.bl U2)=Y2 (kM (adX p t)):=by
 show Bc (.dk _) _ _=_;rw[Ym _ _ _ (by simp;omega)];unfold adX;split
 .rename_i h;rw[Vu]
  .rfl
  .rw[cS];exact aS.mpr ⟨t,h,rfl⟩
  .intro q S;obtain⟨u,_,rfl⟩:=aS.mp S;rfl
 .rename_i h;rw[putL_new (Rr h)];simp[kM]
theorem putP(p:List (Nat×Nat))(t:Nat×Nat)(Y:p.length<=100):Ig (kT p) [.int (t.1:Int),.int (t.2:Int)] (.bl U2)=Y2 (kT (adX p t)):=by
 show Ig (.dt _) _ _=_;rw[Yn _ _ _ _ (by simp;omega)];unfold adX;split
 .rename_i h;rw[Vu]
  .rfl
  .rw[cS];exact aS.mpr ⟨t,h,rfl⟩
  .intro q S;obtain⟨u,_,rfl⟩:=aS.mp S;rfl
 .rename_i h;rw[putL_new (Rt h)];simp[kT]
theorem N6(n:Nat)(x:PV.Slot):∀(r p:List Nat) (z:PV.Slot),(∀t∈r,t<n)->p.length+r.length<=100 ->
  ∃S,forF (tgB (BV 3) BJ) (r.map iN) [.fz (.int (n:Int)),x,.ow (kM p),z]=Y2 (.nx [.fz (.int (n:Int)),x,.ow (kM (r.foldl adX p)),S])
 |[],p,z,_,_=>⟨z,rfl⟩
 |t::r,p,z,Y,F=>by
  rw[df] at F;have O:=Ds n t (Y t (by simp));have L:=putM p t (by omega);have b:BJ [.fz (.int (n:Int)),x,.ow (kM p),.fz (iN t)]=Y2 (.nx [.fz (.int (n:Int)),x,.ow (kM (adX p t)),.fz (iN t)]):=by
   simp only[dK,BJ,O,L]
  have Z:=T7 p t;obtain⟨S,I⟩:=N6 n x r (adX p t) (.fz (iN t)) (λu J=>Y u (by simp[J])) (by omega);refine⟨S,?_⟩
  w_up
  rw[b,GZ,I];rfl
theorem Lp(n:Nat)(x:PV.Slot):∀(r p:List (Nat×Nat)) (z Y:PV.Slot),(∀t∈r,t.1<n/\t.2<n)->p.length+r.length<=100 ->
  ∃S I,forF (tgB (tupG 2 (BL 3 (BL 4 nilG))) BX) (r.map pN) [.fz (.int (n:Int)),x,.ow (kT p),z,Y]=Y2 (.nx [.fz (.int (n:Int)),x,.ow (kT (r.foldl adX p)),S,I])
 |[],p,z,Y,_,_=>⟨z,Y,rfl⟩
 |t::r,p,z,Y,J,F=>by
  rw[df] at F;have W:=Ds n t.1 (J t (by simp)).1;have O:=Ds n t.2 (J t (by simp)).2;have U:=putP p t (by omega);have b:BX [.fz (.int (n:Int)),x,.ow (kT p),.fz (.int (t.1:Int)),.fz (.int (t.2:Int))]=Y2 (.nx [.fz (.int (n:Int)),x,.ow (kT (adX p t)),.fz (.int (t.1:Int)),.fz (.int (t.2:Int))]):=by
   simp only[dK,BX,W,O,U]
  have Z:=T7 p t;obtain⟨S,I,L⟩:=Lp n x r (adX p t) (.fz (.int (t.1:Int))) (.fz (.int (t.2:Int))) (λu T=>J u (by simp[T])) (by omega);refine⟨S,I,?_⟩;rw[bb,Ff,e_tg,HR,G4];simp only[lK,lL];rw[b,GZ,L];rfl
theorem dq{z:Mu}(h:ρ[i]?=Y2 (.fz (.adr a)))(k:z.lookup a=Y2 (.lst ds)):lsC z ρ i=Y2 ds:=by
 unfold lsC adS;rw[h];show (match z.lookup a with | some (.lst ds)=>Y2 ds | _=>X2)=_;rw[k]
theorem R3{z:Mu}{ds:List (Key×D)}(h:ρ[i]?=Y2 (.fz (.adr a)))(k:z.lookup a=Y2 (.dk ds)):dkC z ρ i=Y2 ds:=by
 unfold dkC adS;rw[h];show (match z.lookup a with | some (.dk ds)=>Y2 ds | _=>X2)=_;rw[k]
theorem Qn{z:Mu->FI}{I:FG}{b:Mu->FS}{F:Mu}(h:z F ρ=Y2 ds):forR z I b F ρ=forF (tgB I (b F)) ds ρ:=by
 unfold forR;rw[h];rfl
theorem ZR{F:Mu}(n:Nat)(l:List Nat)(I:F.lookup a=Y2 (lM l))(Y:∀t∈l,t<n)(z:l.length<=100):Bp F [.int (n:Int),.adr a]=Y2 (kM (ddX l)):=by
 obtain⟨S,e⟩:=N6 n (.fz (.adr a)) l [] .un Y (by simpa using z);have J:(D.dk [])=kM []:=rfl;have fr:forR (seqR 1) (BV 3) (λ_=>BJ) F [.fz (.int (n:Int)),.fz (.adr a),.ow (kM []),.un]=_:=(Qn (dq rfl I)).trans e;simp only[dK,Bp,GF,J,fr]
theorem Wn{F:Mu}(n:Nat)(l:List (Nat×Nat))(J:F.lookup a=Y2 (lT l))(Y:∀t∈l,t.1<n/\t.2<n)(z:l.length<=100):By F [.int (n:Int),.adr a]=Y2 (kT (ddX l)):=by
 obtain⟨S,I,e⟩:=Lp n (.fz (.adr a)) l [] .un .un Y (by simpa using z);have L:(D.dt [])=kT []:=rfl;have fr:forR (seqR 1) (tupG 2 (BL 3 (BL 4 (nilG)))) (λ_=>BX) F [.fz (.int (n:Int)),.fz (.adr a),.ow (kT []),.un,.un]=_:=(Qn (dq rfl J)).trans e;simp only[dK,By,Gs,L,fr]
abbrev Rw (α:Type):=Str×Addr×List α
def dR{z:Type}(r:List (Rw z)):List (Key×D):=r.map λq=>(.inr q.1,.adr q.2.1)
def kp{z:Type}[DecidableEq z](r:List (Rw z)):List (Str×List z):=r.map λq=>(q.1,ddX q.2.2)
theorem DP{z:Type}[DecidableEq z](r:List (Rw z)):(kp r).map (·.1)=r.map (·.1):=by simp[kp]
theorem ZS(O:Mu)(n:Nat)(hn:n<=5)(x:Addr)(a b:D)(e:D)(I:PV.Slot):∀(r p:List (Rw Nat)) (U T:PV.Slot),((p++r).map (·.1)).Nodup->(∀q∈r,Wd q.1/\O.lookup q.2.1=Y2 (lM q.2.2)/\q.2.2.length<=100/\∀t∈q.2.2,t<n)->(p++r).length<=3->(∀d,U≠.ow d)->(∀d,T≠.ow d)->(∀d,I≠.ow d) ->
  ∃L J,(∀d,L≠.ow d)/\(∀d,J≠.ow d)/\B_ (tupG 2 (BL 4 (BL 5 nilG))) (CW O) (r.map λq=>.tup [.str q.1,.adr q.2.1]) [.fz (.adr x),.fz (.int (n:Int)),.fz a,.fz b,U,T,I] [fS n,fM (kp p),("tied",U2,e)]=Y2 ([.fz (.adr x),.fz (.int (n:Int)),.fz a,.fz b,L,J,I],[fS n,fM (kp (p++r)),("tied",U2,e)])
 |[],p,U,T,_,_,_,h4,h5,_=>⟨U,T,h4,h5,by rw[dL];rfl⟩
 |t::r,p,U,T,W,Y,S,h4,h5,Z=>by
  obtain⟨w,F,l⟩:=t;obtain⟨hw,l1,l2,l3⟩:=Y (w,F,l) (by simp);have nt:w∉p.map (·.1):=by
   intro q;rw[fR,ck] at W;exact W.2.2 w q w (by simp) rfl
  have e1:=Mh hw;have e2:=ZR n l l1 l3 l2;have e3:Bc (.dk (oM (kp p))) (.str w) (kM (ddX l))=Y2 (.dk (oM (kp (p++[(w,F,l)])))):=by
   rw[Gq _ _ _ (by simp[oM,kp] at S ⊢;omega)];have:(.inr w:Key)∉(oM (kp p)).map (·.1):=Eo kM (by rw[DP];exact nt);rw[putL_new this];simp[oM,kp]
  have b0:(CW O) [.fz (.adr x),.fz (.int (n:Int)),.fz a,.fz b,.fz (.str w),.fz (.adr F),I] [fS n,fM (kp p),("tied",U2,e)]=Y2 ([.fz (.adr x),.fz (.int (n:Int)),.fz a,.fz b,.fz (.str w),.fz (.adr F),I],[fS n,fM (kp (p++[(w,F,l)])),("tied",U2,e)]):=by
   have t0:ifE (Fx (notT (trF (Am (BP) (Aa (vF 4) (nilA)))))) [.fz (.adr x),.fz (.int (n:Int)),.fz a,.fz b,.fz (.str w),.fz (.adr F),I] [fS n,fM (kp p),("tied",U2,e)]=Y2 ([.fz (.adr x),.fz (.int (n:Int)),.fz a,.fz b,.fz (.str w),.fz (.adr F),I],[fS n,fM (kp p),("tied",U2,e)]):=by
    have:notT (trF (Am (BP) (Aa (vF 4) (nilA)))) [.fz (.adr x),.fz (.int (n:Int)),.fz a,.fz b,.fz (.str w),.fz (.adr F),I]=Y2 T2:=by simp only[cK,e1]
    unfold ifE Fx;rw[this]
   have t1:Fw "marked" (vF 4) (Gf (Bp) (λ_=>Aa (vF 1) (Aa (vF 5) (nilA))) O) [.fz (.adr x),.fz (.int (n:Int)),.fz a,.fz b,.fz (.str w),.fz (.adr F),I] [fS n,fM (kp p),("tied",U2,e)]=Y2 ([.fz (.adr x),.fz (.int (n:Int)),.fz a,.fz b,.fz (.str w),.fz (.adr F),I],[fS n,fM (kp (p++[(w,F,l)])),("tied",U2,e)]):=by
    have v1:Gf (Bp) (λ_=>Aa (vF 1) (Aa (vF 5) (nilA))) O [.fz (.adr x),.fz (.int (n:Int)),.fz a,.fz b,.fz (.str w),.fz (.adr F),I]=Y2 (kM (ddX l)):=by
     have z:Aa (vF 1) (Aa (vF 5) (nilA)) [.fz (.adr x),.fz (.int (n:Int)),.fz a,.fz b,.fz (.str w),.fz (.adr F),I]=Y2 [.int (n:Int),.adr F]:=rfl;exact (congrArg (λo=>mh o (Bp O)) z).trans e2
    have v2:vF 4 [.fz (.adr x),.fz (.int (n:Int)),.fz a,.fz b,.fz (.str w),.fz (.adr F),I]=Y2 (.str w):=rfl;unfold Fw;rw[v1,v2];show (match bn ("marked":Str) [fS n,fM (kp p),("tied",U2,e)] with | some (U2,d)=>(Bc d (.str w) (kM (ddX l))).map λd'=>(_,repE "marked" d' [fS n,fM (kp p),("tied",U2,e)]) | _=>X2)=_;rw[lkM];show (Bc (.dk (oM (kp p))) (.str w) (kM (ddX l))).map _=_;rw[e3];show Y2 (_,repE "marked" _ [fS n,fM (kp p),("tied",U2,e)])=_;rw[rpM]
   show Cz _ _ _ _=_;rw[Et];show Ra (ifE (Fx (notT (trF (Am (BP) (Aa (vF 4) (nilA)))))) _ _) _=_;rw[t0,Be];exact t1
  obtain⟨L,J,g4,g5,ih⟩:=ZS O n hn x a b e I r (p++[(w,F,l)]) (.fz (.str w)) (.fz (.adr F)) (by simpa using W) (λu hu=>Y u (by simp[hu])) (by simpa using S) (λd=>by simp) (λd=>by simp) Z;refine⟨L,J,g4,g5,?_⟩;rw[bb];unfold B_;rw[HR];have no:noOw [.fz (.adr x),.fz (.int (n:Int)),.fz a,.fz b,.fz (.str w),.fz (.adr F),I]=U2:=by
   unfold noOw;cases I with
   |ow d=>exact absurd rfl (Z d)
   |un=>rfl
   |fz d=>rfl
  show (if noOw [.fz (.adr x),.fz (.int (n:Int)),.fz a,.fz b,.fz (.str w),.fz (.adr F),I]=U2 then ((CW O) [.fz (.adr x),.fz (.int (n:Int)),.fz a,.fz b,.fz (.str w),.fz (.adr F),I] _).bind _ else X2)=_;rw[if_pos no,b0];show B_ _ _ _ _ _=_;rw[ih];simp
theorem du(J:Mu)(n:Nat)(hn:n<=5)(x:Addr)(a b:D)(I:List (Str×List Nat))(L:PV.Slot)(h5:∀d,L≠.ow d):∀(r p:List (Rw (Nat×Nat))) (W U:PV.Slot),((p++r).map (·.1)).Nodup->(∀q∈r,Wd q.1/\q.1∉I.map (·.1)/\J.lookup q.2.1=Y2 (lT q.2.2)/\q.2.2.length<=100/\∀t∈q.2.2,t.1<n/\t.2<n)->(p++r).length<=3->(∀d,W≠.ow d)->(∀d,U≠.ow d) ->
  ∃T S,B_ (tupG 2 (BL 4 (BL 6 nilG))) (CZ J) (r.map λq=>.tup [.str q.1,.adr q.2.1]) [.fz (.adr x),.fz (.int (n:Int)),.fz a,.fz b,W,L,U] [fS n,fM I,fT (kp p)]=Y2 ([.fz (.adr x),.fz (.int (n:Int)),.fz a,.fz b,T,L,S],[fS n,fM I,fT (kp (p++r))])
 |[],p,W,U,_,_,_,h4,h6=>⟨W,U,by rw[dL];rfl⟩
 |t::r,p,W,U,Z,hl,O,h4,h6=>by
  obtain⟨w,F,l⟩:=t;obtain⟨hw,nm,l1,l2,l3⟩:=hl (w,F,l) (by simp);have nt:w∉p.map (·.1):=by
   intro q;rw[fR,ck] at Z;exact Z.2.2 w q w (by simp) rfl
  have e1:=Mh hw;have e2:=Wn n l l1 l3 l2;have e3:Bc (.dk (oT (kp p))) (.str w) (kT (ddX l))=Y2 (.dk (oT (kp (p++[(w,F,l)])))):=by
   rw[Gq _ _ _ (by simp[oT,kp] at O ⊢;omega)];have:(.inr w:Key)∉(oT (kp p)).map (·.1):=Eo kT (by rw[DP];exact nt);rw[putL_new this];simp[oT,kp]
  have e4:getK (.inr w:Key) (oM I)=X2:=JG (Eo kM nm);have b0:(CZ J) [.fz (.adr x),.fz (.int (n:Int)),.fz a,.fz b,.fz (.str w),L,.fz (.adr F)] [fS n,fM I,fT (kp p)]=Y2 ([.fz (.adr x),.fz (.int (n:Int)),.fz a,.fz b,.fz (.str w),L,.fz (.adr F)],[fS n,fM I,fT (kp (p++[(w,F,l)]))]):=by
   have t0:ifE (orTE (Fx (notT (trF (Am (BP) (Aa (vF 4) (nilA)))))) (inTE "marked" (vF 4))) [.fz (.adr x),.fz (.int (n:Int)),.fz a,.fz b,.fz (.str w),L,.fz (.adr F)] [fS n,fM I,fT (kp p)]=Y2 ([.fz (.adr x),.fz (.int (n:Int)),.fz a,.fz b,.fz (.str w),L,.fz (.adr F)],[fS n,fM I,fT (kp p)]):=by
    have u1:notT (trF (Am (BP) (Aa (vF 4) (nilA)))) [.fz (.adr x),.fz (.int (n:Int)),.fz a,.fz b,.fz (.str w),L,.fz (.adr F)]=Y2 T2:=by simp only[cK,e1]
    have Y:vF 4 [.fz (.adr x),.fz (.int (n:Int)),.fz a,.fz b,.fz (.str w),L,.fz (.adr F)]=Y2 (.str w):=rfl;have u2:inTE "marked" (vF 4) [.fz (.adr x),.fz (.int (n:Int)),.fz a,.fz b,.fz (.str w),L,.fz (.adr F)] [fS n,fM I,fT (kp p)]=Y2 T2:=by
     unfold inTE;rw[Y];show (match bn ("marked":Str) [fS n,fM I,fT (kp p)] with | some (U2,.dk u0)=>(keyD (.str w)).map λq=>(getK q u0).isSome | _=>X2)=_;rw[lkM];show Y2 ((getK (.inr w:Key) (oM I)).isSome)=_;rw[e4];rfl
    unfold ifE orTE Fx;rw[u1];show (match inTE "marked" (vF 4) _ _ with | some T2=>Y2 _ | _=>X2)=_;rw[u2]
   have t1:Fw "tied" (vF 4) (Gf (By) (λ_=>Aa (vF 1) (Aa (vF 6) (nilA))) J) [.fz (.adr x),.fz (.int (n:Int)),.fz a,.fz b,.fz (.str w),L,.fz (.adr F)] [fS n,fM I,fT (kp p)]=Y2 ([.fz (.adr x),.fz (.int (n:Int)),.fz a,.fz b,.fz (.str w),L,.fz (.adr F)],[fS n,fM I,fT (kp (p++[(w,F,l)]))]):=by
    have v1:Gf (By) (λ_=>Aa (vF 1) (Aa (vF 6) (nilA))) J [.fz (.adr x),.fz (.int (n:Int)),.fz a,.fz b,.fz (.str w),L,.fz (.adr F)]=Y2 (kT (ddX l)):=by
     have z:Aa (vF 1) (Aa (vF 6) (nilA)) [.fz (.adr x),.fz (.int (n:Int)),.fz a,.fz b,.fz (.str w),L,.fz (.adr F)]=Y2 [.int (n:Int),.adr F]:=rfl;exact (congrArg (λo=>mh o (By J)) z).trans e2
    have Y:vF 4 [.fz (.adr x),.fz (.int (n:Int)),.fz a,.fz b,.fz (.str w),L,.fz (.adr F)]=Y2 (.str w):=rfl;unfold Fw;rw[v1,Y];show (match bn ("tied":Str) [fS n,fM I,fT (kp p)] with | some (U2,d)=>(Bc d (.str w) (kT (ddX l))).map λd'=>(_,repE "tied" d' [fS n,fM I,fT (kp p)]) | _=>X2)=_;rw[lkT];show (Bc (.dk (oT (kp p))) (.str w) (kT (ddX l))).map _=_;rw[e3];show Y2 (_,repE "tied" _ [fS n,fM I,fT (kp p)])=_;rw[rpT]
   show Cz _ _ _ _=_;rw[Et];show Ra (ifE (orTE (Fx (notT (trF (Am (BP) (Aa (vF 4) (nilA)))))) (inTE "marked" (vF 4))) _ _) _=_;rw[t0,Be];exact t1
  obtain⟨T,S,ih⟩:=du J n hn x a b I L h5 r (p++[(w,F,l)]) (.fz (.str w)) (.fz (.adr F)) (by simpa using Z) (λu hu=>hl u (by simp[hu])) (by simpa using O) (λd=>by simp) (λd=>by simp);refine⟨T,S,?_⟩;rw[bb];unfold B_;have tg:tupG 2 (BL 4 (BL 6 nilG)) (.tup [.str w,.adr F]) [.fz (.adr x),.fz (.int (n:Int)),.fz a,.fz b,W,L,U]=Y2 [.fz (.adr x),.fz (.int (n:Int)),.fz a,.fz b,.fz (.str w),L,.fz (.adr F)]:=by rw[HR];rfl
  rw[tg];have no:noOw [.fz (.adr x),.fz (.int (n:Int)),.fz a,.fz b,.fz (.str w),L,.fz (.adr F)]=U2:=by
   unfold noOw;cases L with
   |ow d=>exact absurd rfl (h5 d)
   |un=>rfl
   |fz d=>rfl
  show (if noOw [.fz (.adr x),.fz (.int (n:Int)),.fz a,.fz b,.fz (.str w),L,.fz (.adr F)]=U2 then ((CZ J) [.fz (.adr x),.fz (.int (n:Int)),.fz a,.fz b,.fz (.str w),L,.fz (.adr F)] _).bind _ else X2)=_;rw[if_pos no,b0];show B_ _ _ _ _ _=_;rw[ih];simp
structure Cl (μ:Mu) (m t:Addr) (rm:List (Rw Nat)) (rt:List (Rw (Nat×Nat))):Prop where
 lm:μ.lookup m=Y2 (.dk (dR rm))
 lt:μ.lookup t=Y2 (.dk (dR rt))
 rm:∀q∈rm,μ.lookup q.2.1=Y2 (lM q.2.2)
 rt:∀q∈rt,μ.lookup q.2.1=Y2 (lT q.2.2)
structure Ft (n:Nat) (rm:List (Rw Nat)) (rt:List (Rw (Nat×Nat))):Prop where
 n5:n<=5
 m3:rm.length<=3
 t3:rt.length<=3
 mw:∀q∈rm,Wd q.1
 tw:∀q∈rt,Wd q.1
 nd:(rm.map (·.1)++rt.map (·.1)).Nodup
 ml:∀q∈rm,q.2.2.length<=100/\∀t∈q.2.2,t<n
 tl:∀q∈rt,q.2.2.length<=100/\∀t∈q.2.2,t.1<n/\t.2<n
theorem Kc(g:FEs)(z:Mu)(ρ:Rho)(ε:Ef):JP g z ρ ε=g ρ ε:=zE_ _
theorem Gn(g J:FEr)(z:Mu)(ρ:Rho)(F:Ef):G9 g J z ρ F=Ra (g z ρ F) (J z):=zE_ _
theorem R4{z:Mu->FI}{I:FG}{b:FEr}{F:Mu}(h:z F ρ=Y2 ds):O9 z I b F ρ ε=B_ I (b F) ds ρ ε:=by
 unfold O9;rw[h];rfl
theorem R5{f:Mu->FE}{z:Mu}(h:f z ρ=Y2 d):LR f z ρ ε=Y2 (ρ,ε):=by
 unfold LR;rw[h];rfl
theorem R6{F:Type}{z:Mu}{r:List (Rw F)}(h:ρ[i]?=Y2 (.fz (.adr a)))(k:z.lookup a=Y2 (.dk (dR r))):Ik i z ρ=Y2 (r.map λq=>.tup [.str q.1,.adr q.2.1]):=by
 unfold Ik;rw[R3 h k];simp only[dR,eB,cS,lG,J1]
theorem ZV{F:Mu}{m t:Addr}{I:List (Rw Nat)}{J:List (Rw (Nat×Nat))}(c:Cl F m t I J)(h:Ft n I J)(x:Addr):Ck F x [.int (n:Int),.adr m,.adr t]=Y2 [fS n,fM (kp I),fT (kp J)]:=by
 have O:(I.map (·.1)).Nodup:=(ck.mp h.nd).1;have L:(J.map (·.1)).Nodup:=(ck.mp h.nd).2.1;obtain⟨Y,W,g4,g5,U⟩:=ZS F n h.n5 x (.adr m) (.adr t) (.dk []) .un I [] .un .un (by simpa using O) (λq S=>⟨h.mw q S,c.rm q S,h.ml q S⟩) (by simpa using h.m3) (λd=>by simp) (λd=>by simp) (λd=>by simp);obtain⟨u0,Z,T⟩:=du F n h.n5 x (.adr m) (.adr t) (kp I) W g5 J [] Y .un (by simpa using L) (λq S=>⟨h.tw q S,λz=>(ck.mp h.nd).2.2 q.1 (by rw[DP] at z;exact z) q.1 (aS.mpr ⟨q,S,rfl⟩) rfl,c.rt q S,h.tl q S⟩) (by simpa using h.t3) g4 (λd=>by simp);rw[lf] at U T;change B_ _ _ _ _ [fS n,fM [],fT []]=Y2 (_,[fS n,fM (kp I),fT []]) at U;change B_ _ _ _ _ [fS n,fM (kp I),fT []]=_ at T;have r1:=HD (n:Int) 5 (by have:=h.n5;omega);have r2:=HD ((dR I).length:Int) 3 (by have:=h.m3;simp[dR];omega);have r3:=HD ((dR J).length:Int) 3 (by have:=h.t3;simp[dR];omega);have no:noOw [.fz (.adr x),.fz (.int (n:Int)),.fz (.adr m),.fz (.adr t),.un,.un,.un]=U2:=rfl;have p1:pureE (Dh (Am (Ai) (Aa (vF 1) (Aa (kF (.int 5)) (nilA))))) [.fz (.adr x),.fz (.int (n:Int)),.fz (.adr m),.fz (.adr t),.un,.un,.un] []=Y2 ([.fz (.adr x),.fz (.int (n:Int)),.fz (.adr m),.fz (.adr t),.un,.un,.un],[]):=Ma (by simp only[cK,r1]) no;have k2:lenR 2 F [.fz (.adr x),.fz (.int (n:Int)),.fz (.adr m),.fz (.adr t),.un,.un,.un]=Y2 (.int ((dR I).length:Int)):=by
  unfold lenR;rw[R3 rfl c.lm];rfl
 have k3:lenR 3 F [.fz (.adr x),.fz (.int (n:Int)),.fz (.adr m),.fz (.adr t),.un,.un,.un]=Y2 (.int ((dR J).length:Int)):=by
  unfold lenR;rw[R3 rfl c.lt];rfl
 have p2:LR (Gf (λ_=>Ai) (λF=>Aa (lenR 2 F) (Aa (kF (.int 3)) (nilA)))) F [.fz (.adr x),.fz (.int (n:Int)),.fz (.adr m),.fz (.adr t),.un,.un,.un] []=Y2 ([.fz (.adr x),.fz (.int (n:Int)),.fz (.adr m),.fz (.adr t),.un,.un,.un],[]):=by
  refine R5 (d:=.non) ?_;have z:Aa (lenR 2 F) (Aa (kF (.int 3)) (nilA)) [.fz (.adr x),.fz (.int (n:Int)),.fz (.adr m),.fz (.adr t),.un,.un,.un]=Y2 [.int ((dR I).length:Int),.int 3]:=by
   unfold Aa;rw[k2];rfl
  exact (congrArg (λo=>mh o Ai) z).trans r2
 have p3:LR (Gf (λ_=>Ai) (λF=>Aa (lenR 3 F) (Aa (kF (.int 3)) (nilA)))) F [.fz (.adr x),.fz (.int (n:Int)),.fz (.adr m),.fz (.adr t),.un,.un,.un] []=Y2 ([.fz (.adr x),.fz (.int (n:Int)),.fz (.adr m),.fz (.adr t),.un,.un,.un],[]):=by
  refine R5 (d:=.non) ?_;have z:Aa (lenR 3 F) (Aa (kF (.int 3)) (nilA)) [.fz (.adr x),.fz (.int (n:Int)),.fz (.adr m),.fz (.adr t),.un,.un,.un]=Y2 [.int ((dR J).length:Int),.int 3]:=by
   unfold Aa;rw[k3];rfl
  exact (congrArg (λo=>mh o Ai) z).trans r3
 have s1:O2 "size" (vF 1) [.fz (.adr x),.fz (.int (n:Int)),.fz (.adr m),.fz (.adr t),.un,.un,.un] []=Y2 ([.fz (.adr x),.fz (.int (n:Int)),.fz (.adr m),.fz (.adr t),.un,.un,.un],[fS n]):=rfl;have s2:Gb "marked" (kF (.dk [])) [.fz (.adr x),.fz (.int (n:Int)),.fz (.adr m),.fz (.adr t),.un,.un,.un] [fS n]=Y2 ([.fz (.adr x),.fz (.int (n:Int)),.fz (.adr m),.fz (.adr t),.un,.un,.un],[fS n,fM []]):=by
  have l:bn ("marked":Str) [fS n]=X2:=by
   rw[bi,q1];rfl
  unfold Gb;show (if (bn ("marked":Str) [fS n]).isNone=U2/\[fS n].length<1000 then Y2 (_,[fS n]++[(("marked":Str),U2,D.dk [])]) else X2)=_;rw[l,if_pos ⟨rfl,(by show 1<1000;decide)⟩];rfl
 have s3:Gb "tied" (kF (.dk [])) [.fz (.adr x),.fz (.int (n:Int)),.fz (.adr m),.fz (.adr t),.un,.un,.un] [fS n,fM []]=Y2 ([.fz (.adr x),.fz (.int (n:Int)),.fz (.adr m),.fz (.adr t),.un,.un,.un],[fS n,fM [],fT []]):=by
  have l:bn ("tied":Str) [fS n,fM []]=X2:=by
   rw[bi,q2];show bn ("tied":Str) [fM []]=X2;rw[bi,q3];rfl
  unfold Gb;show (if (bn ("tied":Str) [fS n,fM []]).isNone=U2/\[fS n,fM []].length<1000 then Y2 (_,[fS n,fM []]++[(("tied":Str),U2,D.dk [])]) else X2)=_;rw[l,if_pos ⟨rfl,(by show 2<1000;decide)⟩];rfl
 have i1:Ik 2 F [.fz (.adr x),.fz (.int (n:Int)),.fz (.adr m),.fz (.adr t),.un,.un,.un]=_:=R6 rfl c.lm;have i2:Ik 3 F [.fz (.adr x),.fz (.int (n:Int)),.fz (.adr m),.fz (.adr t),Y,W,.un]=_:=R6 rfl c.lt;have st:Jf 7 x [.int (n:Int),.adr m,.adr t]=[.fz (.adr x),.fz (.int (n:Int)),.fz (.adr m),.fz (.adr t),.un,.un,.un]:=rfl;unfold Ck runI;rw[if_pos (show [D.int (n:Int),.adr m,.adr t].length+1=4 from rfl),st];unfold Dm;rw[Gn,Kc,p1,Be,Gn,p2,Be,Gn,p3,Be,Gn,Kc,s1,Be,Gn,Kc,s2,Be,Gn,Kc,s3,Be,Gn,R4 i1,U,Be,Gn,R4 i2,T,Be,Kc,Yo];rfl
theorem Eg{μ:Mu}{c:D}(h:μ.lookup a=Y2 c):a∈ksM μ:=Bx (lookup_mem h)
theorem Eh(p:Addr)(c:D)(z:Mu):bn p ((p,c)::z)=Y2 c:=by rw[bi];simp
theorem DR{x:Addr}(c:D)(z:Mu)(h:x≠p):bn x ((p,c)::z)=z.lookup x:=by
 rw[bi,show (x==p)=T2 from by simpa using h]
theorem Bh(a:Addr)(c:D):∀(F:Mu) (b:Addr),(putA a c F).lookup b=if b=a then (F.lookup b).map λ_=>c else F.lookup b
 |[],b=>by simp[putA]
 | (x,e)::r,b=>by
  have I:=Bh a c r b;unfold putA at I ⊢;rw[bb]
  by_cases J:x=a
  .subst J;rw[if_pos rfl,bi,bi,I]
   by_cases z:b=x
   .subst z;simp
   .have:(b==x)=T2:=beq_eq_false_iff_ne.mpr z;simp[this,z]
  .rw[if_neg J,bi,bi,I]
   by_cases z:b=x
   .subst z;simp[J]
   .have:(b==x)=T2:=beq_eq_false_iff_ne.mpr z;simp[this]
theorem T9{F:D}{μ:Mu}(c:D)(h:p∉ksM μ):putA p c ((p,F)::μ)=(p,c)::μ:=by
 unfold putA;rw[bb,if_pos rfl];congr 1;refine (lE λq S=>?_).trans (rU _);have n:q.1≠p:=λz=>h (by rw[<-z];exact Bx S);rw[if_neg n];rfl
theorem De{J:FM}{μ:Mu}{K:KM}(e:ρ=ρ')(k:J ρ' μ K):thM J K (.nx ρ) μ:=by
 subst e;exact k
theorem iT{cs:List Int}{k:Nat}(h:k<cs.length):ixD (.lst (cs.map .int)) (.int (k:Int))=Y2 (.int cs[k]):=by
 show atI (cs.map D.int) (k:Int)=_;rw[QK,be];simp[h]
theorem ix_f{z:Type}(f:z->D){l:List z}{k:Nat}{x:z}(h:l[k]?=Y2 x):ixD (.lst (l.map f)) (.int (k:Int))=Y2 (f x):=by
 show atI (l.map f) (k:Int)=_;rw[QK,be,h];rfl
theorem ZW{L:Type}(f:L->D)(l:List L)(cs:List Int)(hc:0<cs.length)(B0:cs.length<=1000)(k:Nat)(y0:k<=1000)(x:L)(hk:l[k]?=Y2 x)(F:List L)(u0:F.length<=1000):∃J:List L,(∀y,y∈J↔y∈F∨y=x)/\J.length<=F.length+2 ∧
  ∀(p:Addr) (I:Mu) (K:KM),p∉ksM I->K (.nx [.fz (.lst (l.map f)),.fz (.lst (cs.map .int)),.fz (.adr p),.fz (iN k)]) ((p,.lst (J.map f))::I)->Eu [.fz (.lst (l.map f)),.fz (.lst (cs.map .int)),.fz (.adr p),.fz (iN k)] ((p,.lst (F.map f))::I) K:=by
 have lc:lenD (.lst (cs.map .int))=Y2 (.int (cs.length:Int)):=by rw[Ux,aw]
 have ll:lenD (.lst (F.map f))=Y2 (.int (F.length:Int)):=by rw[Ux,aw]
 have T:=Fq (k:Int) (cs.length:Int) (by omega);have Z:(k:Int)%(cs.length:Int)=((k%cs.length:Nat):Int):=by simp
 rw[Z] at T;have U:=iT (cs:=cs) (k:=k%cs.length) (pz _ hc);generalize cs[k%cs.length]'(pz _ hc)=c at U;have ad:=QJ (F.length:Int) 1;have mi:=Fq c ((F.length:Int)+1) (by omega);obtain⟨i,ei,hi⟩:∃i:Nat,c%((F.length:Int)+1)=(i:Int)/\i<=F.length:=by
  have h1:=hW c (show (F.length:Int)+1≠0 by omega);have h2:=kZ c (show (0:Int)<(F.length:Int)+1 by omega);exact⟨(c%((F.length:Int)+1)).toNat,by omega,by omega⟩
 rw[ei] at mi;have ix:=ix_f f hk;have d7:=E_ c 7 (by decide) (by decide);have m3:=Fq (c/7) 3 (by decide);have Y:=Um (c/7%3) 0;have ins:insM (.lst (F.map f)) [.int (i:Int),f x]=Y2 (.non,.lst ((F.take i++x::F.drop i).map f)):=by
  show (if 0<=(i:Int)/\(i:Int).toNat<=(F.map f).length/\(F.map f).length<sizeLine then Y2 (D.non,D.lst ((F.map f).take (i:Int).toNat++f x::(F.map f).drop (i:Int).toNat)) else X2)=_;rw[if_pos ⟨by omega,by rw[fA,aw];exact hi,by rw[aw];exact km u0 (by decide)⟩,fA];simp[rR,rS]
 have O:∀y,y∈F.take i++x::F.drop i↔y∈F∨y=x:=λy=>by
  have:y∈F↔y∈F.take i∨y∈F.drop i:=by rw[<-dv,rM]
  rw[this,dv,ba];exact⟨λz=>by rcases z with z | z | z<;>simp[z],λz=>by rcases z with (z | z) | z<;>simp[z]⟩
 have len:(F.take i++x::F.drop i).length=F.length+1:=by simp;omega
 have v0:appM (.lst ((F.take i++x::F.drop i).map f)) [f x]=Y2 (.non,.lst ((F.take i++x::F.drop i++[x]).map f)):=by
  show (if ((F.take i++x::F.drop i).map f).length<sizeLine then Y2 (D.non,D.lst ((F.take i++x::F.drop i).map f++[f x])) else X2)=_;rw[if_pos (by rw[aw,len];exact km (show F.length+1<=1001 by omega) (by decide))];simp
 have S:∀(p:Addr) (I:Mu),vwM [2] (Aa (bF modD (bF ixD (vF 1) (bF modD (vF 3) (uF lenD (vF 1)))) (bF addD (uF lenD (vU 2)) (kF (.int 1)))) (Aa (bF ixD (vF 0) (vF 3)) (nilA))) [.fz (.lst (l.map f)),.fz (.lst (cs.map .int)),.fz (.adr p),.fz (iN k)] ((p,.lst (F.map f))::I)=Y2 [.int (i:Int),f x]:=λp I=>by
  have v:Ii ((p,.lst (F.map f))::I) [2] [] [.fz (.lst (l.map f)),.fz (.lst (cs.map .int)),.fz (.adr p),.fz (iN k)]=Y2 [.fz (.lst (l.map f)),.fz (.lst (cs.map .int)),.ow (.lst (F.map f)),.fz (iN k)]:=by
   show (if p∈([]:List Addr) then X2 else (bn p ((p,.lst (F.map f))::I)).bind _)=_;rw[if_neg (λz=>nomatch z),Eh];rfl
  unfold vwM;rw[v];simp only[cK,bo,lc,ll,T,U,ad,mi,ix]
 cases b:decide (c/7%3=0) with
 |true=>
  rw[b] at Y;refine⟨F.take i++x::F.drop i++[x],λy=>?_,by rw[eP,len];simp,λp I K W kk=>?_⟩
  .rw[dv,O];simp[or_assoc]
  .refine⟨_,p,_,_,_,S p I,rfl,Eh _ _ _,ins,?_⟩;rw[T9 _ W];refine De rfl ?_;have t:vwM [] (blF (bF (eqD T2) (bF modD (bF Ew (bF ixD (vF 1) (bF modD (vF 3) (uF lenD (vF 1)))) (kF (.int 7))) (kF (.int 3))) (kF (.int 0)))) [.fz (.lst (l.map f)),.fz (.lst (cs.map .int)),.fz (.adr p),.fz (iN k)] ((p,.lst ((F.take i++x::F.drop i).map f))::I)=Y2 U2:=by
    show blF _ _=_;simp only[cK,lc,T,U,d7,m3,Y]
   unfold ifM;rw[t];refine⟨[f x],p,_,_,_,?_,rfl,Eh _ _ _,v0,?_⟩
   .show Aa _ _ _=_;simp only[cK,ix]
   .rw[T9 _ W];exact kk
 |false=>
  rw[b] at Y;refine⟨F.take i++x::F.drop i,O,by rw[len];omega,λp I K W kk=>?_⟩;refine⟨_,p,_,_,_,S p I,rfl,Eh _ _ _,ins,?_⟩;rw[T9 _ W];refine De rfl ?_;have t:vwM [] (blF (bF (eqD T2) (bF modD (bF Ew (bF ixD (vF 1) (bF modD (vF 3) (uF lenD (vF 1)))) (kF (.int 7))) (kF (.int 3))) (kF (.int 0)))) [.fz (.lst (l.map f)),.fz (.lst (cs.map .int)),.fz (.adr p),.fz (iN k)] ((p,.lst ((F.take i++x::F.drop i).map f))::I)=Y2 T2:=by
   show blF _ _=_;simp only[cK,lc,T,U,d7,m3,Y]
  unfold ifM;rw[t];exact kk
theorem R7{S:Type}(f:S->D)(l:List S)(cs:List Int)(hc:0<cs.length)(L:cs.length<=1000)(hl:l.length<=100):∀(r:List Nat) (F:List S),(∀k∈r,k<l.length)->F.length+2*r.length<=1000->∃J:List S,(∀y,y∈J↔y∈F∨∃k∈r,l[k]?=Y2 y)/\J.length<=F.length+2*r.length ∧
  ∀(p:Addr) (I:Mu) (z:PV.Slot) (K:KM),p∉ksM I->(∀z',K (.nx [.fz (.lst (l.map f)),.fz (.lst (cs.map .int)),.fz (.adr p),z']) ((p,.lst (J.map f))::I))->Ij (BV 3) Eu (r.map iN) [.fz (.lst (l.map f)),.fz (.lst (cs.map .int)),.fz (.adr p),z] ((p,.lst (F.map f))::I) K
 |[],F,_,_=>⟨F,by simp,by simp,λp I z K _ k=>k z⟩
 |k::r,F,Z,hn=>by
  rw[df] at hn;have W:=Z k bg;obtain⟨U,a1,a2,a3⟩:=ZW f l cs hc L k (by omega) _ (cy W) F (by omega);obtain⟨T,b1,b2,b3⟩:=R7 f l cs hc L hl r U (λj hj=>Z j (aI _ hj)) (by omega);refine⟨T,λy=>?_,by rw[df];omega,λp I z K hp kk=>⟨[.fz (.lst (l.map f)),.fz (.lst (cs.map .int)),.fz (.adr p),.fz (iN k)],rfl,a3 p I _ hp ?_⟩⟩
  .rw[b1,a1];constructor
   .rintro ((h | h) | ⟨j,Y,O⟩)
    .exact .inl h
    .exact .inr ⟨k,bg,by rw[h];exact cy W⟩
    .exact .inr ⟨j,aI _ Y,O⟩
   .rintro (h | ⟨j,Y,O⟩)
    .exact .inl (.inl h)
    .rcases ba.mp Y with e | e
     .subst e;rw[cy W] at O;exact .inl (.inr (bE O).symm)
     .exact .inr ⟨j,e,O⟩
  .exact b3 p I _ K hp kk
theorem Pg{I:Type}(f:I->D)(l:List I)(cs:List Int)(U:0<cs.length)(J:cs.length<=1000)(Y:l.length<=100):∃F:List I,(∀y,y∈F↔y∈l)/\F.length<=2*l.length ∧
  ∀(z:Mu) (K:D->Mu->Prop),(∀p,p∉ksM z->K (.adr p) ((p,.lst (F.map f))::z))->Eb [.lst (l.map f),.lst (cs.map .int)] z K:=by
 obtain⟨F,a1,a2,Z⟩:=R7 f l cs U J Y (bp l.length) [] (λk T=>eW.mp T) (by simp;omega);refine⟨F,λy=>?_,by simpa using a2,λz K k=>?_⟩
 .rw[a1];constructor
  .rintro (h | ⟨j,_,h⟩)
   .cases h
   .exact lA h
  .intro h;obtain⟨j,W⟩:=List.mem_iff_getElem?.mp h;exact .inr ⟨j,eW.mpr (de.mp W).1,W⟩
 .have S:lenD (.lst (l.map f))=Y2 (.int (l.length:Int)):=by rw[Ux,aw]
  have O:=IV (l.length:Int) (by omega);rw[fA] at O;refine⟨rfl,⟨.lst [],rfl,λp L=>?_⟩⟩;refine De (ρ':=[.fz (.lst (l.map f)),.fz (.lst (cs.map .int)),.fz (.adr p),.un]) rfl ?_;refine⟨rngD l.length,?_,?_⟩
  .simp only[cK,S,O]
  .refine Z p z _ _ L λz'=>?_;refine De rfl ?_;exact⟨_,rfl,k p L⟩
def eR{z:Type}(f:z->D)(r:List (Rw z)):List (Key×D):=r.map λq=>(.inr q.1,.lst (q.2.2.map f))
theorem ZX{F:Type}{w:Str}{r:List (Rw F)}(h:w∉r.map (·.1)):(.inr w:Key)∉(dR r).map (·.1):=by
 intro z;unfold dR at z;rw[cS] at z;obtain⟨u,S,e⟩:=aS.mp z;simp at e;exact h (aS.mpr ⟨u,S,e⟩)
theorem iU{F:Type}{f:F->D}{w:Str}{r:List (Rw F)}(h:w∉r.map (·.1)):(.inr w:Key)∉(eR f r).map (·.1):=by
 intro z;unfold eR at z;rw[cS] at z;obtain⟨u,S,e⟩:=aS.mp z;simp at e;exact h (aS.mpr ⟨u,S,e⟩)
theorem j9{z:Type}{r:List (Rw z)}(h:(r.map (·.1)).Nodup):((dR r).map (·.1)).Nodup:=by
 unfold dR;rw[cS];rw[nD,lJ] at h ⊢;exact h.imp λn e=>n (by simpa using e)
theorem j_{z:Type}{r:List (Rw z)}(h:(r.map (·.1)).Nodup){q:Rw z}(S:q∈r):getK (.inr q.1:Key) (dR r)=Y2 (.adr q.2.1):=MT (j9 h) (aS.mpr ⟨q,S,rfl⟩)
theorem Ph{O:Type}(f:O->D){F:Mu}{m:Addr}{J:List (Rw O)}(W:F.lookup m=Y2 (.dk (dR J)))(L:(J.map (·.1)).Nodup)(Y:∀q∈J,F.lookup q.2.1=Y2 (.lst (q.2.2.map f))):∀(r p:List (Rw O)) (z:PV.Slot),(∀q∈r,q∈J)->((p++r).map (·.1)).Nodup->(p++r).length<=100 ->
  ∃S,forF (tgB (BV 2) (putR 1 (vF 2) (lstR 0 (vF 2)) F)) (r.map λq=>.str q.1) [.fz (.adr m),.ow (.dk (eR f p)),z]=Y2 (.nx [.fz (.adr m),.ow (.dk (eR f (p++r))),S])
 |[],p,z,_,_,_=>⟨z,by rw[dL];rfl⟩
 |q::r,p,z,Z,T,I=>by
  have hq:=Z q bg;have nt:q.1∉p.map (·.1):=by
   intro y;rw[fR,ck] at T;exact T.2.2 q.1 y q.1 (by simp) rfl
  have g:=j_ L hq;have lv:lstR 0 (vF 2) F [.fz (.adr m),.ow (.dk (eR f p)),.fz (.str q.1)]=Y2 (.lst (q.2.2.map f)):=by
   show (dkC F [.fz (.adr m),.ow (.dk (eR f p)),.fz (.str q.1)] 0).bind (λU=>atR F U (.str q.1))=_;rw[R3 rfl W];show (getK (.inr q.1:Key) (dR J)).bind _=_;rw[g];show (match F.lookup q.2.1 with | some (.lst cs)=>Y2 (D.lst cs) | _=>X2)=_;rw[Y q hq]
  have pk:Bc (.dk (eR f p)) (.str q.1) (.lst (q.2.2.map f))=Y2 (.dk (eR f (p++[q]))):=by
   rw[Gq _ _ _ (by simp[eR] at I ⊢;omega),putL_new (iU nt)];simp[eR]
  have b:putR 1 (vF 2) (lstR 0 (vF 2)) F [.fz (.adr m),.ow (.dk (eR f p)),.fz (.str q.1)]=Y2 (.nx [.fz (.adr m),.ow (.dk (eR f (p++[q]))),.fz (.str q.1)]):=by
   show putF 1 (vF 2) (lstR 0 (vF 2) F) _=_;rw[VH,lv];simp only[cK,NK,QW,pk]
  obtain⟨S,ih⟩:=Ph f W L Y r (p++[q]) (.fz (.str q.1)) (λu hu=>Z u (aI _ hu)) (by simpa using T) (by simpa using I);refine⟨S,?_⟩
  w_up
  rw[b,GZ,ih];simp
theorem Vv{F:Type}(f:F->D){z:Mu}{m:Addr}{r:List (Rw F)}(W:z.lookup m=Y2 (.dk (dR r)))(I:(r.map (·.1)).Nodup)(Y:r.length<=100)(S:∀q∈r,z.lookup q.2.1=Y2 (.lst (q.2.2.map f))):Dn z [.adr m]=Y2 (.dk (eR f r)):=by
 obtain⟨L,e⟩:=Ph f W I S r [] .un (λ_ h=>h) (by simpa using I) (by simpa using Y);rw[lf] at e;have J:O7 0 z [.fz (.adr m),.ow (.dk []),.un]=Y2 (r.map λq=>.str q.1):=by
  unfold O7;rw[R3 rfl W];simp only[dR,eB,cS,lG,J1]
 have O:(D.dk [])=D.dk (eR f ([]:List (Rw F))):=rfl;have fr:forR (O7 0) (BV 2) (putR 1 (vF 2) (lstR 0 (vF 2))) z [.fz (.adr m),.ow (.dk []),.un]=_:=(Qn J).trans e;simp only[dK,Dn,Hh,fr]
theorem Cl.addM{I:Mu}{m t:Addr}{J:List (Rw Nat)}{rt:List (Rw (Nat×Nat))}(c:Cl I m t J rt)(T:m≠t){p:Addr}(F:p∉ksM I)(w:Str)(L:List Nat):Cl (putA m (.dk (dR (J++[(w,p,L)]))) ((p,lM L)::I)) m t (J++[(w,p,L)]) rt:=by
 have O:p≠m:=λz=>F (z▸Eg c.lm);have pt:p≠t:=λz=>F (z▸Eg c.lt);refine⟨?_,?_,λq S=>?_,λq S=>?_⟩
 .rw[Bh,if_pos rfl,DR _ _ (bv O),c.lm];rfl
 .rw[Bh,if_neg (bv T),DR _ _ (bv pt)];exact c.lt
 .rcases dv.mp S with z | z
  .have l:=c.rm q z;have n1:q.2.1≠m:=λy=>by rw[y,c.lm] at l;cases l
   have n2:q.2.1≠p:=λy=>F (by rw[<-y];exact Eg l);rw[Bh,if_neg n1,DR _ _ n2];exact l
  .cases fN.mp z;rw[Bh,if_neg O];exact Eh _ _ _
 .have l:=c.rt q S;have n1:q.2.1≠m:=λy=>by rw[y,c.lm] at l;cases l
  have n2:q.2.1≠p:=λy=>F (by rw[<-y];exact Eg l);rw[Bh,if_neg n1,DR _ _ n2];exact l
theorem Cl.addT{I:Mu}{m t:Addr}{O:List (Rw Nat)}{J:List (Rw (Nat×Nat))}(c:Cl I m t O J)(U:m≠t){p:Addr}(F:p∉ksM I)(w:Str)(L:List (Nat×Nat)):Cl (putA t (.dk (dR (J++[(w,p,L)]))) ((p,lT L)::I)) m t O (J++[(w,p,L)]):=by
 have T:p≠m:=λz=>F (z▸Eg c.lm);have pt:p≠t:=λz=>F (z▸Eg c.lt);refine⟨?_,?_,λq S=>?_,λq S=>?_⟩
 .rw[Bh,if_neg U,DR _ _ (bv T)];exact c.lm
 .rw[Bh,if_pos rfl,DR _ _ (bv pt),c.lt];rfl
 .have l:=c.rm q S;have n1:q.2.1≠t:=λy=>by rw[y,c.lt] at l;cases l
  have n2:q.2.1≠p:=λy=>F (by rw[<-y];exact Eg l);rw[Bh,if_neg n1,DR _ _ n2];exact l
 .rcases dv.mp S with z | z
  .have l:=c.rt q z;have n1:q.2.1≠t:=λy=>by rw[y,c.lt] at l;cases l
   have n2:q.2.1≠p:=λy=>F (by rw[<-y];exact Eg l);rw[Bh,if_neg n1,DR _ _ n2];exact l
  .cases fN.mp z;rw[Bh,if_neg pt];exact Eh _ _ _
def Lk(z:Mu):Prop:=∀p∈z,lkD p.2=U2
theorem Lk.put{z:Mu}(h:Lk z)(a:Addr){c:D}(I:lkD c=U2):Lk (putA a c z):=λp F=>by
 obtain⟨q,S,e⟩:=aS.mp F;split at e
 .rw[<-e];exact I
 .rw[<-e];exact h q S
theorem Lk.cons{F:Mu}(h:Lk F)(a:Addr){c:D}(J:lkD c=U2):Lk ((a,c)::F):=λp I=>by
 rcases ba.mp I with z | z
 .rw[z];exact J
 .exact h p z
def Hold{z:Type}(I:List (Str×List z))(r:List (Rw z)):Prop:=∀q∈r,∃p∈I,p.1=q.1/\(∀y,y∈q.2.2↔y∈p.2)/\q.2.2.length<=100
theorem ZZ{W:Wl}(Z:WOk W)(cs:List Int)(hc:0<cs.length)(v0:cs.length<=1000)(m t:Addr)(mt:m≠t)(x0 x1 x3 x7 x8 x9 U T S O L:PV.Slot)(K:KM):∀(r:List (Str×List Nat)) (I:List (Rw Nat)) (Y:Mu) (z:PV.Slot),(∀p∈r,p∈W.ms)->(I.map (·.1)++r.map (·.1)).Nodup->I.length+r.length<=100->Cl Y m t I []->Lk Y->Hold W.ms I ->
  (∀J F z',Cl F m t J []->Lk F->Hold W.ms J->J.map (·.1)=I.map (·.1)++r.map (·.1)->K (.nx [x0,x1,.fz (.dk (eM W.ms)),x3,.fz (.lst (cs.map .int)),.fz (.lst [.adr m,.adr t]),z',x7,x8,x9,U,T,S,O,L]) F) ->
  Ij (BV 6) Vg (r.map λp=>.str p.1) [x0,x1,.fz (.dk (eM W.ms)),x3,.fz (.lst (cs.map .int)),.fz (.lst [.adr m,.adr t]),z,x7,x8,x9,U,T,S,O,L] Y K
 |[],I,Y,z,_,_,_,c,lk,hd,k=>k I Y z c lk hd (by simp)
 |p::r,I,Y,z,hr,nd,u0,c,lk,hd,k=>by
  have hp:=hr p bg;rw[df] at u0;have pl:p.2.length<=5:=cE (Vp (Z.ml p hp).1 (Z.ml p hp).2.2) Z.n5;obtain⟨ls,a1,a2,a3⟩:=Pg iN p.2 cs hc v0 (by omega);have nt:p.1∉I.map (·.1):=by
   intro y;rw[ck] at nd;exact nd.2.2 p.1 y p.1 (by simp) rfl
  have C0:=at_M W Z hp;refine⟨[x0,x1,.fz (.dk (eM W.ms)),x3,.fz (.lst (cs.map .int)),.fz (.lst [.adr m,.adr t]),.fz (.str p.1),x7,x8,x9,U,T,S,O,L],rfl,⟨[lM p.2,.lst (cs.map .int)],?_,a3 Y _ λq hq=>?_⟩⟩
  .simp only[cK,C0]
  refine⟨.str p.1,m,.dk (dR I),.dk (dR (I++[(p.1,q,ls)])),rfl,rfl,?_,?_,?_⟩
  .have qm:m≠q:=λz=>hq (by rw[<-z];exact Eg c.lm);rw[DR _ _ qm];exact c.lm
  .rw[Gq _ _ _ (by simp[dR];omega),putL_new (ZX nt)];simp[dR]
  refine ZZ Z cs hc v0 m t mt x0 x1 x3 x7 x8 x9 U T S O L K r (I++[(p.1,q,ls)]) _ (.fz (.str p.1)) (λu hu=>hr u (aI _ hu)) (by simpa using nd) (by simp;omega) (c.addM mt hq p.1 ls) ((lk.cons q rfl).put m rfl) (λu hu=>?_) λJ F z' c' y0 B0 e=>k J F z' c' y0 B0 (by rw[e];simp)
  rcases dv.mp hu with y | y
  .exact hd u y
  .cases fN.mp y;exact⟨p,hp,rfl,a1,by show ls.length<=100;omega⟩
theorem Za{W:Wl}(Z:WOk W)(cs:List Int)(hc:0<cs.length)(v0:cs.length<=1000)(m t:Addr)(mt:m≠t)(rm:List (Rw Nat))(x0 x1 x2 x7 x8 x9 U T S O L:PV.Slot)(K:KM):∀(r:List (Str×List (Nat×Nat))) (J:List (Rw (Nat×Nat))) (I:Mu) (z:PV.Slot),(∀p∈r,p∈W.ts)->(J.map (·.1)++r.map (·.1)).Nodup->J.length+r.length<=100->Cl I m t rm J->Lk I->Hold W.ts J ->
  (∀Y F z',Cl F m t rm Y->Lk F->Hold W.ts Y->Y.map (·.1)=J.map (·.1)++r.map (·.1)->K (.nx [x0,x1,x2,.fz (.dk (eT W.ts)),.fz (.lst (cs.map .int)),.fz (.lst [.adr m,.adr t]),z',x7,x8,x9,U,T,S,O,L]) F) ->
  Ij (BV 6) Vh (r.map λp=>.str p.1) [x0,x1,x2,.fz (.dk (eT W.ts)),.fz (.lst (cs.map .int)),.fz (.lst [.adr m,.adr t]),z,x7,x8,x9,U,T,S,O,L] I K
 |[],J,I,z,_,_,_,c,lk,hd,k=>k J I z c lk hd (by simp)
 |p::r,J,I,z,hr,nd,u0,c,lk,hd,k=>by
  have hp:=hr p bg;rw[df] at u0;have pl:p.2.length<=25:=cE (ZM (Z.tl p hp).1 (Z.tl p hp).2.2) (rG Z.n5 Z.n5);obtain⟨ls,a1,a2,a3⟩:=Pg pN p.2 cs hc v0 (by omega);have nt:p.1∉J.map (·.1):=by
   intro y;rw[ck] at nd;exact nd.2.2 p.1 y p.1 (by simp) rfl
  have D0:=at_T W Z hp;refine⟨[x0,x1,x2,.fz (.dk (eT W.ts)),.fz (.lst (cs.map .int)),.fz (.lst [.adr m,.adr t]),.fz (.str p.1),x7,x8,x9,U,T,S,O,L],rfl,⟨[lT p.2,.lst (cs.map .int)],?_,a3 I _ λq hq=>?_⟩⟩
  .simp only[cK,D0]
  refine⟨.str p.1,t,.dk (dR J),.dk (dR (J++[(p.1,q,ls)])),rfl,rfl,?_,?_,?_⟩
  .have qm:t≠q:=λz=>hq (by rw[<-z];exact Eg c.lt);rw[DR _ _ qm];exact c.lt
  .rw[Gq _ _ _ (by simp[dR];omega),putL_new (ZX nt)];simp[dR]
  refine Za Z cs hc v0 m t mt rm x0 x1 x2 x7 x8 x9 U T S O L K r (J++[(p.1,q,ls)]) _ (.fz (.str p.1)) (λu hu=>hr u (aI _ hu)) (by simpa using nd) (by simp;omega) (c.addT mt hq p.1 ls) ((lk.cons q rfl).put t rfl) (λu hu=>?_) λy0 F z' c' B0 C0 e=>k y0 F z' c' B0 C0 (by rw[e];simp)
  rcases dv.mp hu with y | y
  .exact hd u y
  .cases fN.mp y;exact⟨p,hp,rfl,a1,by show ls.length<=100;omega⟩
structure Like (W' W:Wl):Prop where
 n:W'.n=W.n
 mm:(mw W').Perm (mw W)
 tt:(tw W').Perm (tw W)
 ma:∀w∈mw W,∀i,mk W' w i=mk W w i
 ta:∀w∈tw W,∀i j,tk W' w i j=tk W w i j
theorem Zb{w:Str}{k:List (Key×D)}(h:ixE (.dk k) (.str w)=Y2 d):inF U2 (.str w) (.dk k)=Y2 (.bl T2):=by
 have h:getK (.inr w:Key) k=Y2 d:=h;show Y2 (D.bl (!(getK (.inr w:Key) k).isSome))=_;rw[h];rfl
theorem iV{W:Wl}(S:WOk W){w:Str}(h:w∈mw W){i:Nat}(F:i<W.n):Gh [wob W,.str w,.int (i:Int)]=Y2 (.bl (mk W w i)):=by
 obtain⟨d,z,L⟩:=jz W h i;have I:=Zb z;have T:=Ds W.n i F;have O:=Ny W;have J:=T5 W;simp only[cK,Gh,Io,O,J,I,T,z,L]
theorem Zc{W:Wl}(U:WOk W){w:Str}(h:w∈tw W){i j:Nat}(I:i<W.n)(F:j<W.n):Ec [wob W,.str w,.int (i:Int),.int (j:Int)]=Y2 (.bl (tk W w i j)):=by
 obtain⟨d,z,S⟩:=j5 W h i j;have L:=Zb z;have T:=Ds W.n i I;have Z:=Ds W.n j F;have O:=T6 W;have J:=T5 W;simp only[cK,Ec,Gu,jw,O,J,L,T,Z,z,S]
theorem R8(b:Bool):FQ [.bl b,.bl b]=Y2 (.bl U2):=by cases b<;>rfl
theorem Zd(n:Nat):Hi [.int (n:Int)]=Y2 (.bl U2):=rfl
theorem N7{b:D->FS}{I:Type}(e:I->D)(S:Rho->Prop):∀(l:List I) (ρ:Rho),S ρ->(∀x∈l,∀ρ,S ρ->∃ρ',b (e x) ρ=Y2 (.nx ρ')/\S ρ')->∃ρ',forF b (l.map e) ρ=Y2 (.nx ρ')/\S ρ'
 |[],ρ,h,_=>⟨ρ,rfl,h⟩
 |x::l,ρ,h,k=>by
  obtain⟨F,U,O⟩:=k x bg ρ h;obtain⟨z,T,L⟩:=N7 e S l F O λy J=>k y (aI _ J);refine⟨z,?_,L⟩;rw[bb,Ff,U,GZ,T]
theorem iW(W:Wl):El "World" "has" (wob W)=U2:=rfl
theorem Ze(W:Wl):El "World" "leads" (wob W)=U2:=rfl
theorem Qo{z W:Wl}(O:WOk z)(U:WOk W)(h:Like z W):Cr [wob z,.int (W.n:Int),.dk (eM W.ms),.dk (eT W.ts)]=Y2 (.bl U2):=by
 have f2:=T5 z;rw[h.n] at f2;have wh:=Zd W.n;have ne:eqD U2 (.int (W.n:Int)) (.int (W.n:Int))=Y2 (.bl T2):=by rw[Uo];simp
 obtain⟨wm,wt⟩:=Wm z O;have y0:(mw W).Nodup:=(ck.mp U.nd).1;have v0:(tw W).Nodup:=(ck.mp U.nd).2.1;have sm:sdkD (.dk (eM W.ms))=Y2 (.lst ((Bf (mw W)).map .str)):=K5 (Ql W.ms) y0 (by have:=U.m3;simp[mw];omega);have st:sdkD (.dk (eT W.ts))=Y2 (.lst ((Bf (tw W)).map .str)):=K5 (Qm W.ts) v0 (by have:=U.t3;simp[tw];omega);rw[Pb h.mm] at wm;rw[Pb h.tt] at wt;have nm:=Vs (Bf (mw W));have nt:=Vs (Bf (tw W));have q1:O4 (Y2 (.dk (eM W.ms)))=Y2 ((mw W).map .str):=by rw[QV,Ql]
 have q2:O4 (Y2 (.dk (eT W.ts)))=Y2 ((tw W).map .str):=by rw[QV,Qm]
 have e6:=IV (W.n:Int) (by have:=U.n5;omega);rw[fA] at e6;have one:∀(i:Nat) (z5 T:PV.Slot),i<W.n->∃F L,DN [.fz (wob z),.fz (.int (W.n:Int)),.fz (.dk (eM W.ms)),.fz (.dk (eT W.ts)),.fz (.int (i:Int)),z5,T]=Y2 (.nx [.fz (wob z),.fz (.int (W.n:Int)),.fz (.dk (eM W.ms)),.fz (.dk (eT W.ts)),.fz (.int (i:Int)),F,L]):=λi z5 T Z=>by
  obtain⟨u0,l1,F,S⟩:=N7 (b:=tgB (BV 5) Gv) D.str (λJ=>∃F,J=[.fz (wob z),.fz (.int (W.n:Int)),.fz (.dk (eM W.ms)),.fz (.dk (eT W.ts)),.fz (.int (i:Int)),F,T]) (mw W) _ ⟨z5,rfl⟩ (by
   rintro w I J ⟨F,rfl⟩;have Y:=iV O (h.mm.mem_iff.mpr I) (i:=i) (by rw[h.n];exact Z);rw[h.ma w I i] at Y;obtain⟨d,e1,e2⟩:=j6 W I i;have tr:=R8 (mk W w i);refine⟨[.fz (wob z),.fz (.int (W.n:Int)),.fz (.dk (eM W.ms)),.fz (.dk (eT W.ts)),.fz (.int (i:Int)),.fz (.str w),T],?_,_,rfl⟩;rw[e_tg,Fv,G4];simp only[lK,lL];simp only[cK,Gv,Qk,Vr (iW z),Y,e1,e2,tr])
  subst S;obtain⟨K0,l2,v5,v6,F0⟩:=N7 (b:=tgB (BV 6) Gw) iN (λJ=>∃F L,J=[.fz (wob z),.fz (.int (W.n:Int)),.fz (.dk (eM W.ms)),.fz (.dk (eT W.ts)),.fz (.int (i:Int)),F,L]) (bp W.n) _ ⟨F,T,rfl⟩ (by
   rintro j hj J ⟨F,L,rfl⟩;have hj:=eW.mp hj;obtain⟨G0,l3,u5,D0⟩:=N7 (b:=tgB (BV 5) Ed) D.str (λJ=>∃F,J=[.fz (wob z),.fz (.int (W.n:Int)),.fz (.dk (eM W.ms)),.fz (.dk (eT W.ts)),.fz (.int (i:Int)),F,.fz (.int (j:Int))]) (tw W) _ ⟨F,rfl⟩ (by
    rintro w I J ⟨F,rfl⟩;have Y:=Zc O (h.tt.mem_iff.mpr I) (i:=i) (j:=j) (by rw[h.n];exact Z) (by rw[h.n];exact hj);rw[h.ta w I i j] at Y;obtain⟨d,e1,e2,_⟩:=j7 W I i j;have tr:=R8 (tk W w i j);refine⟨[.fz (wob z),.fz (.int (W.n:Int)),.fz (.dk (eM W.ms)),.fz (.dk (eT W.ts)),.fz (.int (i:Int)),.fz (.str w),.fz (.int (j:Int))],?_,_,rfl⟩;rw[e_tg,Fv,G4];simp only[lK,lL];simp only[cK,Ed,Qk,Vr (Ze z),Y,e1,e2,tr])
   subst D0;refine⟨_,?_,u5,.fz (.int (j:Int)),rfl⟩;rw[e_tg,Fv,G4];simp only[lK,lL];have fr:forS (seqA (vF 3)) (BV 5) Ed [.fz (wob z),.fz (.int (W.n:Int)),.fz (.dk (eM W.ms)),.fz (.dk (eT W.ts)),.fz (.int (i:Int)),F,.fz (.int (j:Int))]=Y2 (.nx [.fz (wob z),.fz (.int (W.n:Int)),.fz (.dk (eM W.ms)),.fz (.dk (eT W.ts)),.fz (.int (i:Int)),u5,.fz (.int (j:Int))]):=by
    simp only[cK,Tq,q2,l3]
   exact fr)
  subst F0;refine⟨v5,v6,?_⟩;have B0:forF (tgB (BV 6) Gw) (rngD W.n) _=_:=l2;simp only[cK,DN,Tq,q1,l1,e6,B0]
 obtain⟨u0,l1,y4,F,L,S⟩:=N7 (b:=tgB (BV 4) DN) iN (λJ=>∃y4 F L,J=[.fz (wob z),.fz (.int (W.n:Int)),.fz (.dk (eM W.ms)),.fz (.dk (eT W.ts)),y4,F,L]) (bp W.n) [.fz (wob z),.fz (.int (W.n:Int)),.fz (.dk (eM W.ms)),.fz (.dk (eT W.ts)),.un,.un,.un] ⟨_,_,_,rfl⟩ (by
  rintro i Z J ⟨y4,F,L,rfl⟩;obtain⟨v5,v6,e⟩:=one i F L (eW.mp Z);refine⟨_,?_,.fz (.int (i:Int)),v5,v6,rfl⟩;rw[e_tg,Fv,G4];simp only[lK,lL];exact e)
 subst S;have C0:forF (tgB (BV 4) DN) (rngD W.n) _=_:=l1;simp only[cK,Cr,Ip,f2,wh,ne,Qk,Vr (di z),Vr (dm z),wm,wt,sm,st,nm,nt,e6,C0]
theorem Qp{I:Type}:∀{l:List (Str×I)},(l.map (·.1)).Nodup->∀{p q:Str×I},p∈l->q∈l->p.1=q.1->p=q
 |[],_,p,q,h,_,_=>by cases h
 |a::l,F,p,q,J,S,e=>by
  rw[bb,hJ] at F
  rcases ba.mp J with z | z<;>rcases ba.mp S with y | y
  .rw[z,y]
  .exact absurd (aS.mpr ⟨q,y,by rw[<-e,z]⟩) F.1
  .exact absurd (aS.mpr ⟨p,z,by rw[e,y]⟩) F.1
  .exact Qp F.2 z y e
theorem Kd{z:Type}{w:Str}{l:List (Str×z)}{q:Str×z}(h:l.find? (λp=>p.1=w)=Y2 q):q.1=w:=by simpa using List.find?_some h
structure Rws (W:Wl) (rm:List (Rw Nat)) (rt:List (Rw (Nat×Nat))):Prop where
 hm:Hold W.ms rm
 ht:Hold W.ts rt
 nm:rm.map (·.1)=(W.ms.reverse).map (·.1)
 nt:rt.map (·.1)=(W.ts.reverse).map (·.1)
section
variable {W:Wl}{rm:List (Rw Nat)}{rt:List (Rw (Nat×Nat))}
theorem Rws.ft(h:Rws W rm rt)(z:WOk W):Ft W.n rm rt:=by
 have Z:=congrArg cw h.nm;have Y:=congrArg cw h.nt;simp at Z Y;refine⟨z.n5,by rw[Z];exact z.m3,by rw[Y];exact z.t3,λq S=>?_,λq S=>?_,?_,λq S=>?_,λq S=>?_⟩
 .obtain⟨p,F,e,_⟩:=h.hm q S;rw[<-e];exact z.mw p F
 .obtain⟨p,F,e,_⟩:=h.ht q S;rw[<-e];exact z.tw p F
 .rw[h.nm,h.nt,iF,iF];exact (List.Perm.append (lO _) (lO _)).nodup_iff.mpr z.nd
 .obtain⟨p,F,e,m,l⟩:=h.hm q S;exact⟨l,λt O=>(z.ml p F).2.2 t ((m t).mp O)⟩
 .obtain⟨p,F,e,m,l⟩:=h.ht q S;exact⟨l,λt O=>(z.tl p F).2.2 t ((m t).mp O)⟩
theorem Rws.wok(h:Rws W rm rt)(F:WOk W):WOk ⟨W.n,kp rm,kp rt⟩:=by
 have f:=h.ft F;refine⟨f.n5,by simpa [kp] using f.m3,by simpa [kp] using f.t3,λp z=>?_,λp z=>?_,by show ((kp rm).map (·.1)++(kp rt).map (·.1)).Nodup;rw[DP,DP];exact f.nd,λp z=>?_,λp z=>?_⟩
 .obtain⟨q,S,rfl⟩:=aS.mp z;exact f.mw q S
 .obtain⟨q,S,rfl⟩:=aS.mp z;exact f.tw q S
 .obtain⟨q,S,rfl⟩:=aS.mp z;refine⟨ZQ _ _ n6,cE (T8 _ _) (by simpa using (f.ml q S).1),λt O=>(f.ml q S).2 t ?_⟩;simpa using (N5 _ _ _).mp O
 .obtain⟨q,S,rfl⟩:=aS.mp z;refine⟨ZQ _ _ n6,cE (T8 _ _) (by simpa using (f.tl q S).1),λt O=>(f.tl q S).2 t ?_⟩;simpa using (N5 _ _ _).mp O
theorem Rws.like(h:Rws W rm rt)(hw:WOk W):Like ⟨W.n,kp rm,kp rt⟩ W:=by
 have U:(mw W).Nodup:=(ck.mp hw.nd).1;have T:(tw W).Nodup:=(ck.mp hw.nd).2.1;have p1:(mw (⟨W.n,kp rm,kp rt⟩:Wl)).Perm (mw W):=by
  show ((kp rm).map (·.1)).Perm _;rw[DP,h.nm,iF];exact lO _
 have p2:(tw (⟨W.n,kp rm,kp rt⟩:Wl)).Perm (tw W):=by
  show ((kp rt).map (·.1)).Perm _;rw[DP,h.nt,iF];exact lO _
 refine⟨rfl,p1,p2,λw I i=>?_,λw I i j=>?_⟩
 .obtain⟨p,Z,L⟩:=Gm I;obtain⟨q',F,z⟩:=Gm (p1.mem_iff.mpr I);have z:(kp rm).find? (λp=>p.1=w)=Y2 q':=z;obtain⟨q,Y,rfl⟩:=aS.mp F;obtain⟨S,J,e3,m,_⟩:=h.hm q Y;have O:(q.1,ddX q.2.2).1=w:=Kd z;have e4:S=p:=Qp U J Z (by rw[e3,Kd L];exact O);subst e4;show (match (kp rm).find? (λp=>p.1=w) with | some p=>decide (i∈p.2) | none=>T2)=(match W.ms.find? (λp=>p.1=w) with | some p=>decide (i∈p.2) | none=>T2);rw[L,z];exact decide_eq_decide.mpr ((N5 _ _ _).trans (by simpa using m i))
 .obtain⟨p,Z,L⟩:=Gm I;obtain⟨q',F,z⟩:=Gm (p2.mem_iff.mpr I);have z:(kp rt).find? (λp=>p.1=w)=Y2 q':=z;obtain⟨q,Y,rfl⟩:=aS.mp F;obtain⟨S,J,e3,m,_⟩:=h.ht q Y;have O:(q.1,ddX q.2.2).1=w:=Kd z;have e4:S=p:=Qp T J Z (by rw[e3,Kd L];exact O);subst e4;show (match (kp rt).find? (λp=>p.1=w) with | some p=>decide ((i,j)∈p.2) | none=>T2)=(match W.ts.find? (λp=>p.1=w) with | some p=>decide ((i,j)∈p.2) | none=>T2);rw[L,z];exact decide_eq_decide.mpr ((N5 _ _ _).trans (by simpa using m (i,j)))
end
theorem bw(W:Wl):Like W W:=⟨rfl,rV _,rV _,λ_ _ _=>rfl,λ_ _ _ _=>rfl⟩
theorem Ke{f:D->D->Option Bool}:∀{l:List D},(∀x∈l,f x x=Y2 U2)->allO f l l=Y2 U2
 |[],_=>rfl
 |x::l,h=>by
  unfold allO;rw[h x bg,Ke λy z=>h y (aI _ z)];rfl
theorem iY{l:List D}(h:∀x∈l,eqK n x x=Y2 U2):eqK (n+1) (.lst l) (.lst l)=Y2 U2:=by
 show (if l.length=l.length then allO (eqK n) l l else Y2 T2)=_;rw[if_pos rfl,Ke h]
theorem iZ{l:List D}(h:∀x∈l,eqK n x x=Y2 U2):eqK (n+1) (.tup l) (.tup l)=Y2 U2:=by
 show (if l.length=l.length then allO (eqK n) l l else X2)=_;rw[if_pos rfl,Ke h]
theorem T_(n:Nat)(i:Int):eqK n (.int i) (.int i)=Y2 U2:=by
 cases n with
 |zero=>show Y2 (decide _)=_;simp
 |succ n=>show Y2 (decide _)=_;simp
theorem al_R{F:Type}(f:F->D)(r:List (Rw F))(h:∀x,eqK 7 (f x) (f x)=Y2 U2):dkAl (.dk (eR f r)) (.dk (eR f r))=U2:=by
 show (decide _&&(allO (eqK 8) _ _==Y2 U2))=U2;rw[decide_eq_true rfl,Ke λx J=>?_]
 .rfl
 .obtain⟨p,L,rfl⟩:=aS.mp J;obtain⟨q,_,rfl⟩:=aS.mp L;refine iY λy I=>?_;obtain⟨z,_,rfl⟩:=aS.mp I;exact h z
theorem ne_R(r:List (Rw Nat))(s:List (Rw (Nat×Nat))):neLD (.lst [.dk (eR iN r),.dk (eR pN s)]) (.lst [.dk (eR iN r),.dk (eR pN s)])=Y2 (.bl T2):=by
 have J:=al_R iN r λx=>T_ _ _;have I:=al_R pN s λx=>iZ λy F=>by
  rcases ba.mp F with z | z
  .rw[z];exact T_ _ _
  .rw[fN.mp z];exact T_ _ _
 show (if J9 _ _=U2 then Y2 (D.bl T2) else X2)=_;rw[if_pos];unfold J9 J9 J9;rw[J,I];rfl
theorem Mi{z:Mu}{F:Type}{f:F->D}{l:List F}(h:∀x,der n z (f x)=f x):der (n+1) z (.lst (l.map f))=.lst (l.map f):=by
 show D.lst ((l.map f).map (der n z))=_;rw[cS];congr 1;exact lE λx _=>h x
theorem Zf(n:Nat)(z:Mu)(t:Nat):der n z (iN t)=iN t:=by cases n<;>rfl
theorem Zg(n:Nat)(z:Mu)(t:Nat×Nat):der n z (pN t)=pN t:=by
 cases n with
 |zero=>rfl
 |succ n=>cases n<;>rfl
theorem UG{z:Mu}{k:List (Key×D)}(h:∀p∈k,der n z p.2=p.2):der (n+1) z (.dk k)=.dk k:=by
 show D.dk (k.map λp=>(p.1,der n z p.2))=_;congr 1;refine (lE λp F=>?_).trans (rU _);rw[h p F];rfl
theorem ie(n:Nat)(z:Mu)(I:List (Str×List Nat)):der (n+2) z (.dk (eM I))=.dk (eM I):=UG λp F=>by
 obtain⟨q,_,rfl⟩:=aS.mp F;exact Mi λx=>Zf _ _ _
theorem ig(n:Nat)(z:Mu)(I:List (Str×List (Nat×Nat))):der (n+2) z (.dk (eT I))=.dk (eT I):=UG λp F=>by
 obtain⟨q,_,rfl⟩:=aS.mp F;exact Mi λx=>Zg _ _ _
theorem Zh{F:Type}(n:Nat)(z:Mu)(f:F->D)(h:∀x,der n z (f x)=f x)(r:List (Rw F)):der (n+2) z (.dk (eR f r))=.dk (eR f r):=UG λp I=>by
 obtain⟨q,_,rfl⟩:=aS.mp I;exact Mi h
theorem R9{F:Type}{z:Mu}{m:Addr}{r:List (Rw F)}(n:Nat)(f:F->D)(h:∀x,der n z (f x)=f x)(W:z.lookup m=Y2 (.dk (dR r)))(S:∀q∈r,z.lookup q.2.1=Y2 (.lst (q.2.2.map f))):der (n+4) z (.adr m)=.dk (eR f r):=by
 show (match z.lookup m with | some c=>der (n+3) z c | none=>.adr m)=_;rw[W];show D.dk ((dR r).map λp=>(p.1,der (n+2) z p.2))=_;congr 1;unfold dR eR;rw[cS];refine lE λq I=>?_;show ((.inr q.1:Key),der (n+2) z (.adr q.2.1))=_;congr 1;show (match z.lookup q.2.1 with | some c=>der (n+1) z c | none=>.adr q.2.1)=_;rw[S q I];exact Mi h
theorem R_(m t:Addr)(a b:List (Key×D))(x0 x1 x2 x3 x4 x5 x6 Z Y W U T S L:PV.Slot)(K:KM):∀(as:List Addr) (F:Mu) (z:PV.Slot),F.lookup m=Y2 (.dk a)->F.lookup t=Y2 (.dk b)->(∀c∈as,∃ds,F.lookup c=Y2 (.lst ds)) ->
  (∀I z',I.lookup m=Y2 (.dk a)->I.lookup t=Y2 (.dk b)->K (.nx [x0,x1,x2,x3,x4,x5,x6,Z,Y,W,U,T,S,z',L]) I)->Ij (BV 13) Vi (as.map .adr) [x0,x1,x2,x3,x4,x5,x6,Z,Y,W,U,T,S,z,L] F K
 |[],F,z,J,O,_,k=>k F z J O
 |c::as,F,z,J,O,h,k=>by
  obtain⟨ds,hd⟩:=h c bg;have nm:m≠c:=λe=>by rw[e,hd] at J;cases J
  have nt:t≠c:=λe=>by rw[e,hd] at O;cases O
  refine⟨[x0,x1,x2,x3,x4,x5,x6,Z,Y,W,U,T,S,.fz (.adr c),L],rfl,c,ds,rfl,hd,?_⟩;refine R_ m t a b x0 x1 x2 x3 x4 x5 x6 Z Y W U T S L K as (putA c (.lst []) F) (.fz (.adr c)) (by rw[Bh,if_neg nm];exact J) (by rw[Bh,if_neg nt];exact O) (λe he=>?_) k;obtain⟨es,h2⟩:=h e (aI _ he);rw[Bh]
  by_cases y:e=c
  .rw[if_pos y,h2];exact⟨[],rfl⟩
  .rw[if_neg y];exact⟨es,h2⟩
theorem Pj{k:List (Key×D)}{z:List Str}(h:k.map (λp=>kDt p.1)=z.map .str){ρ:Rho}{i:Nat}(F:ρ[i]?=Y2 (.fz (.dk k))):revI (uF NT (vF i)) ρ=Y2 (z.reverse.map .str):=by
 have v:vF i ρ=Y2 (.dk k):=by unfold vF;rw[F]
 have l:NT (.dk k)=Y2 (.lst (z.map .str)):=by rw[<-h];rfl
 unfold revI uF;rw[v];show (match NT (.dk k) with | some (.lst I)=>Y2 I.reverse | _=>X2)=_;rw[l,iF]
theorem bx(L:List Int)(hl:L.length<=63):runM 15 1 Vj [.lst (L.map .int)] [] λd _=>d=.bl U2:=by
  obtain⟨W,S,we⟩:=Ru 0 L;obtain⟨V,hv,ve⟩:=Ru 8 L;have we:CV [.lst (L.map .int),.int 0]=Y2 (.lst [.int (W.n:Int),.dk (eM W.ms),.dk (eT W.ts)]):=we;have ve:CV [.lst (L.map .int),.int 8]=Y2 (.lst [.int (V.n:Int),.dk (eM V.ms),.dk (eT V.ts)]):=ve;have T:∀(f:FE) (g:FG) (U:Rho) (d:D),f U=Y2 d->asgF f g U=(g d U).map .nx:=λf g U d e=>by unfold asgF;rw[e];rfl
  have sc:slD (.lst (L.map .int)) (Y2 16) (Y2 63)=Y2 (.lst ((cutD L (Y2 16) (Y2 63)).map .int)):=by
    show Y2 (D.lst (cutD (L.map D.int) (Y2 16) (Y2 63)))=_;rw[bh]
  have sl:=bu L (Y2 16) (Y2 63);generalize cutD L (Y2 16) (Y2 63)=cs0 at sc sl;have ad:addD (.lst [.int 5]) (.lst (cs0.map .int))=Y2 (.lst ((5::cs0).map .int)):=by
    rw[X6 (by simp;omega)];rfl
  generalize C0:(5::cs0:List Int)=cs at ad;have c0:0<cs.length:=by rw[<-C0];simp
  have c1:cs.length<=1000:=by rw[<-C0];simp;omega
  refine⟨rfl,?_⟩;refine⟨.nx [.fz (.lst (L.map .int)),.fz (.int (W.n:Int)),.fz (.dk (eM W.ms)),.fz (.dk (eT W.ts)),.un,.un,.un,.un,.un,.un,.un,.un,.un,.un,.un],?_,?_⟩
  . rw[T _ _ _ (.lst [.int (W.n:Int),.dk (eM W.ms),.dk (eT W.ts)])]
    . rfl
    . show Am _ _ [.fz (.lst (L.map .int)),.un,.un,.un,.un,.un,.un,.un,.un,.un,.un,.un,.un,.un,.un]=_
      simp only[cK,we]
  refine De rfl ⟨.nx [.fz (.lst (L.map .int)),.fz (.int (W.n:Int)),.fz (.dk (eM W.ms)),.fz (.dk (eT W.ts)),.fz (.lst (cs.map .int)),.un,.un,.un,.un,.un,.un,.un,.un,.un,.un],?_,?_⟩
  . have l1:lstO (Y2 [D.int 5])=Y2 (.lst [.int 5]):=rfl
    simp only[cK,sc,l1,ad]
  refine De rfl ⟨.dk [],rfl,λm hm=>⟨.dk [],rfl,λt ht=>?_⟩⟩;have mt:m≠t:=λz=>ht (by rw[<-z];exact bg);refine De (ρ':=[.fz (.lst (L.map .int)),.fz (.int (W.n:Int)),.fz (.dk (eM W.ms)),.fz (.dk (eT W.ts)),.fz (.lst (cs.map .int)),.fz (.lst [.adr m,.adr t]),.un,.un,.un,.un,.un,.un,.un,.un,.un]) rfl ⟨_,Pj (Ql W.ms) rfl,?_⟩;have B1:Cl [(t,.dk []),(m,.dk [])] m t [] []:=⟨by rw[DR _ _ mt];exact Eh _ _ _,Eh _ _ _,λq h=>(nomatch h),λq h=>(nomatch h)⟩;have N0:Lk [(t,.dk []),(m,.dk [])]:=λp hp=>by
    rcases ba.mp hp with z | z
    . rw[z];rfl
    . rw[fN.mp z];rfl
  have L0:(W.ms.map (·.1)).Nodup:=(ck.mp S.nd).1;have K0:(W.ts.map (·.1)).Nodup:=(ck.mp S.nd).2.1;rw[show ((W.ms.map (·.1)).reverse.map D.str)=(W.ms.reverse.map λp=>D.str p.1) by rw[<-iF,cS];rfl];refine ZZ S cs c0 c1 m t mt _ _ _ _ _ _ _ _ _ _ _ _ W.ms.reverse [] _ _ (λp hp=>rW.mp hp) (by rw[mY,lf,iF];exact (lO _).nodup_iff.mpr L0) (by have:=S.m3;simp;omega) B1 N0 (λq h=>(nomatch h)) λI G1 z6 cl1 M0 X0 G0=>?_;refine De rfl ⟨_,Pj (Qm W.ts) rfl,?_⟩;rw[show ((W.ts.map (·.1)).reverse.map D.str)=(W.ts.reverse.map λp=>D.str p.1) by rw[<-iF,cS];rfl];refine Za S cs c0 c1 m t mt I _ _ _ _ _ _ _ _ _ _ _ _ W.ts.reverse [] _ _ (λp hp=>rW.mp hp) (by rw[mY,lf,iF];exact (lO _).nodup_iff.mpr K0) (by have:=S.t3;simp;omega) cl1 M0 (λq h=>(nomatch h)) λrt F J O lk T0 F0=>?_;have Y:Rws W I rt:=⟨X0,T0,by simpa using G0,by simpa using F0⟩;have ft:=Y.ft S;have wk:=Y.wok S;have B0:=Y.like S;have Z:(I.map (·.1)).Nodup:=(ck.mp ft.nd).1;have y0:(rt.map (·.1)).Nodup:=(ck.mp ft.nd).2.1;refine De rfl ⟨[.adr m],.dk (eR iN I),rfl,Vv iN O.lm Z (by have:=ft.m3;omega) O.rm,[.adr t],.dk (eR pN rt),rfl,Vv pN O.lt y0 (by have:=ft.t3;omega) O.rt,?_⟩;refine De (ρ':=[.fz (.lst (L.map .int)),.fz (.int (W.n:Int)),.fz (.dk (eM W.ms)),.fz (.dk (eT W.ts)),.fz (.lst (cs.map .int)),.fz (.lst [.adr m,.adr t]),J,.fz (.lst [.dk (eR iN I),.dk (eR pN rt)]),.un,.un,.un,.un,.un,.un,.un]) rfl ⟨[.int (W.n:Int),.adr m,.adr t],_,rfl,λx=>ZV O ft x,?_⟩;refine De (ρ':=[.fz (.lst (L.map .int)),.fz (.int (W.n:Int)),.fz (.dk (eM W.ms)),.fz (.dk (eT W.ts)),.fz (.lst (cs.map .int)),.fz (.lst [.adr m,.adr t]),J,.fz (.lst [.dk (eR iN I),.dk (eR pN rt)]),.fz (wob ⟨W.n,kp I,kp rt⟩),.un,.un,.un,.un,.un,.un]) rfl ⟨lk,?_⟩;have D0:orT (blF (bF neLD (vF 5) (vF 7))) (notT (trF (Am (Cr) (Aa (vF 8) (Aa (vF 1) (Aa (vF 2) (Aa (vF 3) (nilA)))))))) (pA (derS 6 F) [.fz (.lst (L.map .int)),.fz (.int (W.n:Int)),.fz (.dk (eM W.ms)),.fz (.dk (eT W.ts)),.fz (.lst (cs.map .int)),.fz (.lst [.adr m,.adr t]),J,.fz (.lst [.dk (eR iN I),.dk (eR pN rt)]),.fz (wob ⟨W.n,kp I,kp rt⟩),.un,.un,.un,.un,.un,.un])=Y2 T2:=by
    have d5:der 6 F (.lst [.adr m,.adr t])=.lst [.dk (eR iN I),.dk (eR pN rt)]:=by
      show D.lst [der 5 F (.adr m),der 5 F (.adr t)]=_;rw[R9 1 iN (λx=>Zf _ _ _) O.lm O.rm,R9 1 pN (λx=>Zg _ _ _) O.lt O.rt]
    have d7:der 6 F (.lst [.dk (eR iN I),.dk (eR pN rt)])=.lst [.dk (eR iN I),.dk (eR pN rt)]:=by
      show D.lst [der 5 F (.dk (eR iN I)),der 5 F (.dk (eR pN rt))]=_;rw[Zh 3 F iN (λx=>Zf _ _ _),Zh 3 F pN (λx=>Zg _ _ _)]
    have d2:=ie 4 F W.ms;have d3:=ig 4 F W.ts;have nr:=ne_R I rt;have gd:=Qo wk S B0;have sh:pA (derS 6 F) [.fz (.lst (L.map .int)),.fz (.int (W.n:Int)),.fz (.dk (eM W.ms)),.fz (.dk (eT W.ts)),.fz (.lst (cs.map .int)),.fz (.lst [.adr m,.adr t]),J,.fz (.lst [.dk (eR iN I),.dk (eR pN rt)]),.fz (wob ⟨W.n,kp I,kp rt⟩),.un,.un,.un,.un,.un,.un]
        = [.fz (der 6 F (.lst (L.map .int))),.fz (.int (W.n:Int)),.fz (der 6 F (.dk (eM W.ms))),.fz (der 6 F (.dk (eT W.ts))),.fz (der 6 F (.lst (cs.map .int))),.fz (der 6 F (.lst [.adr m,.adr t])),derS 6 F J,.fz (der 6 F (.lst [.dk (eR iN I),.dk (eR pN rt)])),.fz (wob ⟨W.n,kp I,kp rt⟩),.un,.un,.un,.un,.un,.un]:=rfl
    rw[sh,d5,d7,d2,d3];simp only[cK,nr,gd]
  show (match orT _ _ _ with | some U2=>_ | some T2=>_ | none=>False);rw[D0];refine De rfl ⟨.nx [.fz (.lst (L.map .int)),.fz (.int (W.n:Int)),.fz (.dk (eM W.ms)),.fz (.dk (eT W.ts)),.fz (.lst (cs.map .int)),.fz (.lst [.adr m,.adr t]),J,.fz (.lst [.dk (eR iN I),.dk (eR pN rt)]),.fz (wob ⟨W.n,kp I,kp rt⟩),.fz (.int (V.n:Int)),.fz (.dk (eM V.ms)),.fz (.dk (eT V.ts)),.un,.un,.un],?_,?_⟩
  . rw[T _ _ _ (.lst [.int (V.n:Int),.dk (eM V.ms),.dk (eT V.ts)])]
    . rfl
    . simp only[cK,ve]
  refine De rfl ⟨.nx [.fz (.lst (L.map .int)),.fz (.int (W.n:Int)),.fz (.dk (eM W.ms)),.fz (.dk (eT W.ts)),.fz (.lst (cs.map .int)),.fz (.lst [.adr m,.adr t]),J,.fz (.lst [.dk (eR iN I),.dk (eR pN rt)]),.fz (wob ⟨W.n,kp I,kp rt⟩),.fz (.int (V.n:Int)),.fz (.dk (eM V.ms)),.fz (.dk (eT V.ts)),.fz (wob V),.un,.un],?_,?_⟩
  . have mk:=jr V hv (Aa (vF 9) (Aa (vF 10) (Aa (vF 11) nilA))) [.fz (.lst (L.map .int)),.fz (.int (W.n:Int)),.fz (.dk (eM W.ms)),.fz (.dk (eT W.ts)),.fz (.lst (cs.map .int)),.fz (.lst [.adr m,.adr t]),J,.fz (.lst [.dk (eR iN I),.dk (eR pN rt)]),.fz (wob ⟨W.n,kp I,kp rt⟩),.fz (.int (V.n:Int)),.fz (.dk (eM V.ms)),.fz (.dk (eT V.ts)),.un,.un,.un] rfl
    rw[X8,mk];rfl
  refine De rfl ⟨.lst ((I.map (·.2.1)++rt.map (·.2.1)).map .adr),?_,?_,_,rfl,?_⟩
  . have d5:dvD F (.lst [.adr m,.adr t])=.lst [.dk (dR I),.dk (dR rt)]:=by
      show D.lst [dv1 F (.adr m),dv1 F (.adr t)]=_;have a1:dv1 F (.adr m)=.dk (dR I):=by
        show (match F.lookup m with | some (.dk u0)=>D.dk u0 | _=>.adr m)=_;rw[O.lm]
      have a2:dv1 F (.adr t)=.dk (dR rt):=by
        show (match F.lookup t with | some (.dk u0)=>D.dk u0 | _=>.adr t)=_;rw[O.lt]
      rw[a1,a2]
    have v1:Hs (.dk (dR I))=Y2 (.lst ((I.map (·.2.1)).map .adr)):=by
      show Y2 (D.lst ((dR I).map (·.2)))=_;simp[dR]
    have v2:Hs (.dk (dR rt))=Y2 (.lst ((rt.map (·.2.1)).map .adr)):=by
      show Y2 (D.lst ((dR rt).map (·.2)))=_;simp[dR]
    have D1:addD (.lst ((I.map (·.2.1)).map .adr)) (.lst ((rt.map (·.2.1)).map .adr))=Y2 (.lst ((I.map (·.2.1)++rt.map (·.2.1)).map .adr)):=by
      rw[X6 (by have:=ft.m3;have:=ft.t3;simp;omega)];simp
    have i0:ixE (.lst [.dk (dR I),.dk (dR rt)]) (.int 0)=Y2 (.dk (dR I)):=rfl;have i1:ixE (.lst [.dk (dR I),.dk (dR rt)]) (.int 1)=Y2 (.dk (dR rt)):=rfl;have s5:vF 5 (pA (dvS F) [.fz (.lst (L.map .int)),.fz (.int (W.n:Int)),.fz (.dk (eM W.ms)),.fz (.dk (eT W.ts)),.fz (.lst (cs.map .int)),.fz (.lst [.adr m,.adr t]),J,.fz (.lst [.dk (eR iN I),.dk (eR pN rt)]),.fz (wob ⟨W.n,kp I,kp rt⟩),.fz (.int (V.n:Int)),.fz (.dk (eM V.ms)),.fz (.dk (eT V.ts)),.fz (wob V),.un,.un])=Y2 (.lst [.dk (dR I),.dk (dR rt)]):=by
      show Y2 (dvD F (.lst [.adr m,.adr t]))=_;rw[d5]
    have fin:∀U:Rho,vF 5 U=Y2 (.lst [.dk (dR I),.dk (dR rt)])->bF addD (uF Hs (bF ixE (vF 5) (kF (.int 0)))) (uF Hs (bF ixE (vF 5) (kF (.int 1)))) U=Y2 (.lst ((I.map (·.2.1)++rt.map (·.2.1)).map .adr)):=λU h=>by
      show ((((vF 5 U).bind λx=>ixE x (.int 0)).bind Hs).bind λx=>(((vF 5 U).bind λy=>ixE y (.int 1)).bind Hs).bind λy=>addD x y)=_;rw[h];show ((Hs (.dk (dR I))).bind λx=>(Hs (.dk (dR rt))).bind λy=>addD x y)=_;rw[v1,v2];exact D1
    exact fin _ s5
  . show List.all _ _=U2
    rw[gz];intro d hd;obtain⟨a,_,rfl⟩:=aS.mp hd;rfl
  refine R_ m t (dR I) (dR rt) _ _ _ _ _ _ _ _ _ _ _ _ _ _ _ _ F _ O.lm O.lt (λc hc=>?_) λE1 v0 S0 O0=>?_
  . rcases dv.mp hc with z | z
    . obtain⟨q,hq,rfl⟩:=aS.mp z
      exact⟨_,O.rm q hq⟩
    . obtain⟨q,hq,rfl⟩:=aS.mp z
      exact⟨_,O.rt q hq⟩
  have zb:∃k',Bc (.dk (dR I)) (.str "zebra") (.lst [.int 0])=Y2 (.dk k'):=⟨_,Gq _ _ _ (by have:=ft.m3;simp[dR];omega)⟩;obtain⟨k',zb⟩:=zb;refine De rfl ⟨.lst [.int 0],rfl,.str "zebra",m,.dk (dR I),.dk k',rfl,rfl,S0,zb,?_⟩;refine De rfl ⟨t,dR rt,rfl,by rw[Bh,if_neg (bv mt)];exact O0,?_⟩;have wm:C_ [wob ⟨W.n,kp I,kp rt⟩]=Y2 (.lst ((Bf (mw ⟨W.n,kp I,kp rt⟩)).map .str)):=by
    have f1:=Ny ⟨W.n,kp I,kp rt⟩;have s1:sdkD (.dk (oM (kp I)))=Y2 (.lst ((Bf ((kp I).map (·.1))).map .str)):=K5 (Rz _) (by rw[DP];exact Z) (by have:=ft.m3;simp[kp];omega);show uF sdkD (uF (fldD "marked") (vF 0)) [.fz (wob ⟨W.n,kp I,kp rt⟩)]=_;simp only[cK,f1,s1]
  have wt:DX [wob ⟨W.n,kp I,kp rt⟩]=Y2 (.lst ((Bf (tw ⟨W.n,kp I,kp rt⟩)).map .str)):=by
    have f1:=T6 ⟨W.n,kp I,kp rt⟩;have s1:sdkD (.dk (oT (kp rt)))=Y2 (.lst ((Bf ((kp rt).map (·.1))).map .str)):=K5 (R1 _) (by rw[DP];exact y0) (by have:=ft.t3;simp[kp];omega);show uF sdkD (uF (fldD "tied") (vF 0)) [.fz (wob ⟨W.n,kp I,kp rt⟩)]=_;simp only[cK,f1,s1]
  refine De rfl ⟨_,_,rfl,di _,wm,λp hp=>⟨_,_,rfl,dm _,wt,λq hq=>?_⟩⟩;have pq:p≠q:=λz=>hq (by rw[<-z];exact bg);have ln:(Bf (mw (⟨W.n,kp I,kp rt⟩:Wl))).length<=100:=cE (ZP (by show ((kp I).map (·.1)).Nodup;rw[DP];exact Z)) (by have:=ft.m3;show ((kp I).map (·.1)).length<=100;simp[kp];omega);refine De (ρ':=[.fz (.lst (L.map .int)),.fz (.int (W.n:Int)),.fz (.dk (eM W.ms)),.fz (.dk (eT W.ts)),.fz (.lst (cs.map .int)),.fz (.lst [.adr m,.adr t]),J,.fz (.lst [.dk (eR iN I),.dk (eR pN rt)]),.fz (wob ⟨W.n,kp I,kp rt⟩),.fz (.int (V.n:Int)),.fz (.dk (eM V.ms)),.fz (.dk (eT V.ts)),.fz (wob V),v0,.fz (.lst [.adr p,.adr q])]) rfl ⟨p,[.str "w"],.lst ((Bf (mw ⟨W.n,kp I,kp rt⟩)).map .str),.non,.lst ((Bf (mw ⟨W.n,kp I,kp rt⟩)).map .str++[.str "w"]),rfl,rfl,by rw[DR _ _ pq];exact Eh _ _ _,?_,?_⟩
  . show (if ((Bf (mw (⟨W.n,kp I,kp rt⟩:Wl))).map D.str).length<sizeLine then Y2 (D.non,D.lst _) else X2)=_
    rw[if_pos (by rw[aw];exact km ln (by decide))]
  refine De rfl ⟨q,(Bf (tw ⟨W.n,kp I,kp rt⟩)).map .str,rfl,by rw[Bh,if_neg (bv pq)];exact Eh _ _ _,?_⟩;have g1:=Qo hv hv (bw V);have g2:=Qo wk S B0;refine De rfl ⟨.rt (.bl U2) [.fz (.lst (L.map .int)),.fz (.int (W.n:Int)),.fz (.dk (eM W.ms)),.fz (.dk (eT W.ts)),.fz (.lst (cs.map .int)),.fz (.lst [.adr m,.adr t]),J,.fz (.lst [.dk (eR iN I),.dk (eR pN rt)]),.fz (wob ⟨W.n,kp I,kp rt⟩),.fz (.int (V.n:Int)),.fz (.dk (eM V.ms)),.fz (.dk (eT V.ts)),.fz (wob V),v0,.fz (.lst [.adr p,.adr q])],?_,rfl⟩
  . simp only[cK,g1,g2]
theorem Zi:∀L:List Int,L.length<=63->Ro [.lst (L.map .int)]=Y2 (.bl U2):=by
 intro L Y;obtain⟨e,F,z⟩:=bG (g:=runM 15 1 Vj) (P:=dW) (d:=.bl U2) (bx L Y) rfl;rw[show Ro [.lst (L.map .int)]=Y2 e from F,show e=.bl U2 from z]
end K01
end
open PySem PySem.W PyProof.Rows
theorem L2.head_at{r:OpenRow}{q:cq}{d:DefRec}{z:List (Str×Expr)}{N:Nat}(H:Hook)(Z:LeftO r.prog q loose (λs=>xlAt q [] s&&recOk r.records s) H.obs H.val N)(W:defOf q r.name=Y2 (d,z))(U:r.prog.theDef r.name=Y2 (d.params,d.body,d.scope))(S:kwWritten? d.params.kwonlyargs d.params.kw_defaults=Y2 z)(T:(!r.writes||r.records.isEmpty)=U2)(L:r.wellSaid=U2)(O:(chainsOk q&&opensWell r.prog&&(frees r.toRowW&&r.within.isEmpty))=U2)(J:r.prog.bare)(I:r.toRowW.promised)(F:WalkO q loose (XL q []) H.says r.toRowW d z λf vs=>oH f vs):r.Holds:=
 holds_open (XP:=XL q []) Z H.of H.keeps (λs e=>xl_of s (rX.mp e).1) XL.keeps W U S (λ_ e=>recFacts_of (rX.mp e).2) T L O J I F
set_option maxHeartbeats 0 in
theorem PySem.Challenge.cw_twinrounds_k01_worlds_asked_holds : PySem.Challenge.rw_twinrounds_k01_worlds_asked.Holds := by
 w_on;o_law;refine L2.head_at (q:=K01.vw) (loose:=[]) (N:=6000) K01.hook K01.look (by rfl) (by rfl) (by rfl) (by rfl) (by assumption) (by decide +kernel) ⟨rfl,rfl,rfl,rfl,rfl,by decide +kernel⟩ ?_ ?_
 .w_witness2
 unfold K01.hook
 k_fill
 refine L2.Z6 (l:=rZ) (n:=63) (k:=5) (x:="_law_script") (CX:=λ_=>L2.CX0) (sp:=λw=>K01.dZ _) rfl (by decide) rfl ⟨rfl,by decide,by decide⟩ (λw h Y=>PySem.W.kIn_of Y) ?F (λ_ _ a ns hl _ hS=>⟨a,ns,rfl,hS,hl,λ_=>rfl⟩) λ_ _ _ _ _ z=>z
 case F=>
  intro w mg fa h KX G hmg;have TT:∃C_World:Addr,∃T:K01.Tx (K01.gx (L2.KOf KX) C_World) mg,∀(s:ae) (u:ac),lX s T.x_law.fd ⟨[u],[]⟩ [("_law_script",u)]:=by
   dsimp only [L2.KOf];refine' ⟨_,{ C_World:=_,gc_World:=PV.gR,cl_World:=(PV.cls KX ?pg_World ?hd_World ?po_World ?sa_World :),mC_World:=mo KX G ?aC_World,x__law_cell:=(PV.dx KX G ?a0 ?l0 ?c0 ?k0 ?b0 :),x__law_words:=(PV.dx KX G ?a1 ?l1 ?c1 ?k1 ?b1 :),x__law_bits:=(PV.dx KX G ?a2 ?l2 ?c2 ?k2 ?b2 :),x__law_world:=(PV.dx KX G ?a3 ?l3 ?c3 ?k3 ?b3 :),x_refuse_above:=(PV.dx KX G ?a4 ?l4 ?c4 ?k4 ?b4 :),x_refuse_no_thing:=(PV.dx KX G ?a5 ?l5 ?c5 ?k5 ?b5 :),x_kept_things:=(PV.dx KX G ?a6 ?l6 ?c6 ?k6 ?b6 :),x_kept_pairs:=(PV.dx KX G ?a7 ?l7 ?c7 ?k7 ?b7 :),x_is_word:=(PV.dx KX G ?a8 ?l8 ?c8 ?k8 ?b8 :),x_World___init__:=(PV.ix KX ?mk_World ?kc_World ?a9 ?i9 ?l9 ?c9 ?k9 ?b9 :),x__law_strewn:=(PV.dx KX G ?a10 ?l10 ?c10 ?k10 ?b10 :),x__law_copy:=(PV.dx KX G ?a11 ?l11 ?c11 ?k11 ?b11 :),x_World_mark_words:=(PV.mx KX ?a12 ?i12 ?l12 ?c12 ?k12 ?b12 :),x_World_tie_words:=(PV.mx KX ?a13 ?i13 ?l13 ?c13 ?k13 ?b13 :),x__law_whole:=(PV.dx KX G ?a14 ?l14 ?c14 ?k14 ?b14 :),x__law_truth:=(PV.dx KX G ?a15 ?l15 ?c15 ?k15 ?b15 :),x_World_has:=(PV.mx KX ?a16 ?i16 ?l16 ?c16 ?k16 ?b16 :),x_World_leads:=(PV.mx KX ?a17 ?i17 ?l17 ?c17 ?k17 ?b17 :),x__law_good:=(PV.dx KX G ?a18 ?l18 ?c18 ?k18 ?b18 :),x_law:=(PV.dx KX G ?a19 ?l19 ?c19 ?k19 ?b19 :),fl_size:=(PV.Tr KX (PV.cls KX ?pg_World ?hd_World ?po_World ?sa_World) ?n_World_size :),fl_marked:=(PV.Tr KX (PV.cls KX ?pg_World ?hd_World ?po_World ?sa_World) ?n_World_marked :),fl_tied:=(PV.Tr KX (PV.cls KX ?pg_World ?hd_World ?po_World ?sa_World) ?n_World_tied :),z_all:=iL KX G ?z_all,z_bool:=iL KX G ?z_bool,z_int:=iL KX G ?z_int,z_isinstance:=iL KX G ?z_isinstance,z_len:=iL KX G ?z_len,z_list:=iL KX G ?z_list,z_range:=iL KX G ?z_range,z_reversed:=iL KX G ?z_reversed,z_sorted:=iL KX G ?z_sorted,s_MOST_LETTERS:=(PV.sx (f:=(.int 8)) KX G ?a_MOST_LETTERS :),s_LETTERS:=(PV.sx (f:=(.str "abcdefghijklmnopqrstuvwxyz")) KX G ?a_LETTERS :),s_MOST_THINGS:=(PV.sx (f:=(.int 5)) KX G ?a_MOST_THINGS :),s_MOST_WORDS:=(PV.sx (f:=(.int 3)) KX G ?a_MOST_WORDS :),c_KEPT_TEXTS:=(PV.kx (xs:=["not","and","or","some","all"]) KX G ?a_KEPT_TEXTS ?l_KEPT_TEXTS ?h_KEPT_TEXTS ?v_KEPT_TEXTS :) },?bt⟩
   case aC_World | pg_World | hd_World | po_World | sa_World | mk_World | kc_World | n_World_size | n_World_marked | n_World_tied | a0 | l0 | c0 | k0 | a1 | l1 | c1 | k1 | a2 | l2 | c2 | k2 | a3 | l3 | c3 | k3 | a4 | l4 | c4 | k4 | a5 | l5 | c5 | k5 | a6 | l6 | c6 | k6 | a7 | l7 | c7 | k7 | a8 | l8 | c8 | k8 | a9 | i9 | l9 | c9 | k9 | a10 | l10 | c10 | k10 | a11 | l11 | c11 | k11 | a12 | i12 | l12 | c12 | k12 | a13 | i13 | l13 | c13 | k13 | a14 | l14 | c14 | k14 | a15 | l15 | c15 | k15 | a16 | i16 | l16 | c16 | k16 | a17 | i17 | l17 | c17 | k17 | a18 | l18 | c18 | k18 | a19 | l19 | c19 | k19 | z_all | z_bool | z_int | z_isinstance | z_len | z_list | z_range | z_reversed | z_sorted | a_MOST_LETTERS | a_LETTERS | a_MOST_THINGS | a_MOST_WORDS | a_KEPT_TEXTS | l_KEPT_TEXTS=>k_is
   case b8 | b11 | b12 | b13 | b14 | b19=>exact λ_ _ _ _ _ _ us hl=>by (obtain⟨_,rfl⟩:=PV.dI hl;rfl)
   case b0 | b1 | b2 | b3 | b4 | b5 | b6 | b7 | b10 | b15=>exact λ_ _ _ _ _ _ us hl=>by (obtain⟨_,_,rfl⟩:=PV.dJ hl;rfl)
   case b16=>exact λ_ _ _ _ _ _ us hl=>by (obtain⟨_,_,_,rfl⟩:=PV.dM hl;rfl)
   case b9 | b17 | b18=>exact λ_ _ _ _ _ _ us hl=>by (obtain⟨_,_,_,_,rfl⟩:=PV.jj hl;rfl)
   case h_KEPT_TEXTS=>decide
   case v_KEPT_TEXTS=>exact .cons ⟨_,rfl⟩ (.cons ⟨_,rfl⟩ (.cons ⟨_,rfl⟩ (.cons ⟨_,rfl⟩ (.cons ⟨_,rfl⟩ (.nil)))))
   case bt=>exact λs u=>.of_eq rfl
  obtain⟨C_World,T,e1⟩:=TT;have e0:fa=T.x_law.f:=by
   have q:=hmg.symm.trans T.x_law.m;cases q;rfl
  subst e0;exact⟨T.x_law.fd,e1,λbase kb nb=>(K01.gw (w:=w) (base:=base) T).imp (K01.g8 K01.Zi)⟩
