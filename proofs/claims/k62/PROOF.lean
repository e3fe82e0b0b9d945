import PyProof.Rows.All
import Wide.All
import OpenK.AllK
import Wide.FinOn
import Lean
import PyProof.EqAt
import PyProof.EqKinds
import PyProof.TupleCall
import PyProof.TupleKey
import PyProof.DictRoadsH
import PyProof.StationsW
import PyProof.DictWalks
import PyProof.DictItemsLoops
import KE.KPairComp
import KE.KDictList
import PyProof.StrWalks
import PyProof.ConsumeWalk
import PySem.SetOps
import KE.KSortTup
import PyProof.DictUpdate
import PyProof.ExcClass2
import PyProof.ExcClass3
import PyProof.ExcArgsOwn
import PyProof.ExcAttrAll.ValueError
import PyProof.InstStoreFacts
import PyProof.StrLawsRepr
import PyProof.ReprStr
import PyProof.NsDelKeeps
import PyProof.RulesAs
import KE.KIsAll
import KE.KRevIter
import PyProof.EnumMake
import PyProof.MeetsSeq
import PySem.Challenge.RW_twinrounds_k62_reply
set_option compiler.extract_closed false
set_option genSizeOf false
set_option Elab.async false
set_option linter.all false
set_option maxRecDepth 100000
set_option maxHeartbeats 4000000
open Array renaming length_toList->z0_,forIn_toList->z44,replicate->z4D,mk->z4X,getElem?_eq_getElem->z5q,toList->z68,mem_toList_iff->z6a,toList_inj->z6S,getElem?_eq_none->z72,getElem?_eq_some_iff->z7a,getElem?_toList->z7g,toList_map->z8E,perm_iff_toList_perm->z9l,getD_eq_getD_getElem?->z9m
open Bool renaming false_ne_true->z0D,false_eq_true->z0G,and_eq_true->z0U,eq_iff_iff->z1V,not_true->z24,true_and->z41,false_and->z4b,and_true->z6N,not_false->z7R,false_or->z8n,eq_false_iff->z91,or_eq_true_iff->z92,and_eq_true_iff->z9W
open Classical renaming byContradiction->z5y
open False renaming elim->z1n
open ForInStep renaming yield->z3R
open Function renaming comp_def->z0V
open Int renaming toNat_natCast->z19,emod_nonneg->z4L,emod_lt_of_pos->z4M,le_refl->z5S,toNat_of_nonneg->z7f,fdiv_eq_ediv_of_nonneg->z85,ediv_one->z8e
open List renaming length_map->z06,map_cons->z0c,range->z0e,mem_map->z0g,mem_cons->z0j,lookup->z0m,getElem?_map->z0o,map_map->z0p,lookup_cons->z0q,size_toArray->z0r,length_cons->z0u,mem_range->z0w,mem_cons_of_mem->z0y,getElem?_eq_getElem->z0C,mem_cons_self->z0L,length_append->z0N,length->z0P,map_append->z0S,nodup_append->z0W,mem_append->z0Y,map_nil->z12,all_eq_true->z1a,getElem_mem->z1b,append_nil->z1d,length_take->z1g,set_cons_zero->z1i,set_cons_succ->z1j,getElem?_set_ne->z1m,getElem?_eq_some_iff->z1s,pairwise_map->z1B,nil_append->z1G,getElem?_cons_zero->z1R,getElem?_append_right->z1X,pairwise_cons->z22,getElem?_cons_succ->z23,mem_append_right->z27,getElem?_append_left->z2b,mem_singleton->z2c,Nodup->z2d,getElem?_set_self->z2j,nodup_cons->z2l,mem_filter->z2r,length_nil->z2y,length_range->z2B,length_eq_zero_iff->z2C,length_drop->z2P,getElem?_eq_none->z2Q,mem_of_getElem?->z3c,any_cons->z3g,find?_cons->z3h,map_congr_left->z3m,mem_iff_getElem->z3s,map_take->z3t,getD_eq_getElem?_getD->z3w,replicate_succ->z3z,replicate_zero->z3A,cons_append->z3B,length_set->z3S,pairwise_iff_getElem->z3Z,replicate->z4h,length_replicate->z4j,all_cons->z4m,length_singleton->z4n,drop_eq_getElem_cons->z4q,eq_nil_of_length_eq_zero->z4v,nodup_range->z4x,mem_iff_getElem?->z4y,getElem?_zip_eq_some->z4z,getElem?_range->z4B,zip_cons_cons->z4T,getElem_of_mem->z5n,mem_erase_of_ne->z5v,length_erase_of_mem->z5w,length_pos_of_mem->z5x,take_append_drop->z5z,mem_of_find?_eq_some->z5A,map_drop->z5G,foldr_cons->z5J,filterMap_cons->z63,mem_append_left->z64,mem_filterMap->z69,of_mem_zip->z6l,getElem?_replicate->z6n,getElem?_take_of_lt->z6o,take_sublist->z6p,filterMap_map->z6w,getElem?_drop->z6H,take_of_length_le->z6J,range_succ->z6K,drop_length->z6O,set_append_right->z6P,append_assoc->z6Q,length_pos_iff->z6T,getD->z6X,any_map->z75,getElem?_inj->z7b,mem_of_mem_take->z7c,find?_some->z7d,find?_eq_none->z7e,take_succ->z7F,take_length->z7G,length_filter_le->z7I,getElem_map->z7K,any_eq_false->z86,drop_zero->z8w,ext_getElem?->z8x,range_succ_eq_map->z8y,not_mem_nil->z8z,any_eq_true->z8L,drop_of_length_le->z8S,getElem_take->z8Y,mem_of_mem_drop->z8Z,pairwise_append->z8_,pairwise_lt_range->z94,ext_getElem->z98,find?_isSome->z9f,perm_middle->z9i,toArray->z9n,not_lt->z9r,length_eraseIdx->z9s,idxOf_lt_length_iff->z9I,getElem_idxOf->z9K,filter_cons->z9L,filter_sublist->z9M,eraseIdx_eq_take_drop_succ->z9R
open List.Nodup renaming sublist->z7E
open List.Pairwise renaming imp_of_mem->z2W,nil->z5t,imp->z7H
open List.Perm renaming refl->z4F,cons->z5F,swap->z9h
open List.cons renaming injEq->z4U
open Nat renaming le_refl->z07,ne_of_lt->z0i,le_trans->z0E,lt_of_lt_of_le->z0X,zero_le->z18,lt_irrefl->z1l,le_succ->z1N,zero_add->z1Q,not_lt->z1Z,lt_succ_of_lt->z2n,ne_of_gt->z2H,lt_of_le_of_lt->z3k,sub_self->z3l,reduceAdd->z3x,reduceSub->z3y,le_of_lt->z3F,lt_succ_self->z4e,le_of_lt_succ->z4C,add_assoc->z4R,le_succ_of_le->z5l,lt_trichotomy->z5u,mod_lt->z5B,mul_comm->z5R,lt_or_ge->z5T,le_of_eq->z6f,succ_ne_self->z6G,min_self->z6M,le_zero->z7J,lt_trans->z8p,min_eq_left->z8Q,min_eq_right->z8R,lt_or_eq_of_le->z8V,add_zero->z90,succ_pos->z93,pos_of_ne_zero->z9d,mul_add_div->z9N,div_eq_of_lt->z9O,mul_add_mod->z9P,mod_eq_of_lt->z9Q,exists_eq_succ_of_ne_zero->z9S,le_total->z9T,le_one_iff_eq_zero_or_eq_one->z9V
open Nat.succ renaming inj->z4J
open Ne renaming symm->z0n
open Option renaming bind_some->z0J,map_some->z1z,map_eq_some_iff->z1T,isNone_iff_eq_none->z3r,isSome_map->z4p,bind_eq_some_iff->z4E,getD->z5E,isSome_iff_exists->z6m,getD_none->z8i,none->z8v,bind_eq_bind->z95
open Option.some renaming inj->z0t,injEq->z6W
open Or renaming inr->z0v,inl->z0K
open Prod renaming ext->z3d
open Prod.mk renaming injEq->z3C,inj->z7S
open PyProof.Rows renaming envOfC->z1D,AllBare->z2i,seqObj->z2Z,IntsAre->z3e,isTrue_and->z3I,callWith_type1->z55,subscriptTail->z5e,StrsAre->z5L,isTrue_and_nil->z66,isTrue_not->z67,slot_tuple_getitem->z6x,Subscript_->z6z,listUpdate_at->z7l,seqEpoch_at->z7m,entry_proto_collect'->z7p,entry_list_iadd'->z7q,kind_sorted->z7s,plain_sorted->z7t,entry_sorted->z7u,args_sorted1->z7v,slot_list_sort->z7x,entry_list_sort->z7y,args_list_sort->z7z,sortedHeap_at->z7A,sortedHeap_old->z7B,arrOf->z7C,subscriptTail_builtinR->z8g,kmk_tree->z8D,wpAny_notIn_heap->z9e,risingS->z9w,listItems_at->z9A
open PyProof.Rows.F renaming plain_set_update_loop->z9k
open PyProof.Rows.IsTup renaming new->z6A
open PyProof.Rows.SortSt renaming mk'->z9o
open PySem renaming Value->z00,wpAny_bind->z01,wpAny->z02,Shared->z03,model->z04,wpAny_pure->z05,starEach->z09,Around->z0a,cLine->z0h,World->z0k,Program->z0s,bootBuiltins->z0x,backTo->z0z,intItems->z0A,compareOp->z0B,rawInt->z0H,atKey->z0I,pyNext->z0M,argBest->z0Q,numAt->z0R,mainGlobals->z0T,behindInMarks->z0Z,codeAny->z11,sysModules->z16,Builtin->z1e,keywordEach->z1f,wpAny_call_entry->z1k,swapsWith->z1o,sizeLine_eq->z1p,attributeBase->z1q,wpAny_mono->z1t,binaryOp->z1u,holding->z1v,backToKw->z1x,codeAny_builtin->z1A,assignEach->z1C,Walks->z1E,wpAny_truthy_bool->z1I,execs->z1J,wpAny_field->z1O,wpAny_newObj_type->z1P,wpAny_seqItems->z1S,wpAny_execs_nil->z1U,standAt->z1W,plainId_quiet->z1_,Scope->z25,wpAny_execs_cons->z26,getMethod->z28,callWith->z29,NameKind->z2a,IsEnum->z2e,Paired->z2h,FuncData->z2k,wpAny_tryCatch->z2p,wpAny_specialOf->z2q,CmpOp->z2s,pyIter->z2t,Result->z2u,getItem->z2w,wpAny_callSpecial?_slot->z2x,DictEntry->z2z,relabel->z2A,wpAny_letGo->z2D,wpAny_setState_of->z2E,isTrue->z2G,codeAny_mono->z2J,Keyword->z2K,bindL->z2L,bindC->z2M,IsPart->z2O,seqItems?->z2R,wpAny_updateSeq->z2S,argsOk->z2T,isSubtype_type->z2U,setNext->z2X,pickOrder->z2Y,field->z30,Value->z31,wpAny_forIn_list->z32,wpAny_rule->z33,wpAny_isInstance->z34,tupleKind->z39,wpAny_passesOwn->z3a,foldedSetIterable->z3b,sliceBounds->z3f,valueAt->z3i,callerA->z3j,wpAny_setField->z3p,collect->z3u,wpAny_Name->z3G,wpAny_isTrue_Compare1->z3H,assign->z3J,wpAny_Call_Name_kw->z3O,updateSeq->z3T,newExc->z3V,wpAny_attempt->z3W,wpAny_askSetting->z3Y,wpAny_newList->z3_,tupleKeyHash->z42,treeTable->z45,entryOfKey->z47,wpAny_If->z48,PassesOwn->z49,wpAny_load->z4a,wpAny_pyIter_tuple->z4c,BindsTo->z4f,bindArgs->z4g,mem_of_lookup->z4i,wpAny_typeOf->z4k,subscripted->z4l,storedH->z4o,wpAny_of_eq->z4r,intItems_at->z4s,wpAny_setField_rec->z4K,Addr->z4N,Str->z4O,IsTupleKey->z4P,isInstance->z4S,eqIsQuiet->z4W,wpAny_Return_some->z50,letOwnedTupleGo->z51,wpAny_pyIter_list->z54,wpAny_call->z59,concat_meets->z5b,tupleKind_room_in1->z5f,wpAny_Assign_Subscript->z5g,lookup_relabel_local->z5h,wpAny_getItem_str_slice->z5j,post_val_or_str->z5k,newTuple->z5o,wpAny_fieldsOf->z5p,ofAClassStatement->z5C,hashByValue->z5D,wpAny_runValue->z5H,firstArgMember->z5I,setsByText->z5K,wpAny_pyIter_enum->z5M,reduceHash->z5U,wpAny_tupleItemsOf->z5V,isSubtype_tuple_tuple->z5W,carriedByValue->z5X,wpAny_eqBool_int->z5Z,Within->z60,builtinsNs->z62,wpAny_Constant_int->z65,wpAny_standAt->z6k,noFill_tuple_add->z6q,seq_tuple_add->z6r,typeLookup->z6y,typeIs_str->z6C,call_meets->z6E,wpAny_Dict_empty->z6F,sliceRange->z6I,wpAny_dictEntries->z6Z,wpAny_dictEpoch->z6_,isSubtype_stop->z73,wpAny_pyIter_slot->z74,call->z78,setSearchFrom->z7h,unsupported->z7i,wpAny_setEntries_of->z7n,checkCount->z7w,Shared->z7L,Expr->z7M,Stmt->z7N,wpAny_pyHash_tuple->z7P,wpAny_eqBool_tuple->z7Q,wpAny_loadName_local->z7Y,wpAny_loadName_cell->z7Z,wpAny_loadName_free->z7_,wpAny_pyNext_list_item->z82,wpAny_pyNext_list_end->z83,slot_list_getitem->z8h,wpAny_getItem_heap->z8q,wpAny_setItem_heap->z8r,getitemInPython_of_ne->z8s,wpAny_letTemporaryGo->z8t,wpAny_pyIter_keyiter->z8G,wpAny_Call_method->z8H,searchCouldBeSeen->z9b,wpAny_eqIsQuiet_tuple->z9c,Slot->z9p,builtinLookup_eq_fast->z9q,wpAny_letOwnedTupleGo_enum->z9B
open PySem.Around renaming under_plainId->z2o,under->z6i
open PySem.AutoSeq1 renaming wpAny_loadPart'->z5Q
open PySem.Builtin renaming bitAnd->z3K
open PySem.Builtin.Builtins renaming bindParams->z5m
open PySem.Builtin.Dict_items renaming ownsTuple->z70
open PySem.Builtin.Int renaming intBits->z1r
open PySem.Builtin.List renaming listExtendWith->z4I,listLengthHint->z9t,listSameRef->z9v
open PySem.Builtin.Range renaming rangeSize->z84
open PySem.Builtin.Slice renaming slicePlaces->z5c,sliceAdjust->z6v,sliceApplied->z8f
open PySem.Builtin.SmallTypes renaming nextOf->z5N,ownedTupleIsFree->z9E,ownedTupleHandOut->z9F
open PySem.Builtin.Str renaming occurrences->z2I
open PySem.Builtin.Tuple renaming tupleHashOf->z4Q,tupleExact->z5d,tupleItemsOf->z7O
open PySem.Calls renaming call_function_entry->z7r,Name_function_global->z80,spliced_nil->z8b,spliced_cons->z8c,callWith_builtin->z8l,evalArgs_plain->z8m
open PySem.Challenge renaming pw_twinrounds_k62_reply->z9X,rw_twinrounds_k62_reply->z9Y
open PySem.CmpOp renaming NotIn->z81
open PySem.Code renaming isFrame->z6j,quiet_builtin->z79,frames->z8a
open PySem.Data renaming fields->z52,cell->z53
open PySem.F renaming plain_max_loop->z3n,plain_min_loop->z3v,slot_tuple_hash->z43,slot_dict_keyiterator_next->z4w,slot_tuple_eq->z4V,slot_enumerate_next->z5O,slot_tuple_iterator_next->z5P,slot_tuple_add->z6s,entry_tuple_add->z6t,args_tuple_add_2->z6u,entry_max_loop->z6R,slot_dict_getitem->z6U,entry_min_loop->z7D,plainAttrs_list->z8F,slot_dict_items->z8I,entry_dict_keyiterator_next->z8M,args_dict_keyiterator_next_1->z8N,slot_dict_iter->z8O,plain_set_new->z8U,slot_set_iter->z9u,plain_list_iadd->z9x,entry_enumerate_next->z9C,args_enumerate_next_1->z9D,entry_tuple_iterator_next->z9G,args_tuple_iterator_next_1->z9H,slot_list_index->z9J
open PySem.Heap renaming get?_push_of_some->z0d,lt_size->z0f,get?_push_size->z0l,get?_update_other->z13,SameBut->z14,size_push->z1w,get?_update_self->z1F,ExtBut->z4t,get?_push_cases->z4u
open PySem.Heap.SameBut renaming update->z3X,refl->z6V
open PySem.Manifest renaming find?->z71
open PySem.NameKind renaming free->z3Q
open PySem.Obj renaming mapSeq->z1Y,mapFields->z3o,data_mapFields->z3q,isFreed_of_fields->z5r,cls_mapFields->z5s
open PySem.Paired renaming length->z4_,snoc->z8o
open PySem.PassesOwn renaming never->z1c
open PySem.SeqAt renaming EqAt->z2m,in_listAt->z8j,notIn_listAt->z8k
open PySem.SeqAt.EqAt renaming same->z6D,of_refs->z6L,int_str->z7V,str_int->z7W
open PySem.SeqAt.RcAt renaming lists->z8A,lists_lengths->z8B,tuples->z8C
open PySem.SetTable renaming runEnd->z0O,bits->z1h,leap->z20,turns->z21,below->z4H,sizeAbove->z7j,fresh->z7k,slot->z8W,has->z8X,layClean->z96,laid->z97,fits->z99,fill->z9a,grown->z9g,tooFull->z9j
open PySem.SetTable.layClean renaming free->z4A
open PySem.SetTable.probe renaming go->z2V
open PySem.Shared renaming TypeIs->z6Y
open PySem.Str renaming ofString->z0F,empty->z3M,length->z6B
open PySem.Txt renaming slice->z5i
open PySem.Value renaming ref->z0b,none->z15,type->z2g,int->z36,bool->z38,str->z3E,float->z5_,isInt->z7T,isStrOf->z7U,bytes->z7X
open PySem.W renaming Frag->z08,findIn->z17,fnOf->z1y,mg_none_of->z1H,keepIn->z1K,kia_one->z1M,boot_heap->z2f,emptyDict->z2v,instObj->z2F,codeIn->z2N,mg_of->z2_,SharedT->z3D,isFn->z3L,kitOne->z3N,nsIn->z40,plainGet->z4d,kas_rev->z4G,boot_drawn->z4Y,boot_toks->z4Z,lookIn->z56,hasDictIn->z57,methodCall_KW->z58,callWith_K->z5a,methodObj->z61,plainGet_of->z6b,plainOver->z6c,takerIn->z6d,makesIn->z6e,specialIn->z6g,kitx_list->z6h,handedIn->z87,kitx_tuple->z88,kitx_dict->z89,cellsFrom_some->z8d,kdl_call->z8J,kdl_dict->z8K,KdlSrc->z8P,readsIn->z9y,findCls->z9z
open PySem.W.WData renaming int->z3P,weightAll->z76,weight->z77,layable->z8T
open PySem.W.WShape renaming has->z8u
open PySem.Walks renaming list->z3U
open PySem.pickOrder renaming go->z7o
open Sum renaming inl->z35,inr->z37
open Sum.inl renaming inj->z46
open Sum.inr renaming inj->z5Y,injEq->z9U
open True renaming intro->z1L
set_option hygiene false in
local macro_rules
|`(.(0))=>`((z04 X.prog X.w))
|`(.(1))=>`((.int (n:Int)))
|`(.(2))=>`((∀ b o,s.heap.get? b=some o->h'.get? b=some o))
|`(.(3))=>`((x==("__debug__":Str)))
|`(.(4))=>`((λ _=>({ cls:=.type "enumerate",data:=.fields #[.none,.bool false,.ref it,z0H ((i:Nat):Int),.none,old] }:Obj)))
|`(.(5))=>`((.ref s.heap.objs.size))
|`(.(6))=>`((s.heap.objs.size+1))
|`(.(7))=>`((false,eval a X.env))
|`(.(8))=>`((p.1,p.2.map λ q=>.(33)))
|`(.(9))=>`((by first | exact z0K rfl | exact z0v (z0K rfl) | exact z0v (z0v rfl)))
|`(.(10))=>`((.lst .(15)))
|`(.(11))=>`((ps.map pN))
|`(.(12))=>`((kF (.int 1)))
|`(.(13))=>`((s.heap.push { cls:=.type "tuple_iterator",data:=.fields #[.ref t,.int 0 0] }))
|`(.(14))=>`((s.heap.push { cls:=.type "list_iterator",data:=.fields #[.ref l,.int 0 0] }))
|`(.(15))=>`((rows.map pN))
|`(.(16))=>`((p.1,p.2.map λ t=>os.getD t 0))
|`(.(17))=>`((by simp;omega))
|`(.(18))=>`((PV.cls KX ?pg_World ?hd_World ?po_World ?sa_World))
|`(.(19))=>`((PV.cls KX ?pg_Ranks ?hd_Ranks ?po_Ranks ?sa_Ranks))
|`(.(20))=>`((BV I q (by simp)))
|`(.(21))=>`((Same.refl H))
|`(.(22))=>`(((ss.map λ s=>(f,s)).map (rwV W V ps)))
|`(.(23))=>`((insertAt es (t.put j).2 (hP p,z0b b)))
|`(.(24))=>`((some (.Subscript (.Attribute (.Name x p11) f p12) (.Name y p13) p14)))
|`(.(25))=>`((.dk (eT W.ts)))
|`(.(26))=>`((.dk (eM W.ms)))
|`(.(27))=>`((x==("__classdict__":Str)))
|`(.(28))=>`((kF (.int 0)))
|`(.(29))=>`((W.frame _ _ _ st1 λ b hbf o e=>(z13 _ _ (λ z:S=b=>nS (by rw[z];exact hbf))).trans e))
|`(.(30))=>`(((x::r).map λ (t:Nat)=>(t:Int)))
|`(.(31))=>`((l.map λ (t:Nat)=>(t:Int)))
|`(.(32))=>`((.int (W.n:Int)))
|`(.(33))=>`((os.getD q.1 0,os.getD q.2 0))
|`(.(34))=>`((by decide +kernel))
|`(.(35))=>`(((fs.map λ f=>(f,s)).map (rwV W V ps)))
|`(.(36))=>`((∀ b o,b∉wr->b≠S->s.heap.get? b=some o->h'.get? b=some o))
|`(.(37))=>`((z0z pos (z09 es X.env)))
|`(.(38))=>`((Pr5×Addr))
|`(.(39))=>`((.Call (.Attribute (.Name x q1) mth q2) [.Name y q3] [] q4))
|`(.(40))=>`((.lst [.int i1,.int i2,.int i3,.int i4]))
|`(.(41))=>`((.ListComp elt [⟨tg,iter,ifs,0⟩] scope pos))
|`(.(42))=>`((Aa (vF 4) (nilA)))
|`(.(43))=>`((Str×List (Nat×Nat)))
|`(.(44))=>`((∃ (i:Nat) (d:D),its[i]?=some y/\ds[i]?=some d/\eqTo (.tup as) d=true))
abbrev zFr:=PySem.W.Frag
abbrev zQ:=PySem.Value->PySem.Shared->Prop
abbrev zP:=List (PySem.Addr×PySem.Obj)
variable {h h':PySem.Heap}{vs us its:List z31}{o:PySem.Obj}{s:z7L}{a b it p C q:z4N}{Q E:z31->z7L->Prop}{u doc pm cdv ct oc:z31}{P prog:PySem.Program}{w:PySem.World}{t' i n j ep x1 k':Nat}{ch A fp B A0:List z4N}{x c f m qual:z4O}{e tg:z7M}{N ps loose ws:List z4O}{M:PySem.Model}{pos pos' apos tp xpos spos p1 p2 p3 p4 p5 p6 p7 p8 p9 p10 p11 p12 p13 pos2:PySem.Pos}{π:List (z4N×PySem.Obj)}{es:Array (Int×z31)}{body:List z7N}{l:List Nat}{kw:List (z4O×z31)}{env:PySem.Env}{mg:z4O->Option z31}{fd:PySem.FuncData}{sc scope:PySem.Scope}{an od:Option z4N}{osl:Array (Option z31)}{ns:List Int}{st:z7N}{elts:List z7M}{ow:Array (Option Nat)}
theorem zE_ {α:Sort _}(a:α):a=a:=of_eq_true (eq_self a)
namespace PV
open PySem
section
variable {K:Type} [DecidableEq K] (kd:KeyKind prog w K)
inductive NkI (h:Heap):List (List K)->List z00->Prop
 | nil:NkI h [] []
 | cons {k:List K}{b:Addr}{ks:List (List K)}{vs:List z00}:z4P kd h k b->NkI h ks vs->NkI h (k::ks) (.ref b::vs)
def Nest (h:Heap) (ks:List (List K)) (a:Addr):Prop:=∃ o xs n,h.get? a=some o/\o.cls=.type "tuple"/\o.data=.seq xs n/\NkI kd h ks xs.toList
variable {kd}
theorem NkI.inj {h:Heap}{x y:List (List K)}{vs:List z00}(p:NkI kd h x vs):NkI kd h y vs->x=y:=by
 induction p generalizing y with
 | nil=>intro q;cases q;rfl
 | cons a _ ih=>intro q;cases q with | cons b t=>rw[a.inj b,ih t]
theorem NkI.kept {g:Heap}{d:Addr}{es ep} (ho:h.get? d=some o) (hd:o.data=.dict es ep) (hs:z14 d h g) {x:List (List K)}{vs:List z00}(p:NkI kd h x vs):NkI kd g x vs:=by
 induction p with
 | nil=>exact .nil
 | cons a _ ih=>exact .cons (a.keeps ho hd hs) ih
theorem Nest.ty {ks:List (List K)}(x:Nest kd s.heap ks a):s.TypeIs (.ref a) "tuple":=let ⟨o,_,_,g,c,_⟩:=x;⟨o,g,c⟩
theorem Nest.inj {h:Heap}{a:Addr}{x y:List (List K)}(p:Nest kd h x a) (q:Nest kd h y a):x=y:=by
 obtain⟨o,us,n,g,_,d,i⟩:=p;obtain⟨o2,vs,m,g2,_,d2,i2⟩:=q;cases g.symm.trans g2;cases d.symm.trans d2;exact i.inj i2
theorem Nest.kept {h g:Heap}{ks:List (List K)}{a d:Addr}{o:Obj}{es ep} (x:Nest kd h ks a) (ho:h.get? d=some o) (hd:o.data=.dict es ep) (hs:z14 d h g):Nest kd g ks a:=by
 obtain⟨o2,us,n,g2,c,d2,i⟩:=x;refine⟨o2,us,n,(hs.2 a λ z=>?_).trans g2,c,d2,i.kept ho hd hs⟩;subst z;cases ho.symm.trans g2;cases hd.symm.trans d2
def dC (kd:KeyKind prog w K) (ks:List (List K)):Int:=z5U (z4Q (ks.map (z42 kd)))
def Xa (ks:List (List K)):Nat:=(ks.map λ k=>k.length+1).sum+1
variable {A:z0a}
theorem az {ks:List (List K)}{Q:Int->z03->Prop}(hu:A.units+1<z0h) (hk:Nest kd s.heap ks a) (k:Q (dC kd ks) { s with toks:=s.toks+Xa ks }):z02 (z04 prog w) A (pyHash (.ref a)) Q E s:=by
 have ty:=hk.ty;obtain⟨o,us,n,g,_,d,i⟩:=hk;unfold pyHash pyHashByItsType;refine z01 (wpAny_cRoomFor_or (.inr (by omega)) ?_);refine z01 (z2q ty z43.lookup ?_);show z02 _ _ (if (some (Value.builtin "tuple.__hash__")==some z15)=true then _ else _) Q E s;rw[if_neg (by rw[beq_builtin_none];exact z0D)];refine z01 (z2q ty z43.lookup ?_);show z02 _ _ (callSpecialIfBoundUnlessNone? (.ref a) "__hash__" _ >>= _) Q E s;refine z01 (wpAny_callSpecialIfBoundUnlessNone?_slot ty z43 (z1k z43 ty F.entry_tuple_hash ?_ (F.args_tuple_hash_1 _)));show z02 _ _ (z7O (.ref a) >>= _) _ _ s;refine z01 (z5V g d ?_);refine z01 ?_;rw[<-z44];refine z32 _ (λ r (b:Array Int) z=>∃ p q,ks=p++q/\NkI kd s.heap q r/\b.toList=p.map (z42 kd)/\z={ s with toks:=s.toks+(p.map λ k=>k.length+1).sum }) _ ?_ ?_ _ _ ⟨[],ks,rfl,i,rfl,rfl⟩
 ·rintro x r b z ⟨p,q,rfl,il,hb,rfl⟩;cases il with
  | @cons m c q' _ im il'=>
   refine z01 (z7P (s:={ s with toks:=s.toks+(p.map λ k=>k.length+1).sum }) (show A.in1.units<z0h from hu) im ?_);exact z05 ⟨p++[m],q',by simp,il',by simp[hb],by simp[z4R]⟩
 ·rintro b z ⟨p,q,rfl,il,hb,rfl⟩;cases il;rw[z1d] at k;show z02 _ _ (retInt (z4Q b.toList)) _ _ _;rw[hb];refine wpAny_ret_mkInt ?_;generalize hz:z4Q (p.map (z42 kd))=y;unfold dC z5U Xa at k;rw[hz] at k;show z02 _ _ (if (decide (-(2:Int)^63<=y)&&decide (y<2^63))=true then _ else _) Q E _
  by_cases c:(decide (-(2:Int)^63<=y)&&decide (y<2^63))=true
  ·rw[if_pos c] at k ⊢;exact z05 (by simpa [z4R] using k)
  ·rw[if_neg c] at k ⊢;exact z01 (z33 (z05 (by simpa [z4R] using k)))
theorem mj {x y:List (List K)}{P:Fin->z03->Prop}(hu:A.units<z0h) (hx:Nest kd s.heap x a) (hy:Nest kd s.heap y b) (k:P (.done (.ret (.bool (decide (x=y))))) s):z02 (z04 prog w) A (z1e.«tuple.__eq__» ⟨[.ref a,.ref b],[]⟩) P E s:=by
 have ty:=hy.ty;obtain⟨o,us,n,g,_,d,i⟩:=hx;obtain⟨o2,vs,m,g2,_,d2,i2⟩:=hy;show z02 _ _ (z4S (.ref b) (.type "tuple") >>= _) _ _ s;refine z01 (z34 ty z5W ?_);simp only[z24,z0G,if_false];refine z01 (z5V g d (z01 (z5V g2 d2 (z01 ?_))));refine z32 _ (λ r q z=>q.1=none/\z=s/\∃ x' y' us' vs',r=List.zip us' vs'/\NkI kd s.heap x' us'/\NkI kd s.heap y' vs'/\decide (x'=y')=decide (x=y)/\(us'.length==vs'.length)=(us.size==vs.size)) _ ?_ ?_ _ _ ⟨rfl,rfl,x,y,us.toList,vs.toList,rfl,i,i2,rfl,by simp⟩
 ·rintro⟨u,v⟩ r q z ⟨e,rfl,x',y',us',vs',hz,hx',hy',hd,hl⟩;cases hx' with
  | nil=>simp at hz
  | @cons k1 b1 x2 us2 h1 t1=>
   cases hy' with
   | nil=>simp at hz
   | @cons k2 b2 y2 vs2 h2 t2=>
    simp only[z4T,z4U,z3C] at hz;obtain⟨⟨rfl,rfl⟩,rfl⟩:=hz;refine z01 (z7Q hu h1 h2 ?_)
    by_cases c:k1=k2
    ·subst c;rw[decide_eq_true rfl];simp only[z24,z0G,if_false];refine z05 ⟨rfl,rfl,x2,y2,us2,vs2,rfl,t1,t2,?_,by simpa using hl⟩;rw[<-hd]
     by_cases c2:x2=y2<;>simp[c2]
    ·rw[decide_eq_false c];simp only[z7R,if_true];have f:decide (x=y)=false:=by rw[<-hd];simp[c]
     rw[f] at k;exact z01 (z05 (z05 (z05 k)))
 ·rintro⟨q1,q2⟩ z ⟨e,rfl,x',y',us',vs',hz,hx',hy',hd,hl⟩;simp only at e;subst e;refine z05 ?_;have f:(us.size==vs.size)=decide (x=y):=by
   rw[<-hd,<-hl];cases hx' with
   | nil=>cases hy'<;>simp
   | cons _ _=>
    cases hy' with
    | nil=>simp
    | cons _ _=>simp at hz
  show P (.done (.ret (.bool (us.size==vs.size)))) z;rw[f];exact k
theorem mq {x y:List (List K)}{Q:Bool->z03->Prop}(hu:A.units+1<z0h) (hx:Nest kd s.heap x a) (hy:Nest kd s.heap y b) (k:Q (decide (x=y)) s):z02 (z04 prog w) A (eqBool (.ref a) (.ref b)) Q E s:=by
 unfold eqBool;refine wpAny_holding ?_;show z02 _ _ (if (z0b a==z0b b)=true then _ else _) Q E s
 by_cases c:(z0b a==z0b b)=true
 ·rw[if_pos c];have e:a=b:=by have:=eq_of_beq c;injection this
  subst e;cases hx.inj hy;exact z01 (z33 (z05 (by simpa using k)))
 ·rw[if_neg c];exact z01 (wpAny_richCompare_same_room (op:=.Eq) hx.ty hy.ty z4V (z1k z4V hx.ty F.entry_tuple_eq (mj (show A.in1.units<z0h from hu) hx hy ⟨_,rfl,(λ e=>nomatch e),z1I k⟩) (F.args_tuple_eq_2 _ _)) (by omega))
theorem dD (n:Nat) {ks:List K}{a:Addr}{Q:Bool->z03->Prop}(hk:z4P kd s.heap ks a) (k:Q true s):z02 (z04 prog w) A (z4W (n+1) (.ref a)) Q E s:=by
 have ty:=hk.typeIs;obtain⟨o,us,m,g,_,d,i⟩:=hk;unfold z4W;refine z01 (z2q ty z4V.lookup ?_);show z02 _ _ (z4S (.ref a) (.type "tuple") >>= _) _ _ s;refine z01 (z34 ty z5W ?_);simp only[z24,z0G,if_false];refine z01 (z1S g d (z01 ?_));show z02 _ _ (forIn us _ _) _ _ s;rw[<-z44];refine z32 _ (λ r q z=>q.1=none/\z=s/\∀ v∈r,z5X v=true) _ ?_ ?_ _ _ ⟨rfl,rfl,i.byValue⟩
 ·rintro v r q z ⟨e,rfl,al⟩;rw[eqIsQuiet_byValue _ (al v (by simp))];refine z01 (z05 ?_);simp only[z24,z0G,if_false];exact z05 ⟨rfl,rfl,λ u hu=>al u (by simp[hu])⟩
 ·rintro⟨q1,q2⟩ z ⟨e,rfl,_⟩;simp only at e;subst e;exact z05 k
theorem Xb (n:Nat) {ks:List (List K)}{a:Addr}{Q:Bool->z03->Prop}(hk:Nest kd s.heap ks a) (k:Q true s):z02 (z04 prog w) A (z4W (n+2) (.ref a)) Q E s:=by
 have ty:=hk.ty;obtain⟨o,us,m,g,_,d,i⟩:=hk;unfold z4W;refine z01 (z2q ty z4V.lookup ?_);show z02 _ _ (z4S (.ref a) (.type "tuple") >>= _) _ _ s;refine z01 (z34 ty z5W ?_);simp only[z24,z0G,if_false];refine z01 (z1S g d (z01 ?_));show z02 _ _ (forIn us _ _) _ _ s;rw[<-z44];refine z32 _ (λ r q z=>q.1=none/\z=s/\∃ ls,NkI kd s.heap ls r) _ ?_ ?_ _ _ ⟨rfl,rfl,_,i⟩
 ·rintro v r q z ⟨e,rfl,ls,il⟩;cases il with
  | cons im il=>
   refine z01 (dD n im ?_);simp only[z24,z0G,if_false];exact z05 ⟨rfl,rfl,_,il⟩
 ·rintro⟨q1,q2⟩ z ⟨e,rfl,_⟩;simp only at e;subst e;exact z05 k
end
def RG {prog:z0s}{w:z0k}{K:Type} [DecidableEq K] (kd:KeyKind prog w K):HeapKind prog w (List (List K)) where
 is:=Nest kd
 hash:=dC kd
 draws:=Xa
 room:=λ A=>A.units+1<z0h
 inj:=λ p q=>p.inj q
 keeps:=λ x ho hd hs=>x.kept ho hd hs
 pyHash:=λ hu hk k=>az hu hk k
 eqBool:=λ hu hx hy k=>mq hu hx hy k
 quiet:=λ hk k=>Xb 6 hk k
end PV
section
open PySem PySem.W PyProof.Rows
def L2.viewAt (p:z0s) (ks:List Nat):z0s:={ p with main:={ p.main with body:=ks.filterMap λ i=>p.main.body[i]? } }
abbrev K62.R:=PySem.Challenge.rw_twinrounds_k62_reply.row
def K62.vw:z0s:=L2.viewAt z9X [0,2,3,4,5,6,8,9,10,11,12,13,14,15,16,17,18,20,21,22,23,24,25,26,27,29,30,31,33,34,35,36,37,38,40,41,42,43,44,45,46,47,48,49,50,51]
namespace L2T
def runG (st:z3D->Thread->Option (z3D×Thread)) (ok:Thread->Bool):Nat->z3D->Thread->Option z3D
 | 0,_,_=>none
 | n+1,s,t=>match through t with
  | true=>some s
  | false=>match ok t with
   | false=>none
   | true=>match st s t with
    | some (s',t')=>runG st ok n s' t'
    | none=>none
theorem Yq {tb:String->Option z1e}{p:z0s}{w:z0k}{n₀:Nat}{ann:Option z00}:∀ {n:Nat}{s s':z3D}{t:Thread},runG (stepT (denote tb) p w) (stepOk n₀ ann) n s t=some s'->topRun tb p w n₀ ann n s.abs t=some s'.abs
 | 0,_,_,_,h=>by cases h
 | n+1,s,s',t,h=>by
  unfold runG at h;unfold topRun;cases he:through t with
  | true=>rw[he] at h;cases h;rfl
  | false=>
   rw[he] at h;cases hk:stepOk n₀ ann t with
   | false=>rw[hk] at h;cases h
   | true=>
    rw[hk] at h;cases hs:stepT (denote tb) p w s t with
    | none=>rw[hs] at h;cases h
    | some r=>obtain⟨s₂,t₂⟩:=r;rw[hs] at h;rw[stepT_spec hs];exact Yq h
def treeOf (l:List Obj):BT:=(l.foldl (λ (a:BT×Nat) o=>(a.1.ins a.2 o,a.2+1)) (BT.nil,0)).1
noncomputable abbrev boot (w:z0k) (os:OsState):z3D:=⟨treeOf (z2f w.params).objs.toList,11,(z2f w.params).life,z4X [],z4Y,z4Z,os⟩
set_option maxHeartbeats 0 in
theorem boot_abs (w:z0k) (os:OsState):(boot w os).abs=⟨z2f w.params,z4X [],z4Y,z4Z,os⟩:=by kernel_rfl
set_option maxHeartbeats 0 in
theorem a_ (w:z0k):((z2f w.params).isNs z0T,(z2f w.params).objs.size)=(true,11):=by kernel_rfl
noncomputable abbrev ann (w:z0k):Option z00:=(z2f w.params).nsMap z0T "__annotations__"
noncomputable def fits (p:z0s) (w:z0k) (s:z03):Bool:=staticsOk (importedModules p.main.body) (z2f w.params) s.heap&&namesBound p s.heap&&gensDone s&&laidKept (z2f w.params) s.heap
theorem left {p:z0s}{N:Nat}{α:Type}{f:z03->α}{good:z0k->α}(hb:opening p=plainProg p.main.scope.names) (hf:∀ s,fenceModules? p s=some s) (hN:Nat.ble 600 N=true)
  (h:∀ (w:z0k) (os:OsState),(runG (Fast.tw10156331382660048174 (Fast.tw11892475500146522536 Fast.tw14364793385576792824) p w) (Fast.tw6613529449190102663 11 (ann w)) N (boot w os) (topStub p)).map (λ s=>(fits p w s.abs,f s.abs))=some (true,good w)) (w:z0k):(openEnds z45 p w N).map f=some (good w):=by
 obtain⟨⟨h0,gs,d,k,os⟩,e,e'⟩:=z1T.mp (boot_open hb hN hf w);obtain⟨rfl,rfl,rfl,rfl⟩:h0=z2f w.params/\gs=z4X []/\d=z4Y/\k=z4Z:=by simpa using e'
 have h:=h w os;rw[<-Fast.te10156331382660048174,<-Fast.te11892475500146522536,<-Fast.te14364793385576792824,<-Fast.te6613529449190102663] at h;obtain⟨s1,r,q⟩:=z1T.mp h;obtain⟨q1,q2⟩:=z7S q;have t:=Yq r;rw[boot_abs] at t;obtain⟨b1,b2⟩:=z7S (a_ w);have g:topFrom z45 p w N ⟨z2f w.params,z4X [],z4Y,z4Z,os⟩=some s1.abs:=by
  unfold topFrom;dsimp only;rw[b1,b2];show (topRun z45 p w 11 (ann w) N _ (topStub p)).bind _=_;rw[t];show (match fits p w s1.abs with | true=>some s1.abs | false=>none)=_;rw[q1]
 unfold openEnds;rw[e];show (topFrom z45 p w N _).map f=_;rw[g];exact congrArg some q2
end L2T
section
local macro_rules | `(tactic| o_head $H) => `(tactic| exact ‹∀ P : Prop, P› _)
set_option maxHeartbeats 0 in
theorem K62.side (hole:∀ P:Prop,P):K62.R.Holds:=by
 k_head
end
def K62.as:List Addr:=[2,3,15,17,18,20,21,22,29,30,31,32,35,42,44,45,47,48,49,50,51,54,61,63,64,66,67,68,69,70,73,80,82,83,85,86,87,88,89,92,99,100,101,104,105,108,109,110,112,113,115,116,117,119,120,122,123,124,126,127,129,130,131,133,134,136,137,145,147,148,150,151,152,154,155,157,158,159,161,162,164,165,166,168,169,171,172,173,175,176,178,179,180,181,182,183,184,187,189,190,192,193,194,196,197,199,200,201,203,204,206,207,208,210,211,213,214,215,217,218,220,221,222,225,226,227,230,231,232,234,235,237,238,239,242,243,251,253,254,256,257,258,260,261,263,264,265,267,268,270,271,272,274,275,277,278,279,282,283,284,287,288,289,291,292,294,295,296,298,299,301,302,303,304,305,306,307,310,312,313,315,316,317,319,320,322,323,324,326,327,329,330,331,334,335,336,339,340,341,343,344,346,347,348,350,351,353,354,355,357,358,360,361,362,365,366,367,369,370,372,373,374,377,378,379,382,383,384,386,387,389,390,391,393,394,396,397,398,400,401,403,404,405,407,408,410,411,412,414,415,417,418,419,421,422,424,425,426,429,430]
set_option maxHeartbeats 0 in
theorem K62.as_ok:∀ P,K62.as=(K62.side.heap_1 P).map (·.1):=λ _=>by kernel_rfl
noncomputable def K62.hook:Hook:=kHook K62.side.heap_1 K62.as K62.as_ok
set_option maxHeartbeats 0 in
theorem K62.look:LeftO K62.R.prog K62.vw [] (λ s=>xlAt K62.vw [] s&&recOk K62.R.records s) K62.hook.obs K62.hook.val 6000:=by
 rw[show LeftO K62.R.prog K62.vw [] (λ s=>xlAt K62.vw [] s&&recOk K62.R.records s) K62.hook.obs K62.hook.val 6000=∀ w,(openEnds z45 K62.R.prog w 6000).map (λ s=>(openSeen K62.vw [] (importedModules K62.R.prog.main.body) (λ s=>xlAt K62.vw [] s&&recOk K62.R.records s) true s,K62.hook.obs s))=some (openGood K62.vw [],K62.hook.val w) from rfl,Fast.te4187177175401517315];exact L2T.left (by kernel_rfl) (λ _=>by kernel_rfl) rfl (λ w os=>by kernel_rfl)
end
open Lean.Parser.Command in
local macro_rules | `(def $i:declId $s:optDeclSig $v:declVal)=>`(noncomputable def $i:declId $s:optDeclSig $v:declVal) | `(abbrev $i:declId $s:optDeclSig $v:declVal)=>`(noncomputable abbrev $i:declId $s:optDeclSig $v:declVal)
namespace L2
open PySem PySem.Spec PyProof.Rows
abbrev Key:=Sum Int Str
def QV:Key->z00->Bool
 | .inl k,v=>z7T k v
 | .inr x,v=>z7U x v
def keyH (w:z0k):Key->Int
 | .inl k=>hashInt k
 | .inr x=>hashStr w x
theorem Bl:∀ {k:Key}{v:z00},QV k v=true->(∃ i t,k=z35 i/\v=z36 i t)∨(∃ x t,k=z37 x/\v=z3E x t)
 | .inl i,v,h=>by
  obtain⟨t,e⟩:=Value.isInt_shape (k:=i) (v:=v) h;exact .inl ⟨i,t,rfl,e⟩
 | .inr x,v,h=>by
  obtain⟨t,e⟩:=Value.isStrOf_shape (x:=x) (v:=v) h;exact .inr ⟨x,t,rfl,e⟩
theorem bA (i:Int) (t:Tok):QV (.inl i) (.int i t)=true:=by simp[QV,z7T]
theorem bB (x:Str) (t:Tok):QV (.inr x) (.str x t)=true:=by simp[QV,z7U]
theorem uI (a b:Int):decide ((z35 a:Key)=z35 b)=(a==b):=by
 by_cases e:a=b
 ·subst e;simp
 ·have h:¬ (z35 a:Key)=z35 b:=λ q=>e (z46 q);rw[decide_eq_false h];exact (beq_eq_false_iff_ne.mpr e).symm
theorem uJ (a b:Str):decide ((z37 a:Key)=z37 b)=decide (a=b):=by
 by_cases e:a=b
 ·subst e;simp
 ·have h:¬ (z37 a:Key)=z37 b:=λ q=>e (z5Y q);rw[decide_eq_false h,decide_eq_false e]
theorem uK (a:Int) (b:Str):decide ((z35 a:Key)=z37 b)=false:=decide_eq_false (λ q=>nomatch q)
theorem uL (a:Str) (b:Int):decide ((z37 a:Key)=z35 b)=false:=decide_eq_false (λ q=>nomatch q)
def Ao (prog:z0s) (w:z0k):PySem.KeyKind prog w Key where
 is:=QV
 hash:=keyH w
 inj:=λ v a b ha hb=>by
  rcases Bl ha with ⟨i,t,rfl,rfl⟩ | ⟨x,t,rfl,rfl⟩
  ·rcases Bl hb with ⟨j,u,rfl,e⟩ | ⟨y,u,rfl,e⟩
   ·injection e with e1 _;rw[e1]
   ·exact nomatch e
  ·rcases Bl hb with ⟨j,u,rfl,e⟩ | ⟨y,u,rfl,e⟩
   ·exact nomatch e
   ·injection e with e1 _;rw[e1]
 byValue:=λ k v h=>by
  rcases Bl h with ⟨i,t,rfl,rfl⟩ | ⟨x,t,rfl,rfl⟩<;>rfl
 pyHash:=λ hv h=>by
  rcases Bl hv with ⟨i,t,rfl,rfl⟩ | ⟨x,t,rfl,rfl⟩
  ·exact wpAny_pyHash_int h
  ·exact wpAny_pyHash_str h
 eqBool:=λ hu hv h=>by
  rcases Bl hu with ⟨i,t,rfl,rfl⟩ | ⟨x,t,rfl,rfl⟩
  ·rcases Bl hv with ⟨j,u,rfl,rfl⟩ | ⟨y,u,rfl,rfl⟩
   ·rw[uI] at h;exact z5Z h
   ·rw[uK] at h;exact z7V i t y u _ _ _ _ h
  ·rcases Bl hv with ⟨j,u,rfl,rfl⟩ | ⟨y,u,rfl,rfl⟩
   ·rw[uL] at h;exact z7W x t j u _ _ _ _ h
   ·rw[uJ] at h;exact wpAny_eqBool_str h
 «strs»:=λ k x t v h=>by
  rcases Bl h with ⟨i,u,rfl,e⟩ | ⟨y,u,rfl,e⟩
  ·exact nomatch e
  ·injection e with e1 _
   subst e1;cases v<;>rfl
theorem Vw (prog:z0s) (w:z0k) (i:Int) (t:Tok):(Ao prog w).is (.inl i) (.int i t)=true:=bA i t
theorem Vx (prog:z0s) (w:z0k) (x:Str) (t:Tok):(Ao prog w).is (.inr x) (.str x t)=true:=bB x t
inductive V where
 | non | bl (b:Bool) | int (i:Int) | str (x:Str) | byt (b:Array UInt8) | flt (b:UInt64) | ref (a:Addr) | ty (n:String)
 deriving DecidableEq
def RelV:V->z00->Prop
 | .non,u=>u=z15
 | .bl b,u=>u=z38 b
 | .int i,u=>∃ t,u=z36 i t
 | .str x,u=>∃ t,u=z3E x t
 | .byt b,u=>∃ t,u=z7X b t
 | .flt b,u=>∃ t,u=z5_ b t
 | .ref a,u=>u=z0b a
 | .ty n,u=>u=z2g n
abbrev Vals:List V->List z00->Prop:=z2h RelV
theorem Vals.length {xs:List V}{us:List z00}(r:Vals xs us):xs.length=us.length:=z4_ r
theorem Vals.get:∀ {xs:List V}{us:List z00}{i:Nat}{x:V},Vals xs us->xs[i]?=some x->∃ u,us[i]?=some u/\RelV x u
 | _,_,_,_,.nil,e=>by simp at e
 | _,_,0,_,.cons r _,e=>by simp at e;subst e;exact⟨_,rfl,r⟩
 | _,_,i+1,x,.cons _ t,e=>by
  obtain⟨u,h1,h2⟩:=Vals.get (i:=i) (x:=x) t (by simpa using e);exact⟨u,by simpa using h1,h2⟩
theorem Vals.append:∀ {xs ys:List V}{us ws:List z00},Vals xs us->Vals ys ws->Vals (xs++ys) (us++ws)
 | _,_,_,_,.nil,s=>s
 | _,_,_,_,.cons r t,s=>.cons r (Vals.append t s)
theorem Vals.take:∀ {xs:List V}{us:List z00}(n:Nat),Vals xs us->Vals (xs.take n) (us.take n)
 | _,_,0,_=>.nil
 | _,_,_+1,.nil=>.nil
 | _,_,n+1,.cons r t=>.cons r (Vals.take n t)
theorem Vals.drop:∀ {xs:List V}{us:List z00}(n:Nat),Vals xs us->Vals (xs.drop n) (us.drop n)
 | _,_,0,r=>r
 | _,_,_+1,.nil=>.nil
 | _,_,n+1,.cons _ t=>Vals.drop n t
def RelO:Option V->Option z00->Prop
 | some v,some u=>RelV v u
 | none,none=>True
 | _,_=>False
def KV {κ:Type}:List (κ×V)->List (κ×z00)->Prop:=z2h λ (p:κ×V) (q:κ×z00)=>p.1=q.1/\RelV p.2 q.2
def kV:Key->V
 | .inl i=>.int i
 | .inr x=>.str x
inductive HO where
 | lst (xs:List V)
 | tup (xs:List V)
 | dK (kvs:List (Key×V)) | dT (kvs:List (List Key×V))
 | set (S:Int->Bool) (n:Nat)
 | ins (C dx:Addr) (fs:List (Str×V))
 | own (x:Addr)
 | xd (fs:List (Str×V))
 | met (f x:Addr)
 | rng (lo hi:Int)
 | frz (o:Obj) (u:HO)
 | tbl (ps:Array z00)
 | ext (φ:Heap->Prop)
 | mem (F:List (List Key)->Int) (K:z08)
abbrev Hp:=Addr->Option HO
def upd (H:Hp) (a:Addr) (o:HO):Hp:=λ b=>if b=a then some o else H b
theorem Aj {H:Hp}{o:HO}:upd H a o a=some o:=by unfold upd;rw[if_pos rfl]
theorem Ak {H:Hp}{o:HO}(h:b≠a):upd H a o b=H b:=by unfold upd;rw[if_neg h]
theorem rM {H:Hp}{o u:HO}(h:H a=some o) (h':H b=some u) (d:o≠u):a≠b:=by
 intro e;subst e;rw[h] at h';exact d (z0t h')
theorem De {H:Hp}{o:HO}(h:H a=some o) (h':H b=none):a≠b:=by
 intro e;subst e;rw[h] at h';cases h'
def TupAt (K:z08) (H:Hp) (a:Addr) (xs:List V):Prop:=(H a=some (.tup xs)∨∃ o,H a=some (.frz o (.tup xs))) ∨
 ∃ (o:Obj) (its:Array z00) (n:Nat),K.lookup a=some o/\o.cls=.type "tuple"/\o.data=.seq its n/\its.size<=sizeLine/\Vals xs its.toList
def MemK (K:z08) (H:Hp) (ks:List (List Key)) (b:Addr):Prop:=∃ bs:List Addr,TupAt K H b (bs.map V.ref)/\z2h (λ k c=>TupAt K H c (k.map kV)) ks bs
def Kin (ks:List (List Key)):Prop:=∃ ps:List (Nat×Nat),ks=ps.map (λ p=>[.inl (p.1:Int),.inl (p.2:Int)])/\ps.length<=5/\∀ p∈ps,p.1<5/\p.2<5
def Tu:HO->Prop
 | .tup _=>True
 | .frz _ (.tup _)=>True
 | _=>False
section
variable (P:z0s) (w:z0k)
def BL (H:Hp) (h:Heap) (a:Addr):HO->Prop
  | .mem F K=>(a==z16)=false/\∃ xs:List (List (List Key)×Addr×z00),(∀ q∈xs,MemK K H q.1 q.2.1/\Kin q.1/\RelV (.int (F q.1)) q.2.2) ∧
      ∃ o es ep,h.get? a=some o/\o.ExactDict/\o.data=.dict es ep/\es.toList=xs.map (z47 (PV.RG (Ao P w)))/\(xs.map (·.1)).Nodup
  | .lst xs=>xs.length<=sizeLine/\∃ (its:List z00) (n:Nat),Vals xs its/\h.get? a=some { cls:=.type "list",data:=.seq its.toArray n }
  | .tup xs=>xs.length<=sizeLine/\∃ its:List z00,Vals xs its/\IsTup h a its.toArray
  | .dK kvs=>kvs.length<=sizeLine/\(a==z16)=false/\∃ vs,KV kvs vs/\h.DictOf (Ao P w) a vs
  | .dT kvs=>kvs.length<=sizeLine/\(a==z16)=false/\∃ xs:List (List Key×Addr×z00),
      z2h (λ (p:List Key×V) (q:List Key×Addr×z00)=>p.1=q.1/\H q.2.1=some (.tup (p.1.map kV))/\RelV p.2 q.2.2) kvs xs ∧
      ∃ o es ep,h.get? a=some o/\o.ExactDict/\o.data=.dict es ep/\es.toList=xs.map (z47 (z39 (Ao P w)))/\(xs.map (·.1)).Nodup
  | .set S n=>h.SetOf (intKind P w) a S n
  | .ins C dx fs=>H dx=some (.own a)/\fs.length<=1000/\dx≠a/\h.get? a=some (z2F C dx) ∧
      ∃ mA,h.Ns1 dx mA/\(∀ f,RelO (fs.lookup f) (mA f))/\z60 mA (fs.map (·.1))
  | .own _=>∃ o,h.get? a=some o
  | .xd fs=>∃ mA,h.Ns1 a mA/\∀ f,RelO (fs.lookup f) (mA f)
  | .rng lo hi=>∃ t u v,h.get? a=some { cls:=.type "range",data:=.fields #[.int lo t,.int hi u,.int 1 v] }
  | .frz o u=>h.get? a=some o/\BL H h a u
  | .tbl ps=>h.get? a=some { cls:=.none,data:=.fields ps }
  | .met f x=>h.get? a=some (z61 (.ref f) (.ref x))
  | .ext φ=>φ h/\(∃ o,h.get? a=some o)/\∀ h1 h2:Heap,φ h1->(∀ o,h1.get? a=some o->h2.get? a=some o)->φ h2
def HOk (H:Hp) (h:Heap):Prop:=∀ a o,H a=some o->BL P w H h a o
end
section
variable {H H':Hp}{o:HO}
theorem BL.lt (x:BL P w H h a o):a<h.objs.size:=by
 cases o with
 | mem F K=>obtain⟨_,_,_,o,_,_,e,_⟩:=x;exact z0f e
 | lst xs=>obtain⟨_,_,_,_,e⟩:=x;exact z0f e
 | tup xs=>obtain⟨_,_,_,p⟩:=x;exact p.lt
 | dK kvs=>obtain⟨_,_,_,_,o,_,_,e,_⟩:=x;exact z0f e
 | dT kvs=>obtain⟨_,_,_,_,o,_,_,e,_⟩:=x;exact z0f e
 | set S n=>obtain⟨o,_,_,_,e,_⟩:=x;exact z0f e
 | ins C dx fs=>obtain⟨_,_,_,e,_⟩:=x;exact z0f e
 | own y=>obtain⟨_,e⟩:=x;exact z0f e
 | xd fs=>obtain⟨_,⟨_,_,_,e,_⟩,_⟩:=x;exact z0f e
 | rng lo hi=>obtain⟨_,_,_,e⟩:=x;exact z0f e
 | frz ob u=>obtain⟨e,_⟩:=x;exact z0f e
 | tbl ps=>exact z0f (show h.get? a=some _ from x)
 | met f y=>exact z0f (show h.get? a=some _ from x)
 | ext φ=>obtain⟨_,⟨_,e⟩,_⟩:=x;exact z0f e
theorem Paired.mapP {α β:Type}{F G:α->β->Prop}:∀ {l₁:List α}{l₂:List β},z2h F l₁ l₂->(∀ a b,F a b->G a b)->z2h G l₁ l₂
 | _,_,.nil,_=>.nil
 | _,_,.cons r t,f=>.cons (f _ _ r) (Paired.mapP t f)
theorem BL.stay (x:BL P w H h a o) (k:∀ b u,(b=a∨H b=some (.own a))->h.get? b=some u->h'.get? b=some u)
  (ho:∀ b,H b=some (.own a)->H' b=some (.own a)) (ht:∀ b o,Tu o->H b=some o->H' b=some o):BL P w H' h' a o:=by
 have tp:∀ {K:z08}{b:Addr}{xs:List V},TupAt K H b xs->TupAt K H' b xs:=λ {K b xs} z=>by
  rcases z with (z | ⟨o,z⟩) | z
  ·exact .inl (.inl (ht b _ trivial z))
  ·exact .inl (.inr ⟨o,ht b _ trivial z⟩)
  ·exact .inr z
 induction o with
 | mem F K=>
  obtain⟨y,xs,al,ob,es,ep,e,c⟩:=x;exact⟨y,xs,λ q hq=>by
   obtain⟨⟨bs,z1,z2⟩,z3⟩:=al q hq;exact⟨⟨bs,tp z1,Paired.mapP z2 λ _ _ z=>tp z⟩,z3⟩,ob,es,ep,k _ _ (.inl rfl) e,c⟩
 | lst xs=>obtain⟨z,its,n,r,e⟩:=x;exact⟨z,its,n,r,k _ _ (.inl rfl) e⟩
 | tup xs=>obtain⟨z,its,r,ob,e,c⟩:=x;exact⟨z,its,r,ob,k _ _ (.inl rfl) e,c⟩
 | dK kvs=>obtain⟨z,y,vs,r,ob,es,ep,e,c⟩:=x;exact⟨z,y,vs,r,ob,es,ep,k _ _ (.inl rfl) e,c⟩
 | dT kvs=>
  obtain⟨z,y,xs,r,ob,es,ep,e,c⟩:=x;exact⟨z,y,xs,Paired.mapP r λ p q z=>⟨z.1,ht _ _ trivial z.2.1,z.2.2⟩,ob,es,ep,k _ _ (.inl rfl) e,c⟩
 | set S n=>obtain⟨ob,es,ep,t,e,c⟩:=x;exact⟨ob,es,ep,t,k _ _ (.inl rfl) e,c⟩
 | ins C dx fs=>
  obtain⟨d,z,ne,e,mA,⟨od,es,ep,e2,c⟩,r⟩:=x;exact⟨ho _ d,z,ne,k _ _ (.inl rfl) e,mA,⟨od,es,ep,k _ _ (.inr d) e2,c⟩,r⟩
 | own y=>obtain⟨ob,e⟩:=x;exact⟨ob,k _ _ (.inl rfl) e⟩
 | xd fs=>obtain⟨mA,⟨od,es,ep,e,c⟩,r⟩:=x;exact⟨mA,⟨od,es,ep,k _ _ (.inl rfl) e,c⟩,r⟩
 | rng lo hi=>obtain⟨t,u,v,e⟩:=x;exact⟨t,u,v,k _ _ (.inl rfl) e⟩
 | frz ob u ih=>obtain⟨e,q⟩:=x;exact⟨k _ _ (.inl rfl) e,ih q⟩
 | tbl ps=>
  have e:h.get? a=some { cls:=.none,data:=.fields ps }:=x;show h'.get? a=some { cls:=.none,data:=.fields ps };exact k a _ (.inl rfl) e
 | met f y=>
  have e:h.get? a=some (z61 (.ref f) (.ref y)):=x;show h'.get? a=some (z61 (.ref f) (.ref y));exact k a _ (.inl rfl) e
 | ext φ=>obtain⟨p,⟨o,e⟩,st⟩:=x;exact⟨st _ _ p λ o q=>k _ _ (.inl rfl) q,⟨o,k _ _ (.inl rfl) e⟩,st⟩
theorem HOk.lt (x:HOk P w H h) (e:H a=some o):a<h.objs.size:=(x a o e).lt
theorem HOk.fresh (x:HOk P w H h) (e:h.objs.size<=a):H a=none:=by
 cases q:H a with
 | none=>rfl
 | some u=>exact absurd (z0X (x.lt q) e) (z1l _)
theorem HOk.kept (x:HOk P w H h) (k:∀ b u,h.get? b=some u->h'.get? b=some u):HOk P w H h':=λ a o e=>
 (x a o e).stay (λ b u _ q=>k b u q) (λ _ q=>q) λ _ _ _ q=>q
theorem HOk.laid (x:HOk P w H h) (k:∀ b u,h.get? b=some u->h'.get? b=some u) (hp:h.objs.size<=a) (new:BL P w (upd H a o) h' a o):HOk P w (upd H a o) h':=λ b u e=>by
 have hn:=x.fresh hp
 by_cases hb:b=a
 ·subst hb;rw[Aj] at e;cases e;exact new
 ·rw[Ak hb] at e;exact (x b u e).stay (λ c v _ q=>k c v q) (λ c q=>by rw[Ak (De q hn)];exact q) λ c xs _ q=>by rw[Ak (De q hn)];exact q
end
def Rd (H:Hp) (a:Addr) (u:HO):Prop:=H a=some u∨∃ o,H a=some (.frz o u)
theorem Rd.of {H:Hp}{u:HO}(h:H a=some u):Rd H a u:=.inl h
theorem Rd.ok {H:Hp}{u:HO}(r:Rd H a u) (x:HOk P w H h):BL P w H h a u:=by
 rcases r with r | ⟨o,r⟩
 ·exact x a u r
 ·obtain⟨_,q⟩:=x a _ r;exact q
def Mut:Option HO->Prop
 | some (.lst _)=>True
 | some (.dK _)=>True
 | some (.dT _)=>True
 | some (.set _ _)=>True
 | some (.ins _ _ _)=>True
 | some (.ext _)=>True
 | some (.mem _ _)=>True
 | _=>False
section
variable {H:Hp}{x e:Addr}{o':HO}
theorem HOk.write (ok:HOk P w H h) (mu:Mut (H x)) (he:e=x∨H e=some (.own x)) (k:∀ b u,b≠e->h.get? b=some u->h'.get? b=some u) (heo:∃ u,h'.get? e=some u)
  (new:BL P w (upd H x o') h' x o'):HOk P w (upd H x o') h':=λ b u q=>by
 have nown:∀ c y,H c=some (.own y)->c≠x:=λ c y r z=>by subst z;rw[r] at mu;exact mu
 have ntup:∀ c o,Tu o->H c=some o->c≠x:=λ c o tu r z=>by
  subst z;rw[r] at mu;cases o with
  | tup xs=>exact mu
  | frz p u=>exact mu
  | _=>exact tu
 by_cases hb:b=x
 ·subst hb;rw[Aj] at q;cases q;exact new
 ·rw[Ak hb] at q
  by_cases hbe:b=e
  ·have q':H b=some (.own x):=by
    rcases he with z | z
    ·exact absurd (hbe.trans z) hb
    ·rw[hbe];exact z
   rw[q] at q';cases q';obtain⟨v,hv⟩:=heo;exact⟨v,by rw[hbe];exact hv⟩
  ·refine (ok b u q).stay (λ c v hc r=>k c v ?_ r) (λ c r=>by rw[Ak (nown c b r)];exact r) λ c xs tu r=>by rw[Ak (ntup c xs tu r)];exact r
   rcases hc with rfl | hc
   ·exact hbe
   ·rintro rfl
    rcases he with z | z
    ·exact nown c b hc z
    ·rw[hc] at z;cases z;exact hb rfl
end
structure Un (fs ex:List Addr) (H H':Hp) (h h':Heap):Prop where
 keep:∀ b o,h.get? b=some o->H b=none->b∉fs->b∉ex->h'.get? b=some o
 slot:∀ b o,h.get? b=some o->H b=none->b∈fs->b∉ex->∃ sl,h'.get? b=some { o with slots:=sl }
 free:∀ b o,h.get? b=some o->H b=none->b∉ex->H' b=none
 there:∀ b o,h.get? b=some o->b∉ex->∃ o',h'.get? b=some o'
 tups:∀ b xs,H b=some (.tup xs)->H' b=some (.tup xs)
 frzs:∀ b o u,H b=some (.frz o u)->H' b=some (.frz o u)
 tbls:∀ b ps,H b=some (.tbl ps)->∃ more,H' b=some (.tbl (ps++more))
section
variable {fs fs' ex ex':List Addr}{H H1 H2:Hp}{h1 h2:Heap}{x e:Addr}{o:HO}
theorem Un.any (u:Un fs ex H H1 h h1) {b:Addr}{ob:Obj}(q:h.get? b=some ob) (n:H b=none) (hx:b∉ex):∃ sl,h1.get? b=some { ob with slots:=sl }:=by
 by_cases hb:b∈fs
 ·exact u.slot b ob q n hb hx
 ·exact⟨ob.slots,u.keep b ob q n hb hx⟩
theorem Un.kept (k:∀ b u,h.get? b=some u->h'.get? b=some u):Un fs ex H H h h':=
 ⟨λ b ob q _ _ _=>k b ob q,λ b ob q _ _ _=>⟨ob.slots,k b ob q⟩,λ _ _ _ n _=>n,λ b ob q _=>⟨ob,k b ob q⟩,λ _ _ q=>q,λ _ _ _ q=>q,λ _ ps q=>⟨#[],by rw[q];simp⟩⟩
theorem Un.refl:Un fs ex H H h h:=Un.kept λ _ _ q=>q
theorem Un.laid (k:∀ b u,h.get? b=some u->h'.get? b=some u) (hp:h.objs.size<=a) (hn:H a=none):Un fs ex H (upd H a o) h h' where
 keep:=λ b u q _ _ _=>k b u q
 slot:=λ b u q _ _ _=>⟨u.slots,k b u q⟩
 free:=λ b u q n _=>by rw[Ak (z0i (z0X (z0f q) hp))];exact n
 there:=λ b u q _=>⟨u,k b u q⟩
 tups:=λ b xs q=>by rw[Ak (De q hn)];exact q
 frzs:=λ b u xs q=>by rw[Ak (De q hn)];exact q
 tbls:=λ b ps q=>⟨#[],by rw[Ak (De q hn),q];simp⟩
theorem Un.write (mu:Mut (H x)) (he:e=x∨H e=some (.own x)) (k:∀ b u,b≠e->h.get? b=some u->h'.get? b=some u) (heo:∃ u,h'.get? e=some u):Un fs ex H (upd H x o) h h':=by
 have hx:∀ b,H b=none->b≠x:=λ b n z=>by subst z;rw[n] at mu;exact mu
 have hb:∀ b,H b=none->b≠e:=λ b n z=>by
  subst z
  rcases he with r | r
  ·exact hx b n r
  ·rw[n] at r;cases r
 have hm:∀ b u,H b=some u->¬ Mut (some u)->b≠x:=λ b u q nm z=>by subst z;rw[q] at mu;exact nm mu
 refine⟨λ b u q n _ _=>k b u (hb b n) q,λ b u q n _ _=>⟨u.slots,k b u (hb b n) q⟩,λ b u q n _=>by rw[Ak (hx b n)];exact n,λ b u q _=>?_,
  λ b xs q=>by rw[Ak (hm b _ q λ z=>z)];exact q,λ b u xs q=>by rw[Ak (hm b _ q λ z=>z)];exact q,λ b ps q=>⟨#[],by rw[Ak (hm b _ q λ z=>z),q];simp⟩⟩
 by_cases hbe:b=e
 ·subst hbe;exact heo
 ·exact⟨u,k b u hbe q⟩
end
def trk (h:Heap) (H:Hp):List Addr:=(z0e h.objs.size).filter λ a=>(H a).isSome
def hidT (h:Heap) (H:Hp):Heap:=PySem.W.hideAll h (trk h H)
theorem bC (h:Heap) (H:Hp):(hidT h H).objs.size=h.objs.size:=PySem.W.hideAll_size _ _
theorem dF {H:Hp}(e:h.get? b=some o) (n:H b=none):(hidT h H).get? b=some o:=
 PySem.W.hideAll_get _ e λ hm=>by
  have q:(H b).isSome=true:=(z2r.mp hm).2;rw[n] at q;simp at q
theorem my {H:Hp}(e:(hidT h H).get? b=some o):h.get? b=some o/\H b=none:=by
 have e':h.get? b=some o:=PySem.W.of_hideAll (trk h H) e;refine⟨e',?_⟩;cases q:H b with
 | none=>rfl
 | some x=>
  have hm:b∈trk h H:=z2r.mpr ⟨z0w.mpr (z0f e'),by simp[q]⟩;have z:(hidT h H).get? b=none:=PySem.W.hideAll_none (trk h H) hm;rw[z] at e;cases e
def mz (g h:Heap) (L:Addr):List (Addr×Obj):=(z0e h.objs.size).filterMap λ a=>if a=L∨(g.get? a).isSome=true then none else (h.get? a).map λ o=>(a,o)
def rest (g h:Heap) (L d:Addr):List (Addr×Obj):=(mz g h L).filter λ p=>decide (p.1≠d)
structure Mod (K:z08) (mg:Str->Option z00) (base:Heap):Prop where
 kin:K.In base
 glob:base.Ns z0T mg
 blt:∃ mb,base.Ns z62 mb/\∀ x:Str,x≠"__name__"->mb x=z0x x
 nolimit:base.NoLimit
structure Cx where
 prog:z0s
 w:z0k
 K:z08
 mg:Str->Option z00
 base:Heap
 A:z0a
 N:List Str
 s₀:z03
 H₀:Hp
 env:Env
 outer:List Env
 stack:List Env
 ex:List Addr
 fn:Str->Bool
 calm:Bool
 pn:List (Addr×Obj)
 xe:z00->z03->Prop
def frs (l:List Env):List Addr:=l.filterMap (·.frame)
abbrev Cx.fs (X:Cx):List Addr:=frs X.outer
def Vis (sc:z25) (x:Str):Prop:=sc.names.lookup x=some .local ∨sc.names.lookup x=some .cell ∨sc.names.lookup x=some .free
def Loc (sc:z25) (x:Str):Prop:=sc.names.lookup x=some .local ∨sc.names.lookup x=some .cell
def Look (env:Env) (h:Heap) (m:Str->Option z00) (x:Str) (u:z00):Prop:=
 (env.kindOf x=some .local /\m x=some u)∨((env.kindOf x=some .cell ∨env.kindOf x=some .free)/\∃ c,env.cells.lookup x=some c/\h.IsCell c (some u))
structure Cx.Ok (X:Cx):Prop where
 mod:Mod X.K X.mg X.base
 kind:X.env.scope.kind=.function
 glob:X.env.globals=z0T
 blt:X.env.builtins=z62
 above:X.s₀.heap.objs.size<=X.env.locals
 inj:∀ x y c,X.env.cells.lookup x=some c->X.env.cells.lookup y=some c->x=y
 has:∀ x,(X.env.kindOf x=some .cell ∨X.env.kindOf x=some .free)->∃ c,X.env.cells.lookup x=some c
 cab:∀ x c,X.fn x=true->X.env.cells.lookup x=some c->X.s₀.heap.objs.size<=c
 hd:X.calm=true->X.A.handled=none
 frames:X.A.frames=some X.stack
 stk:X.stack=X.outer∨(X.stack=X.env::X.outer/\X.env.frame=some X.env.locals)
 exf:∀ b∈X.ex,b≠X.env.locals/\∀ x c,X.env.cells.lookup x=some c->c≠b
 bs:∀ b o,X.base.get? b=some o->X.s₀.heap.get? b=some o/\X.H₀ b=none
 bsz:X.base.objs.size<=X.s₀.heap.objs.size
 noex:∀ b o,X.base.get? b=some o->b∉X.ex
 exfs:∀ b∈X.ex,b∉X.fs
 funs:X.s₀.heap.FunFrames X.base X.outer
 frf:∀ b∈X.fs,X.H₀ b=none
structure Inv (X:Cx) (π:zP) (σ:List (Option V)) (H:Hp) (s:z03):Prop where
 ok:X.Ok
 os:s.os=X.s₀.os
 bare:z2i s.gens
 base:Un X.fs X.ex X.H₀ H X.s₀.heap s.heap
 loc:∃ m,s.heap.Ns X.env.locals m/\∀ (i:Nat) (x:Str) (v:V),X.N[i]?=some x->σ[i]?=some (some v)->Vis X.env.scope x->∃ u,RelV v u/\Look X.env s.heap m x u
 cell:∀ x c,X.env.cells.lookup x=some c->∃ v,s.heap.IsCell c v
 free:H X.env.locals=none
 freeC:∀ x c,X.env.cells.lookup x=some c->H c=none
 pin:∀ p∈X.pn++π,s.heap.get? p.1=some p.2/\H p.1=none/\p.1≠X.env.locals/\p.1∉X.fs/\∀ v,p.2.data≠.cell v
 hok:HOk X.prog X.w H s.heap
 len:σ.length=X.N.length
section
variable {X:Cx}{σ:List (Option V)}{H H':Hp}
theorem Cx.Ok.nofr (ok:X.Ok) {b:Addr}{o:Obj}(e:X.base.get? b=some o):b∉X.fs:=λ hb=>by
 have:=(ok.funs.mem hb).1;rw[e] at this;cases this
theorem Inv.bs (I:Inv X π σ H s):∀ b o,X.base.get? b=some o->s.heap.get? b=some o/\H b=none:=λ b o e=>
 ⟨I.base.keep b o (I.ok.bs b o e).1 (I.ok.bs b o e).2 (I.ok.nofr e) (I.ok.noex b o e),I.base.free b o (I.ok.bs b o e).1 (I.ok.bs b o e).2 (I.ok.noex b o e)⟩
theorem Inv.bk (I:Inv X π σ H s):∀ b o,X.base.get? b=some o->s.heap.get? b=some o:=λ b o e=>(I.bs b o e).1
theorem Inv.mod (I:Inv X π σ H s):Mod X.K X.mg X.base:=I.ok.mod
theorem Inv.kIn (I:Inv X π σ H s):X.K.In s.heap:=I.ok.mod.kin.keeps I.bk
theorem Inv.lt (I:Inv X π σ H s):X.env.locals<s.heap.objs.size:=let ⟨_,hn,_⟩:=I.loc;hn.lt
theorem Inv.sz (I:Inv X π σ H s):X.s₀.heap.objs.size<=s.heap.objs.size:=z0E I.ok.above (z3F I.lt)
theorem Inv.nofs (I:Inv X π σ H s) {a:Addr}(h:s.heap.objs.size<=a):a∉X.fs:=λ hb=>by
 obtain⟨_,o,ho,_⟩:=I.ok.funs.mem hb;exact absurd (z0X (z0f ho) (z0E I.sz h)) (z1l _)
theorem Inv.cne (I:Inv X π σ H s):∀ x c,X.env.cells.lookup x=some c->c≠X.env.locals:=λ x c e z=>by
 obtain⟨v,o,ho,hd⟩:=I.cell x c e;obtain⟨m,⟨o',es,ep,ho',hd',_⟩,_⟩:=I.loc;rw[z,ho'] at ho;cases ho;rw[hd'] at hd;cases hd
theorem Inv.funs (I:Inv X π σ H s):s.heap.FunFrames X.base X.outer:=by
 have all:∀ (l:List Env),(∀ b∈frs l,b∈X.fs)->X.s₀.heap.FunFrames X.base l->s.heap.FunFrames X.base l:=by
  intro l
  induction l with
  | nil=>intro _ _;trivial
  | cons env r ih=>
   intro hs hl;obtain⟨hk,⟨L,o,hf,hn,ho,hd⟩,hr⟩:=hl;have hL:L∈X.fs:=hs L (by unfold frs;rw[z63,hf];exact z0L);obtain⟨sl,e⟩:=I.base.slot L o ho (I.ok.frf L hL) hL λ z=>I.ok.exfs L z hL;exact⟨hk,⟨L,_,hf,hn,e,hd⟩,ih (λ b hb=>hs b (by unfold frs;rw[z63,hf];exact z0y _ hb)) hr⟩
 exact all X.outer (λ _ hb=>hb) I.ok.funs
theorem Inv.stack (I:Inv X π σ H s):s.heap.FunFrames X.base X.stack:=by
 rcases I.ok.stk with e | ⟨e,hf⟩
 ·rw[e];exact I.funs
 ·rw[e];obtain⟨m,hn,_⟩:=I.loc;refine .cons (by rw[I.ok.kind];decide) hf hn ?_ I.funs;exact Heap.get?_none_of_le (z0E I.ok.bsz I.ok.above)
theorem Inv.stkSub (I:Inv X π σ H s):∀ b∈frs X.stack,b∈X.env.locals::X.fs:=λ b hb=>by
 rcases I.ok.stk with e | ⟨e,hf⟩
 ·rw[e] at hb;exact z0y _ hb
 ·rw[e] at hb;unfold frs at hb;rw[z63,hf] at hb;exact hb
theorem Inv.stkFree (I:Inv X π σ H s):∀ b∈frs X.stack,H b=none:=λ b hb=>by
 rcases z0j.mp (I.stkSub b hb) with e | hb
 ·rw[e];exact I.free
 ·obtain⟨_,o,ho,_⟩:=I.ok.funs.mem hb;exact I.base.free b o ho (I.ok.frf b hb) λ z=>I.ok.exfs b z hb
theorem Inv.step {g':Array GenState}{d':Drawn}(I:Inv X π σ H s)
  (hch:∀ b∈ch,(b∈X.ex∨X.s₀.heap.objs.size<=b)/\b≠X.env.locals/\(∀ x c,X.env.cells.lookup x=some c->c≠b)/\∀ p∈X.pn++π,p.1≠b)
  (keep:∀ b o,b≠X.env.locals->b∉X.fs->b∉ch->s.heap.get? b=some o->H b=none->h'.get? b=some o)
  (slot:∀ b o,b≠X.env.locals->b∈X.fs->b∉ch->s.heap.get? b=some o->H b=none->∃ sl,h'.get? b=some { o with slots:=sl }) (free:∀ b o,b∉ch->s.heap.get? b=some o->H b=none->H' b=none)
  (there:∀ b o,b∉ch->s.heap.get? b=some o->∃ o',h'.get? b=some o')
  (tups:∀ b xs,H b=some (.tup xs)->H' b=some (.tup xs)) (frzs:∀ b o u,H b=some (.frz o u)->H' b=some (.frz o u)) (tbls:∀ b ps,H b=some (.tbl ps)->∃ more,H' b=some (.tbl (ps++more)))
  (ns:∀ m,s.heap.Ns X.env.locals m->h'.Ns X.env.locals m) (hok:HOk X.prog X.w H' h') (hg:z2i g') :
  Inv X π σ H' { s with heap:=h',gens:=g',drawn:=d',toks:=t' }:=by
 have neL:∀ b o,X.s₀.heap.get? b=some o->b≠X.env.locals:=λ b o e=>z0i (z0X (z0f e) I.ok.above);have neC:∀ b o,X.s₀.heap.get? b=some o->b∉X.ex->b∉ch:=λ b o e hx hb=>by
  rcases (hch b hb).1 with z | z
  ·exact hx z
  ·exact absurd (z0X (z0f e) z) (z1l _)
 have cellK:∀ x c,X.env.cells.lookup x=some c->∀ v,s.heap.IsCell c v->h'.IsCell c v:=λ x c e v ⟨o,ho,hd⟩=>by
  have nch:c∉ch:=λ z=>(hch c z).2.2.1 x c e rfl
  by_cases hc:c∈X.fs
  ·obtain⟨sl,q⟩:=slot c o (I.cne x c e) hc nch ho (I.freeC x c e);exact⟨_,q,hd⟩
  ·exact⟨o,keep c o (I.cne x c e) hc nch ho (I.freeC x c e),hd⟩
 refine⟨I.ok,I.os,hg,⟨λ b o e n hb hx=>?_,λ b o e n hb hx=>?_,λ b o e n hx=>?_,λ b o e hx=>?_,λ b xs e=>tups b xs (I.base.tups b xs e),λ b o xs e=>frzs b o xs (I.base.frzs b o xs e),λ b ps e=>?_⟩,?_,λ x c e=>?_,?_,λ x c e=>?_,λ p hp=>?_,hok,I.len⟩
 ·exact keep b o (neL b o e) hb (neC b o e hx) (I.base.keep b o e n hb hx) (I.base.free b o e n hx)
 ·obtain⟨sl,e1⟩:=I.base.slot b o e n hb hx;obtain⟨sl',e2⟩:=slot b _ (neL b o e) hb (neC b o e hx) e1 (I.base.free b o e n hx);exact⟨sl',e2⟩
 ·obtain⟨o',e1⟩:=I.base.there b o e hx;exact free b o' (neC b o e hx) e1 (I.base.free b o e n hx)
 ·obtain⟨o',e1⟩:=I.base.there b o e hx;exact there b o' (neC b o e hx) e1
 ·obtain⟨m1,e1⟩:=I.base.tbls b ps e;obtain⟨m2,e2⟩:=tbls b _ e1;exact⟨m1++m2,by rw[e2,Array.append_assoc]⟩
 ·obtain⟨m,hn,hl⟩:=I.loc;refine⟨m,ns m hn,λ i x v e1 e2 e3=>?_⟩;obtain⟨u,r,l⟩:=hl i x v e1 e2 e3;refine⟨u,r,?_⟩
  rcases l with l | ⟨k,c,e,z⟩
  ·exact .inl l
  ·exact .inr ⟨k,c,e,cellK x c e _ z⟩
 ·obtain⟨v,z⟩:=I.cell x c e;exact⟨v,cellK x c e v z⟩
 ·obtain⟨m,⟨o,_,_,ho,_⟩,_⟩:=I.loc;exact free _ o (λ z=>(hch _ z).2.1 rfl) ho I.free
 ·obtain⟨v,o,ho,hd⟩:=I.cell x c e;exact free c o (λ z=>(hch c z).2.2.1 x c e rfl) ho (I.freeC x c e)
 ·obtain⟨e,n,ne,nf,d⟩:=I.pin p hp;have nch:p.1∉ch:=λ z=>(hch p.1 z).2.2.2 p hp rfl;exact⟨keep p.1 p.2 ne nf nch e n,free p.1 p.2 nch e n,ne,nf,d⟩
theorem Inv.un (I:Inv X π σ H s) (u:Un X.fs [] H H' s.heap h') (hok:HOk X.prog X.w H' h'):Inv X π σ H' { s with heap:=h',toks:=t' }:=by
 obtain⟨m,⟨o,es,ep,ho,r⟩,_⟩:=id I.loc;obtain⟨sl,hL⟩:=u.any ho I.free (by simp);exact I.step (g':=s.gens) (d':=s.drawn) (ch:=[]) (λ _ z=>nomatch z) (λ b o _ hb _ e n=>u.keep b o e n hb (by simp)) (λ b o _ hb _ e n=>u.slot b o e n hb (by simp)) (λ b o _ e n=>u.free b o e n (by simp)) (λ b o _ e=>u.there b o e (by simp)) u.tups u.frzs u.tbls (λ m' hm=>by
  obtain⟨o',es',ep',ho',r'⟩:=hm;rw[ho] at ho';cases ho';exact⟨_,es',ep',hL,r'⟩) hok I.bare
theorem Inv.call {g':Array GenState}{d':Drawn}(I:Inv X π σ H s) (u:Un (frs X.stack) ch H H' s.heap h') (hok:HOk X.prog X.w H' h') (hg:z2i g')
  (hch:∀ b∈ch,(b∈X.ex∨X.s₀.heap.objs.size<=b)/\b≠X.env.locals/\(∀ x c,X.env.cells.lookup x=some c->c≠b)/\∀ p∈X.pn++π,p.1≠b) :
  Inv X π σ H' { s with heap:=h',gens:=g',drawn:=d',toks:=t' }:=by
 obtain⟨m,⟨o,es,ep,ho,r⟩,_⟩:=id I.loc;obtain⟨sl,hL⟩:=u.any ho I.free λ z=>(hch _ z).2.1 rfl;exact I.step (ch:=ch) hch (λ b o hL hb hc e n=>u.keep b o e n (λ z=>(z0j.mp (I.stkSub b z)).elim hL hb) hc) (λ b o _ _ hc e n=>u.any e n hc) (λ b o hc e n=>u.free b o e n hc) (λ b o hc e=>u.there b o e hc) u.tups u.frzs u.tbls (λ m' hm=>by
  obtain⟨o',es',ep',ho',r'⟩:=hm;rw[ho] at ho';cases ho';exact⟨_,es',ep',hL,r'⟩) hok hg
theorem Inv.turned (I:Inv X π σ H s) (k:∀ b o,b≠it->s.heap.get? b=some o->h'.get? b=some o) (hn:H it=none) (hL:it≠X.env.locals)
  (h1:it∈X.ex∨X.s₀.heap.objs.size<=it) (h2:∀ x c,X.env.cells.lookup x=some c->c≠it) (h3:∀ p∈X.pn++π,p.1≠it):Inv X π σ H { s with heap:=h',toks:=t' }:=by
 have nit:∀ b u,H b=some u->b≠it:=λ b u e z=>by rw[z,hn] at e;cases e
 refine I.step (g':=s.gens) (d':=s.drawn) (ch:=[it]) (λ b hb=>?_) (λ b o _ _ hc e _=>k b o (λ z=>hc (by simp[z])) e) (λ b o _ _ hc e _=>⟨o.slots,k b o (λ z=>hc (by simp[z])) e⟩) (λ _ _ _ _ n=>n)
  (λ b o hc e=>⟨o,k b o (λ z=>hc (by simp[z])) e⟩) (λ _ _ e=>e) (λ _ _ _ e=>e) (λ b ps e=>⟨#[],by rw[e];simp⟩) (λ m hm=>?_) (λ b u e=>?_) I.bare
 ·have e:b=it:=by simpa using hb
  subst e;exact⟨h1,hL,h2,h3⟩
 ·obtain⟨o,es,ep,ho,r⟩:=hm;exact⟨o,es,ep,k _ o (z0n hL) ho,r⟩
 ·refine (I.hok b u e).stay (λ c v hc q=>k c v ?_ q) (λ _ q=>q) λ _ _ _ q=>q
  rcases hc with z | z
  ·rw[z];exact nit b u e
  ·exact nit c _ z
theorem Inv.tok (I:Inv X π σ H s) (t:Nat):Inv X π σ H { s with toks:=t }:=I.un (h':=s.heap) (t':=t) Un.refl I.hok
theorem Inv.kept {t':Nat}(I:Inv X π σ H s) (k:∀ b u,s.heap.get? b=some u->h'.get? b=some u):Inv X π σ H { s with heap:=h',toks:=t' }:=I.un (Un.kept k) (I.hok.kept k)
theorem Inv.laid {a:Addr}{o:HO}{t':Nat}(I:Inv X π σ H s) (k:∀ b u,s.heap.get? b=some u->h'.get? b=some u) (hp:s.heap.objs.size<=a) (new:BL X.prog X.w (upd H a o) h' a o) :
  Inv X π σ (upd H a o) { s with heap:=h',toks:=t' }:=I.un (Un.laid k hp (I.hok.fresh hp)) (I.hok.laid k hp new)
theorem Inv.write {x e:Addr}{o:HO}{t':Nat}(I:Inv X π σ H s) (mu:Mut (H x)) (he:e=x∨H e=some (.own x)) (k:∀ b u,b≠e->s.heap.get? b=some u->h'.get? b=some u) (heo:∃ u,h'.get? e=some u)
  (new:BL X.prog X.w (upd H x o) h' x o):Inv X π σ (upd H x o) { s with heap:=h',toks:=t' }:=I.un (Un.write mu he k heo) (I.hok.write mu he k heo new)
theorem Inv.pins_of {pins':zP}(I:Inv X π σ H s) (h:∀ p∈pins',s.heap.get? p.1=some p.2/\H p.1=none/\p.1≠X.env.locals/\p.1∉X.fs/\∀ v,p.2.data≠.cell v):Inv X pins' σ H s:=
 ⟨I.ok,I.os,I.bare,I.base,I.loc,I.cell,I.free,I.freeC,λ p hp=>(z0Y.mp hp).elim (λ z=>I.pin p (z64 _ z)) (h p),I.hok,I.len⟩
theorem Nf (hN:N.Nodup) {i j:Nat}{x:Str}(a:N[i]?=some x) (b:N[j]?=some x):i=j:=by
 obtain⟨h1,e1⟩:=z1s.mp a;obtain⟨h2,e2⟩:=z1s.mp b;exact (List.getElem_inj hN).mp (e1.trans e2.symm)
theorem bD {A:z0a}{v:V}{Q:Unit->z03->Prop}(I:Inv X π σ H s) (hN:X.N.Nodup) (hi:X.N[i]?=some x) (hx:Loc X.env.scope x) (r:RelV v u)
  (h:∀ s',Inv X π (σ.set i (some v)) H s'->(∃ a,z14 a s.heap s'.heap/\(a=X.env.locals∨X.env.cells.lookup x=some a))->Q () s') (hf:X.fn x=true∨X.env.scope.names.lookup x=some .local :=by first | exact .inl rfl | exact .inr rfl | assumption):z02 M A (storeName X.env x u) Q E s:=by
 obtain⟨m,hn,hl⟩:=id I.loc;have hcls:(X.env.scope.kind==.class||(X.env.scope.kind==.module&&X.env.locals != X.env.globals))=false:=by rw[I.ok.kind];rfl
 have hiσ:i<σ.length:=by rw[I.len];exact (z1s.mp hi).1
 have cne:=I.cne;have tracked:∀ {a:Addr}{h':Heap},(∃ o,s.heap.get? a=some o/\H a=none)->z14 a s.heap h'->HOk X.prog X.w H h':=λ {a h'} ha hs b ob e=>by
  obtain⟨_,_,hfree⟩:=ha;refine (I.hok b ob e).stay (λ c w' hc q=>(hs.2 c ?_).trans q) (λ _ q=>q) λ _ _ _ q=>q;rintro rfl
  rcases hc with rfl | hc
  ·rw[hfree] at e;cases e
  ·rw[hfree] at hc;cases hc
 rcases hx with hk | hk
 ·refine wpAny_storeName_local hk hn (λ h' hn' hs=>?_) hcls;obtain⟨oL,_,_,hoL,_⟩:=id hn;refine h _ ⟨I.ok,I.os,I.bare,⟨λ b o e n hb hx=>?_,λ b o e n hb hx=>?_,I.base.free,λ b o e hx=>?_,I.base.tups,I.base.frzs,I.base.tbls⟩,⟨_,hn',λ j y v' e1 e2 e3=>?_⟩,λ y c e=>?_,I.free,I.freeC,λ p hp=>?_,tracked ⟨oL,hoL,I.free⟩ hs,by simpa using I.len⟩ ⟨_,hs,.inl rfl⟩
  ·exact (hs.2 b (z0i (z0X (z0f e) I.ok.above))).trans (I.base.keep b o e n hb hx)
  ·obtain⟨sl,e1⟩:=I.base.slot b o e n hb hx;exact⟨sl,(hs.2 b (z0i (z0X (z0f e) I.ok.above))).trans e1⟩
  ·obtain⟨o',e1⟩:=I.base.there b o e hx;exact⟨o',(hs.2 b (z0i (z0X (z0f e) I.ok.above))).trans e1⟩
  ·by_cases hj:j=i
   ·subst hj;rw[hi] at e1;cases e1;rw[z2j hiσ] at e2;cases e2;exact⟨u,r,.inl ⟨hk,by simp⟩⟩
   ·rw[z1m (z0n hj)] at e2;obtain⟨u',r',q⟩:=hl j y v' e1 e2 e3;refine⟨u',r',?_⟩
    rcases q with ⟨k,e⟩ | ⟨k,c,e,z⟩
    ·refine .inl ⟨k,?_⟩;have:y≠x:=λ e=>hj (Nf hN e1 (e▸hi));simp[this,e]
    ·exact .inr ⟨k,c,e,z.sameBut hs (cne y c e)⟩
  ·obtain⟨w',z⟩:=I.cell y c e;exact⟨w',z.sameBut hs (cne y c e)⟩
  ·obtain⟨e,n,ne,nf,d⟩:=I.pin p hp;exact⟨(hs.2 p.1 ne).trans e,n,ne,nf,d⟩
 ·have hfn:X.fn x=true:=by
   rcases hf with z | z
   ·exact z
   ·rw[z] at hk;cases hk
  obtain⟨c,hc⟩:=I.ok.has x (.inl hk);obtain⟨w',z⟩:=I.cell x c hc;refine wpAny_storeName_cell I.ok.kind hk hc z (λ h' hc' hs=>?_);obtain⟨oc,hoc,hocd⟩:=id z;refine h { s with heap:=h' } ⟨I.ok,I.os,I.bare,⟨λ b o e n hb hx=>?_,λ b o e n hb hx=>?_,I.base.free,λ b o e hx=>?_,I.base.tups,I.base.frzs,I.base.tbls⟩,⟨m,hn.sameBut hs (z0n (cne x c hc)),λ j y v' e1 e2 e3=>?_⟩,λ y c' e=>?_,I.free,I.freeC,λ p hp=>?_,tracked ⟨oc,hoc,I.freeC x c hc⟩ hs,by simpa using I.len⟩ ⟨c,hs,.inr hc⟩
  ·exact (hs.2 b (z0i (z0X (z0f e) (I.ok.cab x c hfn hc)))).trans (I.base.keep b o e n hb hx)
  ·obtain⟨sl,e1⟩:=I.base.slot b o e n hb hx;exact⟨sl,(hs.2 b (z0i (z0X (z0f e) (I.ok.cab x c hfn hc)))).trans e1⟩
  ·obtain⟨o',e1⟩:=I.base.there b o e hx;exact⟨o',(hs.2 b (z0i (z0X (z0f e) (I.ok.cab x c hfn hc)))).trans e1⟩
  ·by_cases hj:j=i
   ·subst hj;rw[hi] at e1;cases e1;rw[z2j hiσ] at e2;cases e2;exact⟨u,r,.inr ⟨.inl hk,c,hc,hc'⟩⟩
   ·rw[z1m (z0n hj)] at e2;obtain⟨u',r',q⟩:=hl j y v' e1 e2 e3;refine⟨u',r',?_⟩
    rcases q with q | ⟨k,c',e,z'⟩
    ·exact .inl q
    ·refine .inr ⟨k,c',e,z'.sameBut hs ?_⟩;rintro rfl;exact hj (Nf hN e1 (I.ok.inj _ _ _ e hc▸hi))
  ·by_cases hcc:c'=c
   ·subst hcc;exact⟨_,hc'⟩
   ·obtain⟨w2,z2⟩:=I.cell y c' e;exact⟨w2,z2.sameBut hs hcc⟩
  ·obtain⟨e,n,ne,nf,d⟩:=I.pin p hp;refine⟨(hs.2 p.1 ?_).trans e,n,ne,nf,d⟩;intro q;rw[q,hoc] at e;have q':oc=p.2:=z0t e;exact d w' (by rw[<-q'];exact hocd)
theorem Vy {A:z0a}{v:V}{Q:Unit->z03->Prop}(I:Inv X π σ H s) (hN:X.N.Nodup) (hi:X.N[i]?=some x) (hx:Loc X.env.scope x) (r:RelV v u)
  (h:∀ s',Inv X π (σ.set i (some v)) H s'->Q () s') (hf:X.fn x=true∨X.env.scope.names.lookup x=some .local :=by first | exact .inl rfl | exact .inr rfl | assumption):z02 M A (storeName X.env x u) Q E s:=
 bD I hN hi hx r (λ s' I' _=>h s' I') hf
theorem Inv.call' {s':z03}(I:Inv X π σ H s) (ho:s'.os=s.os) (u:Un (frs X.stack) ch H H' s.heap s'.heap) (hok:HOk X.prog X.w H' s'.heap) (hg:z2i s'.gens)
  (hch:∀ b∈ch,(b∈X.ex∨X.s₀.heap.objs.size<=b)/\b≠X.env.locals/\(∀ x c,X.env.cells.lookup x=some c->c≠b)/\∀ p∈X.pn++π,p.1≠b):Inv X π σ H' s':=by
 obtain⟨h',g',d',t',o'⟩:=s';have e:o'=s.os:=ho;subst e;exact I.call (g':=g') (t':=t') (d':=d') u hok hg hch
end
abbrev XK:=z00->Option Addr->Hp->Prop
abbrev St:=List (Option V)
abbrev VK:=V->Hp->Prop
abbrev TE:=St->Hp->VK->Prop
abbrev TT:=St->Hp->(Bool->Hp->Prop)->Prop
abbrev TA:=St->Hp->(List V->Hp->Prop)->Prop
structure Ends where
 nx:St->Hp->Prop
 rt:VK
 bk:St->Hp->Prop:=λ _ _=>False
 ct:St->Hp->Prop:=λ _ _=>False
abbrev TS:=Ends->St->Hp->Prop
def EP (X:Cx) (π:zP) (σ:St) (Q:VK) (u:z00) (s':z03):Prop:=∃ v H',Inv X π σ H' s'/\RelV v u/\Q v H'
def TP (X:Cx) (π:zP) (σ:St) (Q:Bool->Hp->Prop) (b:Bool) (s':z03):Prop:=∃ H',Inv X π σ H' s'/\Q b H'
def AP (X:Cx) (π:zP) (σ:St) (Q:List V->Hp->Prop) (us:List z00) (s':z03):Prop:=∃ vs H',Inv X π σ H' s'/\Vals vs us/\Q vs H'
def SP (X:Cx) (π:zP) (D:Ends) (f:Flow) (s':z03):Prop:=
 match f with
 | .next=>∃ σ' H',Inv X π σ' H' s'/\D.nx σ' H'
 | .brk=>∃ σ' H',Inv X π σ' H' s'/\D.bk σ' H'
 | .cont=>∃ σ' H',Inv X π σ' H' s'/\D.ct σ' H'
 | .ret u=>∃ v σ' H',Inv X π σ' H' s'/\RelV v u/\D.rt v H'
def PE (X:Cx) (e:Expr) (t:TE):Prop:=
 ∀ (π:zP) (s:z03) (σ:St) (H:Hp) (Q:VK),Inv X π σ H s->t σ H Q->z02 .(0) X.A (eval e X.env) (EP X π σ Q) X.xe s
def PT (X:Cx) (e:Expr) (t:TT):Prop:=
 ∀ (π:zP) (s:z03) (σ:St) (H:Hp) (Q:Bool->Hp->Prop),Inv X π σ H s->t σ H Q->z02 .(0) X.A (z2G e X.env (eval e X.env)) (TP X π σ Q) X.xe s
def PW (X:Cx) (e:Expr) (t:TT):Prop:=
 ∀ (whole:Sem z00) (π:zP) (s:z03) (σ:St) (H:Hp) (Q:Bool->Hp->Prop),Inv X π σ H s->t σ H Q->z02 .(0) X.A (z2G e X.env whole) (TP X π σ Q) X.xe s
theorem PW.pt {X:Cx}{t:TT}(h:PW X e t):PT X e t:=h _
def PA (X:Cx) (es:List Expr) (t:TA):Prop:=
 ∀ (pos:Pos) (π:zP) (s:z03) (σ:St) (H:Hp) (Q:List V->Hp->Prop),Inv X π σ H s->t σ H Q->z02 .(0) X.A (spliced .(37)) (AP X π σ Q) X.xe s
def PS (X:Cx) (st:Stmt) (t:TS):Prop:=
 ∀ (π:zP) (s:z03) (σ:St) (H:Hp) (D:Ends),Inv X π σ H s->t D σ H->z02 .(0) X.A (exec st X.env) (SP X π D) X.xe s
def PSs (X:Cx) (st:List Stmt) (t:TS):Prop:=
 ∀ (π:zP) (s:z03) (σ:St) (H:Hp) (D:Ends),Inv X π σ H s->t D σ H->z02 .(0) X.A (z1J st X.env) (SP X π D) X.xe s
theorem thn {α:Type}{t:Sem α}{Q Q':α->z03->Prop}{A:z0a}(h:z02 M A t Q E s) (hQ:∀ a s,Q a s->Q' a s):z02 M A t Q' E s:=z1t h hQ λ _ _ x=>x
section
variable {X:Cx}
theorem bin {a b:Expr}{ta tb:TE}(ha:PE X a ta) (hb:PE X b tb) {π:zP}{s:z03}{σ:St}{H:Hp}{R:V->V->Hp->Prop}(I:Inv X π σ H s) (h:ta σ H λ x H1=>tb σ H1 λ y H2=>R x y H2)
  {α:Type}{Q:α->z03->Prop}{f:z00->z00->Sem α}
  (hf:∀ v u s2 x y H2,Inv X π σ H2 s2->RelV x v->RelV y u->R x y H2->z02 .(0) X.A (f v u) Q X.xe s2) :
  z02 .(0) X.A (eval a X.env) (λ v s₁=>z02 .(0) X.A (eval b X.env) (λ u s₂=>z02 .(0) X.A (f v u) Q X.xe s₂) X.xe s₁) X.xe s:=by
 refine thn (ha π s σ H _ I h) λ v s1 ⟨x,H1,I1,r1,q1⟩=>?_;refine thn (hb π s1 σ H1 _ I1 q1) λ u s2 ⟨y,H2,I2,r2,q2⟩=>?_;exact hf v u s2 x y H2 I2 r1 r2 q2
def tVar (i:Nat):TE:=λ σ H Q=>∃ v,σ[i]?=some (some v)/\Q v H
def tC (v:V):TE:=λ _ H Q=>Q v H
theorem Xc (hN:X.N[i]?=some x) (hv:Vis X.env.scope x) (hd:.(3)=false:=by decide) (hcd:.(27)=false:=by decide):PE X (.Name x pos) (tVar i):=by
 intro π s σ H Q I h;obtain⟨v,e,h⟩:=h;obtain⟨m,hn,hl⟩:=I.loc;obtain⟨u,r,l⟩:=hl i x v hN e hv;have fin:EP X π σ Q u s:=⟨v,H,I,r,h⟩
 rcases l with ⟨hk,hm⟩ | ⟨hk,c,hc,hcell⟩
 ·exact z3G (z7Y I.ok.kind hk hn hm fin) hd
 ·rcases hk with hk | hk
  ·exact z3G (z7Z I.ok.kind hk hc hcell fin) hd
  ·exact z3G (z7_ I.ok.kind hk hc hcell fin hcd) hd
theorem uM {i j pos}:PE X (.Constant (.int i) j pos) (tC (.int i)):=λ _ _ _ H _ I h=>z65 ⟨.int i,H,I.tok _,⟨_,rfl⟩,h⟩
theorem wk {b j pos}:PE X (.Constant (.bool b) j pos) (tC (.bl b)):=λ _ _ _ H _ I h=>Constant_bool ⟨.bl b,H,I,rfl,h⟩
theorem uN {j pos}:PE X (.Constant .none j pos) (tC .non):=λ _ _ _ H _ I h=>Constant_none ⟨.non,H,I,rfl,h⟩
theorem uO {x j pos}:PE X (.Constant (.str x) j pos) (tC (.str x)):=λ _ _ _ H _ I h=>Calls.Constant_str ⟨.str x,H,I.tok _,⟨_,rfl⟩,h⟩
def Gl (X:Cx) (x:Str):Prop:=X.env.kindOf x=some .globalImplicit
theorem Uh {σ:St}{H:Hp}(I:Inv X π σ H s) (hg:Gl X x) (hm:X.mg x=some u) (h:Q u s)
  (hd:.(3)=false:=by decide):z02 .(0) X.A (eval (.Name x pos) X.env) Q E s:=
 z80 I.ok.kind hg (Calls.loadGlobal_global (by rw[I.ok.glob];exact I.mod.glob.keeps I.bk) hm h) hd
theorem Kh {σ:St}{H:Hp}(I:Inv X π σ H s) (hg:Gl X x) (hm:X.mg x=none) (hv:z0x x=some u) (h:Q u s)
  (hn:x≠"__name__":=by decide) (hd:.(3)=false:=by decide):z02 .(0) X.A (eval (.Name x pos) X.env) Q E s:=by
 obtain⟨mb,h1,h2⟩:=I.mod.blt;exact z80 I.ok.kind hg (Calls.loadGlobal_builtin (by rw[I.ok.glob];exact I.mod.glob.keeps I.bk) hm (by rw[I.ok.blt];exact h1.keeps I.bk) ((h2 x hn).trans hv) h) hd
theorem Lg {v:V}(hg:Gl X x) (hm:X.mg x=some u) (r:RelV v u) (hd:.(3)=false:=by decide):PE X (.Name x pos) (tC v):=
 λ _ _ _ H _ I h=>Uh I hg hm ⟨v,H,I,r,h⟩ hd
theorem m5 {v:V}(hg:Gl X x) (hm:X.mg x=none) (hv:z0x x=some u) (r:RelV v u) (hn:x≠"__name__":=by decide) (hd:.(3)=false:=by decide):PE X (.Name x pos) (tC v):=
 λ _ _ _ H _ I h=>Kh I hg hm hv ⟨v,H,I,r,h⟩ hn hd
def t2I (ta tb:TE) (k:Int->Int->Hp->Prop):St->Hp->Prop:=λ σ H=>ta σ H λ x H1=>tb σ H1 λ y H2=>∃ i j,x=.int i/\y=.int j/\k i j H2
variable {a b:Expr}{ta tb:TE}
def PC (X:Cx) (op:z2s) (a b:Expr) (t:TE):Prop:=
 ∀ (π:zP) (s:z03) (σ:St) (H:Hp) (Q:VK),Inv X π σ H s->t σ H Q ->
  z02 .(0) X.A (eval a X.env) (λ v s₁=>z02 .(0) X.A (eval b X.env) (λ u s₂=>z02 .(0) X.A (z0B op v u) (EP X π σ Q) X.xe s₂) X.xe s₁) X.xe s
theorem Vz (b:Expr) {op:z2s}(h:op≠.In) (h2:op≠.NotIn):z0Z op b=false:=by
 have e1:(op==CmpOp.In)=false:=by cases op<;>first | rfl | exact absurd rfl h
 have e2:(op==z81)=false:=by cases op<;>first | rfl | exact absurd rfl h2
 cases b<;>simp[z0Z,e1,e2]
def tCmp (p:Int->Int->Bool) (ta tb:TE):TE:=λ σ H Q=>t2I ta tb (λ i j H2=>Q (.bl (p i j)) H2) σ H
abbrev tLt:TE->TE->TE:=tCmp λ i j=>decide (i<j)
abbrev tGt:TE->TE->TE:=tCmp λ i j=>decide (j<i)
abbrev tGe:TE->TE->TE:=tCmp λ i j=>decide (j<=i)
def tIsN (ta:TE):TE:=λ σ H Q=>ta σ H λ x H1=>Q (.bl (decide (x=.non))) H1
theorem RelV.none_iff {x:V}{v:z00}(r:RelV x v):(v==z15)=decide (x=.non):=by
 cases x with
 | non=>cases r;rfl
 | bl _=>cases r;rfl
 | int _=>obtain⟨t,rfl⟩:=r;rfl
 | str _=>obtain⟨t,rfl⟩:=r;rfl
 | byt _=>obtain⟨t,rfl⟩:=r;rfl
 | flt _=>obtain⟨t,rfl⟩:=r;rfl
 | ref _=>cases r;rfl
 | ty _=>cases r;rfl
theorem dG {j pos'} (ha:PE X a ta):PC X .Is a (.Constant .none j pos') (tIsN ta):=by
 intro π s σ H Q I h;refine thn (ha π s σ H _ I h) λ v s1 ⟨x,H1,I1,r1,q1⟩=>?_;exact Constant_none (is_none_gen ⟨.bl _,H1,I1,by rw[r1.none_iff];rfl,q1⟩)
def tB (t:TE):TT:=λ σ H Q=>t σ H λ x H1=>∃ c,x=.bl c/\Q c H1
theorem uP {op:z2s}{t:TE}(h:PC X op a b t) (h1:z0Z op b=false:=by first | exact Vz _ (by decide) (by decide) | rfl):PE X (.Compare a [op] [b] pos) t:=λ π s σ H Q I hw=>wpAny_Compare1 (h π s σ H Q I hw) h1
theorem uQ {op:z2s}{t:TE}(h:PC X op a b t) (h1:z0Z op b=false:=by first | exact Vz _ (by decide) (by decide) | rfl):PT X (.Compare a [op] [b] pos) (tB t):=by
 intro π s σ H Q I hw;refine z3H (thn (h π s σ H _ I hw) λ v s1 h1=>thn h1 λ u s2 h2=>thn h2 λ c s3 ⟨x,H1,I1,r1,q1⟩=>?_) h1;obtain⟨d,rfl,q⟩:=q1;cases r1;exact z1I ⟨H1,I1,q⟩
variable {tA tB':TT}{rest:List Expr}
def tAnd (t u:TT):TT:=λ σ H Q=>t σ H λ c H1=>if c=true then u σ H1 Q else Q false H1
def tOr (t u:TT):TT:=λ σ H Q=>t σ H λ c H1=>if c=true then Q true H1 else u σ H1 Q
def tNot (t:TT):TT:=λ σ H Q=>t σ H λ c H1=>Q (!c) H1
theorem m6 (ha:PT X a tA):PW X (.BoolOp .And [a] pos) tA:=by
 intro wh π s σ H Q I h;refine z3I (thn (ha π s σ H Q I h) λ c s1 e=>?_);cases c with
 | true=>exact z66 e
 | false=>exact e
theorem dH (ha:PT X a tA):PW X (.BoolOp .Or [a] pos) tA:=by
 intro wh π s σ H Q I h;refine isTrue_or (thn (ha π s σ H Q I h) λ c s1 e=>?_);cases c with
 | false=>exact isTrue_or_nil e
 | true=>exact e
theorem uR (ha:PT X a tA) (hb:PW X (.BoolOp .And (b::rest) pos) tB'):PW X (.BoolOp .And (a::b::rest) pos) (tAnd tA tB'):=by
 intro wh π s σ H Q I h;refine z3I (thn (ha π s σ H _ I h) λ c s1 ⟨H1,I1,q1⟩=>?_);cases c with
 | true=>exact hb wh π s1 σ H1 Q I1 q1
 | false=>exact⟨H1,I1,q1⟩
theorem rN (ha:PT X a tA) (hb:PW X (.BoolOp .Or (b::rest) pos) tB'):PW X (.BoolOp .Or (a::b::rest) pos) (tOr tA tB'):=by
 intro wh π s σ H Q I h;refine isTrue_or (thn (ha π s σ H _ I h) λ c s1 ⟨H1,I1,q1⟩=>?_);cases c with
 | true=>exact⟨H1,I1,q1⟩
 | false=>exact hb wh π s1 σ H1 Q I1 q1
theorem uT (ha:PT X a tA):PT X (.UnaryOp .Not a pos) (tNot tA):=by
 intro π s σ H Q I h;exact z67 (ha π s σ H (λ c H1=>Q (!c) H1) I h)
def wu (ta tb:TE):TE:=λ σ H Q=>ta σ H λ x H1=>∃ c,x=.bl c/\if c=true then tb σ H1 Q else Q (.bl false) H1
def ww (ta:TE):TE:=λ σ H Q=>ta σ H λ x H1=>∃ c,x=.bl c/\Q (.bl (!c)) H1
theorem uU {op} {t:TE}(h:PE X a t):PE X (.BoolOp op [a] pos) t:=λ π s σ H Q I hw=>BoolOp_one (h π s σ H Q I hw)
theorem uV (ha:PE X a ta) (hb:PE X (.BoolOp .And (b::rest) pos) tb):PE X (.BoolOp .And (a::b::rest) pos) (wu ta tb):=by
 intro π s σ H Q I h;refine BoolOp_and (thn (ha π s σ H _ I h) λ v s1 ⟨x,H1,I1,r1,q1⟩=>?_);obtain⟨c,rfl,q1⟩:=q1;cases r1;refine z1I ?_;cases c with
 | true=>exact hb π s1 σ H1 Q I1 q1
 | false=>exact⟨.bl false,H1,I1,rfl,q1⟩
theorem uW (ha:PE X a ta):PE X (.UnaryOp .Not a pos) (ww ta):=by
 intro π s σ H Q I h;refine UnaryOp_ (thn (ha π s σ H _ I h) λ v s1 ⟨x,H1,I1,r1,q1⟩=>?_);obtain⟨c,rfl,q1⟩:=q1;cases r1;exact not_of (z1I ⟨.bl (!c),H1,I1,rfl,q1⟩)
def tIf (t:TT) (ta tb:TE):TE:=λ σ H Q=>t σ H λ c H1=>if c=true then ta σ H1 Q else tb σ H1 Q
theorem dI {c:Expr}(hc:PT X c tA) (ha:PE X a ta) (hb:PE X b tb):PE X (.IfExp c a b pos) (tIf tA ta tb):=by
 intro π s σ H Q I h;refine wpAny_IfExp (thn (hc π s σ H _ I h) λ d s1 ⟨H1,I1,q1⟩=>?_);cases d with
 | true=>exact ha π s1 σ H1 Q I1 q1
 | false=>exact hb π s1 σ H1 Q I1 q1
end
def SqL (K:z08) (H:Hp) (a:Addr) (xs:List V):Prop:=
 Rd H a (.lst xs) ∨
  ∃ (o:Obj) (its:Array z00) (n:Nat),K.lookup a=some o/\o.cls=.type "list"/\o.dict=none/\o.data=.seq its n/\its.size<=sizeLine/\Vals xs its.toList
def SqT (K:z08) (H:Hp) (a:Addr) (xs:List V):Prop:=
 Rd H a (.tup xs) ∨
  ∃ (o:Obj) (its:Array z00) (n:Nat),K.lookup a=some o/\o.cls=.type "tuple"/\o.data=.seq its n/\its.size<=sizeLine/\Vals xs its.toList
def absV:z00->Option V
 | .none=>some .non
 | .bool b=>some (.bl b)
 | .int i _=>some (.int i)
 | .str x _=>some (.str x)
 | .bytes b _=>some (.byt b)
 | .float b _=>some (.flt b)
 | .ref a=>some (.ref a)
 | .type n=>some (.ty n)
 | _=>none
theorem RelV.abs {x:V}(r:RelV x u):absV u=some x:=by
 cases x with
 | non=>cases r;rfl
 | bl _=>cases r;rfl
 | int _=>obtain⟨t,rfl⟩:=r;rfl
 | str _=>obtain⟨t,rfl⟩:=r;rfl
 | byt _=>obtain⟨t,rfl⟩:=r;rfl
 | flt _=>obtain⟨t,rfl⟩:=r;rfl
 | ref _=>cases r;rfl
 | ty _=>cases r;rfl
theorem RelV.inj {x y:V}{u:z00}(r:RelV x u) (q:RelV y u):x=y:=z0t (r.abs.symm.trans q.abs)
theorem Vals.inj:∀ {xs ys:List V}{us:List z00},Vals xs us->Vals ys us->xs=ys
 | _,_,_,.nil,.nil=>rfl
 | _,_,_,.cons r t,.cons r' t'=>by rw[r.inj r',Vals.inj t t']
section
variable {X:Cx}{σ:St}{H:Hp}{xs ys:List V}
theorem SqL.of {K:z08}(h:H a=some (.lst xs)):SqL K H a xs:=.inl (.inl h)
theorem SqT.of {K:z08}(h:H a=some (.tup xs)):SqT K H a xs:=.inl (.inl h)
theorem Inv.list (I:Inv X π σ H s) (h:SqL X.K H a xs):∃ its:List z00,Vals xs its/\PlainL s.heap a its.toArray/\xs.length<=sizeLine:=by
 rcases h with h | ⟨o,its,n,hk,hc,hd,hs,hz,r⟩
 ·obtain⟨z,its,n,r,e⟩:=h.ok I.hok;exact⟨its,r,⟨_,n,e,rfl,rfl,rfl⟩,z⟩
 ·refine⟨its.toList,r,⟨o,n,I.kIn a o hk,hc,hd,by simpa using hs⟩,?_⟩;have e:=r.length;simp only[z0_] at e;omega
theorem Inv.tuple (I:Inv X π σ H s) (h:SqT X.K H a xs):∃ its:List z00,Vals xs its/\IsTup s.heap a its.toArray/\xs.length<=sizeLine:=by
 rcases h with h | ⟨o,its,n,hk,hc,hs,hz,r⟩
 ·obtain⟨z,its,r,p⟩:=h.ok I.hok;exact⟨its,r,p,z⟩
 ·refine⟨its.toList,r,⟨o,I.kIn a o hk,hc,n,by simpa using hs⟩,?_⟩;have e:=r.length;simp only[z0_] at e;omega
theorem Inv.list_inj (I:Inv X π σ H s) (h:SqL X.K H a xs) (h':SqL X.K H a ys):xs=ys:=by
 obtain⟨its,r,⟨o,n,e,_,_,d⟩,_⟩:=I.list h;obtain⟨its',r',⟨o',n',e',_,_,d'⟩,_⟩:=I.list h';rw[e] at e';cases e';rw[d] at d';injection d' with d1 _
 have:its=its':=by simpa using congrArg z68 d1
 subst this;exact r.inj r'
theorem Inv.tuple_inj (I:Inv X π σ H s) (h:SqT X.K H a xs) (h':SqT X.K H a ys):xs=ys:=by
 obtain⟨its,r,⟨o,e,_,n,d⟩,_⟩:=I.tuple h;obtain⟨its',r',⟨o',e',_,n',d'⟩,_⟩:=I.tuple h';rw[e] at e';cases e';rw[d] at d';injection d' with d1 _
 have:its=its':=by simpa using congrArg z68 d1
 subst this;exact r.inj r'
end
abbrev Cx.wish (X:Cx) (E:z00->z03->Prop):Cx:={ X with xe:=E }
abbrev Cx.nox (X:Cx):Cx:=X.wish λ _ _=>False
theorem Cx.Ok.wish {X:Cx}(ok:X.Ok) (E:z00->z03->Prop):(X.wish E).Ok:=
 ⟨ok.mod,ok.kind,ok.glob,ok.blt,ok.above,ok.inj,ok.has,ok.cab,ok.hd,ok.frames,ok.stk,ok.exf,ok.bs,ok.bsz,ok.noex,ok.exfs,ok.funs,ok.frf⟩
theorem Cx.Ok.unwish {X:Cx}(ok:(X.wish E).Ok):X.Ok:=
 ⟨ok.mod,ok.kind,ok.glob,ok.blt,ok.above,ok.inj,ok.has,ok.cab,ok.hd,ok.frames,ok.stk,ok.exf,ok.bs,ok.bsz,ok.noex,ok.exfs,ok.funs,ok.frf⟩
section
variable {X:Cx}{σ:St}{H:Hp}
theorem Inv.wish (I:Inv X π σ H s) (E:z00->z03->Prop):Inv (X.wish E) π σ H s:=⟨I.ok.wish E,I.os,I.bare,I.base,I.loc,I.cell,I.free,I.freeC,I.pin,I.hok,I.len⟩
theorem Inv.unwish (I:Inv (X.wish E) π σ H s):Inv X π σ H s:=⟨I.ok.unwish,I.os,I.bare,I.base,I.loc,I.cell,I.free,I.freeC,I.pin,I.hok,I.len⟩
theorem SP.unwish {D:Ends}{f:Flow}{s':z03}(h:SP (X.wish E) π D f s'):SP X π D f s':=by
 cases f with
 | next=>obtain⟨σ',H',I,q⟩:=h;exact⟨σ',H',I.unwish,q⟩
 | brk=>obtain⟨σ',H',I,q⟩:=h;exact⟨σ',H',I.unwish,q⟩
 | cont=>obtain⟨σ',H',I,q⟩:=h;exact⟨σ',H',I.unwish,q⟩
 | ret u=>obtain⟨v,σ',H',I,r,q⟩:=h;exact⟨v,σ',H',I.unwish,r,q⟩
theorem PSs.nox {st:List Stmt}{t:TS}(h:PSs X.nox st t):PSs X st t:=λ π s σ H D I hw=>
 z1t (h π s σ H D (I.wish _) hw) (λ _ _ q=>q.unwish) λ _ _ z=>z1n z
end
section
variable {X:Cx}{rest:List Stmt}{t u:TS}{te:TE}
def wy:TS:=λ D σ H=>D.nx σ H
def tSeq (t u:TS):TS:=λ D σ H=>t { D with nx:=u D } σ H
theorem Lh:PSs X [] wy:=λ _ _ σ H _ I h=>z1U ⟨σ,H,I,h⟩
theorem RJ (h1:PS X st t) (h2:PSs X rest u):PSs X (st::rest) (tSeq t u):=by
 intro π s σ H D I h;refine z26 (thn (h1 π s σ H { D with nx:=u D } I h) λ f s1 q=>?_);cases f with
 | next=>
  obtain⟨σ',H',I',q⟩:=q;exact h2 π s1 σ' H' D I' q
 | ret v=>exact q
 | brk=>exact q
 | cont=>exact q
theorem Yr (h1:PS X st t):PSs X [st] t:=by
 intro π s σ H D I h;refine z26 (thn (h1 π s σ H D I h) λ f s1 q=>?_);cases f with
 | next=>exact z1U q
 | ret v=>exact q
 | brk=>exact q
 | cont=>exact q
theorem Inv.quiet {σ:St}{H:Hp}(I:Inv X π σ H s):interactive X.env=false:=by simp[interactive,I.ok.kind]
def wz (te:TE):TS:=λ D σ H=>te σ H λ _ H1=>D.nx σ H1
theorem Ys (he:PE X e te) (hs:z1o e none pos.line X.env=pure false:=by rfl):PS X (.Expr e pos) (wz te):=by
 intro π s σ H D I h;exact wpAny_Expr_any (thn (he π s σ H _ I h) λ v s1 ⟨x,H1,I1,r1,q1⟩=>⟨σ,H1,I1,q1⟩) I.quiet hs
def tRet (te:TE):TS:=λ D σ H=>te σ H D.rt
theorem uX (he:PE X e te):PS X (.Return (some e) pos) (tRet te):=by
 intro π s σ H D I h;exact z50 (thn (he π s σ H _ I h) λ v s1 ⟨x,H1,I1,r1,q1⟩=>⟨x,σ,H1,I1,r1,q1⟩)
def tIfS (c:TT) (t u:TS):TS:=λ D σ H=>c σ H λ b H1=>if b=true then t D σ H1 else u D σ H1
theorem rP {c:Expr}{a b:List Stmt}{tc:TT}(hc:PT X c tc) (ha:PSs X a t) (hb:PSs X b u):PS X (.If c a b pos) (tIfS tc t u):=by
 intro π s σ H D I h;refine z48 (thn (hc π s σ H _ I h) λ d s1 ⟨H1,I1,q1⟩=>?_);cases d with
 | true=>exact ha π s1 σ H1 D I1 q1
 | false=>exact hb π s1 σ H1 D I1 q1
end
abbrev TG:=V->St->Hp->(St->Hp->Prop)->Prop
abbrev TGs:=List V->St->Hp->(St->Hp->Prop)->Prop
def PG (X:Cx) (target:Expr) (t:TG):Prop:=
 ∀ (π:zP) (s:z03) (σ:St) (H:Hp) (v:V) (u:z00) (Q:St->Hp->Prop),Inv X π σ H s->RelV v u->t v σ H Q ->
  z02 .(0) X.A (z3J target X.env u) (λ _ s'=>∃ σ' H',Inv X π σ' H' s'/\Q σ' H') X.xe s
def PGs (X:Cx) (ts:List Expr) (t:TGs):Prop:=
 ∀ (π:zP) (s:z03) (σ:St) (H:Hp) (vs:List V) (us:List z00) (Q:St->Hp->Prop),Inv X π σ H s->Vals vs us->t vs σ H Q ->
  z02 .(0) X.A (assignInOrder ((z1C ts X.env).map (·.2)) us) (λ _ s'=>∃ σ' H',Inv X π σ' H' s'/\Q σ' H') X.xe s
section
variable {X:Cx}
def Hd (i:Nat):TG:=λ v σ H Q=>Q (σ.set i (some v)) H
theorem Qu (hN:X.N.Nodup) (hi:X.N[i]?=some x) (hx:Loc X.env.scope x) (hf:X.fn x=true∨X.env.scope.names.lookup x=some .local :=by first | exact .inl rfl | exact .inr rfl | assumption):PG X (.Name x pos) (Hd i):=by
 intro π s σ H v u Q I r h;exact wpAny_assign_Name (Vy I hN hi hx r (λ s' I'=>⟨_,H,I',h⟩) hf)
def gNil:TGs:=λ vs σ H Q=>vs=[]/\Q σ H
def V2 (t:TG) (u:TGs):TGs:=λ vs σ H Q=>∃ v r,vs=v::r/\t v σ H λ σ' H'=>u r σ' H' Q
theorem Yt:PGs X [] gNil:=by
 intro π s σ H vs us Q I r h;obtain⟨e,h⟩:=h;subst e;cases r;exact assignInOrder_nil ⟨σ,H,I,h⟩
theorem RK {es:List Expr}{t:TG}{u:TGs}(h1:PG X e t) (h2:PGs X es u)
  (hs:(z1C (e::es) X.env).map (·.2)=z3J e X.env::(z1C es X.env).map (·.2):=by rfl):PGs X (e::es) (V2 t u):=by
 intro π s σ H vs us Q I r h;obtain⟨v,vr,e1,h⟩:=h;subst e1;cases r with
 | cons r rr=>
  rw[hs];refine assignInOrder_cons (thn (h1 π s σ H _ _ _ I r h) λ _ s1 ⟨σ1,H1,I1,q1⟩=>?_);exact h2 π s1 σ1 H1 _ _ Q I1 rr q1
def gTup (K:z08) (n:Nat) (t:TGs):TG:=λ v σ H Q=>∃ a xs,v=.ref a/\SqT K H a xs/\xs.length=n/\t xs σ H Q
theorem dJ {es:List Expr}{k:Nat}{t:TGs}(hc:X.calm=true) (h:PGs X es t)
  (hn:(z1C es X.env).length=n:=by rfl) (hst:(z1C es X.env).findIdx? (·.1)=none:=by rfl):PG X (.Tuple es k pos) (gTup X.K n t):=by
 intro π s σ H v u Q I r hw;obtain⟨a,xs,e1,hq,hl,hw⟩:=hw;subst e1;cases r;obtain⟨its,rv,ht,hz⟩:=I.tuple hq;refine assign_Tuple_tuple (I.ok.hd hc) ht (by simp[hn,<-hl,rv.length]) hst λ h' hx=>?_;have I1:Inv X π σ H { s with heap:=h' }:=I.kept (t':=s.toks) λ b o e=>hx b o (z0i (z0f e)) e;exact h π _ σ H xs _ Q I1 (by simpa using rv) hw
def tAsg (te:TE) (g:TG):TS:=λ D σ H=>te σ H λ x H1=>g x σ H1 D.nx
theorem uY {te:TE}{g:TG}(he:PE X e te) (hg:PG X tg g) (hs:swapsWithSole [tg] e pos.line X.env=pure false:=by rfl) (hw:swappedStores [tg] e X.env=pure none:=by rfl)
  (h1:(z1C [tg] X.env).map (·.2)=[z3J tg X.env]:=by rfl):PS X (.Assign [tg] e pos) (tAsg te g):=by
 intro π s σ H D I h;refine wpAny_Assign_stores (thn (he π s σ H _ I h) λ v s1 ⟨x,H1,I1,r1,q1⟩=>?_) hs hw;rw[h1];exact thn (hg π s1 σ H1 x v _ I1 r1 q1) λ _ s2 q=>q
theorem dM {te:TE}(hN:X.N.Nodup) (hi:X.N[i]?=some x) (hx:Loc X.env.scope x) (he:PE X e te) (hs:z1o e (some (.Name x pos')) pos.line X.env=pure false:=by rfl) (hf:X.fn x=true∨X.env.scope.names.lookup x=some .local :=by first | exact .inl rfl | exact .inr rfl | assumption) :
  PS X (.Assign [.Name x pos'] e pos) (tAsg te (Hd i)):=by
 intro π s σ H D I h;refine wpAny_Assign_Name (thn (he π s σ H _ I h) λ v s1 ⟨y,H1,I1,r1,q1⟩=>?_) hs;exact Vy I1 hN hi hx r1 (λ s2 I2=>⟨_,H1,I2,q1⟩) hf
end
section
variable {X:Cx}
def uZ (c:TT) (tb:TS):TS:=λ D σ H=>∃ W:Nat->St->Hp->Prop,(∃ m,W m σ H)/\∀ m σ H,W m σ H ->
 c σ H λ b H1=>if b=true then ∃ N:St->Hp->Prop,(∀ σ' H',N σ' H'->∃ m',m'<m/\W m' σ' H')/\tb { D with nx:=N,ct:=N,bk:=D.nx } σ H1 else D.nx σ H1
theorem dN {c:Expr}{tc:TT}{tb:TS}(hp:z49 .(0) X.A X.env X.xe) (hc:PT X c tc) (hb:PSs X body tb):PS X (.While c body [] pos) (uZ tc tb):=by
 intro π s σ H D I h;obtain⟨W,⟨m0,w0⟩,turn⟩:=h;refine wpAny_While (codeAny_whileLoop (λ n s'=>∃ σ' H',Inv X π σ' H' s'/\W n σ' H') ?_ m0 ⟨σ,H,I,w0⟩);rintro n s1 ⟨σ1,H1,I1,w1⟩;refine z3a hp (thn (hc π s1 σ1 H1 _ I1 (turn n σ1 H1 w1)) λ b s2 ⟨H2,I2,q2⟩=>?_);cases b with
 | true=>
  obtain⟨N,hN,q2⟩:=q2;rw[if_pos rfl];refine z3a hp (thn (hb π s2 σ1 H2 _ I2 q2) λ f s3 q3=>?_);cases f with
  | next=>
   obtain⟨σ3,H3,I3,n3⟩:=q3;obtain⟨m',hm,w3⟩:=hN σ3 H3 n3;exact⟨m',hm,σ3,H3,I3,w3⟩
  | cont=>
   obtain⟨σ3,H3,I3,n3⟩:=q3;obtain⟨m',hm,w3⟩:=hN σ3 H3 n3;exact⟨m',hm,σ3,H3,I3,w3⟩
  | brk=>exact q3
  | ret v=>exact q3
 | false=>
  rw[if_neg z0D];exact z1U ⟨σ1,H2,I2,q2⟩
end
structure It where
 go:Nat->Hp->Prop
 yld:Nat->Hp->V->Hp->Prop
 stop:Nat->Hp->Prop
def FpOk (X:Cx) (π:zP) (H:Hp) (b:Addr):Prop:=
 H b=none/\b≠X.env.locals/\b∉X.fs/\(b∈X.ex∨X.s₀.heap.objs.size<=b)/\(∀ x c,X.env.cells.lookup x=some c->c≠b)/\∀ p∈X.pn++π,p.1≠b
theorem Inv.fpOk {X:Cx}{σ:St}{H H':Hp}(I:Inv X π σ H s) (hb:s.heap.objs.size<=b) (hn:H' b=none):FpOk X π H' b:=by
 refine⟨hn,z2H (z0X I.lt hb),I.nofs hb,.inr (z0E I.sz hb),λ x c e z=>?_,λ p hp z=>?_⟩
 ·obtain⟨v,q⟩:=I.cell x c e;exact absurd (z0X q.lt (by rw[z];exact hb)) (z1l _)
 ·exact absurd (z0X (z0f (I.pin p hp).1) (by rw[z];exact hb)) (z1l _)
structure Turn (P:z0s) (w:z0k) (K:z08) (tg:Expr) (J:It) (fp:List Addr) (it:Addr) (tn:Nat->Heap->Prop):Prop where
 mem:it∈fp
 obj:∀ i h,tn i h->∀ b∈fp,∃ o,h.get? b=some o/\∀ v,o.data≠.cell v
 keep:∀ i h h',tn i h->(∀ b∈fp,∀ o,h.get? b=some o->h'.get? b=some o)->tn i h'
 item:∀ (X:Cx),X.prog=P->X.w=w->X.K=K->X.calm=true->∀ (i:Nat) (π:zP) (s:z03) (σ:St) (H:Hp) (E:z00->z03->Prop),Inv X π σ H s->(∀ b∈fp,FpOk X π H b)->tn i s.heap->J.go i H ->
  z02 (z04 P w) X.A (z0M (.ref it)) (λ r s1=>∃ u,r=some u ∧
   z02 (z04 P w) X.A (z51 tg (.ref it) u) (λ _ s2=>∃ x H',Inv X π σ H' s2/\RelV x u/\J.yld i H x H'/\tn (i+1) s2.heap/\∀ b∈fp,H' b=none) E s1) E s
 done:∀ (X:Cx),X.prog=P->X.w=w->X.K=K->X.calm=true->∀ (i:Nat) (π:zP) (s:z03) (σ:St) (H:Hp) (E:z00->z03->Prop),Inv X π σ H s->(∀ b∈fp,FpOk X π H b)->tn i s.heap->J.stop i H ->
  z02 (z04 P w) X.A (z0M (.ref it)) (λ r s1=>r=none/\Inv X π σ H s1) E s
 self:∀ (A:z0a) (i:Nat) (s:z03) (Q:z00->z03->Prop) (E:z00->z03->Prop),tn i s.heap->Q (.ref it) s->z02 (z04 P w) A (z2t (.ref it)) Q E s
abbrev TI:=St->Hp->(It->Hp->Prop)->Prop
def PIE (X:Cx) (π:zP) (σ:St) (tg:Expr) (R:It->Hp->Prop) (itv:z00) (s2:z03):Prop:=
 ∃ (it:Addr) (fp:List Addr) (tn:Nat->Heap->Prop) (J:It) (H':Hp),itv=.ref it/\Inv X π σ H' s2/\Turn X.prog X.w X.K tg J fp it tn/\tn 0 s2.heap/\(∀ b∈fp,FpOk X π H' b)/\R J H'
def PI (X:Cx) (tg iter:Expr) (wi:TI):Prop:=
 ∀ (π:zP) (s:z03) (σ:St) (H:Hp) (R:It->Hp->Prop),Inv X π σ H s->wi σ H R ->
  z02 .(0) X.A (eval iter X.env) (λ v s1=>z02 .(0) X.A (z2t v) (PIE X π σ tg R) X.xe s1) X.xe s
theorem V4 {A:z0a}{n:String}{vs:Array z00}{Q:Unit->z03->Prop}(ho:s.heap.get? it=some o) (hc:o.cls=.type n) (hd:o.data=.fields vs)
    (hn:["enumerate","zip","dict_itemiterator","dict_reverseitemiterator","odict_iterator","itertools.zip_longest","itertools.pairwise"].contains n=false) (hQ:Q () s):z02 M A (z51 tg (.ref it) u) Q E s:=by
  unfold z51;cases tg<;>first
    | exact z05 hQ
    | (cases u<;>first
        | exact z05 hQ
        | (refine z01 (z4a ho ?_)
           rw[hc,hd];show z02 M A (if (["enumerate","zip","dict_itemiterator","dict_reverseitemiterator","odict_iterator","itertools.zip_longest","itertools.pairwise"].contains n&&vs[0]?==some (z0H _))=true then _ else _) Q E s;rw[if_neg (by intro h;rw[hn,z4b] at h;cases h)];exact z05 hQ))
def Itl (K:z08) (a:Addr):It:=
 ⟨λ i H=>∃ xs x,SqL K H a xs/\xs[i]?=some x,λ i H x H'=>H'=H/\∀ xs,SqL K H a xs->xs[i]?=some x,λ i H=>∃ xs,SqL K H a xs/\xs.length<=i⟩
def Itt (K:z08) (a:Addr):It:=
 ⟨λ i H=>∃ xs x,SqT K H a xs/\xs[i]?=some x,λ i H x H'=>H'=H/\∀ xs,SqT K H a xs->xs[i]?=some x,λ i H=>∃ xs,SqT K H a xs/\xs.length<=i⟩
def Itr (lo:Int) (n:Nat):It:=⟨λ i _=>i<n,λ i H x H'=>H'=H/\x=.int (lo+i),λ i _=>n<=i⟩
theorem bG {K:z08}(a it:Addr):Turn P w K tg (Itl K a) [it] it (λ i h=>h.IsListIter it a i) where
 mem:=by simp
 obj:=λ i h st b hb=>by
  have e:b=it:=by simpa using hb
  subst e;obtain⟨o,e,c,d⟩:=st;exact⟨o,e,λ v z=>by rw[d] at z;cases z⟩
 keep:=λ i h h' st k=>st.at λ o e=>k it (by simp) o e
 item:=by
  intro X hP hw hK hc i π s σ H E I hf st hg;subst hP hw hK;obtain⟨xs,x,hq,hx⟩:=hg;obtain⟨its,rv,p,hz⟩:=I.list hq;obtain⟨u,hu,ru⟩:=rv.get hx;obtain⟨f0,f1,f2,f3,f4,f5⟩:=hf it (by simp);refine z82 st p.isList (x:=u) (by simpa using hu) λ h' st' sb=>?_;have I1:Inv X π σ H { s with heap:=h' }:=I.turned (t':=s.toks) (λ b o hb e=>(sb.2 b hb).trans e) f0 f1 f3 f4 f5;obtain⟨o,e,c,d⟩:=id st';exact⟨u,rfl,V4 (s:={ s with heap:=h' }) e c d (by decide) ⟨x,H,I1,ru,⟨rfl,λ ys hy=>by rw[I.list_inj hy hq];exact hx⟩,st',λ b hb=>(hf b hb).1⟩⟩
 done:=by
  intro X hP hw hK hc i π s σ H E I hf st hg;subst hP hw hK;obtain⟨xs,hq,hx⟩:=hg;obtain⟨its,rv,p,hz⟩:=I.list hq;obtain⟨f0,f1,f2,f3,f4,f5⟩:=hf it (by simp);have hl:=rv.length;exact z83 (I.ok.hd hc) st p.isList .(17) λ h' eb=>⟨rfl,I.turned (t':=s.toks) (λ b o hb e=>eb b o hb e) f0 f1 f3 f4 f5⟩
 self:=λ _ _ _ _ _ st h=>wpAny_pyIter_listiter st h
theorem Xd {K:z08}(a it:Addr):Turn P w K tg (Itt K a) [it] it (λ i h=>h.IsTupleIter it a i) where
 mem:=by simp
 obj:=λ i h st b hb=>by
  have e:b=it:=by simpa using hb
  subst e;obtain⟨o,e,c,d⟩:=st;exact⟨o,e,λ v z=>by rw[d] at z;cases z⟩
 keep:=λ i h h' st k=>st.at λ o e=>k it (by simp) o e
 item:=by
  intro X hP hw hK hc i π s σ H E I hf st hg;subst hP hw hK;obtain⟨xs,x,hq,hx⟩:=hg;obtain⟨its,rv,p,hz⟩:=I.tuple hq;obtain⟨u,hu,ru⟩:=rv.get hx;obtain⟨f0,f1,f2,f3,f4,f5⟩:=hf it (by simp);refine wpAny_pyNext_tuple_item st (show s.heap.IsTuple a its.toArray from p) (x:=u) (by simpa using hu) λ h' st' sb=>?_;have I1:Inv X π σ H { s with heap:=h' }:=I.turned (t':=s.toks) (λ b o hb e=>(sb.2 b hb).trans e) f0 f1 f3 f4 f5;obtain⟨o,e,c,d⟩:=id st';exact⟨u,rfl,V4 (s:={ s with heap:=h' }) e c d (by decide) ⟨x,H,I1,ru,⟨rfl,λ ys hy=>by rw[I.tuple_inj hy hq];exact hx⟩,st',λ b hb=>(hf b hb).1⟩⟩
 done:=by
  intro X hP hw hK hc i π s σ H E I hf st hg;subst hP hw hK;obtain⟨xs,hq,hx⟩:=hg;obtain⟨its,rv,p,hz⟩:=I.tuple hq;obtain⟨f0,f1,f2,f3,f4,f5⟩:=hf it (by simp);have hl:=rv.length;exact wpAny_pyNext_tuple_end (I.ok.hd hc) st (show s.heap.IsTuple a its.toArray from p) .(17) λ h' eb=>⟨rfl,I.turned (t':=s.toks) (λ b o hb e=>eb b o hb e) f0 f1 f3 f4 f5⟩
 self:=λ _ _ _ _ _ st h=>wpAny_pyIter_tupleiter st h
theorem Xe {K:z08}(it:Addr) (lo:Int) (n:Nat):Turn P w K tg (Itr lo n) [it] it (λ i h=>IsRangeIter h it (lo+(i:Nat)*1) ((n:Int)-(i:Nat)) 1) where
 mem:=by simp
 obj:=λ i h st b hb=>by
  have e:b=it:=by simpa using hb
  subst e;exact⟨_,st,λ v z=>by
   have z':z52 _=z53 v:=z;cases z'⟩
 keep:=λ i h h' st k=>k it (by simp) _ st
 item:=by
  intro X hP hw hK hc i π s σ H E I hf st hg;subst hP hw hK;obtain⟨f0,f1,f2,f3,f4,f5⟩:=hf it (by simp);have W:=Walks.range (prog:=X.prog) (w:=X.w) (I.ok.hd hc) it lo 1 n;refine W.item i s _ _ hg st λ v h' tk hv st' kk=>?_;obtain⟨t,rfl⟩:=hv;have I1:Inv X π σ H { s with heap:=h',toks:=tk }:=I.turned (λ b o hb e=>kk b o (by simpa using hb) e) f0 f1 f3 f4 f5;refine⟨_,rfl,V4 (s:={ s with heap:=h',toks:=tk }) (n:="range_iterator") st' rfl rfl (by decide) ⟨.int (lo+i),H,I1,⟨t,?_⟩,⟨rfl,rfl⟩,st',λ b hb=>(hf b hb).1⟩⟩;rw[Int.mul_one]
 done:=by
  intro X hP hw hK hc i π s σ H E I hf st hg;subst hP hw hK;obtain⟨f0,f1,f2,f3,f4,f5⟩:=hf it (by simp);exact wpAny_pyNext_range_end (I.ok.hd hc) st (by have:n<=i:=hg;omega) λ h' eb=>⟨rfl,I.turned (t':=s.toks) (λ b o hb e=>eb b o hb e) f0 f1 f3 f4 f5⟩
 self:=λ _ _ _ _ _ st h=>wpAny_pyIter_rangeiter st h
section
variable {X:Cx}
def w6 (K:z08) (tl:TE):TI:=λ σ H R=>tl σ H λ x H1=>∃ a,x=.ref a/\(∃ xs,SqL K H1 a xs)/\R (Itl K a) H1
def iTup (K:z08) (tl:TE):TI:=λ σ H R=>tl σ H λ x H1=>∃ a,x=.ref a/\(∃ xs,SqT K H1 a xs)/\R (Itt K a) H1
theorem m8 {l:Expr}{tl:TE}(hl:PE X l tl):PI X tg l (w6 X.K tl):=by
 intro π s σ H R I h;refine thn (hl π s σ H _ I h) λ v s1 ⟨x,H1,I1,r1,q1⟩=>?_;obtain⟨a,e,⟨xs,hq⟩,q⟩:=q1;subst e;cases r1;obtain⟨its,rv,p,hz⟩:=I1.list hq;refine z54 p.isList ?_;refine⟨s1.heap.objs.size,[s1.heap.objs.size],_,_,H1,rfl,I1.kept (t':=s1.toks) λ b o e=>z0d _ e,bG a _,⟨_,z0l _ rfl,rfl,rfl⟩,λ b hb=>?_,q⟩;have e:b=s1.heap.objs.size:=by simpa using hb
 subst e;exact I1.fpOk (z07 _) (I1.hok.fresh (z07 _))
theorem uc {l:Expr}{tl:TE}(hl:PE X l tl):PI X tg l (iTup X.K tl):=by
 intro π s σ H R I h;refine thn (hl π s σ H _ I h) λ v s1 ⟨x,H1,I1,r1,q1⟩=>?_;obtain⟨a,e,⟨xs,hq⟩,q⟩:=q1;subst e;cases r1;obtain⟨its,rv,p,hz⟩:=I1.tuple hq;refine z4c (show s1.heap.IsTuple a its.toArray from p) ?_;refine⟨s1.heap.objs.size,[s1.heap.objs.size],_,_,H1,rfl,I1.kept (t':=s1.toks) λ b o e=>z0d _ e,Xd a _,⟨_,z0l _ rfl,rfl,rfl⟩,λ b hb=>?_,q⟩;have e:b=s1.heap.objs.size:=by simpa using hb
 subst e;exact I1.fpOk (z07 _) (I1.hok.fresh (z07 _))
theorem dO {σ:St}{H:Hp}{R:It->Hp->Prop}{lo hi:Int}{t u v:Tok}{tk:Nat}(I:Inv X π σ H s) (h1 : -(2^62)<=lo) (h2:lo<2^62) (h3 : -(2^62)<=hi) (h4:hi<2^62)
  (q:R (Itr lo (hi-lo).toNat) H):z02 .(0) X.A (z2t .(5)) (PIE X π σ tg R) E { s with heap:=s.heap.push { cls:=.type "range",data:=.fields #[.int lo t,.int hi u,.int 1 v] },toks:=tk }:=by
 refine wpAny_pyIter_range (IsRange.new ..) (small_one h1 h2 h3 h4) ?_;have I1:Inv X π σ H { s with heap:=s.heap.push { cls:=.type "range",data:=.fields #[.int lo t,.int hi u,.int 1 v] },toks:=tk }:=I.kept λ b o e=>z0d _ e;refine⟨(s.heap.push { cls:=.type "range",data:=.fields #[.int lo t,.int hi u,.int 1 v] }).objs.size,[(s.heap.push { cls:=.type "range",data:=.fields #[.int lo t,.int hi u,.int 1 v] }).objs.size],_,_,H,rfl,
  I1.kept (t':=tk) λ b o e=>z0d _ e,Xe _ lo (hi-lo).toNat,?_,λ b hb=>?_,q⟩
 ·have e1:lo+((0:Nat):Int)*1=lo:=by simp
  have e2:(((hi-lo).toNat:Nat):Int)-((0:Nat):Int)=z84 lo hi 1:=by rw[rangeSize_one];split<;>omega
  show IsRangeIter _ _ (lo+((0:Nat):Int)*1) ((((hi-lo).toNat:Nat):Int)-((0:Nat):Int)) 1;rw[e1,e2];exact z0l _ rfl
 ·have e:b=(s.heap.push { cls:=.type "range",data:=.fields #[.int lo t,.int hi u,.int 1 v] }).objs.size:=by simpa using hb
  subst e;exact I1.fpOk (z07 _) (I1.hok.fresh (z07 _))
def xF (ta:TA):TI:=λ σ H R=>ta σ H λ vs H1=>∃ j:Int,vs=[.int j]/\-(2^62)<=j/\j<2^62/\R (Itr 0 j.toNat) H1
theorem bH {a:Expr}{ta:TA}{p:Pos}(hg:Gl X "range") (hm:X.mg "range"=none) (ha:PA X [a] ta) (hs:z09 [a] X.env=[.(7)]:=by rfl):PI X tg (.Call (.Name "range" p) [a] [] pos) (xF ta):=by
 intro π s σ H R I h;refine Call_ (Kh I hg hm boot_range (z55 (thn (ha pos π s σ H _ I h) λ us s1 ⟨vs,H1,I1,r1,q1⟩=>?_) hs rfl));obtain⟨j,e,q1,q2,q⟩:=q1;subst e;cases r1 with
 | cons r rr=>
  cases rr;obtain⟨t,rfl⟩:=r;exact call_range_1 (dO I1 (by omega) (by omega) q1 q2 (by simpa using q))
def tFor (wi:TI) (g:TG) (tb:TS):TS:=λ D σ H=>wi σ H λ J H1=>∃ W:Nat->Nat->St->Hp->Prop,(∃ m,W 0 m σ H1)/\∀ i m σ H,W i m σ H ->
 (J.stop i H/\D.nx σ H)∨(J.go i H/\∃ N:St->Hp->Prop,(∀ σ' H',N σ' H'->∃ m',m'<m/\W (i+1) m' σ' H')/\∀ x H',J.yld i H x H'->g x σ H' λ σ2 H2=>tb { D with nx:=N,ct:=N,bk:=D.nx } σ2 H2)
def RL (fp:List Addr) (h:Heap):List (Addr×Obj):=fp.filterMap λ b=>(h.get? b).map λ o=>(b,o)
theorem Js (hb:b∈fp) (e:h.get? b=some o):(b,o)∈RL fp h:=z69.mpr ⟨b,hb,by rw[e];rfl⟩
theorem bI {p:Addr×Obj}(hp:p∈RL fp h):p.1∈fp/\h.get? p.1=some p.2:=by
 obtain⟨b,hb,e⟩:=z69.mp hp;cases q:h.get? b with
 | none=>rw[q] at e;cases e
 | some o=>
  rw[q] at e;have e':(b,o)=p:=z0t e;subst e';exact⟨hb,q⟩
theorem Inv.pinned {σ:St}{H:Hp}(I:Inv X π σ H s) (hf:∀ b∈fp,FpOk X π H b) (ho:∀ b∈fp,∃ o,s.heap.get? b=some o/\∀ v,o.data≠.cell v):Inv X (π++RL fp s.heap) σ H s:=
 I.pins_of λ p hp=>(z0Y.mp hp).elim (λ z=>I.pin p (z27 _ z)) λ z=>by
  obtain⟨hb,e⟩:=bI z;obtain⟨f0,f1,f2,_⟩:=hf p.1 hb;obtain⟨o,e',d⟩:=ho p.1 hb;rw[e] at e';cases e';exact⟨e,f0,f1,f2,d⟩
theorem Inv.unpinned {pl:zP}{σ:St}{H:Hp}(I:Inv X (π++pl) σ H s):Inv X π σ H s:=I.pins_of λ p hp=>I.pin p (z27 _ (z64 _ hp))
theorem dR {iter:Expr}{wi:TI}{g:TG}{tb:TS}(hp:z49 .(0) X.A X.env X.xe) (hc:X.calm=true) (hi:PI X tg iter wi) (hg:PG X tg g) (hb:PSs X body tb)
  (hs:∀ x,z3b iter X.env x=pure x:=by intro _;rfl):PS X (.For tg iter body [] pos) (tFor wi g tb):=by
 intro π s σ H D I h;refine wpAny_For (thn (hi π s σ H _ I h) λ v s1 h1=>thn h1 λ itv s2 h2=>?_) hs;obtain⟨it,fp,tn,J,H2,e,I2,T,st2,f2,W,⟨m0,w0⟩,turn⟩:=h2;subst e;have stat:∀ {H':Hp},(∀ b∈fp,H' b=none)->∀ b∈fp,FpOk X π H' b:=λ hn b hb=>⟨hn b hb,(f2 b hb).2⟩;refine codeAny_forLoop_any (λ n s'=>∃ i σ' H',Inv X π σ' H' s'/\tn i s'.heap/\(∀ b∈fp,H' b=none)/\W i n σ' H') ?_ m0 ⟨0,σ,H2,I2,st2,λ b hb=>(f2 b hb).1,w0⟩;rintro n s3 ⟨i,σ3,H3,I3,st3,fr3,w3⟩
 rcases turn i n σ3 H3 w3 with ⟨stop,qn⟩ | ⟨go,N,hN,step⟩
 ·refine z3a hp (thn (T.done X rfl rfl rfl hc i π s3 σ3 H3 X.xe I3 (stat fr3) st3 stop) λ r s4 ⟨hr,I4⟩=>?_);subst hr;exact z1U ⟨σ3,H3,I4,qn⟩
 ·refine z3a hp (thn (T.item X rfl rfl rfl hc i π s3 σ3 H3 X.xe I3 (stat fr3) st3 go) λ r s4 ⟨u,hr,h4⟩=>?_);subst hr;refine z3a hp (thn h4 λ _ s5 ⟨x,H5,I5,r5,y5,st5,fr5⟩=>?_);have I5':=I5.pinned (stat fr5) (T.obj _ _ st5);refine z3a hp (thn (hg _ s5 σ3 H5 x u _ I5' r5 (step x H5 y5)) λ _ s6 ⟨σ6,H6,I6,q6⟩=>?_);refine z3a hp (thn (hb _ s6 σ6 H6 _ I6 q6) λ f s7 q7=>?_);have again:∀ {σ7:St}{H7:Hp},Inv X (π++RL fp s5.heap) σ7 H7 s7->N σ7 H7->∃ m,m<n/\∃ i σ' H',Inv X π σ' H' s7/\tn i s7.heap/\(∀ b∈fp,H' b=none)/\W i m σ' H':=λ {σ7 H7} I7 n7=>by
   obtain⟨m',hm,w7⟩:=hN σ7 H7 n7;refine⟨m',hm,i+1,σ7,H7,I7.unpinned,T.keep _ _ _ st5 λ b hb o e=>(I7.pin (b,o) (z27 _ (z27 _ (Js hb e)))).1,λ b hb=>?_,w7⟩;obtain⟨o,e,d⟩:=T.obj _ _ st5 b hb;exact (I7.pin (b,o) (z27 _ (z27 _ (Js hb e)))).2.1
  cases f with
  | next=>obtain⟨σ7,H7,I7,n7⟩:=q7;exact again I7 n7
  | cont=>obtain⟨σ7,H7,I7,n7⟩:=q7;exact again I7 n7
  | brk=>obtain⟨σ7,H7,I7,q7⟩:=q7;exact⟨σ7,H7,I7.unpinned,q7⟩
  | ret v=>obtain⟨x7,σ7,H7,I7,r7,q7⟩:=q7;exact⟨x7,σ7,H7,I7.unpinned,r7,q7⟩
end
abbrev R2:=V->V->Hp->VK->Prop
def OpR (X:Cx) (f:z00->z00->Sem z00) (r:R2):Prop:=
 ∀ (π:zP) (s:z03) (σ:St) (H:Hp) (x y:V) (v u:z00) (Q:VK),Inv X π σ H s->RelV x v->RelV y u->r x y H Q ->
  z02 .(0) X.A (f v u) (EP X π σ Q) X.xe s
def Cv (X:Cx) (f:z00) (r:List V->Hp->VK->Prop):Prop:=
 ∀ (π:zP) (s:z03) (σ:St) (H:Hp) (xs:List V) (us:List z00) (Q:VK),Inv X π σ H s->Vals xs us->r xs H Q ->
  z02 .(0) X.A (call f us) (EP X π σ Q) X.xe s
def TruR (X:Cx) (r:V->Hp->(Bool->Hp->Prop)->Prop):Prop:=
 ∀ (π:zP) (s:z03) (σ:St) (H:Hp) (x:V) (v:z00) (Q:Bool->Hp->Prop),Inv X π σ H s->RelV x v->r x H Q ->
  z02 .(0) X.A (truthy v) (TP X π σ Q) X.xe s
def tOp (r:R2) (ta tb:TE):TE:=λ σ H Q=>ta σ H λ x H1=>tb σ H1 λ y H2=>r x y H2 Q
def rI (C:Int->Int->Prop) (g:Int->Int->V):R2:=λ x y H Q=>∃ i j,x=.int i/\y=.int j/\C i j/\Q (g i j) H
def rI0 (g:Int->Int->V):R2:=λ x y H Q=>∃ i j,x=.int i/\y=.int j/\Q (g i j) H
section
variable {X:Cx}{a b c:Expr}{ta tb tc:TE}
theorem binT (ha:PE X a ta) (hb:PE X b tb) {π:zP}{s:z03}{σ:St}{H:Hp}{R:V->V->Hp->Prop}(I:Inv X π σ H s)
  (h:ta σ H λ x H1=>tb σ H1 λ y H2=>R x y H2) {Q:z00->z03->Prop}{f:z00->z00->Sem z00}
  (hf:∀ v u s2 x y H2,Inv X π σ H2 s2->RelV x v->RelV y u->R x y H2->z02 .(0) X.A (f v u) Q X.xe s2) :
  z02 .(0) X.A (eval a X.env) (λ v s₁=>z02 .(0) X.A (eval b X.env) (λ u s₂=>z02 .(0) X.A (f v u) Q X.xe s₂) X.xe s₁) X.xe s:=by
 refine thn (ha π s σ H _ I h) λ v s1 ⟨x,H1,I1,r1,q1⟩=>?_;refine thn (hb π s1 σ H1 _ I1 q1) λ u s2 ⟨y,H2,I2,r2,q2⟩=>?_;exact hf v u s2 x y H2 I2 r1 r2 q2
theorem xG {op:Operator}{r:R2}(ho:OpR X (z1u op) r) (ha:PE X a ta) (hb:PE X b tb):PE X (.BinOp a op b pos) (tOp r ta tb):=by
 intro π s σ H Q I h;exact wpAny_BinOp (binT ha hb I h λ v u s2 x y H2 I2 rx ry q=>ho π s2 σ H2 x y v u Q I2 rx ry q)
theorem opI {f:z00->z00->Sem z00}{C:Int->Int->Prop}{g:Int->Int->Int}(rule:∀ (i j:Int) (t u:Tok) (s:z03) (Q:z00->z03->Prop) (E:z00->z03->Prop),C i j->Q (.int (g i j) s.toks) { s with toks:=s.toks+1 }->z02 .(0) X.A (f (.int i t) (.int j u)) Q E s) :
  OpR X f (rI C λ i j=>.int (g i j)):=by
 intro π s σ H x y v u Q I rx ry h;obtain⟨i,j,rfl,rfl,hc,q⟩:=h;obtain⟨t,rfl⟩:=rx;obtain⟨t',rfl⟩:=ry;exact rule i j t t' s _ _ hc ⟨.int (g i j),H,I.tok _,⟨_,rfl⟩,q⟩
theorem opI0 {f:z00->z00->Sem z00}{g:Int->Int->Int}(rule:∀ (i j:Int) (t u:Tok) (s:z03) (Q:z00->z03->Prop) (E:z00->z03->Prop),Q (.int (g i j) s.toks) { s with toks:=s.toks+1 }->z02 .(0) X.A (f (.int i t) (.int j u)) Q E s) :
  OpR X f (rI0 λ i j=>.int (g i j)):=by
 intro π s σ H x y v u Q I rx ry h;obtain⟨i,j,rfl,rfl,q⟩:=h;obtain⟨t,rfl⟩:=rx;obtain⟨t',rfl⟩:=ry;exact rule i j t t' s _ _ ⟨.int (g i j),H,I.tok _,⟨_,rfl⟩,q⟩
theorem opB0 {f:z00->z00->Sem z00}{g:Int->Int->Bool}(rule:∀ (i j:Int) (t u:Tok) (s:z03) (Q:z00->z03->Prop) (E:z00->z03->Prop),Q (.bool (g i j)) s->z02 .(0) X.A (f (.int i t) (.int j u)) Q E s) :
  OpR X f (rI0 λ i j=>.bl (g i j)):=by
 intro π s σ H x y v u Q I rx ry h;obtain⟨i,j,rfl,rfl,q⟩:=h;obtain⟨t,rfl⟩:=rx;obtain⟨t',rfl⟩:=ry;exact rule i j t t' s _ _ ⟨.bl (g i j),H,I,rfl,q⟩
def CDiv (i j:Int):Prop:=0<j/\j<1073741824
def CPow (i j:Int):Prop:=0<=j/\j<=1000000/\i.natAbs<2^64
def CMul (i j:Int):Prop:=(-(2^64)<i/\i<2^64)∨(-(2^64)<j/\j<2^64)
theorem CMul.ok {i j:Int}(h:CMul i j):IntMulOk i j:=by
 rcases h with ⟨h1,h2⟩ | ⟨h1,h2⟩
 ·exact .of_left (intBits_le_64 h1 h2)
 ·exact .of_right (intBits_le_64 h1 h2)
theorem Xf (k:Nat):(0:Int)<=2^k:=by
 rw[two_pow_cast];exact Int.natCast_nonneg _
theorem ud:OpR X (z1u .Add) (rI0 λ i j=>.int (i+j)):=opI0 λ _ _ _ _ _ _ _ q=>add_int q
theorem ue:OpR X (z1u .Sub) (rI0 λ i j=>.int (i-j)):=opI0 λ _ _ _ _ _ _ _ q=>sub_int q
theorem m9:OpR X (z1u .FloorDiv) (rI CDiv λ i j=>.int (i/j)):=opI λ i j _ _ _ _ _ hc q=>by
 have h1:(0:Int)<j:=hc.1;have h2:j<1073741824:=hc.2;exact floordiv_int (by omega) (by rw[z85 i (by omega)];exact q) (.inl (PyProof.noPylong_small (by omega)))
theorem uf:OpR X (z1u .Mod) (rI (λ _ j=>0<j) λ i j=>.int (i%j)):=opI λ i j _ _ _ _ _ hc q=>by
 have h1:(0:Int)<j:=hc;exact mod_int' (by omega) (by rw[Int.fmod_eq_emod_of_nonneg i (by omega)];exact q)
theorem dU:OpR X (z1u .RShift) (rI (λ _ j=>0<=j) λ i j=>.int (i/2^j.toNat)):=opI λ i j _ _ _ _ _ hc q=>
 rshift_int hc (by rw[z85 i (Xf _)];exact q)
theorem dW:OpR X (z1u .BitAnd) (rI0 λ i j=>.int (z3K i j)):=opI0 λ _ _ _ _ _ _ _ q=>and_int q
end
def scal:V->V->Bool
 | .non,.non=>true | .non,.int _=>true | .int _,.non=>true | .non,.bl _=>true | .bl _,.non=>true | .non,.str _=>true | .str _,.non=>true
 | .int _,.int _=>true | .bl _,.bl _=>true | .str _,.str _=>true | .byt _,.byt _=>true
 | .int _,.str _=>true | .str _,.int _=>true | .bl _,.str _=>true | .str _,.bl _=>true
 | _,_=>false
def rEq:R2:=λ x y H Q=>scal x y=true/\Q (.bl (decide (x=y))) H
def rNe:R2:=λ x y H Q=>scal x y=true/\Q (.bl (!decide (x=y))) H
theorem Yu {i j:Int}:decide (V.int i=V.int j)=(i==j):=by
 rw[z1V];simp
theorem dX {i j:Bool}:decide (V.bl i=V.bl j)=(i==j):=by
 rw[z1V];simp
theorem Yv {i j:Str}:decide (V.str i=V.str j)=(i==j):=by
 rw[z1V];simp
theorem Yw {i j:Array UInt8}:decide (V.byt i=V.byt j)=(i.toList==j.toList):=by
 rw[z1V];cases i;cases j;simp
section
variable {X:Cx}{a b c:Expr}{ta tb tc:TE}
theorem BV {σ:St}{H:Hp}{Q:VK}{k k':Bool}(I:Inv X π σ H s) (q:Q (.bl k) H) (e:k=k'):EP X π σ Q (.bool k') s:=by
 subst e;exact⟨.bl k,H,I,rfl,q⟩
theorem xH:OpR X (z0B .Eq) rEq:=by
 intro π s σ H x y v u Q I rx ry h;obtain⟨hs,q⟩:=h;cases x with
 | non=>
  cases rx;cases y with
  | non=>cases ry;exact PySem.EqNone.eq_none_none .(20)
  | bl j=>cases ry;exact PySem.EqNone.eq_none_bool .(20)
  | int j=>obtain⟨t',rfl⟩:=ry;exact PySem.EqNone.eq_none_int .(20)
  | str j=>obtain⟨t',rfl⟩:=ry;exact PySem.EqNone.eq_none_str .(20)
  | _=>exact absurd (show false=true from hs) z0D
 | bl i=>
  cases rx;cases y with
  | non=>cases ry;exact PySem.EqNone.eq_bool_none .(20)
  | bl j=>cases ry;exact eq_bool (BV I q dX)
  | str j=>obtain⟨t',rfl⟩:=ry;exact PySem.EqMixed.eq_bool_str .(20)
  | _=>exact absurd (show false=true from hs) z0D
 | int i=>
  obtain⟨t,rfl⟩:=rx;cases y with
  | non=>cases ry;exact PySem.EqNone.eq_int_none .(20)
  | int j=>obtain⟨t',rfl⟩:=ry;exact eq_int (BV I q Yu)
  | str j=>obtain⟨t',rfl⟩:=ry;exact PySem.EqMixed.eq_int_str .(20)
  | _=>exact absurd (show false=true from hs) z0D
 | str i=>
  obtain⟨t,rfl⟩:=rx;cases y with
  | non=>cases ry;exact PySem.EqNone.eq_str_none .(20)
  | bl j=>cases ry;exact PySem.EqMixed.eq_str_bool .(20)
  | int j=>obtain⟨t',rfl⟩:=ry;exact PySem.EqMixed.eq_str_int .(20)
  | str j=>obtain⟨t',rfl⟩:=ry;exact eq_str (BV I q Yv)
  | _=>exact absurd (show false=true from hs) z0D
 | byt i=>
  obtain⟨t,rfl⟩:=rx;cases y with
  | byt j=>obtain⟨t',rfl⟩:=ry;exact PySem.W.eq_bytes (BV I q Yw)
  | _=>exact absurd (show false=true from hs) z0D
 | _=>cases y<;>exact absurd (show false=true from hs) z0D
theorem xJ:OpR X (z0B .NotEq) rNe:=by
 intro π s σ H x y v u Q I rx ry h;obtain⟨hs,q⟩:=h;cases x with
 | non=>
  cases rx;cases y with
  | non=>cases ry;exact PySem.EqNone.ne_none_none .(20)
  | bl j=>cases ry;exact PySem.EqNone.ne_none_bool .(20)
  | int j=>obtain⟨t',rfl⟩:=ry;exact PySem.EqNone.ne_none_int .(20)
  | str j=>obtain⟨t',rfl⟩:=ry;exact PySem.EqNone.ne_none_str .(20)
  | _=>exact absurd (show false=true from hs) z0D
 | bl i=>
  cases rx;cases y with
  | non=>cases ry;exact PySem.EqNone.ne_bool_none .(20)
  | bl j=>cases ry;exact ne_bool (BV I q (congrArg not dX))
  | str j=>obtain⟨t',rfl⟩:=ry;exact PySem.EqMixed.ne_bool_str .(20)
  | _=>exact absurd (show false=true from hs) z0D
 | int i=>
  obtain⟨t,rfl⟩:=rx;cases y with
  | non=>cases ry;exact PySem.EqNone.ne_int_none .(20)
  | int j=>obtain⟨t',rfl⟩:=ry;exact ne_int (BV I q (congrArg not Yu))
  | str j=>obtain⟨t',rfl⟩:=ry;exact PySem.EqMixed.ne_int_str .(20)
  | _=>exact absurd (show false=true from hs) z0D
 | str i=>
  obtain⟨t,rfl⟩:=rx;cases y with
  | non=>cases ry;exact PySem.EqNone.ne_str_none .(20)
  | bl j=>cases ry;exact PySem.EqMixed.ne_str_bool .(20)
  | int j=>obtain⟨t',rfl⟩:=ry;exact PySem.EqMixed.ne_str_int .(20)
  | str j=>obtain⟨t',rfl⟩:=ry;exact ne_str (BV I q (congrArg not Yv))
  | _=>exact absurd (show false=true from hs) z0D
 | byt i=>
  obtain⟨t,rfl⟩:=rx;cases y with
  | byt j=>obtain⟨t',rfl⟩:=ry;exact PySem.W.ne_bytes (BV I q (congrArg not Yw))
  | _=>exact absurd (show false=true from hs) z0D
 | _=>cases y<;>exact absurd (show false=true from hs) z0D
theorem rQ:OpR X (z0B .Lt) (rI0 λ i j=>.bl (decide (i<j))):=opB0 λ _ _ _ _ _ _ _ q=>lt_int q
theorem xK:OpR X (z0B .LtE) (rI0 λ i j=>.bl (decide (i<=j))):=opB0 λ _ _ _ _ _ _ _ q=>le_int q
theorem xM:OpR X (z0B .Gt) (rI0 λ i j=>.bl (decide (j<i))):=opB0 λ _ _ _ _ _ _ _ q=>gt_int q
theorem xN:OpR X (z0B .GtE) (rI0 λ i j=>.bl (decide (j<=i))):=opB0 λ _ _ _ _ _ _ _ q=>ge_int q
theorem bJ:OpR X (z0B .In) (λ x y H Q=>∃ i j,x=.str i/\y=.str j/\Q (.bl (!(z2I j i 0 j.length 1).isEmpty)) H):=by
 intro π s σ H x y v u Q I rx ry h;obtain⟨i,j,rfl,rfl,q⟩:=h;obtain⟨t,rfl⟩:=rx;obtain⟨t',rfl⟩:=ry;exact in_str (BV I q rfl)
theorem Ui:OpR X (z0B .NotIn) (λ x y H Q=>∃ i j,x=.str i/\y=.str j/\Q (.bl (!(!(z2I j i 0 j.length 1).isEmpty))) H):=by
 intro π s σ H x y v u Q I rx ry h;obtain⟨i,j,rfl,rfl,q⟩:=h;obtain⟨t,rfl⟩:=rx;obtain⟨t',rfl⟩:=ry;exact notIn_str (BV I q rfl)
theorem OpR.or {f:z00->z00->Sem z00}{r r':R2}(h:OpR X f r) (h':OpR X f r'):OpR X f (λ x y H Q=>r x y H Q∨r' x y H Q):=by
 intro π s σ H x y v u Q I rx ry q
 rcases q with q | q
 ·exact h π s σ H x y v u Q I rx ry q
 ·exact h' π s σ H x y v u Q I rx ry q
theorem Kl (b:Expr) {op:z2s}(h:op≠.In:=by decide) (h2:op≠.NotIn:=by decide):z0Z op b=false:=by
 have e1:(op==CmpOp.In)=false:=by cases op<;>first | rfl | exact absurd rfl h
 have e2:(op==z81)=false:=by cases op<;>first | rfl | exact absurd rfl h2
 cases b<;>simp[z0Z,e1,e2]
theorem Yx {op:z2s}{r:R2}(ho:OpR X (z0B op) r) (ha:PE X a ta) (hb:PE X b tb) (hm:z0Z op b=false):PE X (.Compare a [op] [b] pos) (tOp r ta tb):=by
 intro π s σ H Q I h;exact wpAny_Compare1 (binT ha hb I h λ v u s2 x y H2 I2 rx ry q=>ho π s2 σ H2 x y v u Q I2 rx ry q) hm
def xO (t:TE):TT:=λ σ H Q=>t σ H λ x H'=>∃ k,x=.bl k/\Q k H'
theorem Yy {op:z2s}{r:R2}(ho:OpR X (z0B op) r) (ha:PE X a ta) (hb:PE X b tb) (hm:z0Z op b=false):PT X (.Compare a [op] [b] pos) (xO (tOp r ta tb)):=by
 intro π s σ H Q I h;refine z3H (thn (ha π s σ H _ I h) λ v s1 ⟨x,H1,I1,r1,q1⟩=>thn (hb π s1 σ H1 _ I1 q1) λ u s2 ⟨y,H2,I2,r2,q2⟩=>
  thn (ho π s2 σ H2 x y v u _ I2 r1 r2 q2) λ c s3 ⟨z,H3,I3,r3,k,e,q3⟩=>?_) hm
 subst e;cases r3;exact z1I ⟨H3,I3,q3⟩
def TruV (K:z08) (x:V) (H:Hp) (k:Bool):Prop:=
 match x with
 | .non=>k=false
 | .bl b=>k=b
 | .int i=>k=(i != 0)
 | .str y=>y.length<=sizeLine/\k=((y.length:Int) != 0)
 | .byt y=>y.size<=sizeLine/\k=((y.size:Int) != 0)
 | .ref p=>(∃ xs,SqL K H p xs/\k=!xs.isEmpty)∨(∃ xs,SqT K H p xs/\k=!xs.isEmpty)∨∃ kvs,H p=some (.dK kvs)/\k=!kvs.isEmpty
 | _=>False
theorem Xg {κ:Type}{kvs:List (κ×V)}{vs:List (κ×z00)}(r:KV kvs vs):(!vs.isEmpty)=!kvs.isEmpty:=by
 cases r<;>rfl
theorem RM {xs:List V}(r:Vals xs its):(!its.toArray.isEmpty)=!xs.isEmpty:=by
 cases r<;>simp
theorem RN:(sizeLine:Nat)<2^63:=by rw[z1p];decide
theorem ug:TruR X (λ x H Q=>∃ k,TruV X.K x H k/\Q k H):=by
 intro π s σ H x v Q I rx h;obtain⟨k,e,q⟩:=h;have hl:=RN;have hs:sizeLine=16777216:=z1p;cases x with
 | non=>
  cases rx;have e':k=false:=e;subst e';exact truthy_none ⟨H,I,q⟩
 | bl b=>
  cases rx;have e':k=b:=e;subst e';exact z1I ⟨H,I,q⟩
 | int i=>
  obtain⟨t,rfl⟩:=rx;have e':k=(i != 0):=e;subst e';exact PySem.P.truthy_int ⟨H,I,q⟩
 | str y=>
  obtain⟨t,rfl⟩:=rx;obtain⟨hy,e'⟩:y.length<=sizeLine/\k=((y.length:Int) != 0):=e;subst e';exact PySem.P.truthy_str (by omega) ⟨H,I.tok _,q⟩
 | byt y=>
  obtain⟨t,rfl⟩:=rx;obtain⟨hy,e'⟩:y.size<=sizeLine/\k=((y.size:Int) != 0):=e;subst e';exact PySem.W.truthy_bytes (by omega) ⟨H,I.tok _,q⟩
 | ref p=>
  cases rx;have e':(∃ xs,SqL X.K H p xs/\k=!xs.isEmpty)∨(∃ xs,SqT X.K H p xs/\k=!xs.isEmpty)∨∃ kvs,H p=some (.dK kvs)/\k=!kvs.isEmpty:=e
  rcases e' with ⟨xs,hx,e'⟩ | ⟨xs,hx,e'⟩ | ⟨kvs,hx,e'⟩
  ·subst e';obtain⟨its,r,pl,hz⟩:=I.list hx;have hlen:=r.length;exact wpAny_truthy_list pl.isList (by simp only[z0r];omega) ⟨H,I.tok _,by rw[RM r];exact q⟩
  ·subst e';obtain⟨its,r,pl,hz⟩:=I.tuple hx;have hlen:=r.length;exact truthy_tuple pl (by simp only[z0r];omega) ⟨H,I.tok _,by rw[RM r];exact q⟩
  ·subst e';obtain⟨hz,hS,vs,r,m⟩:kvs.length<=sizeLine/\(p==z16)=false/\∃ vs,KV kvs vs/\s.heap.DictOf (Ao X.prog X.w) p vs:=I.hok p _ hx;have hlen:kvs.length=vs.length:=z4_ r;exact wpAny_truthy_dict hS m (by omega) ⟨H,I.tok _,by rw[Xg r];exact q⟩
 | _=>exact (show False from e).elim
theorem dY (ha:PE X a ta) (he:∀ whole,z2G a X.env whole=(do let v <-whole;z1W a.pos;z1v [v] (truthy v))) :
  PT X a (λ σ H Q=>ta σ H λ x H'=>∃ k,TruV X.K x H' k/\Q k H'):=by
 intro π s σ H Q I h;exact isTrue_plain (thn (ha π s σ H _ I h) λ v s1 ⟨x,H1,I1,r1,q1⟩=>ug π s1 σ H1 x v Q I1 r1 q1) (he _)
theorem Xh:OpR X (z1u .Add) (λ x y H Q=>∃ i j,x=.str i/\y=.str j/\i.length+j.length<=sizeLine/\Q (.str (i++j)) H):=by
 intro π s σ H x y v u Q I rx ry h;obtain⟨i,j,rfl,rfl,hz,q⟩:=h;obtain⟨t,rfl⟩:=rx;obtain⟨t',rfl⟩:=ry;exact add_str (λ t' tk=>⟨.str (i++j),H,I.tok _,⟨_,rfl⟩,q⟩) hz
theorem vals1 {x:V}(r:Vals [x] us):∃ u,us=[u]/\RelV x u:=by
 cases r with
 | cons r1 r2=>cases r2;exact⟨_,rfl,r1⟩
theorem vals2 {x y:V}(r:Vals [x,y] us):∃ u w',us=[u,w']/\RelV x u/\RelV y w':=by
 cases r with
 | cons r1 r2=>
  cases r2 with
  | cons r3 r4=>cases r4;exact⟨_,_,rfl,r1,r3⟩
theorem O8 (hc:X.calm=true):Cv X (.builtin "max") (λ xs H Q=>∃ i j,xs=[.int i,.int j]/\Q (.int (if j > i then j else i)) H):=by
 intro π s σ H xs us Q I r h;obtain⟨i,j,rfl,q⟩:=h;obtain⟨u,w',rfl,⟨t,rfl⟩,⟨t',rfl⟩⟩:=vals2 r;refine max_two_ints (I.ok.hd hc) λ h' tk k=>⟨_,H,I.kept k,?_,q⟩
 by_cases hj:j > i
 ·rw[if_pos hj,if_pos hj];exact⟨_,rfl⟩
 ·rw[if_neg hj,if_neg hj];exact⟨_,rfl⟩
theorem Th (hc:X.calm=true):Cv X (.builtin "min") (λ xs H Q=>∃ i j,xs=[.int i,.int j]/\Q (.int (if j<i then j else i)) H):=by
 intro π s σ H xs us Q I r h;obtain⟨i,j,rfl,q⟩:=h;obtain⟨u,w',rfl,⟨t,rfl⟩,⟨t',rfl⟩⟩:=vals2 r;refine min_two_ints (I.ok.hd hc) λ h' tk k=>⟨_,H,I.kept k,?_,q⟩
 by_cases hj:j<i
 ·rw[if_pos hj,if_pos hj];exact⟨_,rfl⟩
 ·rw[if_neg hj,if_neg hj];exact⟨_,rfl⟩
def LenV (K:z08) (x:V) (H:Hp) (n:Nat):Prop:=
 match x with
 | .str y=>y.length<=sizeLine/\n=y.length
 | .byt y=>y.size<=sizeLine/\n=y.size
 | .ref p=>(∃ xs,SqL K H p xs/\n=xs.length)∨∃ xs,SqT K H p xs/\n=xs.length
 | _=>False
theorem dZ:Cv X (.builtin "len") (λ xs H Q=>∃ x n,xs=[x]/\LenV X.K x H n/\Q (.int n) H):=by
 intro π s σ H xs us Q I r h;obtain⟨x,n,rfl,e,q⟩:=h;obtain⟨u,rfl,rx⟩:=vals1 r;have hl:=RN;have hs:sizeLine=16777216:=z1p;cases x with
 | str y=>
  obtain⟨t,rfl⟩:=rx;obtain⟨hy,e'⟩:y.length<=sizeLine/\n=y.length:=e;subst e';exact len_str (by omega) ⟨.int _,H,I.tok _,⟨_,rfl⟩,q⟩
 | byt y=>
  obtain⟨t,rfl⟩:=rx;obtain⟨hy,e'⟩:y.size<=sizeLine/\n=y.size:=e;subst e';exact PySem.W.len_bytes (by omega) ⟨.int _,H,I.tok _,⟨_,rfl⟩,q⟩
 | ref p=>
  cases rx;have e':(∃ xs,SqL X.K H p xs/\n=xs.length)∨∃ xs,SqT X.K H p xs/\n=xs.length:=e
  rcases e' with ⟨xs,hx,e'⟩ | ⟨xs,hx,e'⟩
  ·subst e';obtain⟨its,r',pl,hz⟩:=I.list hx;have hlen:=r'.length;exact Calls.call_len_list pl.isList (by simp only[z0r];omega) ⟨.int xs.length,H,I.tok _,⟨_,by simp only[z0r];rw[hlen]⟩,q⟩
  ·subst e';obtain⟨its,r',pl,hz⟩:=I.tuple hx;have hlen:=r'.length;exact len_tuple pl (by simp only[z0r];omega) ⟨.int xs.length,H,I.tok _,⟨_,by simp only[z0r];rw[hlen]⟩,q⟩
 | _=>exact (show False from e).elim
end
structure ObjM (h:Heap) (x dx C:Addr) (mA:Str->Option z00):Prop where
 obj:h.get? x=some (z2F C dx)
 ns:h.Ns1 dx mA
 ne:dx≠x
theorem bK {dx:Addr}{mA:Str->Option z00}(n:h.Ns1 dx mA):∃ od,h.get? dx=some od/\∀ name,z56 name od=some (mA name):=by
 obtain⟨o,es,ep,ho,hd,hk,_,hm⟩:=n;refine⟨o,ho,λ name=>?_⟩;have e:=hm name;unfold nsFind findBy at e;rw[<-Array.find?_toList] at e;unfold z56;rw[hd];dsimp only;split
 ·rename_i y q;rw[q] at e;exact congrArg some e
 ·rename_i q;rw[q] at e;have a:es.toList.any (·.refKey)=false:=by
   rw[z86];intro y hy;obtain⟨z,t,hkey⟩:=hk y (z6a.mp hy);simp[DictEntry.refKey,hkey]
  have a':¬ es.toList.any (·.refKey)=true:=by rw[a];exact z0D
  rw[if_neg a'];exact congrArg some e
theorem ObjM.look {x dx:Addr}{mA:Str->Option z00}(I:ObjM h x dx C mA):∃ od,PySem.W.InstAt h x (z2F C dx) C (some od)/\∀ name,z56 name od=some (mA name):=
 let ⟨od,ho,hl⟩:=bK I.ns
 ⟨od,⟨I.obj,rfl,rfl,ho⟩,hl⟩
section
variable {A:z0a}{K:z08}{x dx f:Addr}{mA:Str->Option z00}{name:Str}{v:z00}
theorem Uj {expr:Bool}(X:K.In s.heap) (I:ObjM s.heap x dx C mA) (hg:z4d K C name=true) (hh:z57 K C=true)
  (ha:z17 K (.ref C) name=some none) (hv:mA name=some v) (hv':z87 v=true) (h:Q v { s with toks:=s.toks+1 }) :
  z02 (z04 prog w) A (getAttr (.ref x) name expr) Q E s:=by
 obtain⟨od,J,hl⟩:=I.look;exact PySem.W.get_value X J (z6b hg).1 (PySem.W.findObj_own hh ha rfl (by rw[hl,hv])) hv' h
theorem dg {pl:Sem Bool}{Q:z00×List z00->z03->Prop}(X:K.In s.heap) (I:ObjM s.heap x dx C mA) (hg:z4d K C name=true)
  (hf:z17 K (.ref C) name=some (some (.ref f))) (ht:z3L K (.ref f)=true) (hv:mA name=none) (h:Q (.ref f,[.ref x]) s) :
  z02 (z04 prog w) A (z28 (.ref x) name pl) Q E s:=by
 obtain⟨od,J,hl⟩:=I.look;exact PySem.W.method_fn X J (z6b hg).1 (z6b hg).2 hf (beq_iff_eq.mp ht) (by show (z56 name od).map (·.isSome)=some false;rw[hl,hv];rfl) h
theorem m_ {ns:List Str}{Q:Unit->z03->Prop}(X:K.In s.heap) (I:ObjM s.heap x dx C mA)
  (hs:z17 K (.ref C) "__setattr__"=some (some (.builtin "object.__setattr__"))) (hp:z6c K C=true) (ht:z6d K C name=some none) (hh:z57 K C=true)
  (hw:z60 mA ns) (hsz:ns.length<=sizeLine)
  (h:∀ h',ObjM h' x dx C (λ y=>if y=name then some v else mA y)->z14 dx s.heap h'->Q () { s with heap:=h',toks:=s.toks+2 }) :
  z02 (z04 prog w) A (setAttr (.ref x) name v) Q E s:=by
 obtain⟨od,J,hl⟩:=I.look;refine PySem.W.set_plain X J hs (PySem.W.osa_open (s:={ s with toks:=s.toks+1 }) (r:=none) X J hp ht λ b=>?_);obtain⟨cd,hc,hd'⟩:=PySem.W.any_some hh;have hx:s.heap.get? x=some ⟨.ref C,some dx,.plain,#[]⟩:=I.obj;refine z01 (z05 (z01 (z01 (wpAny_loadPart hx (z01 (PySem.W.Looks.here (s:={ s with toks:=s.toks+1 }) (PySem.W.looks_clsIn X hc) ?_))))));rw[hd'];refine z05 (a:=some dx) (z01 (z05 (z01 ?_)));refine wpAny_nsSet1 (s:={ s with toks:=s.toks+1 }) I.ns λ h' hn2 hs2=>?_;obtain⟨oD,esD,epD,hoD,hdD,hcD⟩:=hn2.count (PySem.Within.cons name v hw);refine z01 (wpAny_lookBehind hoD (by rw[hdD];exact pastItsLine_dict (z0E hcD (by rw[z0u];omega))) ?_);exact z05 (h _ ⟨(hs2.2 _ (z0n I.ne)).trans I.obj,hn2,I.ne⟩ hs2)
theorem dh {R:z2u->z03->Prop}(X:K.In s.heap) (hm:z6e K C=true)
  (hi:z17 K (.ref C) "__init__"=some (some (.ref f))) (hf:PySem.W.typeIn K (.ref f)=some (.type "function"))
  (h:z11 (z04 prog w) (A.under (.builtin "type.__call__" ⟨.ref C::vs,kw⟩)) (.call (.ref f) ⟨.ref .(6)::vs,kw⟩) (PySem.W.InitBack .(6) R)
   { s with heap:=(s.heap.push z2v).push (z2F C s.heap.objs.size) }) :
  z11 (z04 prog w) A (.call (.ref C) ⟨vs,kw⟩) R s:=by
 obtain⟨hh,g,d,t,os⟩:=s;exact PySem.W.make_core (PySem.W.makes_of X hm) (PySem.W.looks_findIn X hi) (λ self=>PySem.W.bind_fn X self hf) (.inl rfl) h
end
def putF (f:Str) (v:V):List (Str×V)->List (Str×V)
 | []=>[(f,v)]
 | (g,x)::r=>if g=f then (g,v)::r else (g,x)::putF f v r
theorem QW (f g:Str) (v:V):∀ fs:List (Str×V),(putF f v fs).lookup g=if g=f then some v else fs.lookup g
 | []=>by
  show z0m g [(f,v)]=_
  by_cases h:g=f
  ·have hb:(g==f)=true:=beq_iff_eq.mpr h;simp only[z0m,hb,if_pos h]
  ·have hb:(g==f)=false:=beq_eq_false_iff_ne.mpr h;simp only[z0m,hb,if_neg h]
 | (k,x)::r=>by
  have ih:=QW f g v r;rw[show putF f v ((k,x)::r)=(if k=f then (k,v)::r else (k,x)::putF f v r) from rfl]
  by_cases hk:k=f
  ·rw[if_pos hk]
   by_cases h:g=k
   ·have hb:(g==k)=true:=beq_iff_eq.mpr h;simp only[z0m,hb,if_pos (h.trans hk)]
   ·have hb:(g==k)=false:=beq_eq_false_iff_ne.mpr h;simp only[z0m,hb,if_neg (λ e:g=f=>h (e.trans hk.symm))]
  ·rw[if_neg hk]
   by_cases h:g=k
   ·have hb:(g==k)=true:=beq_iff_eq.mpr h;simp only[z0m,hb,if_neg (λ e:g=f=>hk (h.symm.trans e))]
   ·have hb:(g==k)=false:=beq_eq_false_iff_ne.mpr h;simp only[z0m,hb];exact ih
theorem O9 (f:Str) (v:V):∀ fs:List (Str×V),f∈(putF f v fs).map (·.1)/\∀ g,g∈fs.map (·.1)->g∈(putF f v fs).map (·.1)
 | []=>⟨by simp[putF],λ g h=>by simp at h⟩
 | (k,x)::r=>by
  obtain⟨i1,i2⟩:=O9 f v r;rw[show putF f v ((k,x)::r)=(if k=f then (k,v)::r else (k,x)::putF f v r) from rfl]
  by_cases hk:k=f
  ·rw[if_pos hk];subst hk;exact⟨by simp,λ g h=>by simpa using h⟩
  ·rw[if_neg hk];refine⟨?_,λ g h=>?_⟩
   ·rw[z0c];exact z0y _ i1
   ·rw[z0c] at h ⊢
    rcases z0j.mp h with e | e
    ·exact z0j.mpr (.inl e)
    ·exact z0y _ (i2 g e)
theorem QX (f:Str) (v:V):∀ fs:List (Str×V),(putF f v fs).length<=fs.length+1
 | []=>by simp[putF]
 | (k,x)::r=>by
  have ih:=QX f v r;rw[show putF f v ((k,x)::r)=(if k=f then (k,v)::r else (k,x)::putF f v r) from rfl]
  by_cases hk:k=f
  ·rw[if_pos hk,z0u,z0u];omega
  ·rw[if_neg hk,z0u,z0u];omega
theorem RelO.some_of {v:V}{o:Option z00}(r:RelO (some v) o):∃ u,o=some u/\RelV v u:=by
 cases o with
 | none=>exact (show False from r).elim
 | some u=>exact⟨u,rfl,r⟩
theorem RelO.none_of {o:Option z00}(r:RelO none o):o=none:=by
 cases o with
 | none=>rfl
 | some u=>exact (show False from r).elim
theorem O_ {v:V}(r:RelV v u):z87 u=true:=by
 cases v with
 | non=>cases (show u=z15 from r);rfl
 | bl b=>cases (show u=z38 b from r);rfl
 | int i=>obtain⟨t,e⟩:=(show ∃ t,u=z36 i t from r);cases e;rfl
 | str x=>obtain⟨t,e⟩:=(show ∃ t,u=z3E x t from r);cases e;rfl
 | byt b=>obtain⟨t,e⟩:=(show ∃ t,u=z7X b t from r);cases e;rfl
 | flt b=>obtain⟨t,e⟩:=(show ∃ t,u=z5_ b t from r);cases e;rfl
 | ref a=>cases (show u=z0b a from r);rfl
 | ty n=>cases (show u=z2g n from r);rfl
section
variable {H H':Hp}{dx:Addr}{fs fs':List (Str×V)}
theorem Li (hok:HOk P w H h) (e:H a=some (.ins C dx fs)):∃ mA,ObjM h a dx C mA/\(∀ f,RelO (fs.lookup f) (mA f))/\z60 mA (fs.map (·.1))/\fs.length<=1000/\H dx=some (.own a):=by
 obtain⟨d,z,ne,ob,mA,n,r,q⟩:=(show BL P w H h a (.ins C dx fs) from hok a _ e);exact⟨mA,⟨ob,n,ne⟩,r,q,z,d⟩
end
structure Cls (K:z08) (C:Addr):Prop where
 pg:z4d K C z3M=true
 hd:z57 K C=true
 po:z6c K C=true
 sa:z17 K (.ref C) "__setattr__"=some (some (.builtin "object.__setattr__"))
theorem Cls.get {K:z08}(c:Cls K C) (f:Str):z4d K C f=true:=c.pg
def Bd (K:z08) (C:Addr) (f:Str):Prop:=z17 K (.ref C) f=some none
theorem Bd.taker {K:z08}(n:Bd K C f):z6d K C f=some none:=by
 unfold z6d;rw[show z17 K (.ref C) f=some none from n];rfl
structure Meth (K:z08) (C:Addr) (m:Str) (f:Addr):Prop where
 at_:z17 K (.ref C) m=some (some (.ref f))
 fn:z3L K (.ref f)=true
 kp:z1K K (.ref f)=true
section
variable {X:Cx}{σ:St}{H:Hp}{dx:Addr}{fs:List (Str×V)}{v:V}{A:z0a}
theorem Xi {b:Bool}(I:Inv X π σ H s) (e:H a=some (.ins C dx fs)) (c:Cls X.K C) (n:Bd X.K C f) (l:fs.lookup f=some v)
  (h:∀ u s',Inv X π σ H s'->RelV v u->Q u s'):z02 .(0) A (getAttr (.ref a) f b) Q E s:=by
 obtain⟨mA,O,r,_,_,_⟩:=Li I.hok e;obtain⟨u,hu,ru⟩:=RelO.some_of (v:=v) (o:=mA f) (by rw[<-l];exact r f);exact Uj I.kIn O (c.get f) c.hd n hu (O_ ru) (h u _ (I.tok _) ru)
theorem Jt {g:Addr}{pl:Sem Bool}{Q:z00×List z00->z03->Prop}(I:Inv X π σ H s) (e:H a=some (.ins C dx fs)) (c:Cls X.K C) (k:Meth X.K C m g) (l:fs.lookup m=none)
  (h:Q (.ref g,[.ref a]) s):z02 .(0) A (z28 (.ref a) m pl) Q E s:=by
 obtain⟨mA,O,r,_,_,_⟩:=Li I.hok e;have hn:mA m=none:=RelO.none_of (by rw[<-l];exact r m);exact dg I.kIn O (c.get m) k.at_ k.fn hn h
theorem Xj {y:V}{Q:Unit->z03->Prop}(I:Inv X π σ H s) (e:H a=some (.ins C dx fs)) (c:Cls X.K C) (n:Bd X.K C f) (hl:fs.length<1000) (ry:RelV y u)
  (h:∀ s',Inv X π σ (upd H a (.ins C dx (putF f y fs))) s'->Q () s'):z02 .(0) A (setAttr (.ref a) f u) Q E s:=by
 obtain⟨mA,O,r,wi,_,ho⟩:=Li I.hok e;have hz:(fs.map (·.1)).length<=sizeLine:=by rw[z06,z1p];omega
 refine m_ I.kIn O c.sa c.po n.taker c.hd wi hz λ h' O' sb=>h _ ?_;have hd:∃ o,h'.get? dx=some o:=let ⟨o,_,_,e',_⟩:=O'.ns;⟨o,e'⟩;refine I.write (x:=a) (e:=dx) (by rw[e];exact z1L) (.inr ho) (λ b q hb z=>(sb.2 b hb).trans z) hd ?_;refine⟨by rw[Ak O.ne];exact ho,?_,O.ne,O'.obj,_,O'.ns,λ g=>?_,λ g hg=>?_⟩
 ·have:=QX f y fs;omega
 ·show RelO ((putF f y fs).lookup g) (if g=f then some u else mA g);rw[QW]
  by_cases q:g=f
  ·rw[if_pos q,if_pos q];exact ry
  ·rw[if_neg q,if_neg q];exact r g
 ·by_cases q:g=f
  ·rw[q];exact (O9 f y fs).1
  ·refine (O9 f y fs).2 g (wi g λ z=>hg ?_);show (if g=f then some u else mA g)=none;rw[if_neg q];exact z
theorem Inv.made (I:Inv X π σ H s):Inv X π σ (upd (upd H s.heap.objs.size (.own .(6))) .(6) (.ins C s.heap.objs.size []))
  { s with heap:=(s.heap.push z2v).push (z2F C s.heap.objs.size) }:=by
 have e1:(s.heap.push z2v).get? s.heap.objs.size=some z2v:=z0l s.heap rfl;have e2:((s.heap.push z2v).push (z2F C s.heap.objs.size)).get? .(6)=some (z2F C s.heap.objs.size):=by
  have:=z0l (s.heap.push z2v) (o:=z2F C s.heap.objs.size) rfl
  rwa [z1w] at this
 have e3:(s.heap.push z2v).Ns s.heap.objs.size (λ _=>none):=⟨z2v,#[],_,e1,rfl,(λ e he=>absurd he (by simp)),λ _=>rfl⟩;have I1:=I.laid (a:=s.heap.objs.size) (o:=.own .(6)) (h':=s.heap.push z2v) (t':=s.toks) (λ b u q=>z0d _ q) (z07 _) ⟨_,e1⟩;refine I1.laid (a:=s.heap.objs.size+1) (o:=.ins C s.heap.objs.size []) (t':=s.toks) (λ b u q=>z0d _ q) (z6f (z1w _ _)) ?_;have ne:s.heap.objs.size≠s.heap.objs.size+1:=z0i (z4e _);refine⟨by rw[Ak ne,Aj],z18 _,ne,e2,λ _=>none,(Heap.Ns1.of_empty e3).at λ o q=>z0d _ q,λ _=>z1L,λ y hy=>absurd rfl hy⟩
theorem Uk (hb:z1q e f env (eval e env)=eval e env)
  (h:z02 (z04 prog w) A (eval e env) (λ o s₁=>z02 (z04 prog w) A (getAttr o f true) Q E s₁) E s):z02 (z04 prog w) A (eval (.Attribute e f pos) env) Q E s:=
 Attribute_any_ h (by rw[arm_eval_Attribute,hb])
end
def tFld (K:z08) (ta:TE) (f:Str):TE:=λ σ H Q=>ta σ H λ x H1=>∃ a C dx fs v,x=.ref a/\H1 a=some (.ins C dx fs)/\Cls K C/\Bd K C f/\fs.lookup f=some v/\Q v H1
def sFld (K:z08) (ta tv:TE) (f:Str):TS:=λ D σ H=>tv σ H λ y H1=>ta σ H1 λ x H2=>∃ a C dx fs,x=.ref a/\H2 a=some (.ins C dx fs)/\Cls K C/\Bd K C f/\fs.length<1000 ∧
 D.nx σ (upd H2 a (.ins C dx (putF f y fs)))
section
variable {X:Cx}{o value:Expr}{tpos:Pos}{ta tv:TE}
theorem Xk (he:PE X e ta) (hb:z1q e f X.env (eval e X.env)=eval e X.env):PE X (.Attribute e f pos) (tFld X.K ta f):=by
 intro π s σ H Q I h;refine Uk hb (thn (he π s σ H _ I h) λ u s1 ⟨x,H1,I1,rx,a,C,dx,fs,v,ex,ea,c,n,l,q⟩=>?_);subst ex;obtain rfl:u=z0b a:=rx;exact Xi I1 ea c n l λ u' s2 I2 ru=>⟨v,H1,I2,ru,q⟩
theorem di (ha:PE X o ta) (hv:PE X value tv) (hs:z1o value (some (.Attribute o f pos')) pos.line X.env=pure false):PS X (.Assign [.Attribute o f pos'] value pos) (sFld X.K ta tv f):=by
 intro π s σ H D I h;refine plainObj_wpAny_Assign_Attribute (thn (hv π s σ H _ I h) λ u s1 ⟨y,H1,I1,ry,q⟩=>thn (ha π s1 σ H1 _ I1 q) λ ov s2 ⟨x,H2,I2,rx,a,C,dx,fs,ex,ea,c,n,l,q2⟩=>?_) hs;subst ex;obtain rfl:ov=z0b a:=rx;exact Xj I2 ea c n l ry λ s3 I3=>⟨σ,_,I3,q2⟩
def rAdd:V->V->Hp->VK->Prop:=λ x y H Q=>∃ i j,x=.int i/\y=.int j/\Q (.int (i+j)) H
theorem rT {pl:Sem Bool}{args:List Expr}{σ:St}{H:Hp}{te:TE}(he:PE X e te) (I:Inv X π σ H s)
  (h:te σ H λ x H1=>∃ a C dx fs g,x=.ref a/\H1 a=some (.ins C dx fs)/\Cls X.K C/\Meth X.K C m g/\fs.lookup m=none ∧
   ∀ s1,Inv X π σ H1 s1->z02 .(0) X.A (z29 pos (.ref g) [.ref a] (z0z pos (z09 args X.env)) (z1x pos (z1f [] X.env))) Q X.xe s1)
  (ht:eval (.Call (.Attribute e m apos) args [] pos) X.env=(do
   let ov <-eval e X.env
   z1W apos.atName
   let (f,first) <-z1v [ov] (z28 ov m pl)
   z29 pos f first (z0z pos (z09 args X.env)) (z1x pos (z1f [] X.env)))) :
  z02 .(0) X.A (eval (.Call (.Attribute e m apos) args [] pos) X.env) Q X.xe s:=by
 refine z58 (pl:=pl) (thn (he π s σ H _ I h) λ u s1 ⟨x,H1,I1,rx,a,C,dx,fs,g,ex,ea,c,k,l,q⟩=>?_) ht;subst ex;obtain rfl:u=z0b a:=rx;exact Jt I1 ea c k l (q s1 I1)
end
section
variable {X:Cx}{σ:St}{H:Hp}{A:z0a}{c:z00}{b:Bool}
inductive TyOf (K:z08) (H:Hp):V->z00->Prop where
  | non:TyOf K H .non (.type "NoneType")
  | bl (x:Bool):TyOf K H (.bl x) (.type "bool")
  | int (i:Int):TyOf K H (.int i) (.type "int")
  | str (x:Str):TyOf K H (.str x) (.type "str")
  | flt (x:UInt64):TyOf K H (.flt x) (.type "float")
  | lst {a:Addr}{xs:List V}(e:H a=some (.lst xs)):TyOf K H (.ref a) (.type "list")
  | frz {a:Addr}{o:Obj}{xs:List V}(e:H a=some (.frz o (.lst xs))):TyOf K H (.ref a) (.type "list")
  | tup {a:Addr}{xs:List V}(e:H a=some (.tup xs)):TyOf K H (.ref a) (.type "tuple")
  | dK {a:Addr}{kvs:List (Key×V)}(e:H a=some (.dK kvs)):TyOf K H (.ref a) (.type "dict")
  | dT {a:Addr}{kvs:List (List Key×V)}(e:H a=some (.dT kvs)):TyOf K H (.ref a) (.type "dict")
  | ins {a C dx:Addr}{fs:List (Str×V)}(e:H a=some (.ins C dx fs)) (cl:Cls K C) (ha:z17 K (.ref C) "__class__"=some (some (.builtin "object.__class__")))
      (hn:z6g K (.builtin "object.__class__") "__get__"=some (some (.builtin "getset_descriptor.__get__"))) (htk:PySem.W.takesIn K (.builtin "object.__class__")=some true)
      (hm:PySem.W.mroIn K C (.type "object")=some true):TyOf K H (.ref a) (.ref C)
theorem bL {x:V}{t:z00}(I:Inv X π σ H s) (rx:RelV x u) (ty:TyOf X.K H x t) (e:z3N X.K t c=some b) (h:∀ tk,Q (.bool b) { s with toks:=tk }) :
  z02 .(0) A (call (.builtin "isinstance") [u,c]) Q E s:=by
 cases ty with
 | non=>cases (show u=z15 from rx);exact z1M PySem.W.kitx_none I.kIn z1L e (λ z=>nomatch z) h
 | bl y=>cases (show u=z38 y from rx);exact z1M PySem.W.kitx_bool I.kIn z1L e (λ z=>nomatch z) h
 | int i=>obtain⟨t,q⟩:=(show ∃ t,u=z36 i t from rx);cases q;exact z1M PySem.W.kitx_int I.kIn z1L e (λ z=>nomatch z) h
 | str y=>obtain⟨t,q⟩:=(show ∃ t,u=z3E y t from rx);cases q;exact z1M PySem.W.kitx_str I.kIn z1L e (λ z=>nomatch z) h
 | flt y=>obtain⟨t,q⟩:=(show ∃ t,u=z5_ y t from rx);cases q;exact z1M PySem.W.kitx_float I.kIn z1L e (λ z=>nomatch z) h
 | @lst a xs ea=>
  cases (show u=z0b a from rx);obtain⟨_,_,n,_,h1⟩:=(show BL X.prog X.w H s.heap a (.lst xs) from I.hok a _ ea);exact z1M z6h I.kIn ⟨_,h1,rfl⟩ e (λ z=>nomatch z) h
 | @frz a ob xs ea=>
  cases (show u=z0b a from rx);obtain⟨_,_,_,n,_,h1⟩:=(show BL X.prog X.w H s.heap a (.frz ob (.lst xs)) from I.hok a _ ea);exact z1M z6h I.kIn ⟨_,h1,rfl⟩ e (λ z=>nomatch z) h
 | @tup a xs ea=>
  cases (show u=z0b a from rx);obtain⟨_,_,_,p⟩:=(show BL X.prog X.w H s.heap a (.tup xs) from I.hok a _ ea);obtain⟨o,h1,h2,_⟩:=p;exact z1M z88 I.kIn ⟨o,h1,h2⟩ e (λ z=>nomatch z) h
 | @dK a kvs ea=>
  cases (show u=z0b a from rx);obtain⟨_,_,vs,_,p⟩:=(show BL X.prog X.w H s.heap a (.dK kvs) from I.hok a _ ea);obtain⟨o,es,ep,h1,h2,_⟩:=p;exact z1M z89 I.kIn ⟨o,h1,h2.1⟩ e (λ z=>nomatch z) h
 | @dT a kvs ea=>
  cases (show u=z0b a from rx);obtain⟨_,_,xs,_,o,es,ep,h1,h2,_⟩:=(show BL X.prog X.w H s.heap a (.dT kvs) from I.hok a _ ea);exact z1M z89 I.kIn ⟨o,h1,h2.1⟩ e (λ z=>nomatch z) h
 | @ins a C dx fs ea cl ha hn htk hm=>
  cases (show u=z0b a from rx);obtain⟨mA,O,_⟩:=Li I.hok ea;obtain⟨od,J,_⟩:=O.look;exact z1M (PySem.W.kitx_own (cl.get _) cl.hd ha hn htk hm) I.kIn J e (λ z=>nomatch z) h
end
structure Room (k:Nat) (A:z0a):Prop where
 hd:A.handled=none
 dp:A.depth+3*k+5<recursionLimit
 un:A.units+16*k+200<z0h
theorem Room.mono {k:Nat}{A:z0a}(r:Room k A) (h:j<=k):Room j A:=⟨r.hd,by have:=r.dp;omega,by have:=r.un;omega⟩
theorem Room.deeper {k:Nat}{A:z0a}(r:Room (k+1) A) (env:Env):Room k (A.deeper env):=
 ⟨r.hd,by have:=r.dp;show A.depth+1+3*k+5<_;omega,by have:=r.un;show A.units+3+16*k+200<_;omega⟩
theorem Xl {A:z0a}:(A.under (.builtin "type.__call__" ⟨.ref C::us,kw⟩)).depth=A.depth+1:=by
 first | rfl | simp[z6i,Code.weight,Code.isCreation,Code.isGuard,Code.isCaller,z8a,z6j,guardIds]
theorem Xm {A:z0a}:(A.under (.builtin "type.__call__" ⟨.ref C::us,kw⟩)).units=A.units+1:=by
 first | rfl | simp[z6i,Code.cUnits,z8a,z6j]
theorem Room.make {k:Nat}{A:z0a}(r:Room (k+1) A) (C:Addr) (us:List z00) (kw:List (Str×z00)):Room k (A.under (.builtin "type.__call__" ⟨.ref C::us,kw⟩)):=
 ⟨r.hd,by have:=r.dp;rw[Xl];omega,by have:=r.un;rw[Xm];omega⟩
theorem Room.depth {k:Nat}{A:z0a}(r:Room k A):A.depth<recursionLimit:=by have:=r.dp;omega
theorem Room.units {k:Nat}{A:z0a}(r:Room k A):A.units+64<z0h:=by have:=r.un;omega
def tNil:TA:=λ _ H Q=>Q [] H
def V5 (ta:TE) (tr:TA):TA:=λ σ H Q=>ta σ H λ x H1=>tr σ H1 λ xs H2=>Q (x::xs) H2
section
variable {X:Cx}{es:List Expr}{te:TE}{t:TA}
theorem Cw:PA X [] tNil:=λ _ _ _ _ H Q I h=>z8b ⟨[],H,I,.nil,h⟩
theorem Bo (ha:PE X e te) (hr:PA X es t) (hs:z09 (e::es) X.env=(false,eval e X.env)::z09 es X.env:=by rfl):PA X (e::es) (V5 te t):=by
 intro pos π s σ H Q I h;rw[hs];show z02 _ _ (spliced ((false,eval e X.env)::z0z pos (z09 es X.env))) _ _ s;refine z8c (thn (ha π s σ H _ I h) λ u s1 ⟨x,H1,I1,r1,q1⟩=>?_);exact thn (hr pos π s1 σ H1 _ I1 q1) λ us s2 ⟨xs,H2,I2,r2,q2⟩=>⟨x::xs,H2,I2,.cons r1 r2,q2⟩
def tTup (t:TA):TE:=λ σ H Q=>t σ H λ xs H1=>xs.length<=sizeLine/\∀ p,H1 p=none->Q (.ref p) (upd H1 p (.tup xs))
def tLst (t:TA):TE:=λ σ H Q=>t σ H λ xs H1=>xs.length<=sizeLine/\∀ p,H1 p=none->Q (.ref p) (upd H1 p (.lst xs))
theorem Xn {x1} (h:PA X es t):PE X (.Tuple es x1 pos) (tTup t):=by
 intro π s σ H Q I hq;refine wpAny_Tuple_spliced (thn (h pos π s σ H _ I hq) λ us s1 ⟨xs,H1,I1,r,z,q⟩=>⟨by rw[<-r.length];exact z,?_⟩);have hf:H1 s1.heap.objs.size=none:=I1.hok.fresh (z07 _);refine⟨.ref s1.heap.objs.size,upd H1 s1.heap.objs.size (.tup xs),I1.laid (t':=s1.toks) (λ b u e=>z0d _ e) (z07 _) ?_,rfl,q _ hf⟩;exact⟨z,us,r,⟨_,z0l _ rfl,rfl,_,rfl⟩⟩
theorem dj (h:PA X es t):PE X (.List es pos) (tLst t):=by
 intro π s σ H Q I hq;refine wpAny_List_spliced (thn (h pos π s σ H _ I hq) λ us s1 ⟨xs,H1,I1,r,z,q⟩=>⟨by rw[<-r.length];exact z,?_⟩);have hf:H1 s1.heap.objs.size=none:=I1.hok.fresh (z07 _);refine⟨.ref s1.heap.objs.size,upd H1 s1.heap.objs.size (.lst xs),I1.laid (t':=s1.toks) (λ b u e=>z0d _ e) (z07 _) ?_,rfl,q _ hf⟩;exact⟨z,us,0,r,z0l _ rfl⟩
end
abbrev Sp:=List V->Hp->VK->XK->Prop
abbrev CXT:=List Env->Hp->z03->XK->z00->z03->Prop
structure Env0 (P:z0s) (w:z0k) (K:z08) (mg:Str->Option z00) (base:Heap) (A:z0a) (outer:List Env) (s:z03) (H:Hp):Prop where
 frames:A.frames=some outer
 mod:Mod K mg base
 bs:∀ b o,base.get? b=some o->s.heap.get? b=some o/\H b=none
 bsz:base.objs.size<=s.heap.objs.size
 funs:s.heap.FunFrames base outer
 frf:∀ b∈frs outer,H b=none
 hok:HOk P w H s.heap
 bare:z2i s.gens
def CE (outer:List Env) (P:z0s) (w:z0k) (H:Hp) (s:z03) (Q:VK) (u:z00) (s':z03):Prop:=
 ∃ v H',s'.os=s.os/\z2i s'.gens/\Un (frs outer) [] H H' s.heap s'.heap/\HOk P w H' s'.heap/\RelV v u/\Q v H'
def CR (CX:CXT) (outer:List Env) (P:z0s) (w:z0k) (H:Hp) (s:z03) (Q:VK) (E:XK) (r:z2u) (s':z03):Prop:=
 match r with
 | .ok (.ret u)=>CE outer P w H s Q u s'
 | .ok _=>False
 | .error e=>CX outer H s E e s'
structure FnOk (P:z0s) (w:z0k) (K:z08) (mg:Str->Option z00) (base:Heap) (CX:CXT) (k:Nat) (f:Addr) (fd:z2k) (ps:List Str) (sp:Sp):Prop where
 len:∀ vs H Q E,sp vs H Q E->vs.length=ps.length
 run:∀ (A:z0a) (outer:List Env) (s:z03) (H:Hp) (args:Args) (us:List z00) (vs:List V) (Q:VK) (E:XK),Room k A->Env0 P w K mg base A outer s H->z4f s fd args (ps.zip us)->Vals vs us->sp vs H Q E ->
  z11 (z04 P w) A (.call (.ref f) args) (CR CX outer P w H s Q E) s
theorem FnOk.mono {P:z0s}{w:z0k}{K:z08}{mg:Str->Option z00}{base:Heap}{CX:CXT}{j k:Nat}{f:Addr}{fd:z2k}{ps:List Str}{sp:Sp}(F:FnOk P w K mg base CX j f fd ps sp) (h:j<=k) :
  FnOk P w K mg base CX k f fd ps sp:=⟨F.len,λ A outer s H args us vs Q E hr=>F.run A outer s H args us vs Q E (hr.mono h)⟩
theorem FnOk.imp {K:z08}{base:Heap}{CX:CXT}{k:Nat}{f:Addr}{sp sp':Sp}(F:FnOk P w K mg base CX k f fd ps sp)
  (h:∀ vs H Q E,sp' vs H Q E->sp vs H Q E):FnOk P w K mg base CX k f fd ps sp':=
 ⟨λ vs H Q E q=>F.len vs H Q E (h _ _ _ _ q),λ A outer s H args us vs Q E hr he hb hv hs=>F.run A outer s H args us vs Q E hr he hb hv (h _ _ _ _ hs)⟩
theorem Env0.make {K:z08}{base:Heap}{A:z0a}{outer:List Env}{H:Hp}(e:Env0 P w K mg base A outer s H) (C:Addr) (us:List z00) (kw:List (Str×z00)) :
  Env0 P w K mg base (A.under (.builtin "type.__call__" ⟨.ref C::us,kw⟩)) outer s H:=⟨by first | exact e.frames | (simpa [z6i,Code.envs,z6j,pushEnvs] using e.frames),e.mod,e.bs,e.bsz,e.funs,e.frf,e.hok,e.bare⟩
section
variable {X:Cx}{σ:St}{H:Hp}{s':z03}
theorem Inv.env0 (I:Inv X π σ H s):Env0 X.prog X.w X.K X.mg X.base X.A X.stack s H:=
 ⟨I.ok.frames,I.ok.mod,I.bs,z0E I.ok.bsz I.sz,I.stack,I.stkFree,I.hok,I.bare⟩
theorem Inv.after {Q:VK}(I:Inv X π σ H s) (h:CE X.stack X.prog X.w H s Q u s'):EP X π σ Q u s':=by
 obtain⟨v,H',os,bare,un,hok,r,q⟩:=h;obtain⟨hh,g,d,t,os'⟩:=s';obtain rfl:os'=s.os:=os;exact⟨v,H',I.call (h':=hh) (g':=g) (d':=d) (t':=t) (ch:=[]) un hok bare (λ b z=>absurd z (by simp)),r,q⟩
end
def xP (sp:Sp) (dvs:List V) (E:XK) (t:TA):TE:=λ σ H Q=>t σ H λ vs H1=>sp (vs++dvs) H1 Q E
def rU (C:Addr) (m:Str) (sp:Sp) (dvs:List V) (E:XK) (ta:TE) (t:TA):TE:=λ σ H Q=>ta σ H λ x H1=>∃ a dx fs,x=.ref a/\H1 a=some (.ins C dx fs)/\fs.lookup m=none ∧
 t σ H1 λ vs H2=>sp (x::(vs++dvs)) H2 Q E
def xQ (C:Addr) (sp:Sp) (dvs:List V) (E:XK) (t:TA):TE:=λ σ H Q=>t σ H λ vs H1=>∀ x dx,H1 x=none->H1 dx=none->dx≠x ->
 sp (.ref x::(vs++dvs)) (upd (upd H1 dx (.own x)) x (.ins C dx [])) (λ v H2=>v=.non/\Q (.ref x) H2) E
def Binds (K:z08) (fd:z2k) (ps:List Str) (ds:List z00):Prop:=
 ∀ (s:z03) (us:List z00),K.In s.heap->(us++ds).length=ps.length->z4f s fd ⟨us,[]⟩ (ps.zip (us++ds))
theorem Binds.all {K:z08}(h:∀ us:List z00,us.length=ps.length->z4g fd ⟨us,[]⟩=pure (ps.zip us)):Binds K fd ps []:=λ s us _ hl=>by
 rw[z1d] at hl ⊢;exact .of_eq (h us hl)
def Mv (CX:CXT) (X:Cx) (E:XK):Prop:=∀ (π:zP) (σ:St) (H:Hp) (s:z03) (e:z00) (s':z03),Inv X π σ H s->CX X.stack H s E e s'->X.xe e s'
section
variable {X:Cx}{CX:CXT}{k:Nat}{f:Addr}{sp:Sp}{dvs:List V}{ds:List z00}{E:XK}{p:Pos}{o:Expr}{es:List Expr}{ta:TE}{t:TA}
theorem Xo {σ:St}{H:Hp}{Q:VK}{vs:List V}(F:FnOk X.prog X.w X.K X.mg X.base CX k f fd ps sp) (hr:Room k X.A) (hb:Binds X.K fd ps ds) (hd:Vals dvs ds) (hx:Mv CX X E)
  (I:Inv X π σ H s) (r:Vals vs us) (h:sp (vs++dvs) H Q E):z02 .(0) X.A (call (.ref f) us) (EP X π σ Q) X.xe s:=by
 have r2:Vals (vs++dvs) (us++ds):=r.append hd;have hl:(us++ds).length=ps.length:=by rw[<-r2.length];exact F.len _ _ _ _ h
 refine z59 (z2J (F.run X.A X.stack s H ⟨us,[]⟩ (us++ds) (vs++dvs) Q E hr I.env0 (hb s us I.kIn hl) r2 h) λ r s' hq=>?_);cases r with
 | error e=>exact hx π σ H s e s' I hq
 | ok fl=>
  cases fl with
  | ret u=>exact I.after hq
  | next=>exact z1n hq
  | brk=>exact z1n hq
  | cont=>exact z1n hq
theorem nC (F:FnOk X.prog X.w X.K X.mg X.base CX k f fd ps sp) (hr:Room k X.A) (hg:Gl X x) (hm:X.mg x=some (.ref f)) (hk:z1K X.K (.ref f)=true) (hb:Binds X.K fd ps ds) (hd:Vals dvs ds) (hx:Mv CX X E)
  (ha:PA X (e::es) t) (hdb:.(3)=false:=by decide) (he:z09 (e::es) X.env=(false,eval e X.env)::z09 es X.env:=by rfl) (hpl:.(37).any (·.1)=false:=by rfl) :
  PE X (.Call (.Name x p) (e::es) [] pos) (xP sp dvs E t):=by
 intro π s σ H Q I h;refine z3O (Uh I hg hm ?_ hdb);refine z5a (h₀:=X.base) I.ok.mod.kin hk (thn (ha pos π s σ H _ I h) λ us s1 ⟨vs,H1,I1,r,q⟩=>⟨I1.kIn,?_⟩) he hpl;exact Xo F hr hb hd hx I1 r q
theorem Yz {pl:Sem Bool}(he:PE X o ta) (c:Cls X.K C) (hm:Meth X.K C m f) (F:FnOk X.prog X.w X.K X.mg X.base CX k f fd ps sp) (hr:Room k X.A) (hb:Binds X.K fd ps ds) (hd:Vals dvs ds) (hx:Mv CX X E) (ha:PA X (e::es) t)
  (hst:z09 (e::es) X.env=(false,eval e X.env)::z09 es X.env:=by rfl) (hpl:.(37).any (·.1)=false:=by rfl)
  (ht:eval (.Call (.Attribute o m apos) (e::es) [] pos) X.env=(do
   let ov <-eval o X.env
   z1W apos.atName
   let (f,first) <-z1v [ov] (z28 ov m pl)
   z29 pos f first (z0z pos (z09 (e::es) X.env)) (z1x pos (z1f [] X.env))):=by rfl) :
  PE X (.Call (.Attribute o m apos) (e::es) [] pos) (rU C m sp dvs E ta t):=by
 intro π s σ H Q I h;refine z58 (pl:=pl) (thn (he π s σ H _ I h) λ u s1 ⟨x,H1,I1,rx,a,dx,fs,ex,ea,l,q⟩=>?_) ht;subst ex;obtain rfl:u=z0b a:=rx;refine Jt I1 ea c hm l ?_;refine z5a (first:=[.ref a]) (h₀:=X.base) I.ok.mod.kin hm.kp (thn (ha pos π s1 σ H1 _ I1 q) λ us s2 ⟨vs,H2,I2,r,q2⟩=>⟨I2.kIn,?_⟩) hst hpl;exact Xo (us:=.ref a::us) (vs:=.ref a::vs) F hr hb hd hx I2 (.cons rfl r) q2
theorem du {pl:Sem Bool}(he:PE X o ta) (c:Cls X.K C) (hm:Meth X.K C m f) (F:FnOk X.prog X.w X.K X.mg X.base CX k f fd ps sp) (hr:Room k X.A) (hb:Binds X.K fd ps ds) (hd:Vals dvs ds) (hx:Mv CX X E)
  (ht:eval (.Call (.Attribute o m apos) [] [] pos) X.env=(do
   let ov <-eval o X.env
   z1W apos.atName
   let (f,first) <-z1v [ov] (z28 ov m pl)
   z29 pos f first (z0z pos (z09 [] X.env)) (z1x pos (z1f [] X.env))):=by rfl) :
  PE X (.Call (.Attribute o m apos) [] [] pos) (rU C m sp dvs E ta tNil):=by
 intro π s σ H Q I h;refine z58 (pl:=pl) (thn (he π s σ H _ I h) λ u s1 ⟨x,H1,I1,rx,a,dx,fs,ex,ea,l,q⟩=>?_) ht;subst ex;obtain rfl:u=z0b a:=rx;refine Jt I1 ea c hm l ?_;exact PySem.W.callWith_K0 (first:=[.ref a]) I1.kIn hm.kp (Xo (us:=[.ref a]) (vs:=[.ref a]) F hr hb hd hx I1 (.cons rfl .nil) q)
structure Mk (K:z08) (C f:Addr):Prop where
 makes:z6e K C=true
 init:z17 K (.ref C) "__init__"=some (some (.ref f))
 fn:z3L K (.ref f)=true
 kp:z1K K (.ref C)=true
theorem dw {σ:St}{H:Hp}{Q:VK}{vs:List V}(M:Mk X.K C f) (F:FnOk X.prog X.w X.K X.mg X.base CX k f fd ps sp) (hr:Room (k+1) X.A) (hb:Binds X.K fd ps ds) (hd:Vals dvs ds)
  (hx:Mv CX X E) (I:Inv X π σ H s) (r:Vals vs us)
  (h:∀ x dx,H x=none->H dx=none->dx≠x->sp (.ref x::(vs++dvs)) (upd (upd H dx (.own x)) x (.ins C dx [])) (λ v H2=>v=.non/\Q (.ref x) H2) E) :
  z02 .(0) X.A (call (.ref C) us) (EP X π σ Q) X.xe s:=by
 have hq:=h .(6) s.heap.objs.size (I.hok.fresh (z1N _)) (I.hok.fresh (z07 _)) (z0i (z4e _));have I2:=Inv.made (C:=C) I;have r2:Vals (V.ref .(6)::(vs++dvs)) (z0b .(6)::(us++ds)):=.cons rfl (r.append hd);have hl:(z0b .(6)::us++ds).length=ps.length:=by
  have e:=r2.length;rw[F.len _ _ _ _ hq] at e;exact e.symm
 refine z59 (dh (f:=f) I.kIn M.makes M.init (beq_iff_eq.mp M.fn) (z2J (F.run _ X.stack _ _ ⟨z0b .(6)::us,[]⟩ (z0b .(6)::(us++ds)) _ _ E (hr.make C us [])
  (I2.env0.make C us []) (hb _ (z0b .(6)::us) I2.kIn hl) r2 hq) λ r s' hq'=>?_))
 cases r with
 | error e=>exact hx π σ _ _ e s' I2 hq'
 | ok fl=>
  cases fl with
  | ret u=>
   obtain⟨v,H',I3,rv,ev,q3⟩:=I2.after hq';subst ev;exact⟨rv,⟨V.ref .(6),H',I3,rfl,q3⟩⟩
  | next=>exact z1n hq'
  | brk=>exact z1n hq'
  | cont=>exact z1n hq'
theorem nD (M:Mk X.K C f) (F:FnOk X.prog X.w X.K X.mg X.base CX k f fd ps sp) (hr:Room (k+1) X.A) (hg:Gl X x) (hm:X.mg x=some (.ref C)) (hb:Binds X.K fd ps ds) (hd:Vals dvs ds) (hx:Mv CX X E)
  (ha:PA X (e::es) t) (hdb:.(3)=false:=by decide) (he:z09 (e::es) X.env=(false,eval e X.env)::z09 es X.env:=by rfl) (hpl:.(37).any (·.1)=false:=by rfl) :
  PE X (.Call (.Name x p) (e::es) [] pos) (xQ C sp dvs E t):=by
 intro π s σ H Q I h;refine z3O (Uh I hg hm ?_ hdb);refine z5a (h₀:=X.base) I.ok.mod.kin M.kp (thn (ha pos π s σ H _ I h) λ us s1 ⟨vs,H1,I1,r,q⟩=>⟨I1.kIn,?_⟩) he hpl;exact dw M F hr hb hd hx I1 r q
end
def PK (X:Cx) (kws:List z2K) (t:TA):Prop:=
 ∀ (pos:Pos) (π:zP) (s:z03) (σ:St) (H:Hp) (Q:List V->Hp->Prop),Inv X π σ H s->t σ H Q->z02 .(0) X.A (evalAll ((z1x pos (z1f kws X.env)).map (·.2))) (AP X π σ Q) X.xe s
section
variable {X:Cx}{CX:CXT}{k:Nat}{f:Addr}{ks:List Str}{sp:Sp}{E:XK}{p kpos:Pos}{o:Expr}{es:List Expr}{kws:List z2K}{te ta:TE}{t tk:TA}{nm:Option Str}
theorem d7:PK X [] tNil:=λ _ _ _ _ H Q I h=>wpAny_evalAll_nil ⟨[],H,I,.nil,h⟩
theorem Y0 (ha:PE X e te) (hr:PK X kws t):PK X (⟨nm,e,kpos⟩::kws) (V5 te t):=by
 intro pos π s σ H Q I h;show z02 _ _ (evalAll ((do let v <-eval e X.env;z1W pos;pure v)::(z1x pos (z1f kws X.env)).map (·.2))) _ _ s;refine wpAny_evalAll_cons (z01 (thn (ha π s σ H _ I h) λ u s1 ⟨x,H1,I1,r1,q1⟩=>z01 (z6k (z05 ?_))));exact thn (hr pos π s1 σ H1 _ I1 q1) λ us s2 ⟨xs,H2,I2,r2,q2⟩=>⟨x::xs,H2,I2,.cons r1 r2,q2⟩
variable {g:List z00->List z00->List z00}{gV:List V->List V->List V}
end
structure FnScope (N P:List Str) (sc:z25):Prop where
 kind:sc.kind=.function
 co:sc.isCoroutine=false
 gen:sc.isGenerator=false
 nd:N.Nodup
 pre:N.take P.length=P
 par:∀ x∈P,sc.names.lookup x=some .local ∨sc.names.lookup x=some .cell
 nofree:∀ y∈sc.names,y.2≠.free
theorem Ti {kindOf:Str->Option z2a}{x:Str}:∀ {binds:List (Str×z00)}{m:Str->Option z00},(∀ v,(x,v)∉binds)->z2L kindOf binds m x=m x
 | [],_,_=>rfl
 | (n,v)::r,m,h=>by
  unfold z2L;rw[Ti λ w hw=>h w (z0y _ hw)];split
  ·have:x≠n:=by rintro rfl;exact h v z0L
   simp[this]
  ·rfl
theorem Tj {kindOf:Str->Option z2a}{x:Str}:∀ {binds:List (Str×z00)}{m:Str->Option z00},(∀ v,(x,v)∉binds)->z2M kindOf binds m x=m x
 | [],_,_=>rfl
 | (n,v)::r,m,h=>by
  unfold z2M;rw[Tj λ w hw=>h w (z0y _ hw)];split
  ·rfl
  ·have:x≠n:=by rintro rfl;exact h v z0L
   simp[this]
theorem Tn {kindOf:Str->Option z2a}{x:Str}{v:z00}:∀ {P:List Str}{vs:List z00}{i:Nat}{m:Str->Option z00},P.Nodup->P[i]?=some x->vs[i]?=some v->kindOf x=some .local ->
  z2L kindOf (P.zip vs) m x=some v
 | [],_,_,_,_,h,_,_=>by simp at h
 | _::_,[],_,_,_,_,h,_=>by simp at h
 | p::P,w::vs,0,m,nd,h1,h2,hk=>by
  simp at h1 h2;subst h1;subst h2;show z2L kindOf ((p,w)::P.zip vs) m p=_;unfold z2L;rw[Ti λ v hv=>(z2l.mp nd).1 (z6l hv).1,if_pos hk];simp
 | p::P,w::vs,i+1,m,nd,h1,h2,hk=>by
  show z2L kindOf ((p,w)::P.zip vs) m x=_;unfold z2L;exact Tn (i:=i) (z2l.mp nd).2 (by simpa using h1) (by simpa using h2) hk
theorem Tp {kindOf:Str->Option z2a}{x:Str}{v:z00}:∀ {P:List Str}{vs:List z00}{i:Nat}{m:Str->Option z00},P.Nodup->P[i]?=some x->vs[i]?=some v->kindOf x≠some .local ->
  z2M kindOf (P.zip vs) m x=some v
 | [],_,_,_,_,h,_,_=>by simp at h
 | _::_,[],_,_,_,_,h,_=>by simp at h
 | p::P,w::vs,0,m,nd,h1,h2,hk=>by
  simp at h1 h2;subst h1;subst h2;show z2M kindOf ((p,w)::P.zip vs) m p=_;unfold z2M;rw[Tj λ v hv=>(z2l.mp nd).1 (z6l hv).1,if_neg hk];simp
 | p::P,w::vs,i+1,m,nd,h1,h2,hk=>by
  show z2M kindOf ((p,w)::P.zip vs) m x=_;unfold z2M;exact Tp (i:=i) (z2l.mp nd).2 (by simpa using h1) (by simpa using h2) hk
def start (N:List Str) (vs:List V):St:=vs.map some++z4h (N.length-vs.length) none
def cxOf (CX:CXT) (P:z0s) (w:z0k) (K:z08) (mg:Str->Option z00) (base:Heap) (N:List Str) (qual:Str) (scope:z25) (f:Addr) (cd:z00) (A:z0a) (outer:List Env) (s:z03) (H:Hp) (E:XK):Cx where
 prog:=P
 w:=w
 K:=K
 mg:=mg
 base:=base
 A:=A.deeper (z1D qual scope s.heap.objs.size f cd)
 N:=N
 s₀:=s
 H₀:=H
 env:=z1D qual scope s.heap.objs.size f cd
 outer:=outer
 stack:=z1D qual scope s.heap.objs.size f cd::outer
 ex:=[]
 calm:=true
 fn:=λ _=>true
 pn:=[]
 xe:=λ e s'=>z02 (z04 P w) (A.deeper (z1D qual scope s.heap.objs.size f cd)) (leaving (z1D qual scope s.heap.objs.size f cd) e) (λ _ s''=>CX outer H s E e s'') (λ e' s''=>CX outer H s E e' s'') s'
theorem V6 (h:sc.names.lookup x=some .cell):∃ c,(cellsFrom n sc.names []).lookup x=some c:=by
 have q:=z8d sc.names n [] (.inl h);exact z6m.mp q
theorem bM {CX:CXT}{K:z08}{base:Heap}{f:Addr}{cd:z00}{A:z0a}{outer:List Env}{s1:z03}{H:Hp}{E:XK}{vs:List V}(S:FnScope N ps scope) (hd:A.handled=none) (e0:Env0 P w K mg base A outer s H) (hl:vs.length=ps.length) (r:Vals vs us)
  (x:InCallC s s.heap.objs.size (z2L (z1D qual scope s.heap.objs.size f cd).kindOf (ps.zip us) λ _=>none) (cellsFrom .(6) scope.names []) (z2M (z1D qual scope s.heap.objs.size f cd).kindOf (ps.zip us) λ _=>none) s1) :
  Inv (cxOf CX P w K mg base N qual scope f cd A outer s H E) [] (start N vs) H s1:=by
 have hpl:ps.length<=N.length:=by have:=congrArg z0P S.pre;rw[z1g] at this;omega
 obtain⟨h1,tk,rfl,hk⟩:=x.done;have noA:∀ b:Addr,b∉(cxOf CX P w K mg base N qual scope f cd A outer s H E).ex:=λ b z=>absurd (show b∈([]:List Addr) from z) (by simp);refine⟨⟨e0.mod,S.kind,rfl,rfl,z07 _,λ y z c h1 h2=>?_,λ y hy=>?_,λ y c _ h=>?_,λ _=>hd,Around.frames_deeper e0.frames,.inr ⟨rfl,rfl⟩,λ b z=>absurd z (noA b),e0.bs,e0.bsz,λ b _ _=>noA b,λ b z=>absurd z (noA b),e0.funs,e0.frf⟩,
  rfl,e0.bare,Un.kept hk,⟨_,x.toInCall.ns,λ i y v h1 h2 h3=>?_⟩,λ y c h=>⟨_,x.cell y c h⟩,e0.hok.fresh (z07 _),λ y c h=>?_,λ p hp=>absurd (show p∈([]:zP) from hp) (by simp),e0.hok.kept hk,?_⟩
 ·exact name_of_addr x.apart (z4i h1) (z4i h2)
 ·have hy:scope.names.lookup y=some .cell ∨scope.names.lookup y=some .free :=hy
  rcases hy with hy | hy
  ·exact V6 hy
  ·exact absurd rfl (S.nofree _ (z4i hy))
 ·exact z3F (x.above y c (z4i h))
 ·have hi:i<vs.length:=by
   unfold start at h2
   by_cases hi:i<vs.length
   ·exact hi
   ·rw[z1X (by simpa using hi)] at h2;rw[z6n] at h2;split at h2<;>cases h2
  have ha:vs[i]?=some v:=by
   unfold start at h2;rw[z2b (by simpa using hi),z0o] at h2;cases e:vs[i]? with
   | none=>rw[e] at h2;cases h2
   | some a=>rw[e] at h2;cases h2;rfl
  obtain⟨u,hu,rv⟩:=r.get ha;have hp:ps[i]?=some y:=by
   rw[<-S.pre,z6o (by omega)];exact h1
  have ndP:ps.Nodup:=by rw[<-S.pre];exact S.nd.sublist (z6p _ _)
  refine⟨u,rv,?_⟩
  rcases S.par y (z3c hp) with k | k
  ·exact .inl ⟨k,Tn ndP hp hu k⟩
  ·obtain⟨c,e⟩:=V6 (n:=s.heap.objs.size+1) k;refine .inr ⟨.inl k,c,e,?_⟩;have q:=x.cell y c e;rw[Tp ndP hp hu (by show scope.names.lookup y≠_;rw[k];decide)] at q;exact q
 ·exact e0.hok.fresh (z3F (x.above y c (z4i h)))
 ·unfold start;show _=N.length;rw[z0N,z06,z4j];omega
theorem rW {CX:CXT}{K:z08}{base:Heap}{k:Nat}{f:Addr}{name:Str}{params:Arguments}{dV kV:z00}{sp:Sp}(lk:K.lookup f=some ⟨oc,od,.func (z1y name qual params body scope dV kV doc pm an cdv ct),osl⟩) (hcd:z2N K cdv qual=true) (S:FnScope N ps scope)
  (len:∀ vs H Q E,sp vs H Q E->vs.length=ps.length)
  (hbody:∀ (A:z0a) (outer:List Env) (s:z03) (H:Hp) (vs:List V) (Q:VK) (E:XK),Room k (A.deeper (z1D qual scope s.heap.objs.size f cdv))->sp vs H Q E ->
   ∃ t,PSs (cxOf CX P w K mg base N qual scope f cdv A outer s H E) body t/\t { nx:=λ _ H'=>Q .non H',rt:=Q } (start N vs) H) :
  FnOk P w K mg base CX (k+1) f (z1y name qual params body scope dV kV doc pm an cdv ct) ps sp:=by
 refine⟨len,λ A outer s H args us vs Q E hr e0 hb r hsp=>?_⟩;have hl:=len _ _ _ _ hsp;have KX:K.In s.heap:=e0.mod.kin.keeps λ b o e=>(e0.bs b o e).1;have lim:s.heap.NoLimit:=e0.mod.nolimit.keeps λ b o e=>(e0.bs b o e).1;have hkind:∀ y∈ps.zip us,scope.names.lookup y.1=some .local ∨(scope.names.lookup y.1=some .cell /\((cellsFrom .(6) scope.names []).lookup y.1).isSome=true):=λ ⟨n,v⟩ hy=>by
  rcases S.par n (z6l hy).1 with q | q
  ·exact .inl q
  ·exact .inr ⟨q,z8d _ _ _ (.inl q)⟩
 refine codeAny_call_function hr.depth (KX _ _ lk) rfl S.co S.gen rfl (PySem.W.codeRec_of KX hcd) (hb _ _ _ _ ?_);refine wpAny_newFunctionEnv_cells S.kind hkind λ env he s1 x=>?_;subst he;refine⟨lim.keeps x.toInCall.keep,codeAny_func ?_⟩;obtain⟨t,ht,hq⟩:=hbody A outer s H vs Q E (hr.deeper _) hsp;have I:Inv (cxOf CX P w K mg base N qual scope f cdv A outer s H E) [] (start N vs) H s1:=bM S hr.hd e0 hl r x;refine z1t (ht [] s1 (start N vs) H _ I hq) (λ fl s' hs=>?_) λ e s' hs=>hs;have fin:∀ {σ':St}{H':Hp}{v:V}{u:z00},Inv (cxOf CX P w K mg base N qual scope f cdv A outer s H E) [] σ' H' s'->RelV v u->Q v H'->CE outer P w H s Q u s':=
  λ {σ' H' v u} J rv q=>⟨v,H',J.os,J.bare,J.base,J.hok,rv,q⟩
 cases fl with
 | ret u=>
  obtain⟨v,σ',H',J,rv,q⟩:=hs;exact fin J rv q
 | next=>
  obtain⟨σ',H',J,q⟩:=hs;exact fin (v:=V.non) (u:=z15) J rfl q
 | brk=>
  obtain⟨_,_,_,q⟩:=hs;exact z1n q
 | cont=>
  obtain⟨_,_,_,q⟩:=hs;exact z1n q
end L2
variable {xs ys:List L2.V}{H H' H1 F2 F1 He:L2.Hp}{v y:L2.V}{X:L2.Cx}{σ:L2.St}{tc:L2.TT}{te:L2.TE}{CX:L2.CXT}{r:List L2.V->L2.Hp->L2.VK->Prop}{kvs:List (List L2.Key×L2.V)}{ks:List (List L2.Key)}{F:List (List L2.Key)->Int}
namespace L2
open PySem PySem.Spec PyProof.Rows
section
variable {p:Pos}{es:List Expr}{t:TA}{id T:String}
def tCB (r:List V->Hp->VK->Prop) (t:TA):TE:=λ σ H Q=>t σ H λ vs H1=>r vs H1 Q
theorem Km (hc:Cv X (.builtin id) r) (hg:Gl X x) (hm:X.mg x=none) (hv:z0x x=some (.builtin id)) (ha:PA X (e::es) t) (hn:x≠"__name__":=by decide) (hdb:.(3)=false:=by decide)
  (he:z09 (e::es) X.env=(false,eval e X.env)::z09 es X.env:=by rfl) (hpl:.(37).any (·.1)=false:=by rfl):PE X (.Call (.Name x p) (e::es) [] pos) (tCB r t):=by
 intro π s σ H Q I h;refine z3O (Kh I hg hm hv ?_ hn hdb);exact PyProof.Rows.callWith_builtin1 (thn (ha pos π s σ H _ I h) λ us s1 ⟨vs,H1,I1,r1,q1⟩=>hc π s1 σ H1 vs us Q I1 r1 q1) he hpl
theorem Gm (hc:Cv X (.type T) r) (hg:Gl X x) (hm:X.mg x=none) (hv:z0x x=some (.type T)) (ha:PA X (e::es) t) (hn:x≠"__name__":=by decide) (hdb:.(3)=false:=by decide)
  (he:z09 (e::es) X.env=(false,eval e X.env)::z09 es X.env:=by rfl) (hpl:.(37).any (·.1)=false:=by rfl):PE X (.Call (.Name x p) (e::es) [] pos) (tCB r t):=by
 intro π s σ H Q I h;refine z3O (Kh I hg hm hv ?_ hn hdb);exact z55 (thn (ha pos π s σ H _ I h) λ us s1 ⟨vs,H1,I1,r1,q1⟩=>hc π s1 σ H1 vs us Q I1 r1 q1) he hpl
end
end L2
namespace HT
open PySem PyProof.Rows
section
open PySem.SeqAt
open PySem.AutoSeq1 (wpAny_loadPart')
open PySem.MeetsSeq PySem.MeetsSeq2 PySem.MeetsSeq3
end
section
variable {A:z0a}
theorem nF {t:Addr}{ws:List z00}(ht:IsTup s.heap t vs.toArray) (hb:IsTup s.heap b ws.toArray) (hv:vs≠[])
  (h1:ws=[]->Q (.ref t) s) (h2:ws≠[]->Q .(5) { s with heap:=s.heap.push { cls:=.type "tuple",data:=.seq (vs++ws).toArray } })
  (hsz:vs.length+ws.length<=sizeLine):z02 (z04 prog w) A (z1u .Add (.ref t) (.ref b)) Q E s:=by
 obtain⟨⟨cls,dd,data,sl⟩,ho,hc,n,hd⟩:=id ht;obtain⟨⟨cls2,dd2,data2,sl2⟩,ho2,hc2,n2,hd2⟩:=id hb;simp only at hc hd hc2 hd2;subst hc hd hc2 hd2;have e:vs.toArray++ws.toArray=(vs++ws).toArray:=by simp
 by_cases hw:ws=[]
 ·exact z5b ⟨_,ho,rfl⟩ ⟨_,ho2,rfl⟩ z6q z6r z6s z6t (z6u _ _)
   (tuple_addW1 t b vs.toArray ws.toArray n n2 dd dd2 sl sl2 (by simpa using hv) (by simp[hw])) ⟨ho,ho2,h1 hw⟩
 ·refine z5b ⟨_,ho,rfl⟩ ⟨_,ho2,rfl⟩ z6q z6r z6s z6t (z6u _ _)
   (tuple_addW2 t b vs.toArray ws.toArray n n2 dd dd2 sl sl2 (by simpa using hv) (by simpa using hw) (by rw[z0r,z0r];exact hsz)) ⟨ho,ho2,?_⟩
  rw[e];exact h2 hw
def sIx (n d:Nat):Option Int->Nat
 | none=>d
 | some v=>if v<0 then (v+(n:Int)).toNat else min v.toNat n
theorem nG (n d k:Nat):sIx n d (some (k:Int))=min k n:=by
 show (if (k:Int)<0 then ((k:Int)+(n:Int)).toNat else min (k:Int).toNat n)=min k n;rw[if_neg (by omega),z19]
theorem uh (n d:Nat) (hd:d<=n) (o:Option Int):sIx n d o<=n:=by
 cases o with
 | none=>exact hd
 | some v=>
  show (if v<0 then (v+(n:Int)).toNat else min v.toNat n)<=n
  by_cases hv:v<0
  ·rw[if_pos hv];omega
  ·rw[if_neg hv];exact Nat.min_le_right _ _
theorem Y4 (v:Int) (n d:Nat):(if v<0 then max (v+(n:Int)) 0 else min v (n:Int))=((sIx n d (some v):Nat):Int):=by
 show (if v<0 then max (v+(n:Int)) 0 else min v (n:Int))=(((if v<0 then (v+(n:Int)).toNat else min v.toNat n):Nat):Int)
 by_cases hv:v<0
 ·simp only[if_pos hv];omega
 ·simp only[if_neg hv];omega
theorem Xp (lo hi:Option Int) (n:Nat):z6v lo hi 1 (n:Int)=(((sIx n 0 lo:Nat):Int),((sIx n n hi:Nat):Int)):=by
 have h1:¬ ((1:Int)<0):=by omega
 unfold z6v;simp only[h1,if_false];refine z3d ?_ ?_
 ·cases lo with
  | none=>rfl
  | some v=>exact Y4 v n 0
 ·cases hi with
  | none=>rfl
  | some v=>exact Y4 v n n
theorem Xq (i j:Nat):z5c (i:Int) (j:Int) 1=j-i:=by
 unfold z5c;have h1:(1:Int) > 0:=by omega
 simp only[h1,if_true,z8e];split<;>omega
theorem RP {v:z00}{o:Option Int}{Q:Option Int->z03->Prop}(p:z2O v o) (h:Q o s):z02 (z04 prog w) A (Builtin.Slice.slicePartIndex v) Q E s:=by
 cases p with
 | none=>exact slicePart_none h
 | int i t=>exact slicePart_int h
theorem PB {sl:Addr}{vl vu:z00}{lo hi:Option Int}{Q:Int×Int×Nat->z03->Prop}(hs:s.heap.IsSliceOf sl vl vu .none) (pl:z2O vl lo) (pu:z2O vu hi)
  (h:Q (((sIx n 0 lo:Nat):Int),1,sIx n n hi-sIx n 0 lo) s):z02 (z04 prog w) A (z8f (.ref sl) (pure (n:Int))) Q E s:=by
 obtain⟨os,hos,hcs,hds⟩:=id hs;unfold z8f Builtin.Slice.sliceFields;refine z01 (z01 (z1O hos hds (x:=vl) rfl (z01 (z1O hos hds (x:=vu) rfl (z01 (z1O hos hds (x:=.none) rfl (z05 ?_)))))));refine z01 (slicePart_none ?_);show z02 _ _ (if ((1:Int)==0)=true then _ else _) _ _ s;rw[if_neg (by decide)];refine z01 (RP pl (z01 (RP pu (z01 (z05 ?_)))));show z02 _ _ (match z6v lo hi 1 (n:Int) with | (lo,hi)=>pure (lo,(1:Int),z5c lo hi 1)) _ _ s;rw[Xp lo hi n];show z02 _ _ (pure (((sIx n 0 lo:Nat):Int),(1:Int),z5c ((sIx n 0 lo:Nat):Int) ((sIx n n hi:Nat):Int) 1)) _ _ s;rw[Xq];exact z05 h
theorem d8 (xs:Array z00) (i k:Nat):((z0e k).filterMap λ (m:Nat)=>xs[((i:Int)+(m:Int)*1).toNat]?).toArray=((xs.toList.drop i).take k).toArray:=by
 have e:(λ (m:Nat)=>xs[((i:Int)+(m:Int)*1).toNat]?)=λ m=>xs[i+m]?:=by
  funext m;have:((i:Int)+(m:Int)*1).toNat=i+m:=by omega
  rw[this]
 rw[e];have:=pick_run xs i k;rw[z6w] at this;have e2:((λ x=>xs[x]?) ∘ λ x=>i+x)=λ m=>xs[i+m]?:=rfl;rw[e2] at this;rw[this]
theorem Ng {t sl:Addr}{items:Array z00}{vl vu:z00}{lo hi:Option Int}(ht:IsTup s.heap t items) (hs:s.heap.IsSliceOf sl vl vu .none) (pl:z2O vl lo) (pu:z2O vu hi)
  (hw:¬ (sIx items.size 0 lo=0/\sIx items.size items.size hi=items.size))
  (h:Q .(5) { s with heap:=s.heap.push { cls:=.type "tuple",data:=.seq ((items.toList.drop (sIx items.size 0 lo)).take (sIx items.size items.size hi-sIx items.size 0 lo)).toArray } })
  (hsz:items.size<=sizeLine):z02 (z04 prog w) A (z2w (.ref t) (.ref sl)) Q E s:=by
 have htake:sizeOk (.seq ((items.toList.drop (sIx items.size 0 lo)).take (sIx items.size items.size hi-sIx items.size 0 lo)).toArray):=by
  show ((items.toList.drop (sIx items.size 0 lo)).take (sIx items.size items.size hi-sIx items.size 0 lo)).toArray.size<=sizeLine;rw[z0r,z1g,z2P,z0_];omega
 have hj:sIx items.size items.size hi<=items.size:=uh _ _ (z07 _) hi;obtain⟨os,hos,hcs,hds⟩:=id hs;have hTs:s.TypeIs (.ref sl) "slice":=⟨os,hos,hcs⟩;unfold z2w
 try with_reducible refine wpAny_holding ?_
 first | refine z01 (z05 ?_) | skip
 refine z01 (wpAny_sequenceKey ht.typeIs (by decide) ?_);refine z01 (z2x (name:=z0F "__getitem__") ht.typeIs z6x
  (z1k z6x ht.typeIs entry_tuple_getitem ?_ (args_tuple_getitem _ _)))
 show z02 _ _ (z7O (.ref t) >>= _) _ _ s;refine z01 (tupleItemsOf_ ht ?_);refine z01 (z4k hTs ?_);rw[if_pos (by decide)];refine z01 (PB hs pl pu ?_);have hno:¬ ((((sIx items.size 0 lo:Nat):Int)==0&&(1:Int)==1&&(sIx items.size items.size hi-sIx items.size 0 lo)==items.size)=true):=by
  intro q;rw[z0U,z0U] at q;have q1:((sIx items.size 0 lo:Nat):Int)=0:=eq_of_beq q.1.1;have q2:sIx items.size items.size hi-sIx items.size 0 lo=items.size:=eq_of_beq q.2;exact hw ⟨by omega,by omega⟩
 show z02 _ _ (if (((sIx items.size 0 lo:Nat):Int)==0&&(1:Int)==1&&(sIx items.size items.size hi-sIx items.size 0 lo)==items.size)=true then _ else _) _ _ s;rw[if_neg hno,d8]
 first
  | exact z01 (m:=z5d _) (z1P (z05 ⟨_,rfl,z05 h⟩) htake)
  | exact z01 (m:=z5d _) (z1P (z01 (z05 (z05 ⟨_,rfl,z05 h⟩))) htake)
  | exact z01 (z01 (m:=z5d _) (z1P (z05 (z05 ⟨_,rfl,z05 h⟩)) htake))
  | exact z01 (z01 (m:=z5d _) (z1P (z05 ⟨_,rfl,z05 h⟩) htake))
end
end HT
namespace L2
open PySem PySem.Spec PyProof.Rows
abbrev TO:=St->Hp->(Option Int->Hp->Prop)->Prop
def PO (X:Cx) (e:Option Expr) (t:TO):Prop:=
 ∀ (π:zP) (s:z03) (σ:St) (H:Hp) (Q:Option Int->Hp->Prop),Inv X π σ H s->t σ H Q ->
  z02 .(0) X.A (evalPart e X.env) (λ u s'=>∃ o H',Inv X π σ H' s'/\z2O u o/\Q o H') X.xe s
def nH:TO:=λ _ H Q=>Q none H
def xR (t:TE):TO:=λ σ H Q=>t σ H λ x H1=>∃ i,x=.int i/\Q (some i) H1
theorem intsAre_of:∀ {us:List z00},Vals (ns.map V.int) us->z3e us ns:=by
 induction ns with
 | nil=>intro us r;rw[z12] at r;cases r;exact .nil
 | cons n ns ih=>
  intro us r;rw[z0c] at r;cases r with
  | cons r1 r2=>
   obtain⟨t,e⟩:=r1;subst e;exact .cons n t (ih r2)
section
variable {lo hi:Option Expr}{tl th:TO}
theorem nJ:PO X none nH:=by
 intro π s σ H Q I h;rw[evalPart_none];exact z05 ⟨none,H,I,.none,h⟩
theorem nM (h:PE X e te):PO X (some e) (xR te):=by
 intro π s σ H Q I hw;rw[evalPart_some];refine thn (h π s σ H _ I hw) λ u s1 ⟨x,H1,I1,r1,q1⟩=>?_;obtain⟨i,rfl,q⟩:=q1;obtain⟨t,rfl⟩:=r1;exact⟨some i,H1,I1,.int i t,q⟩
def SlR (X:Cx) (r:V->Option Int->Option Int->Hp->VK->Prop):Prop:=
 ∀ (π:zP) (s:z03) (σ:St) (H:Hp) (x:V) (v vl vu:z00) (lo hi:Option Int) (sl:Addr) (Q:VK),Inv X π σ H s->RelV x v->s.heap.IsSliceOf sl vl vu .none->z2O vl lo->z2O vu hi->r x lo hi H Q ->
  ∃ T id,z6y (.type T) "__getitem__"=pure (some (.builtin id))/\s.TypeIs v T/\z02 .(0) X.A (z2w v (.ref sl)) (EP X π σ Q) X.xe s
theorem SlR.or {r r':V->Option Int->Option Int->Hp->VK->Prop}(h:SlR X r) (h':SlR X r'):SlR X (λ x lo hi H Q=>r x lo hi H Q∨r' x lo hi H Q):=by
 intro π s σ H x v vl vu lo hi sl Q I rx hs pl pu q
 rcases q with q | q
 ·exact h π s σ H x v vl vu lo hi sl Q I rx hs pl pu q
 ·exact h' π s σ H x v vl vu lo hi sl Q I rx hs pl pu q
def tSl (r:V->Option Int->Option Int->Hp->VK->Prop) (te:TE) (tl th:TO):TE:=λ σ H Q=>te σ H λ x H1=>tl σ H1 λ l H2=>th σ H2 λ u H3=>r x l u H3 Q
theorem d9 {r:V->Option Int->Option Int->Hp->VK->Prop}(hr:SlR X r) (he:PE X e te) (hl:PO X lo tl) (hu:PO X hi th):PE X (.Subscript e (.Slice lo hi none p2) pos) (tSl r te tl th):=by
 intro π s σ H Q I h;refine z6z (thn (he π s σ H _ I h) λ v s1 ⟨x,H1,I1,r1,q1⟩=>?_);refine wpAny_Slice (thn (hl π s1 σ H1 _ I1 q1) λ vl s2 ⟨l,H2,I2,pl,q2⟩=>thn (hu π s2 σ H2 _ I2 q2) λ vu s3 ⟨u,H3,I3,pu,q3⟩=>?_);rw[evalPart_none];refine z05 ?_;have I4:Inv X π σ H3 { s3 with heap:=s3.heap.push { cls:=.type "slice",data:=.fields #[vl,vu,.none] } }:=I3.kept (t':=s3.toks) λ b ob q=>z0d _ q;obtain⟨T,id,hT,ht,hg⟩:=hr π { s3 with heap:=s3.heap.push { cls:=.type "slice",data:=.fields #[vl,vu,.none] } } σ H3 x v vl vu l u s3.heap.objs.size Q I4 r1 (Heap.IsSliceOf.new ..) pl pu q3;show z02 .(0) X.A (z5e e (.Slice lo hi none p2) v (.ref s3.heap.objs.size)) (EP X π σ Q) X.xe { s3 with heap:=s3.heap.push { cls:=.type "slice",data:=.fields #[vl,vu,.none] } };exact tail_any (ops:=[.ref s3.heap.objs.size,v]) ht hT hg (by with_unfolding_all rfl)
def cutV (xs:List V) (lo hi:Option Int):List V:=(xs.drop (HT.sIx xs.length 0 lo)).take (HT.sIx xs.length xs.length hi-HT.sIx xs.length 0 lo)
theorem QZ (xs:List V) (lo hi:Option Int):(cutV xs lo hi).length<=xs.length:=by
 unfold cutV;rw[z1g,z2P];omega
def rSlT (K:z08):V->Option Int->Option Int->Hp->VK->Prop:=λ x lo hi H Q=>∃ a xs,x=.ref a/\SqT K H a xs ∧
 ¬ (HT.sIx xs.length 0 lo=0/\HT.sIx xs.length xs.length hi=xs.length)/\∀ p,H p=none->Q (.ref p) (upd H p (.tup (cutV xs lo hi)))
theorem ul:SlR X (rSlT X.K):=by
 intro π s σ H x v vl vu lo hi sl Q I rx hs pl pu h;obtain⟨a,xs,rfl,hx,hw,q⟩:=h;cases rx;obtain⟨its,r,ht,hz⟩:=I.tuple hx;have hlen:its.toArray.size=xs.length:=by rw[z0r];exact r.length.symm
 refine⟨"tuple",_,z6x.lookup,ht.typeIs,?_⟩;refine HT.Ng ht hs pl pu (by rw[hlen];exact hw) ?_ (by rw[hlen];exact hz);rw[hlen];refine⟨.ref s.heap.objs.size,_,I.laid (t':=s.toks) (o:=.tup (cutV xs lo hi)) (λ b ob q=>z0d _ q) (z07 _) ?_,rfl,q _ (I.hok.fresh (z07 _))⟩;exact⟨z0E (QZ xs lo hi) hz,_,(r.drop (HT.sIx xs.length 0 lo)).take (HT.sIx xs.length xs.length hi-HT.sIx xs.length 0 lo),z6A _ _⟩
theorem Vals.nil_iff (r:Vals xs us):us=[]↔xs=[]:=by
 cases r with
 | nil=>simp
 | cons _ _=>simp
end
def ixN (n:Nat) (i:Int):Option Nat:=if 0<=i then (if i<n then some i.toNat else none) else if -(n:Int)<=i then some (i+n).toNat else none
def atI {α:Type}(xs:List α) (i:Int):Option α:=(ixN xs.length i).bind λ j=>xs[j]?
theorem nO {i:Int}(h:ixN n i=some j):seqIndex? i n=some j/\j<n/\-(n:Int)<=i/\i<n:=by
 unfold ixN at h
 by_cases h0:0<=i
 ·rw[if_pos h0] at h
  by_cases h1:i<n
  ·rw[if_pos h1] at h;have e:i.toNat=j:=z0t h;exact⟨by rw[seqIndex_of h0 h1,e],by omega,by omega,h1⟩
  ·rw[if_neg h1] at h;cases h
 ·rw[if_neg h0] at h
  by_cases h1 : -(n:Int)<=i
  ·rw[if_pos h1] at h;have e:(i+n).toNat=j:=z0t h;exact⟨by rw[seqIndex_neg (by omega) h1,e],by omega,h1,by omega⟩
  ·rw[if_neg h1] at h;cases h
theorem Ul {α:Type}{xs:List α}{i:Int}{v:α}(h:atI xs i=some v):∃ j,seqIndex? i xs.length=some j/\xs[j]?=some v/\j<xs.length/\-(xs.length:Int)<=i/\i<xs.length:=by
 unfold atI at h;cases e:ixN xs.length i with
 | none=>rw[e] at h;cases h
 | some j=>
  rw[e] at h;obtain⟨h1,h2,h3,h4⟩:=nO e;exact⟨j,h1,h,h2,h3,h4⟩
def Nh (b:Expr):Prop:=∀ o i,z4l b false o i=operate [o,i] (z2w o i)
def IxR (X:Cx) (r:R2):Prop:=
 ∀ (value slice:Expr) (π:zP) (s:z03) (σ:St) (H:Hp) (x y:V) (v u:z00) (Q:VK),Inv X π σ H s->RelV x v->RelV y u->r x y H Q ->
  z4l slice false v u=operate [v,u] (z2w v u)->z02 .(0) X.A (z5e value slice v u) (EP X π σ Q) X.xe s
def MtR (X:Cx) (id:String) (r:V->List V->Hp->VK->Prop):Prop:=
 ∀ (π:zP) (s:z03) (σ:St) (H:Hp) (x:V) (xs:List V) (v:z00) (us:List z00) (Q:VK),Inv X π σ H s->RelV x v->Vals xs us->r x xs H Q ->
  z02 .(0) X.A (call (.builtin id) (v::us)) (EP X π σ Q) X.xe s
section
variable {a b:Expr}{ta tb:TE}
theorem IxR.or {r r':R2}(h:IxR X r) (h':IxR X r'):IxR X (λ x y H Q=>r x y H Q∨r' x y H Q):=by
 intro value slice π s σ H x y v u Q I rx ry q hs
 rcases q with q | q
 ·exact h value slice π s σ H x y v u Q I rx ry q hs
 ·exact h' value slice π s σ H x y v u Q I rx ry q hs
theorem rY {r:R2}(hr:IxR X r) (ha:PE X a ta) (hb:PE X b tb) (hs:Nh b):PE X (.Subscript a b pos) (tOp r ta tb):=by
 intro π s σ H Q I h;exact z6z (binT ha hb I h λ v u s2 x y H2 I2 rx ry q=>hr a b π s2 σ H2 x y v u Q I2 rx ry q (hs _ _))
def rIxL (K:z08):R2:=λ x y H Q=>∃ p xs i v,x=.ref p/\y=.int i/\SqL K H p xs/\atI xs i=some v/\Q v H
def rIxT (K:z08):R2:=λ x y H Q=>∃ p xs i v,x=.ref p/\y=.int i/\SqT K H p xs/\atI xs i=some v/\Q v H
def rIxS:R2:=λ x y H Q=>∃ z i c,x=.str z/\y=.int i/\z.length<=sizeLine/\atI z.cps.toList i=some c/\Q (.str ⟨#[c]⟩) H
theorem nP:IxR X (rIxL X.K):=by
 intro value slice π s σ H x y v u Q I rx ry h hs;obtain⟨p,xs,i,z,rfl,rfl,hq,he,q⟩:=h;cases rx;obtain⟨t,rfl⟩:=ry;obtain⟨its,r,pl,hz⟩:=I.list hq;obtain⟨j,h1,h2,h3,h4,h5⟩:=Ul he;obtain⟨w,ew,rw'⟩:=r.get h2;have hl:=r.length;have hn:=RN;have fin:EP X π σ Q w s:=⟨z,H,I,rw',q⟩
 by_cases h0:0<=i
 ·have hj:i.toNat=j:=by
   rw[seqIndex_of h0 h5] at h1;exact z0t h1
  exact item_listR pl.isList h0 (by omega) (by rw[hj];simpa using ew) fin hs
 ·have hj:(i+(its.toArray.size:Int)).toNat=j:=by
   rw[seqIndex_neg (by omega) h4] at h1;rw[z0r,<-hl];exact z0t h1
  exact z8g (x:=w) pl.isList.typeIs z8h.lookup
   (wpAny_getItem_list_neg (Q:=λ r s'=>r=w/\EP X π σ Q r s') pl.isList (by omega) (by rw[z0r]<;>omega) (by omega) (by rw[hj];simpa using ew) ⟨rfl,fin⟩) hs
theorem um:IxR X (rIxT X.K):=by
 intro value slice π s σ H x y v u Q I rx ry h hs;obtain⟨p,xs,i,z,rfl,rfl,hq,he,q⟩:=h;cases rx;obtain⟨t,rfl⟩:=ry;obtain⟨its,r,pl,hz⟩:=I.tuple hq;obtain⟨j,h1,h2,h3,h4,h5⟩:=Ul he;obtain⟨w,ew,rw'⟩:=r.get h2;have hl:=r.length;have hn:=RN;have fin:EP X π σ Q w s:=⟨z,H,I,rw',q⟩;exact z8g (x:=w) pl.typeIs slot_tuple_getitem.lookup
  (getItem_tuple (j:=j) (Q:=λ r s'=>r=w/\EP X π σ Q r s') pl (by omega) (by omega) (by rw[z0r,<-hl];exact h1) (by simpa using ew) ⟨rfl,fin⟩) hs
theorem PJ:IxR X rIxS:=by
 intro value slice π s σ H x y v u Q I rx ry h hs;obtain⟨z,i,c,rfl,rfl,hz,he,q⟩:=h;obtain⟨t,rfl⟩:=rx;obtain⟨t',rfl⟩:=ry;obtain⟨j,h1,h2,h3,h4,h5⟩:=Ul he;have hl:z.cps.toList.length=z.length:=by simp[z6B]
 rw[hl] at h1 h4 h5;have hn:=RN;exact tail_any (z6C s z t) slot_str_getitem.lookup (getItem_str (c:=c) (by
  have e1:decide (i < -(2^63:Int))=false:=decide_eq_false (by omega);have e2:decide (i≥2^63)=false:=decide_eq_false (by omega);rw[e1,e2,Bool.or_false]) (by rw[h1];simpa using h2) ⟨.str ⟨#[c]⟩,H,I.tok _,⟨_,rfl⟩,q⟩) hs
def rIx (K:z08):R2:=λ x y H Q=>rIxL K x y H Q∨rIxT K x y H Q∨rIxS x y H Q
theorem d_:IxR X (rIx X.K):=nP.or (um.or PJ)
theorem Um (lo hi:Option Int) (n:Nat):(z3f lo hi none n).1=((HT.sIx n 0 lo:Nat):Int)/\(z3f lo hi none n).2.1=((HT.sIx n n hi:Nat):Int)/\(z3f lo hi none n).2.2=1:=by
 refine⟨?_,?_,rfl⟩
 ·cases lo with
  | none=>simp[z3f,HT.sIx]
  | some i=>
   simp only[z3f,HT.sIx,z8i,show (1:Int) > 0 by decide,if_true]
   by_cases h:i<0
   ·simp only[h,if_true]<;>omega
   ·simp only[h,if_false]<;>omega
 ·cases hi with
  | none=>simp[z3f,HT.sIx]
  | some i=>
   simp only[z3f,HT.sIx,z8i,show (1:Int) > 0 by decide,if_true]
   by_cases h:i<0
   ·simp only[h,if_true]<;>omega
   ·simp only[h,if_false]<;>omega
theorem TJ (its:List z00) (lo hi:Option Int):slicePick its.toArray lo hi none=((its.drop (HT.sIx its.length 0 lo)).take (HT.sIx its.length its.length hi-HT.sIx its.length 0 lo)).toArray:=by
 obtain⟨h1,h2,h3⟩:=Um lo hi its.toArray.size;unfold slicePick;rw[h1,h2,h3];simp only[sliceRange_one,pick_run,z0r]<;>rfl
def rSlL (K:z08):V->Option Int->Option Int->Hp->VK->Prop:=λ x lo hi H Q=>∃ a xs,x=.ref a/\SqL K H a xs/\∀ p,H p=none->Q (.ref p) (upd H p (.lst (cutV xs lo hi)))
theorem nQ:SlR X (rSlL X.K):=by
 intro π s σ H x v vl vu lo hi sl Q I rx hs pl pu h;obtain⟨a,xs,rfl,hx,q⟩:=h;cases rx;obtain⟨its,r,ht,hz⟩:=I.list hx;have hlen:=r.length;refine⟨"list",_,z8h.lookup,ht.isList.typeIs,?_⟩;refine wpAny_getItem_list_slice ht.isList hs pl pu .none (by simp) ?_ (by rw[z0r]<;>omega);rw[TJ,<-hlen];refine⟨.ref s.heap.objs.size,_,I.laid (t':=s.toks) (o:=.lst (cutV xs lo hi)) (λ b ob q=>z0d _ q) (z07 _) ?_,rfl,q _ (I.hok.fresh (z07 _))⟩;exact⟨z0E (QZ xs lo hi) hz,_,0,(r.drop (HT.sIx xs.length 0 lo)).take (HT.sIx xs.length xs.length hi-HT.sIx xs.length 0 lo),z0l _ rfl⟩
def KD:V->Bool
 | .non=>true
 | .bl _=>true
 | .int _=>true
 | .str _=>true
 | _=>false
def eqV:V->V->Bool
 | .non,.non=>true
 | .bl a,.bl b=>a==b
 | .bl a,.int b=>(if a then 1 else 0)==b
 | .int a,.bl b=>a==(if b then 1 else 0)
 | .int a,.int b=>a==b
 | .str a,.str b=>a==b
 | _,_=>false
theorem eE {A:z0a}{x:V}{v:z00}(ry:RelV y u) (rx:RelV x v) (fy:KD y=true) (fx:KD x=true):z2m A s u v (eqV y x):=by
 cases y with
 | non=>
  cases ry;cases x with
  | non=>cases rx;exact z6D _
  | bl b=>cases rx;exact SeqAt.EqAt.none_bool b
  | int b=>obtain⟨t,rfl⟩:=rx;exact SeqAt.EqAt.none_int b t
  | str b=>obtain⟨t,rfl⟩:=rx;exact SeqAt.EqAt.none_str b t
  | _=>exact absurd (show false=true from fx) z0D
 | bl a=>
  cases ry;cases x with
  | non=>cases rx;exact SeqAt.EqAt.bool_none a
  | bl b=>cases rx;exact SeqAt.EqAt.bool_bool a b
  | int b=>obtain⟨t,rfl⟩:=rx;exact SeqAt.EqAt.bool_int a b t
  | str b=>obtain⟨t,rfl⟩:=rx;exact SeqAt.EqAt.bool_str a b t
  | _=>exact absurd (show false=true from fx) z0D
 | int a=>
  obtain⟨t',rfl⟩:=ry;cases x with
  | non=>cases rx;exact SeqAt.EqAt.int_none a t'
  | bl b=>cases rx;exact SeqAt.EqAt.int_bool a t' b
  | int b=>obtain⟨t,rfl⟩:=rx;exact SeqAt.EqAt.int_int a t' b t
  | str b=>obtain⟨t,rfl⟩:=rx;exact z7V a t' b t
  | _=>exact absurd (show false=true from fx) z0D
 | str a=>
  obtain⟨t',rfl⟩:=ry;cases x with
  | non=>cases rx;exact SeqAt.EqAt.str_none a t'
  | bl b=>cases rx;exact SeqAt.EqAt.str_bool a t' b
  | int b=>obtain⟨t,rfl⟩:=rx;exact z7W a t' b t
  | str b=>obtain⟨t,rfl⟩:=rx;exact SeqAt.EqAt.str_str a t' b t
  | _=>exact absurd (show false=true from fx) z0D
 | _=>exact absurd (show false=true from fy) z0D
def eqU (x:V) (u:z00):Bool:=match u with
 | .none=>eqV .non x
 | .bool b=>eqV (.bl b) x
 | .int i _=>eqV (.int i) x
 | .str z _=>eqV (.str z) x
 | _=>false
theorem eF {x:V}(r:RelV y u) (f:KD y=true):eqU x u=eqV y x:=by
 cases y with
 | non=>cases r;rfl
 | bl b=>cases r;rfl
 | int i=>obtain⟨t,rfl⟩:=r;rfl
 | str z=>obtain⟨t,rfl⟩:=r;rfl
 | _=>exact absurd (show false=true from f) z0D
theorem Ni {x:V}:∀ {xs:List V}{us:List z00},Vals xs us->xs.all KD=true->us.any (eqU x)=xs.any λ y=>eqV y x
 | _,_,.nil,_=>rfl
 | y::xs,u::us,.cons r t,f=>by
  rw[z4m,z0U] at f;rw[z3g,z3g,eF r f.1,Ni t f.2]
theorem Ko {A:z0a}{s:z03}{x:V}{v:z00}(rx:RelV x v) (fx:KD x=true):∀ {xs:List V}{us:List z00},Vals xs us->xs.all KD=true->∀ u∈us,z2m A s u v (eqU x u)
 | _,_,.nil,_=>λ u hu=>by cases hu
 | y::xs,u::us,.cons r t,f=>λ u' hu=>by
  rw[z4m,z0U] at f
  rcases z0j.mp hu with rfl | hu
  ·rw[eF r f.1];exact eE r rx f.1 fx
  ·exact Ko rx fx t f.2 u' hu
def inV (x:V) (xs:List V):Bool:=xs.any λ y=>eqV y x
def rIn (K:z08) (neg:Bool):R2:=λ x y H Q=>∃ p xs,y=.ref p/\(SqL K H p xs∨SqT K H p xs)/\KD x=true/\xs.all KD=true/\Q (.bl (if neg then !inV x xs else inV x xs)) H
theorem bN:OpR X (z0B .In) (rIn X.K false):=by
 intro π s σ H x y v u Q I rx ry h;obtain⟨p,xs,rfl,hq,fx,fs,q⟩:=h;cases ry
 rcases hq with hq | hq
 ·obtain⟨its,r,pl,hz⟩:=I.list hq;refine z8j (eqU x) pl.isList (λ w hw=>Ko rx fx r fs w (by simpa using hw)) ⟨.bl _,H,I,rfl,?_⟩;rw[show its.toArray.any (eqU x)=its.any (eqU x) by simp,Ni r fs];exact q
 ·obtain⟨its,r,pl,hz⟩:=I.tuple hq;refine SeqAt.in_tupleAt (eqU x) pl (λ w hw=>Ko rx fx r fs w (by simpa using hw)) ⟨.bl _,H,I,rfl,?_⟩;rw[show its.toArray.any (eqU x)=its.any (eqU x) by simp,Ni r fs];exact q
theorem Uo:OpR X (z0B .NotIn) (rIn X.K true):=by
 intro π s σ H x y v u Q I rx ry h;obtain⟨p,xs,rfl,hq,fx,fs,q⟩:=h;cases ry
 rcases hq with hq | hq
 ·obtain⟨its,r,pl,hz⟩:=I.list hq;refine z8k (eqU x) pl.isList (λ w hw=>Ko rx fx r fs w (by simpa using hw)) ⟨.bl _,H,I,rfl,?_⟩;rw[show its.toArray.any (eqU x)=its.any (eqU x) by simp,Ni r fs];exact q
 ·obtain⟨its,r,pl,hz⟩:=I.tuple hq;refine SeqAt.notIn_tupleAt (eqU x) pl (λ w hw=>Ko rx fx r fs w (by simpa using hw)) ⟨.bl _,H,I,rfl,?_⟩;rw[show its.toArray.any (eqU x)=its.any (eqU x) by simp,Ni r fs];exact q
theorem Cv.or {f:z00}{r':List V->Hp->VK->Prop}(h:Cv X f r) (h':Cv X f r'):Cv X f (λ xs H Q=>r xs H Q∨r' xs H Q):=by
 intro π s σ H xs us Q I rs q
 rcases q with q | q
 ·exact h π s σ H xs us Q I rs q
 ·exact h' π s σ H xs us Q I rs q
theorem Hi:Cv X (.type "list") (λ xs H Q=>∃ p ys,xs=[.ref p]/\(SqL X.K H p ys∨SqT X.K H p ys)/\∀ l,H l=none->Q (.ref l) (upd H l (.lst ys))):=by
  intro π s σ H xs us Q I r h;obtain⟨p,ys,rfl,hq,q⟩:=h;obtain⟨u,rfl,rx⟩:=vals1 r;cases rx;have fin:∀ (its:List z00),Vals ys its->ys.length<=sizeLine->∀ (h':Heap) (c':Nat),(∀ b o',s.heap.get? b=some o'->h'.get? b=some o') ->
      h'.get? s.heap.objs.size=some { cls:=.type "list",dict:=none,data:=.seq its.toArray c',slots:=#[] }->EP X π σ Q .(5) { s with heap:=h' }:=λ its r' hz h' c' kp e=>
    ⟨.ref s.heap.objs.size,_,I.laid (t':=s.toks) kp (z07 _) (show BL X.prog X.w _ h' _ (.lst ys) from⟨hz,its,c',r',e⟩),rfl,q _ (I.hok.fresh (z07 _))⟩
  rcases hq with hq | hq
  · obtain⟨its,r',pl,hz⟩:=I.list hq
    have hlen:=r'.length;obtain⟨o,ho,hc,n,hd⟩:=pl.isList;exact call_list_seq p (.inl rfl) ho hc hd (λ h' c' kp e=>fin its r' hz h' c' kp e) (by simp only[z0r]<;>omega)
  · obtain⟨its,r',pl,hz⟩:=I.tuple hq
    have hlen:=r'.length;obtain⟨o,ho,hc,n,hd⟩:=pl;exact call_list_seq p (.inr rfl) ho hc hd (λ h' c' kp e=>fin its r' hz h' c' kp e) (by simp only[z0r]<;>omega)
theorem Ma:Cv X (.type "tuple") (λ xs H Q=>∃ p ys,xs=[.ref p]/\((SqL X.K H p ys/\∀ l,H l=none->Q (.ref l) (upd H l (.tup ys)))∨(SqT X.K H p ys/\Q (.ref p) H))):=by
 intro π s σ H xs us Q I r h;obtain⟨p,ys,rfl,h⟩:=h;obtain⟨u,rfl,rx⟩:=vals1 r;cases rx
 rcases h with ⟨hq,q⟩ | ⟨hq,q⟩
 ·obtain⟨its,r',pl,hz⟩:=I.list hq;have hlen:=r'.length;refine call_tuple_list pl.isList (λ h' kp=>?_) (by simp only[z0r]<;>omega);have I1:Inv X π σ H { s with heap:=h' }:=I.kept (t':=s.toks) kp;have I2:Inv X π σ (upd H h'.objs.size (.tup ys)) { s with heap:=h'.push { cls:=.type "tuple",data:=.seq its.toArray } }:=
   I1.laid (t':=s.toks) (λ b o e=>z0d _ e) (z07 _) (show BL X.prog X.w _ _ _ (.tup ys) from⟨hz,its,r',z6A _ _⟩)
  exact⟨.ref h'.objs.size,_,I2,rfl,q _ (I1.hok.fresh (z07 _))⟩
 ·obtain⟨its,r',pl,hz⟩:=I.tuple hq;exact call_tuple_same pl ⟨.ref p,H,I,rfl,q⟩
def tyV (K:z08) (T:String) (x:V) (H:Hp):Prop:=match x with
  | .str _=>T="str"
  | .int _=>T="int"
  | .ref p=>(T="list"/\∃ xs,SqL K H p xs)∨(T="tuple"/\∃ o,K.lookup p=some o/\o.cls=.type "tuple"/\o.dict=none) ∨
      (T="dict"/\((∃ kvs,H p=some (.dK kvs))∨∃ kvs,H p=some (.dT kvs)))∨(T="set"/\∃ S n,H p=some (.set S n))
  | _=>False
theorem uo {T:String}{x:V}{v:z00}(I:Inv X π σ H s) (r:RelV x v) (ty:tyV X.K T x H) :
  s.TypeIs v T/\∀ a,v=.ref a->∃ ob,s.heap.get? a=some ob/\ob.dict=none:=by
 cases x with
 | str z=>
  obtain⟨t,rfl⟩:=r;cases (show T="str" from ty);exact⟨z6C s z t,λ _ e=>nomatch e⟩
 | int i=>
  obtain⟨t,rfl⟩:=r;cases (show T="int" from ty);exact⟨typeIs_int s i t,λ _ e=>nomatch e⟩
 | ref p=>
  cases r
  rcases ty with ⟨rfl,xs,hq⟩ | ⟨rfl,o,hk,hc,hd⟩ | ⟨rfl,hk⟩ | ⟨rfl,S,n,hk⟩
  ·obtain⟨its,_,pl,_⟩:=I.list hq;refine⟨pl.isList.typeIs,λ a e=>?_⟩;cases e;obtain⟨o,n,e,c,hd,_⟩:=pl;exact⟨o,e,hd⟩
  ·refine⟨⟨o,I.kIn p o hk,hc⟩,λ a e=>?_⟩;cases e;exact⟨o,I.kIn _ o hk,hd⟩
  ·have z:∃ o,s.heap.get? p=some o/\o.ExactDict:=by
    rcases hk with ⟨kvs,hk⟩ | ⟨kvs,hk⟩
    ·obtain⟨_,_,_,_,o,_,_,e,ex,_⟩:=I.hok p _ hk;exact⟨o,e,ex⟩
    ·obtain⟨_,_,_,_,o,_,_,e,ex,_⟩:=I.hok p _ hk;exact⟨o,e,ex⟩
   obtain⟨o,e,ex⟩:=z;refine⟨⟨o,e,ex.1⟩,λ a e2=>?_⟩;cases e2;exact⟨o,e,ex.2.1⟩
  ·obtain⟨o,_,_,_,e,ex,_⟩:=I.hok p _ hk;refine⟨⟨o,e,ex.1⟩,λ a e2=>?_⟩;cases e2;exact⟨o,e,ex.2.1⟩
 | _=>exact z1n ty
def tBM (K:z08) (T:String) (r:V->List V->Hp->VK->Prop) (to:TE) (t:TA):TE:=λ σ H Q=>to σ H λ x H1=>tyV K T x H1/\t σ H1 λ xs H2=>r x xs H2 Q
variable {o:Expr}{es:List Expr}{to:TE}{t:TA}{name:Str}{cpos:Pos}{T id:String}{r:V->List V->Hp->VK->Prop}
theorem xT (pa:PlainAttrs T) (slot:Slot T name id) (hty:typeOf (.builtin id)=pure (.type "method_descriptor")) (hm:MtR X id r) (ho:PE X o to) (ha:PA X (e::es) t)
  (hbase:z1q o name X.env (eval o X.env)=eval o X.env:=by rfl)
  (hfew:((z0z cpos (z09 (e::es) X.env)).all (λ x=>!x.1)&&(z1x cpos (z1f [] X.env)).all (λ x=>x.1.isSome)
   && decide ((e::es).length+([]:List z2K).length+(if ([]:List z2K).isEmpty then 0 else 1)<30))=true:=by rfl)
  (hline:(apos.endLine==cpos.line)=true:=by rfl) (hs:z09 (e::es) X.env=(false,eval e X.env)::z09 es X.env:=by rfl) (hplain:(z0z cpos (z09 es X.env)).any (·.1)=false:=by rfl) :
  PE X (.Call (.Attribute o name apos) (e::es) [] cpos) (tBM X.K T r to t):=by
 intro π s σ H Q I h;refine wpAny_Call_method_late hbase hfew hline rfl (thn (ho π s σ H _ I h) λ v s1 ⟨x,H1,I1,r1,ty,q1⟩=>?_);obtain⟨h1,h2⟩:=uo I1 r1 ty;refine⟨T,id,pa,slot,hty,h1,h2,?_⟩;have hA:=ha cpos π s1 σ H1 _ I1 q1;rw[hs] at hA ⊢;refine z8l (by show (false||(z0z cpos (z09 es X.env)).any (·.1))=false;rw[hplain]<;>rfl) (z8m ?_);exact thn hA λ us s2 ⟨vs,H2,I2,r2,q2⟩=>hm π s2 σ H2 x vs v us Q I2 r1 r2 q2
end
def MtM (X:Cx) (id:String) (r:V->List V->Hp->VK->Prop):Prop:=
 ∀ (π:zP) (s:z03) (σ:St) (H:Hp) (x:V) (xs:List V) (v:z00) (us:List z00) (Q:VK),Inv X π σ H s->RelV x v->Vals xs us->r x xs H Q ->
  z02 .(0) X.A (call (.builtin id) (v::us)) (EP X π σ Q) X.xe s
theorem Vals.one:∀ {x:V}{us:List z00},Vals [x] us->∃ u,us=[u]/\RelV x u
 | _,_,.cons r .nil=>⟨_,rfl,r⟩
section
variable {l:Addr}{zs:List V}
theorem Inv.lset {its':List z00}{f:Array z00->Array z00}(I:Inv X π σ H s) (hH:H l=some (.lst xs))
  (e:s.heap.get? l=some { cls:=.type "list",data:=.seq its.toArray n }) (hf:f its.toArray=its'.toArray) (hv:Vals ys its') (hz:ys.length<=sizeLine) :
  Inv X π σ (upd H l (.lst ys)) { s with heap:=s.heap.update l (z1Y f),toks:=t' }:=by
 have q:=PySem.IsL.update e f;rw[hf] at q;refine I.write (x:=l) (e:=l) (by rw[hH];exact trivial) (.inl rfl) (λ b' u hb hu=>(z13 s.heap (z1Y f) (z0n hb)).trans hu) ⟨_,q⟩ ?_;exact⟨hz,its',_,hv,q⟩
theorem Inv.lnew (I:Inv X π σ H s) (hv:Vals ys its) (hz:ys.length<=sizeLine) :
  Inv X π σ (upd H s.heap.objs.size (.lst ys)) { s with heap:=s.heap.push { cls:=.type "list",data:=.seq its.toArray },toks:=t' }:=
 I.laid (λ _ _ q=>z0d _ q) (z07 _) ⟨hz,its,0,hv,z0l _ rfl⟩
theorem Inv.fresh (I:Inv X π σ H s):H s.heap.objs.size=none:=I.hok.fresh (z07 _)
theorem Inv.lstM (I:Inv X π σ H s) (hH:H l=some (.lst xs)):xs.length<=sizeLine/\∃ (its:List z00) (n:Nat),Vals xs its/\xs.length=its.length/\s.heap.get? l=some { cls:=.type "list",data:=.seq its.toArray n }:=by
 obtain⟨z,its,n,r,e⟩:=I.hok l _ hH;exact⟨z,its,n,r,r.length,e⟩
end
section
def nR:V->List V->Hp->VK->Prop:=λ x vs H Q=>∃ l xs y,x=.ref l/\vs=[y]/\H l=some (.lst xs)/\xs.length<sizeLine/\Q .non (upd H l (.lst (xs++[y])))
theorem Tq:MtM X "list.append" nR:=by
 intro π s σ H x vs v us Q I rx rv h;obtain⟨l,xs,y,rfl,rfl,hH,hz,q⟩:=h;cases rx;obtain⟨u,rfl,ru⟩:=rv.one;obtain⟨z,its,n,r,hl,e⟩:=I.lstM hH;refine z6E F.slot_list_append ⟨_,e,rfl⟩ F.entry_list_append (F.args_list_append_2 _ _) (PySem.list_append l its.toArray n u (by rw[z0r];omega)) ⟨e,?_⟩;refine⟨.non,_,I.lset (its':=its++[u]) hH e (by simp) (r.append (.cons ru .nil)) ?_,rfl,q⟩;rw[z0N,z4n];omega
end
section
variable {A:z0a}
end
section
end
section
variable {κ:Type} [DecidableEq κ]
def valV (kvs:List (κ×V)) (k:κ):Option V:=(kvs.find? λ kv=>decide (kv.1=k)).map (·.2)
def putK (kvs:List (κ×V)) (k:κ) (v:V):List (κ×V):=
 if (kvs.any λ kv=>decide (kv.1=k))=true then kvs.map (λ kv=>if kv.1=k then (kv.1,v) else kv) else kvs++[(k,v)]
theorem Nj {p:κ×V}{r:List (κ×V)}{k:κ}(e:p.1=k):valV (p::r) k=some p.2:=by simp[valV,z3h,e]
theorem Nk {p:κ×V}{r:List (κ×V)}{k:κ}(e:¬ p.1=k):valV (p::r) k=valV r k:=by simp[valV,z3h,e]
theorem RQ (k:κ):∀ kvs:List (κ×V),(kvs.any λ kv=>decide (kv.1=k))=(valV kvs k).isSome
 | []=>rfl
 | p::r=>by
  rw[z3g]
  by_cases e:p.1=k
  ·simp only[Nj e,decide_eq_true e,Bool.true_or,Option.isSome_some]
  ·rw[Nk e,decide_eq_false e,z8n];exact RQ k r
theorem Qa (kvs:List (κ×V)) (k:κ) (v:V):(putK kvs k v).length<=kvs.length+1:=by
 unfold putK;split
 ·rw[z06];omega
 ·rw[z0N,z0u,z2y];omega
theorem RelO.isSome_eq {o:Option V}{u:Option z00}(r:RelO o u):o.isSome=u.isSome:=by
 cases o with
 | none=>cases u with
  | none=>rfl
  | some _=>exact (show False from r).elim
 | some _=>cases u with
  | none=>exact (show False from r).elim
  | some _=>rfl
theorem KV.val {kvs:List (κ×V)}{vs:List (κ×z00)}(r:KV kvs vs) (k:κ):RelO (valV kvs k) (z3i vs k):=by
 unfold KV at r
 induction r with
 | nil=>exact z1L
 | @cons p q ps qs h t ih=>
  obtain⟨h1,h2⟩:=h
  by_cases e:p.1=k
  ·have e':q.1=k:=h1.symm.trans e;have b:z3i (q::qs) k=some q.2:=by simp[z3i,z3h,e']
   rw[Nj e,b];exact h2
  ·have e':¬ q.1=k:=λ z=>e (h1.trans z);have b:z3i (q::qs) k=z3i qs k:=by simp[z3i,z3h,e']
   rw[Nk e,b];exact ih
theorem KV.any {kvs:List (κ×V)}{vs:List (κ×z00)}(r:KV kvs vs) (k:κ):(kvs.any λ kv=>decide (kv.1=k))=vs.any λ kv=>decide (kv.1=k):=by
 unfold KV at r
 induction r with
 | nil=>rfl
 | cons h t ih=>rw[z3g,z3g,ih,h.1]
theorem KV.repl {kvs:List (κ×V)}{vs:List (κ×z00)}(r:KV kvs vs) (k:κ) {y:V}{u:z00}(ry:RelV y u) :
  KV (kvs.map λ kv=>if kv.1=k then (kv.1,y) else kv) (vs.map λ kv=>if kv.1=k then (kv.1,u) else kv):=by
 unfold KV at r ⊢
 induction r with
 | nil=>exact .nil
 | @cons p q ps qs h t ih=>
  rw[z0c,z0c];refine .cons ?_ ih;obtain⟨h1,h2⟩:=h
  by_cases e:p.1=k
  ·rw[if_pos e,if_pos (h1.symm.trans e)];exact⟨h1,ry⟩
  ·rw[if_neg e,if_neg (λ z=>e (h1.trans z))];exact⟨h1,h2⟩
theorem KV.put {kvs:List (κ×V)}{vs:List (κ×z00)}(r:KV kvs vs) (k:κ) {y:V}{u:z00}(ry:RelV y u):KV (putK kvs k y) (stored vs k u):=by
 unfold putK stored;rw[r.any k]
 by_cases e:(vs.any λ kv=>decide (kv.1=k))=true
 ·rw[if_pos e,if_pos e];exact r.repl k ry
 ·rw[if_neg e,if_neg e];exact z8o r ⟨rfl,ry⟩
theorem KV.length {kvs:List (κ×V)}{vs:List (κ×z00)}(r:KV kvs vs):kvs.length=vs.length:=z4_ r
end
theorem V7 {k:Key}(r:RelV (kV k) u):(Ao P w).is k u=true:=by
 cases k with
 | inl i=>obtain⟨t,e⟩:=(show ∃ t,u=z36 i t from r);subst e;exact Vw P w i t
 | inr x=>obtain⟨t,e⟩:=(show ∃ t,u=z3E x t from r);subst e;exact Vx P w x t
theorem PL {P:z0s}{w:z0k}:∀ {ks:List Key}{us:List z00},Vals (ks.map kV) us->ItemsAre (Ao P w) ks us
 | [],_,r=>by rw[z12] at r;cases r;exact .nil
 | k::ks,_,r=>by
  rw[z0c] at r;cases r with
  | cons h t=>exact .cons (V7 h) (PL t)
abbrev KT (H:Hp):List (List Key×V)->List (List Key×Addr×z00)->Prop:=z2h λ p q=>p.1=q.1/\H q.2.1=some (.tup (p.1.map kV))/\RelV p.2 q.2.2
theorem KT.val {xs:List (List Key×Addr×z00)}(r:KT H kvs xs) (k:List Key):RelO (valV kvs k) ((z0I xs k).map (·.2)):=by
 induction r with
 | nil=>exact z1L
 | @cons p q ps qs h t ih=>
  obtain⟨h1,_,h2⟩:=h
  by_cases e:p.1=k
  ·have e':q.1=k:=h1.symm.trans e;have b:z0I (q::qs) k=some q.2:=by simp[z0I,z3h,e']
   rw[Nj e,b];exact h2
  ·have e':¬ q.1=k:=λ z=>e (h1.trans z);have b:z0I (q::qs) k=z0I qs k:=by simp[z0I,z3h,e']
   rw[Nk e,b];exact ih
theorem KT.repl {xs:List (List Key×Addr×z00)}(r:KT H kvs xs) (k:List Key) {y:V}{u:z00}(ry:RelV y u) :
  KT H (kvs.map λ kv=>if kv.1=k then (kv.1,y) else kv) (xs.map (putAt k u)):=by
 induction r with
 | nil=>exact .nil
 | @cons p q ps qs h t ih=>
  rw[z0c,z0c];refine .cons ?_ ih;obtain⟨h1,h2,h3⟩:=h;unfold putAt
  by_cases e:p.1=k
  ·rw[if_pos e,if_pos (h1.symm.trans e)];exact⟨h1,h2,ry⟩
  ·rw[if_neg e,if_neg (λ z=>e (h1.trans z))];exact⟨h1,h2,h3⟩
theorem KT.put {xs:List (List Key×Addr×z00)}(r:KT H kvs xs) (k:List Key) {b:Addr}{y:V}{u:z00}(hb:H b=some (.tup (k.map kV))) (ry:RelV y u) :
  KT H (putK kvs k y) (z4o xs k b u):=by
 have e:(kvs.any λ kv=>decide (kv.1=k))=(z0I xs k).isSome:=by
  rw[RQ,(r.val k).isSome_eq,z4p]
 unfold putK z4o;rw[e]
 by_cases q:(z0I xs k).isSome=true
 ·rw[if_pos q,if_pos q];exact r.repl k ry
 ·rw[if_neg q,if_neg q];exact z8o r ⟨rfl,hb,ry⟩
theorem KT.keeps {xs:List (List Key×Addr×z00)}(r:KT H kvs xs) (ht:∀ b ys,H b=some (.tup ys)->H' b=some (.tup ys)):KT H' kvs xs:=
 Paired.mapP r λ _ _ z=>⟨z.1,ht _ _ z.2.1,z.2.2⟩
section
theorem eG {u:HO}(ok:HOk P w H h) (e:Rd H a u):BL P w H h a u:=e.ok ok
theorem Nm {kvs:List (Key×V)}(ok:HOk P w H h) (e:Rd H a (.dK kvs)):kvs.length<=sizeLine/\(a==z16)=false/\∃ vs,KV kvs vs/\h.DictOf (Ao P w) a vs:=
 show BL P w H h a (.dK kvs) from eG ok e
theorem rZ {kvs:List (Key×V)}(ok:HOk P w H h) (e:H a=some (.dK kvs)):kvs.length<=sizeLine/\(a==z16)=false/\∃ vs,KV kvs vs/\h.DictOf (Ao P w) a vs:=Nm ok (.inl e)
theorem RT {ks:List Key}(ok:HOk P w H h) (e:H a=some (.tup (ks.map kV))):(z39 (Ao P w)).is h ks a:=by
 obtain⟨_,its,r,o,h1,h2,n,h3⟩:=(show BL P w H h a (.tup (ks.map kV)) from ok a _ e);exact⟨o,its.toArray,n,h1,h2,h3,by simpa using PL r⟩
theorem V8 (ok:HOk P w H h) (e:Rd H a (.dT kvs)):kvs.length<=sizeLine/\(a==z16)=false ∧
  ∃ xs,KT H kvs xs/\h.DictOfH (z39 (Ao P w)) a xs:=by
 obtain⟨z,y,xs,r,o,es,ep,h1,h2,h3,h4,h5⟩:=(show BL P w H h a (.dT kvs) from eG ok e);refine⟨z,y,xs,r,o,es,ep,h1,h2,h3,h4,λ x hx=>?_,h5⟩;have all:∀ {l:List (List Key×V)}{m:List (List Key×Addr×z00)},KT H l m->∀ x∈m,(z39 (Ao P w)).is h x.1 x.2.1:=by
  intro l m q
  induction q with
  | nil=>intro x hx;exact nomatch hx
  | @cons p q ps qs hq t ih=>
   intro x hx
   rcases z0j.mp hx with e | hx
   ·subst e;exact RT ok (by rw[<-hq.1];exact hq.2.1)
   ·exact ih x hx
 exact all r x hx
theorem xU (ok:HOk P w H h) (e:H a=some (.dT kvs)):kvs.length<=sizeLine/\(a==z16)=false ∧
  ∃ xs,KT H kvs xs/\h.DictOfH (z39 (Ao P w)) a xs:=V8 ok (.inl e)
end
def DGet (H:Hp) (a:Addr) (y:V) (r:Option V):Prop:=
 (∃ kvs k,Rd H a (.dK kvs)/\y=kV k/\r=valV kvs k)∨∃ kvs k b,Rd H a (.dT kvs)/\y=.ref b/\H b=some (.tup (k.map kV))/\r=valV kvs k
def DPut (H:Hp) (a:Addr) (y v:V) (H':Hp):Prop:=
 (∃ kvs k,H a=some (.dK kvs)/\y=kV k/\kvs.length<sizeLine/\H'=upd H a (.dK (putK kvs k v))) ∨
 ∃ kvs k b,H a=some (.dT kvs)/\y=.ref b/\H b=some (.tup (k.map kV))/\kvs.length<sizeLine/\H'=upd H a (.dT (putK kvs k v))
theorem DPut.k {H:Hp}{a:Addr}{kvs:List (Key×V)}{k:Key}{v:V}(e:H a=some (.dK kvs)) (hl:kvs.length<sizeLine):DPut H a (kV k) v (upd H a (.dK (putK kvs k v))):=.inl ⟨kvs,k,e,rfl,hl,rfl⟩
theorem DPut.t {k:List Key}(e:H a=some (.dT kvs)) (eb:H b=some (.tup (k.map kV))) (hl:kvs.length<sizeLine) :
  DPut H a (.ref b) v (upd H a (.dT (putK kvs k v))):=.inr ⟨kvs,k,b,e,rfl,eb,hl,rfl⟩
section
variable {r:z00}{o:Option V}{A:z0a}
theorem Inv.big (I:Inv X π σ H s):z16<s.heap.objs.size:=by
 have h:z0T<s.heap.objs.size:=(I.mod.glob.keeps I.bk).lt;exact z8p (by decide) h
theorem bO (hu:A.units+1<z0h) (I:Inv X π σ H s) (g:DGet H a y (some v)) (ry:RelV y u) (h:∀ w' s',Inv X π σ H s'->RelV v w'->Q w' s') :
  z02 .(0) A (z2w (.ref a) u) Q E s:=by
 rcases g with ⟨kvs,k,e,ey,l⟩ | ⟨kvs,k,b,e,ey,eb,l⟩
 ·subst ey;obtain⟨z,hd,vs,rel,dd⟩:=Nm I.hok e;obtain⟨w',hw,rw'⟩:=RelO.some_of (v:=v) (o:=z3i vs k) (by rw[l];exact rel.val k);exact wpAny_getItem_of (V7 ry) dd.mapOf hw (h w' _ (I.tok _) rw')
 ·subst ey;cases (show u=z0b b from ry);obtain⟨z,hd,xs,rel,dd⟩:=V8 I.hok e;obtain⟨w',hw,rw'⟩:=RelO.some_of (v:=v) (o:=(z0I xs k).map (·.2)) (by rw[l];exact rel.val k);obtain⟨p,hp,hp2⟩:=z1T.mp hw;refine z8q (z5f hu) (RT I.hok eb) dd hp ?_;rw[hp2];exact h w' _ (I.tok _) rw'
theorem d_in (hu:A.units+1<z0h) (I:Inv X π σ H s) (g:DGet H a y o) (ry:RelV y u) (h:∀ s',Inv X π σ H s'->Q (.bool o.isSome) s') :
  z02 .(0) A (z0B .In u (.ref a)) Q E s:=by
 rcases g with ⟨kvs,k,e,ey,l⟩ | ⟨kvs,k,b,e,ey,eb,l⟩
 ·subst ey;obtain⟨z,hd,vs,rel,dd⟩:=Nm I.hok e;refine wpAny_in_of (V7 ry) hd dd.mapOf ?_;rw[<-(rel.val k).isSome_eq,<-l];exact h _ (I.tok _)
 ·subst ey;cases (show u=z0b b from ry);obtain⟨z,hd,xs,rel,dd⟩:=V8 I.hok e;refine wpAny_in_heap (z5f hu) (RT I.hok eb) hd dd ?_;have q:=(rel.val k).isSome_eq;rw[z4p] at q;rw[<-q,<-l];exact h _ (I.tok _)
theorem nU (hu:A.units+1<z0h) (I:Inv X π σ H s) (g:DGet H a y o) (ry:RelV y u) (h:∀ s',Inv X π σ H s'->Q (.bool (!o.isSome)) s') :
  z02 .(0) A (z0B .NotIn u (.ref a)) Q E s:=by
 rcases g with ⟨kvs,k,e,ey,l⟩ | ⟨kvs,k,b,e,ey,eb,l⟩
 ·subst ey;obtain⟨z,hd,vs,rel,dd⟩:=Nm I.hok e;refine wpAny_notIn_of (V7 ry) hd dd.mapOf ?_;rw[<-(rel.val k).isSome_eq,<-l];exact h _ (I.tok _)
 ·subst ey;cases (show u=z0b b from ry);obtain⟨z,hd,xs,rel,dd⟩:=V8 I.hok e;refine wpAny_notIn_heap (z5f hu) (RT I.hok eb) hd dd ?_;have q:=(rel.val k).isSome_eq;rw[z4p] at q;rw[<-q,<-l];exact h _ (I.tok _)
theorem Qv {ob:HO}(I:Inv X π σ H s) (mu:Mut (H a)) (hs:z14 a s.heap h') (he:∃ q,h'.get? a=some q) (new:BL X.prog X.w (upd H a ob) h' a ob) :
  Inv X π σ (upd H a ob) { s with heap:=h',toks:=t' }:=
 I.write (x:=a) (e:=a) mu (.inl rfl) (λ b q hb z=>(hs.2 b hb).trans z) he new
theorem eO {kvs:List (Key×V)}{vs:List (Key×z00)}(z:kvs.length<=sizeLine) (hd:(a==z16)=false) (rel:KV kvs vs) (dd:h'.DictOf (Ao P w) a vs) :
  BL P w H' h' a (.dK kvs):=⟨z,hd,vs,rel,dd⟩
theorem bQ {Q:Unit->z03->Prop}(hu:A.units+1<z0h) (I:Inv X π σ H s) (g:DPut H a y v H') (ry:RelV y u) (rv:RelV v r) (h:∀ s',Inv X π σ H' s'->Q () s') :
  z02 .(0) A (setItem (.ref a) u r) Q E s:=by
 rcases g with ⟨kvs,k,e,ey,l,eH⟩ | ⟨kvs,k,b,e,ey,eb,l,eH⟩
 ·subst ey eH;obtain⟨z,hd,vs,rel,dd⟩:=rZ I.hok e;have hz:vs.length<=sizeLine:=by rw[<-rel.length];exact z
  have hl:(putK kvs k v).length<=sizeLine:=by have:=Qa kvs k v;omega
  refine wpAny_setItem_pairs (hsz:=hz) (V7 ry) dd λ h' dd' hs=>h _ ?_;have he:∃ q,h'.get? a=some q:=let ⟨q,_,_,hq,_⟩:=dd';⟨q,hq⟩;exact Qv I (by rw[e];exact z1L) hs he (eO hl hd (rel.put k rv) dd')
 ·subst ey eH;cases (show u=z0b b from ry);obtain⟨z,hd,xs,rel,dd⟩:=xU I.hok e;have hz:xs.length<=sizeLine:=by rw[<-z4_ rel];exact z
  have hl:(putK kvs k v).length<=sizeLine:=by have:=Qa kvs k v;omega
  refine z8r (hsz:=hz) (z5f hu) (RT I.hok eb) dd λ h' dd' hs=>h _ ?_;obtain⟨q,es,ep,hq,h2,h3,h4,_,h5⟩:=dd';refine Qv I (by rw[e];exact z1L) hs ⟨q,hq⟩ ⟨hl,hd,_,(rel.put k eb rv).keeps λ c ys ec=>?_,q,es,ep,hq,h2,h3,h4,h5⟩;rw[Ak (rM ec e (λ z=>nomatch z))];exact ec
end
section
variable {kvs:List (Key×V)}{k:Key}{A:z0a}
theorem xV (I:Inv X π σ H s) (e:Rd H a (.dK kvs)) (h:∀ t s',Inv X π σ H s'->Q (.int kvs.length t) s'):z02 .(0) A (call (.builtin "len") [.ref a]) Q E s:=by
 obtain⟨z,hd,vs,rel,dd⟩:=Nm I.hok e;refine call_len_dict hd dd (by rw[<-rel.length];rw[z1p] at z;omega) ?_;rw[<-rel.length];exact h _ _ (I.tok _)
end
def NoSl (i:Expr):Prop:=∀ ov iv,z4l i false ov iv=operate [ov,iv] (z2w ov iv)
theorem Y5 {A:z0a}{value slice:Expr}{T id:String}(hl:z6y (.type T) "__getitem__"=pure (some (.builtin id))) (hs:NoSl slice)
  (h:z02 (z04 prog w) A (eval value env) (λ o s₁=>z02 (z04 prog w) A (eval slice env) (λ i s₂=>s₂.TypeIs o T/\z02 (z04 prog w) A (z2w o i) Q E s₂) E s₁) E s) :
  z02 (z04 prog w) A (eval (.Subscript value slice pos) env) Q E s:=by
 refine z6z (z1t h (λ o s₁ h₁=>z1t h₁ (λ i s₂ h₂=>?_) λ _ _ x=>x) λ _ _ x=>x);obtain⟨hT,h₂⟩:=h₂;unfold z5e;refine z01 ?_;rw[z8s hT.not_modules];refine z01 (z2q hT hl ?_);have fin:z02 (z04 prog w) A (z4l slice false o i) (λ r s₃=>z02 (z04 prog w) A (letTemporaryGo value o r >>= λ _=>pure r) Q E s₃) E s₂:=by
  rw[hs o i];exact wpAny_operating (z1t h₂ (λ r s₃ h₃=>z01 (z8t (z05 h₃))) λ _ _ x=>x)
 first
  | exact z05 (z01 fin)
  | exact z01 (z05 (z01 fin))
  | exact z01 fin
theorem V9 {o:Option V}(I:Inv X π σ H s) (g:DGet H a y o):s.TypeIs (.ref a) "dict":=by
 rcases g with ⟨kvs,k,e,_,_⟩ | ⟨kvs,k,b,e,_,_,_⟩
 ·obtain⟨_,_,vs,_,dd⟩:=Nm I.hok e;exact dd.typeIs
 ·obtain⟨_,_,xs,_,dd⟩:=V8 I.hok e;exact dd.typeIs
def xW (td ty tv:TE):TS:=λ D σ H=>tv σ H λ v H1=>td σ H1 λ x H2=>ty σ H2 λ y H3=>∃ a H4,x=.ref a/\DPut H3 a y v H4/\D.nx σ H4
section
variable {o i value:Expr}{tpos:Pos}{td ty tv:TE}
theorem Uq (hu:X.A.units+1<z0h) (ho:PE X o td) (hi:PE X i ty) (hv:PE X value tv) (hs:z1o value (some (.Subscript o i pos')) pos.line X.env=pure false) :
  PS X (.Assign [.Subscript o i pos'] value pos) (xW td ty tv):=by
 intro π s σ H D I h;refine z5g (thn (hv π s σ H _ I h) λ r s1 ⟨v,H1,I1,rv,q1⟩=>thn (ho π s1 σ H1 _ I1 q1) λ u s2 ⟨x,H2,I2,rx,q2⟩=>thn (hi π s2 σ H2 _ I2 q2) λ iv s3 ⟨y,H3,I3,ry,a,H4,ex,g,q3⟩=>?_) hs;subst ex;obtain rfl:u=z0b a:=rx;exact bQ hu I3 g ry rv λ s4 I4=>⟨σ,H4,I4,q3⟩
end
theorem V_ (h:Heap) (hb:z16<h.objs.size):BL P w H (h.push { cls:=.type "dict",data:=.dict #[] }) h.objs.size (.dK []):=
 ⟨z18 _,beq_eq_false_iff_ne.mpr (z0n (z0i hb)),[],.nil,Heap.DictOf.new h⟩
theorem eQ (h:Heap) (hb:z16<h.objs.size):BL P w H (h.push { cls:=.type "dict",data:=.dict #[] }) h.objs.size (.dT []):=
 ⟨z18 _,beq_eq_false_iff_ne.mpr (z0n (z0i hb)),[],.nil,_,#[],0,z0l _ rfl,⟨rfl,rfl,rfl⟩,rfl,rfl,List.nodup_nil⟩
def uq:TE:=λ _ H Q=>∀ p,H p=none->Q (.ref p) (upd H p (.dK []))
def ur:TE:=λ _ H Q=>∀ p,H p=none->Q (.ref p) (upd H p (.dT []))
section
theorem eU:PE X (.Dict [] [] pos) uq:=λ π s σ H Q I h=>
 z6F ⟨.ref s.heap.objs.size,_,I.laid (a:=s.heap.objs.size) (o:=.dK []) (t':=s.toks) (λ _ _ q=>z0d _ q) (z07 _) (V_ s.heap I.big),rfl,h _ (I.hok.fresh (z07 _))⟩
theorem eX:PE X (.Dict [] [] pos) ur:=λ π s σ H Q I h=>
 z6F ⟨.ref s.heap.objs.size,_,I.laid (a:=s.heap.objs.size) (o:=.dT []) (t':=s.toks) (λ _ _ q=>z0d _ q) (z07 _) (eQ s.heap I.big),rfl,h _ (I.hok.fresh (z07 _))⟩
end
section
variable {d:V}{r:z00}{o:Option V}{A:z0a}
end
section
variable {o f:Expr}{cpos:Pos}{td ty tx:TE}
end
section
variable {kvs:List (Key×V)}{A:z0a}
theorem eY (I:Inv X π σ H s) (e:Rd H a (.dK kvs)) (h:∀ p s',H p=none->Inv X π σ (upd H p (.dK kvs)) s'->Q (.ref p) s'):z02 .(0) A (call (.type "dict") [.ref a]) Q E s:=by
 obtain⟨z,hd,vs,rel,dd⟩:=Nm I.hok e;refine kt_call_dict hd dd (by rw[<-rel.length];exact z) λ h' dd' hs=>?_;refine h _ _ (I.hok.fresh (z07 _)) (I.laid (a:=s.heap.objs.size) (o:=.dK kvs) (t':=s.toks) (λ b q hq=>?_) (z07 _) (eO z (beq_eq_false_iff_ne.mpr (z0n (z0i I.big))) rel dd'));exact (hs.2 b (z0i (z0f hq))).trans (z0d _ hq)
end
section
variable {A:z0a}
end
end L2
namespace Att
open PySem PySem.W PySem.Calls PyProof.Rows
theorem Qn {P:Params}:∀ (ns:List Int) (vs:List z00),WellAll P h vs (ns.map z3P)->z3e vs ns:=by
 intro ns
 induction ns with
 | nil=>
  intro vs w;rw[z12] at w;cases w;exact .nil
 | cons n ns ih=>
  intro vs w;rw[z0c] at w;cases w with
  | cons a b=>
   cases a;exact .cons _ _ (ih _ b)
theorem bR {l:OpenLaw}(hn:l.most=some n) {P:Params}{h:Heap}{args:List WData}{vals:List z00}
  (hpre:l.row.toRowW.claim.pre args=true) (hwl:WellAll P h vals args) :
  ∃ a vs ns,vals=[z0b a]/\args=[WData.list (ns.map z3P)]/\h.get? a=some { cls:=.type "list",data:=.seq vs.toArray }/\z3e vs ns/\ns.length<=n:=by
 have hsh:WShape.hasAll [] args [.list .int]=true:=(pre_splitW hpre).1;have hc:l.pre.holds [] { args:=args }=true:=(pre_splitW hpre).2;obtain⟨d,r,rfl,h1,h2⟩:=hasAllW_cons hsh;obtain rfl:=hasAllW_nil h2;obtain⟨xs,rfl,h3⟩:=hasW_list h1;obtain⟨ns,rfl⟩:=items_int h3;have hlen:ns.length<=n:=by
  unfold OpenLaw.pre at hc;have h4:(WTm.not (.lt (.lit .(1)) (.len (.arg 0)))).holds [] { args:=[.list (ns.map .int)] }=true:=by
   have h4:=(holds_andW hc).1;rw[hn] at h4;exact h4
  have h5:=condW_of h4 (w_not (w_lt w_lit (w_len_list (w_arg rfl))));rw[z06] at h5;refine Nat.le_of_not_lt λ q=>?_;have q':(n:Int)<((ns.length:Nat):Int):=by omega
  first
   | (rw[decide_eq_true q'] at h5;exact absurd h5 (by decide))
   | (simp at h5;omega)
 cases hwl with
 | cons w1 w2=>
  cases w2;cases w1 with
  | list ho hall=>exact⟨_,_,ns,rfl,rfl,ho,Qn ns _ hall,hlen⟩
theorem bT (l:OpenLaw) (args:List WData):l.row.toRowW.claim.post args (.bool true) args=true:=
 postW_of (r:=l.row.toRowW) (X:=(true==true))
  (show z8u [] (.bool true) .bool=true by first | rfl | decide | simp[z8u,WShape.arms,WShape.armsAll])
  (show (WTm.eq .res (.lit (.bool true))).value [] { args:=args,res:=some (.bool true),after:=args }=some (.bool (true==true)) from w_eq_bool (w_res rfl) w_lit) rfl
section
variable {A:z0a}{K:Frag}
end
end Att
namespace L2
open PySem PySem.Spec PyProof.Rows
theorem Tr:∀ {vs:List z00}{ns:List Int},z3e vs ns->Vals (ns.map V.int) vs
 | _,_,.nil=>.nil
 | _,_,.cons n t h=>.cons ⟨t,rfl⟩ (Tr h)
def Only (H:Hp):Prop:=∀ b,H b=none∨∃ o xs,H b=some (.frz o (.lst xs))
theorem eZ {K:z08}{mb:Str->Option z00}{k:Nat}{fa:Addr}{sp:Sp}{s₁:z03}(KX:K.In s₁.heap) (hns:s₁.heap.Ns z0T mg) (hb:s₁.heap.Ns z62 mb) (hbb:∀ x:Str,x≠"__name__"->mb x=z0x x) (hlim:s₁.heap.NoLimit) (hg:s₁.gens=#[])
    (ha:s₁.heap.get? a=some { cls:=.type "list",data:=.seq vs.toArray }) (hi:z3e vs ns) (hl:ns.length<=sizeLine) (hr:Room k z3j)
    (F:∀ base:Heap,K.In base->base.Ns z0T mg->FnOk P w K mg base CX k fa fd [x] sp) (hbind:∀ (s:z03) (u:z00),z4f s fd ⟨[u],[]⟩ [(x,u)])
    (hsp:∀ H:Hp,Only H->SqL K H a (ns.map V.int)->sp [.ref a] H (λ v _=>v=.bl true) λ _ _ _=>False)
    (hCX:∀ H e s',CX [] H s₁ (λ _ _ _=>False) e s'->False) :
    z11 (z04 P w) z3j (.call (.ref fa) ⟨[.ref a],[]⟩) (λ r s'=>r=.ok (.ret (.bool true))/\OldK s₁.heap s'.heap/\s'.os=s₁.os/\z2i s'.gens) s₁:=by
  have rv:=Tr hi;have lenV:=hi.length;have core:∀ H:Hp,Only H->SqL K H a (ns.map V.int)->HOk P w H s₁.heap->(∀ b,H b≠none->b=a)->(H a≠none->K.lookup a=none) ->
      z11 (z04 P w) z3j (.call (.ref fa) ⟨[.ref a],[]⟩) (λ r s'=>r=.ok (.ret (.bool true))/\OldK s₁.heap s'.heap/\s'.os=s₁.os/\z2i s'.gens) s₁:=by
    intro H hO hS hok hA hK;have base_of:∀ {b:Addr}{o:Obj},s₁.heap.get? b=some o->H b=none->(hidT s₁.heap H).get? b=some o:=λ e n=>dF e n;have noA:∀ {b:Addr}{o:Obj}{es:Array z2z}{ep:Nat},s₁.heap.get? b=some o->o.data=.dict es ep->H b=none:=λ {b o es ep} e d=>by
      cases q:H b with
      | none=>rfl
      | some u=>
        have e':b=a:=hA b (by rw[q];simp);subst e';rw[ha] at e;cases e;have d':Data.seq vs.toArray _=Data.dict es ep:=d;cases d'
    have nsK:∀ {b:Addr}{m:Str->Option z00},s₁.heap.Ns b m->(hidT s₁.heap H).Ns b m:=λ {b m} ⟨o,es,ep,e,d,r⟩=>⟨o,es,ep,base_of e (noA e d),d,r⟩;have hKb:K.In (hidT s₁.heap H):=λ b o e=>base_of (KX b o e) (by
      cases q:H b with
      | none=>rfl
      | some u=>
        have e':b=a:=hA b (by rw[q];simp);subst e';rw[hK (by rw[q];simp)] at e;cases e)
    have hM:Mod K mg (hidT s₁.heap H):=⟨hKb,nsK hns,⟨mb,nsK hb,hbb⟩,let ⟨mc,h1,h2⟩:=hlim;⟨mc,nsK h1,h2⟩⟩;have e0:Env0 P w K mg (hidT s₁.heap H) z3j [] s₁ H:=⟨rfl,hM,λ b o e=>my e,z6f (bC _ _),trivial,λ b hb=>absurd (show b∈([]:List Addr) from hb) (by simp),hok,.of_eq hg⟩;refine z2J ((F _ hKb (nsK hns)).run z3j [] s₁ H ⟨[.ref a],[]⟩ [.ref a] [.ref a] _ _ hr e0 (hbind s₁ (.ref a)) (.cons rfl .nil) (hsp H hO hS)) λ r s' h=>?_;cases r with
    | error e=>exact (hCX H e s' h).elim
    | ok fl=>
      cases fl with
      | next=>exact z1n h
      | brk=>exact z1n h
      | cont=>exact z1n h
      | ret u=>
        obtain⟨v,H',os,bare,un,hok',r',q⟩:=h;have q':v=.bl true:=q;subst q';obtain rfl:u=z38 true:=r';refine⟨rfl,OldK.of_keep λ b o e=>?_,os,bare⟩;cases q:H b with
        | none=>exact un.keep b o e q (by intro z;exact absurd (show b∈([]:List Addr) from z) (by simp)) (by simp)
        | some u=>
          rcases hO b with z | ⟨ob,xs,z⟩
          · rw[q] at z;cases z
          · have z2:=un.frzs b ob _ z
            obtain⟨e1,_⟩:=hok b _ z;obtain⟨e2,_⟩:=hok' b _ z2;rw[e] at e1;cases e1;exact e2
  cases hk:K.lookup a with
  | some o=>
    have e:=KX a o hk;rw[ha] at e;cases e;refine core (λ _=>none) (λ _=>.inl rfl) (.inr ⟨_,vs.toArray,_,hk,rfl,rfl,rfl,by rw[z0r,lenV];exact hl,by simpa using rv⟩) (λ b u z=>by have z':(none:Option HO)=some u:=z;cases z') (λ b z=>absurd rfl z) λ z=>absurd rfl z
  | none=>
    refine core (λ b=>if b=a then some (.frz { cls:=.type "list",data:=.seq vs.toArray } (.lst (ns.map V.int))) else none) (λ b=>?_) (.inl (.inr ⟨{ cls:=.type "list",data:=.seq vs.toArray },if_pos rfl⟩)) (λ b u z=>?_) (λ b z=>?_) λ _=>hk
    · by_cases hb:b=a
      · exact .inr ⟨_,_,if_pos hb⟩
      · exact .inl (if_neg hb)
    · by_cases hb:b=a
      · have z':=(if_pos hb).symm.trans z
        cases z';subst hb;exact⟨ha,by rw[z06];exact hl,vs,_,rv,ha⟩
      · have z':=(if_neg hb).symm.trans z
        cases z'
    · by_cases hb:b=a
      · exact hb
      · exact absurd (if_neg hb) z
abbrev KOf {K:z08}{h:Heap}(_:K.In h):z08:=K
def inClass (s:Stmt) (j:Nat):Stmt:=match s with
 | .ClassDef _ _ _ body _ _ _ _ _ _ _=>body.getD j (.Pass ⟨0,0,0,0⟩)
 | _=>.Pass ⟨0,0,0,0⟩
def Ec (s:Stmt):Arguments:=match s with
 | .FunctionDef _ a _ _ _ _ _ _ _ _=>a
 | _=>{ posonlyargs:=[],args:=[],vararg:=none,kwonlyargs:=[],kw_defaults:=[],kwarg:=none,defaults:=[] }
def Bw (s:Stmt):List Stmt:=match s with
 | .FunctionDef _ _ b _ _ _ _ _ _ _=>b
 | _=>[]
def Ab (s:Stmt):z25:=match s with
 | .FunctionDef _ _ _ _ _ _ sc _ _ _=>sc
 | _=>{ kind:=.function,names:=[],isGenerator:=false,isCoroutine:=false }
abbrev CX0:CXT:=λ _ _ _ _ _ _=>False
abbrev E0:XK:=λ _ _ _=>False
theorem WD:Mv CX0 X E0:=λ _ _ _ _ _ _ _ h=>h.elim
structure Fun (K:z08) (x qual:Str) (st:Stmt) (f:Addr) (fd:z2k):Prop where
 ex:∃ (oc:z00) (od:Option Addr) (kV doc pm:z00) (an:Option Addr) (cdv ct:z00) (osl:Array (Option z00)),
  fd=z1y x qual (Ec st) (Bw st) (Ab st) .none kV doc pm an cdv ct/\K.lookup f=some ⟨oc,od,.func fd,osl⟩/\z2N K cdv qual=true
 kp:z1K K (.ref f)=true
section
variable {K:z08}{base:Heap}
theorem Fun.ok {f:Addr}{k:Nat}{sp:Sp}(F:Fun K x qual st f fd) (S:FnScope N ps (Ab st)) (len:∀ vs H Q E,sp vs H Q E->vs.length=ps.length)
  (hbody:∀ (cdv:z00) (A:z0a) (outer:List Env) (s:z03) (H:Hp) (vs:List V) (Q:VK) (E:XK),Room k (A.deeper (z1D qual (Ab st) s.heap.objs.size f cdv))->sp vs H Q E ->
   ∃ t,PSs (cxOf CX0 P w K mg base N qual (Ab st) f cdv A outer s H E).nox (Bw st) t/\t { nx:=λ _ H'=>Q .non H',rt:=Q } (start N vs) H):FnOk P w K mg base CX0 (k+1) f fd ps sp:=by
 obtain⟨oc,od,kV,doc,pm,an,cdv,ct,osl,rfl,lk,hcd⟩:=F.ex;refine rW lk hcd S len λ A outer s H vs Q E hr hsp=>?_;obtain⟨t,h,q⟩:=hbody cdv A outer s H vs Q E hr hsp;exact⟨t,h.nox,q⟩
theorem Fun.binds {f:Addr}(F:Fun K x qual st f fd)
  (h:∀ (kV doc pm:z00) (an:Option Addr) (cdv ct:z00) (us:List z00),us.length=ps.length->z4g (z1y x qual (Ec st) (Bw st) (Ab st) .none kV doc pm an cdv ct) ⟨us,[]⟩=pure (ps.zip us)):Binds K fd ps []:=by
 obtain⟨oc,od,kV,doc,pm,an,cdv,ct,osl,rfl,lk,hcd⟩:=F.ex;exact .all (h kV doc pm an cdv ct)
theorem RV {f:Addr}{kV:z00}(l:K.lookup f=some ⟨oc,od,.func (z1y x qual (Ec st) (Bw st) (Ab st) .none kV doc pm an cdv ct),osl⟩)
  (c:z2N K cdv qual=true) (k:z1K K (.ref f)=true):Fun K x qual st f (z1y x qual (Ec st) (Bw st) (Ab st) .none kV doc pm an cdv ct):=⟨⟨oc,od,kV,doc,pm,an,cdv,ct,osl,rfl,l,c⟩,k⟩
end
theorem Hg {A:z0a}{k:Nat}(hr:Room k A):A.units+1<z0h:=z3k (Nat.add_le_add_left (by decide:1<=64) _) hr.units
section
theorem pv (i:Nat) {x:Str}{pos:Pos}(hN:X.N[i]?=some x:=by rfl) (hv:Vis X.env.scope x:=by first | exact z0K rfl | exact z0v (z0K rfl) | exact z0v (z0v rfl)) (hd:.(3)=false:=by decide)
  (hcd:.(27)=false:=by decide):PE X (.Name x pos) (tVar i):=Xc hN hv hd hcd
end
theorem iteF {A B:Prop}(h:B):if false=true then A else B:=by
 rw[if_neg z0D];exact h
theorem iteT {A B:Prop}(h:A):if true=true then A else B:=by
 rw[if_pos rfl];exact h
def Same (H H':Hp):Prop:=∀ b o,H b=some o->H' b=some o
theorem Same.refl (H:Hp):Same H H:=λ _ _ h=>h
theorem Same.trans {H2:Hp}(a:Same H H1) (b:Same H1 H2):Same H H2:=λ c o h=>b c o (a c o h)
theorem Same.free (e:Same H H') {l:Addr}(h:H' l=z8v):H l=z8v:=by
 cases q:H l with
 | none=>rfl
 | some o=>
  rw[e l o q] at h;cases h
theorem Same.seq {K:z08}(e:Same H H') (h:SqL K H a xs):SqL K H' a xs:=by
 rcases h with (h | ⟨o,h⟩) | h
 ·exact .inl (.inl (e _ _ h))
 ·exact .inl (.inr ⟨o,e _ _ h⟩)
 ·exact .inr h
section
variable {κ:Type} [DecidableEq κ]
end
def clOf (cells:List (Str×Addr)):List (Str×z2a)->List (Str×Addr)->List (Str×Addr)
 | [],cs=>cs
 | y::r,cs=>if y.2==.free then clOf cells r ((y.1,(cells.lookup y.1).getD 0)::cs) else clOf cells r cs
theorem RW {cells:List (Str×Addr)}{x:Str}{c:Addr}:∀ {names:List (Str×z2a)}{cs:List (Str×Addr)},(∀ y∈names,y.2=.free ->∃ c,cells.lookup y.1=some c) ->
  (clOf cells names cs).lookup x=some c->cs.lookup x=some c∨cells.lookup x=some c
 | [],_,_,h=>.inl h
 | y::r,cs,hf,h=>by
  unfold clOf at h;split at h
  ·rename_i hk;have hk':y.2=.free :=by simpa using hk
   obtain⟨c',hc⟩:=hf y z0L hk'
   rcases RW (λ z hz=>hf z (z0y _ hz)) h with q | q
   ·rw[z0q] at q;split at q
    ·rename_i e;have e':x=y.1:=by simpa using e
     rw[hc] at q;subst e';right;rw[hc];simpa using q
    ·exact .inl q
   ·exact .inr q
  ·exact RW (λ z hz=>hf z (z0y _ hz)) h
theorem PP {cells:List (Str×Addr)}{x:Str}:∀ {names:List (Str×z2a)}{cs:List (Str×Addr)},(∃ c,cs.lookup x=some c)->∃ c,(clOf cells names cs).lookup x=some c
 | [],_,h=>h
 | y::r,cs,h=>by
  unfold clOf;split
  ·apply PP;rw[z0q];split
   ·exact⟨_,rfl⟩
   ·exact h
  ·exact PP h
theorem Kp {cells:List (Str×Addr)}{x:Str}:∀ {names:List (Str×z2a)}{cs:List (Str×Addr)},(x,z3Q)∈names->∃ c,(clOf cells names cs).lookup x=some c
 | [],_,h=>by cases h
 | y::r,cs,h=>by
  unfold clOf
  rcases z0j.mp h with e | h
  ·subst e;rw[if_pos (by rfl)];apply PP;rw[z0q];simp
  ·split
   ·exact Kp h
   ·exact Kp h
theorem Y6 {env:Env}:∀ (names:List (Str×z2a)) (cs:List (Str×Addr)),(∀ y∈names,y.2=.free ->∃ c,env.cells.lookup y.1=some c) ->
  (forIn names cs (λ x r=>match x with
   | (name,kind)=>if (kind==z3Q)=true then do let a <-cellOf env name;pure (z3R ((name,a)::r)) else pure (z3R r)):Sem (List (Str×Addr)))=pure (clOf env.cells names cs)
 | [],_,_=>rfl
 | (n,k)::r,cs,hf=>by
  have ih:=λ cs=>Y6 r cs (λ z hz=>hf z (z0y _ hz));rw[List.forIn_cons]
  by_cases hk:(k==z3Q)=true
  ·obtain⟨c,hc⟩:=hf (n,k) z0L (by simpa using hk);have hc':env.cells.lookup n=some c:=hc;have e:cellOf env n=pure c:=by unfold cellOf;rw[hc']
   simp only[hk,if_true,e];show (forIn r ((n,c)::cs) _:Sem _)=_;rw[ih]
   conv=>rhs;unfold clOf
   simp only[hk,if_true,hc',Option.getD_some]
  ·simp only[hk,if_false];show (forIn r cs _:Sem _)=_;rw[ih]
   conv=>rhs;unfold clOf
   simp only[hk,if_false];rfl
theorem TQ (hf:∀ y∈scope.names,y.2=.free ->∃ c,env.cells.lookup y.1=some c):closureFor scope env=pure (clOf env.cells scope.names []):=by
 have h:=Y6 (env:=env) scope.names [] hf;unfold closureFor;show ((forIn scope.names [] _:Sem _) >>= λ r=>pure r)=_;exact (congrArg (λ m=>m >>= λ r=>pure r) h)
theorem Fq {env:Env}{x:Str}{k:z2a}:∀ {names:List (Str×z2a)},(names.map λ (n,k)=>if (k==z3Q&&env.scope.kind==.function&&env.kindOf n==some .cell) then (n,NameKind.cell) else (n,k)).lookup x=some k ->
  ∃ k',(x,k')∈names/\(k'=k∨(k'=.free /\k=.cell))
 | [],h=>by simp at h
 | (n,k0)::r,h=>by
  rw[z0c] at h;have ih:=@Fq env x k r
  by_cases hc:(k0==z3Q&&env.scope.kind==.function&&env.kindOf n==some .cell)=true
  ·simp only[hc,if_true] at h;rw[z0q] at h;split at h
   ·rename_i e;have e':x=n:=by simpa using e
    subst e';have hk0:k0=.free :=by
     rw[z0U,z0U] at hc;simpa using hc.1.1
    cases h;exact⟨k0,z0L,.inr ⟨hk0,rfl⟩⟩
   ·obtain⟨k',h1,h2⟩:=ih h;exact⟨k',z0y _ h1,h2⟩
  ·simp only[hc,if_false] at h;rw[z0q] at h;split at h
   ·rename_i e;have e':x=n:=by simpa using e
    subst e';cases h;exact⟨k0,z0L,.inl rfl⟩
   ·obtain⟨k',h1,h2⟩:=ih h;exact⟨k',z0y _ h1,h2⟩
def Cy (ts N:List Str):List Str:=N.map λ y=>if y∈ts then z3M else y
abbrev Ep (t:Str) (N:List Str):List Str:=Cy [t] N
abbrev CW (X:Cx) (scope:z25) (N2:List Str) (s2:z03) (H2:Hp) (fp:List Addr):Cx:=
 { X with N:=N2,s₀:=s2,H₀:=H2,env:=compEnvC scope (clOf X.env.cells scope.names []) (s2.heap.objs.size+1) X.env,outer:=X.stack,ex:=fp,fn:=λ _=>false,pn:=[],xe:=λ _ _=>False }
structure CompOkL (X:Cx) (scope:z25) (ts:List Str):Prop where
 nocell:∀ y∈scope.names,y.2≠.cell
 kind:scope.kind=.function
 names:∀ y∈scope.names,y.2=.local ->scope.names.lookup y.1=some .local
 tl:∀ t∈ts,scope.names.lookup t=some .local
 loc:∀ y∈scope.names,y.2=.local ->y.1∈ts∨y.1∉X.N
 fre:∀ y∈scope.names,y.2=.free ->X.env.kindOf y.1=some .cell ∨X.env.kindOf y.1=some .free
 emp:∀ y∈scope.names,y.1≠z3M
 nd:(Cy ts X.N++ts).Nodup
section
variable {t:Str}{ts:List Str}
theorem CompOkL.cells (c:CompOkL X scope ts) (ok:X.Ok):∀ y∈scope.names,y.2=.free ->∃ c,X.env.cells.lookup y.1=some c:=λ y hy hf=>ok.has y.1 (c.fre y hy hf)
theorem CompOkL.sub (c:CompOkL X scope ts) (ok:X.Ok) {x:Str}{a:Addr}(h:(clOf X.env.cells scope.names []).lookup x=some a):X.env.cells.lookup x=some a:=by
 rcases RW (c.cells ok) h with q | q
 ·simp at q
 ·exact q
theorem CompOkL.inv {h1:Heap}{tk:Nat}(c:CompOkL X scope ts) (I:Inv X π σ H s) (hf:∀ b∈fp,FpOk X π H b) (ho:∀ b∈fp,∃ o,s.heap.get? b=some o)
  (hns:h1.Ns .(6) (λ _=>none)) (kp:∀ b o,s.heap.get? b=some o->h1.get? b=some o) (hacc:h1.get? s.heap.objs.size=some { cls:=.type "list",data:=.seq #[] }) :
  Inv (CW X scope (Cy ts X.N++ts) s H fp) [] (σ++z4h ts.length none) (upd H s.heap.objs.size (.lst [])) { s with heap:=h1,toks:=tk }:=by
 have lt_of:∀ b o,s.heap.get? b=some o->b<s.heap.objs.size:=λ b o e=>z0f e;have ok':(CW X scope (Cy ts X.N++ts) s H fp).Ok:=by
  refine⟨I.ok.mod,c.kind,I.ok.glob,I.ok.blt,z1N _,λ x y a h1 h2=>I.ok.inj x y a (c.sub I.ok h1) (c.sub I.ok h2),λ x hx=>?_,λ x a h _=>absurd (show false=true from h) z0D,I.ok.hd,I.ok.frames,.inl rfl,λ b hb=>⟨?_,λ x a h=>?_⟩,I.bs,z0E I.ok.bsz I.sz,λ b o e hb=>?_,λ b hb hs=>?_,I.stack,I.stkFree⟩
  ·have hx':(z2A scope X.env).names.lookup x=some .cell ∨(z2A scope X.env).names.lookup x=some .free :=hx;have go:∀ k,(z2A scope X.env).names.lookup x=some k->(k=.cell ∨k=.free)->(x,z3Q)∈scope.names:=λ k hk hkk=>by
    obtain⟨k',m,e⟩:=Fq hk
    rcases e with e | ⟨e,_⟩
    ·subst e
     rcases hkk with z | z
     ·exact absurd z (c.nocell _ m)
     ·rw[<-z];exact m
    ·rw[<-e];exact m
   rcases hx' with h | h
   ·exact Kp (go _ h (.inl rfl))
   ·exact Kp (go _ h (.inr rfl))
  ·obtain⟨o,e⟩:=ho b hb;exact z0i (z2n (lt_of b o e))
  ·exact (hf b hb).2.2.2.2.1 x a (c.sub I.ok h)
  ·rcases (hf b hb).2.2.2.1 with z | z
   ·exact I.ok.noex b o e z
   ·exact absurd (z0X (z0f e) (z0E I.ok.bsz z)) (z1l _)
  ·rcases z0j.mp (I.stkSub b hs) with z | z
   ·exact (hf b hb).2.1 z
   ·exact (hf b hb).2.2.1 z
 have fr:H s.heap.objs.size=none:=I.hok.fresh (z07 _);have new:BL X.prog X.w (upd H s.heap.objs.size (.lst [])) h1 s.heap.objs.size (.lst []):=⟨z18 _,[],0,.nil,hacc⟩;refine⟨ok',rfl,I.bare,Un.laid kp (z07 _) fr,⟨_,hns,λ i x v e1 e2 e3=>?_⟩,λ x a h=>?_,?_,λ x a h=>?_,λ p hp=>absurd (show p∈([]:zP) from hp) (by simp),I.hok.laid kp (z07 _) new,?_⟩
 ·have e1':(Cy ts X.N++ts)[i]?=some x:=e1;have hil:i<σ.length:=by
   by_cases z:i<σ.length
   ·exact z
   ·rw[z1X (by omega),z6n] at e2;split at e2<;>cases e2
  have e2':σ[i]?=some (some v):=by rw[z2b hil] at e2;exact e2
  have hN:i<X.N.length:=by rw[<-I.len];exact hil
  have e1'':(Cy ts X.N)[i]?=some x:=by rw[z2b (by unfold Cy;rw[z06];exact hN)] at e1';exact e1'
  unfold Cy at e1'';rw[z0o] at e1'';have e3':(z2A scope X.env).names.lookup x=some .local ∨(z2A scope X.env).names.lookup x=some .cell ∨(z2A scope X.env).names.lookup x=some .free :=e3;have hin:∃ k',(x,k')∈scope.names/\(k'=.local ∨k'=.free)/\(k'=.free ->(z2A scope X.env).names.lookup x=some .cell ∨(z2A scope X.env).names.lookup x=some .free):=by
   rcases e3' with z | z | z
   ·obtain⟨k',m,e⟩:=Fq z
    rcases e with e | ⟨_,e⟩
    ·exact⟨k',m,.inl e,λ q=>by rw[q] at e;cases e⟩
    ·cases e
   ·obtain⟨k',m,e⟩:=Fq z
    rcases e with e | ⟨e,_⟩
    ·exact absurd e (c.nocell _ m)
    ·exact⟨k',m,.inr e,λ _=>.inl z⟩
   ·obtain⟨k',m,e⟩:=Fq z
    rcases e with e | ⟨e,q⟩
    ·exact⟨k',m,.inr e,λ _=>.inr z⟩
    ·cases q
  cases ey:X.N[i]? with
  | none=>rw[ey] at e1'';cases e1''
  | some y=>
   rw[ey] at e1'';have e1z:(if y∈ts then z3M else y)=x:=z0t e1'';obtain⟨k',m,hk',hfr⟩:=hin
   by_cases hyt:y∈ts
   ·rw[if_pos hyt] at e1z;exact absurd e1z.symm (c.emp _ m)
   ·rw[if_neg hyt] at e1z;subst e1z
    rcases hk' with hk' | hk'
    ·rcases c.loc _ m hk' with z | z
     ·exact absurd z hyt
     ·exact absurd (z3c ey) z
    ·have hkk:=c.fre _ m hk';have hkk':X.env.kindOf y=some .cell ∨X.env.kindOf y=some .free :=hkk;obtain⟨mm,hn,hl⟩:=I.loc;have hv:Vis X.env.scope y:=by
      rcases hkk' with z | z
      ·exact .inr (.inl z)
      ·exact .inr (.inr z)
     obtain⟨u,r,l⟩:=hl i y v ey e2' hv;refine⟨u,r,.inr ⟨hfr hk',?_⟩⟩
     rcases l with ⟨kl,_⟩ | ⟨_,a,ea,hc⟩
     ·rcases hkk' with z | z
      ·rw[kl] at z;cases z
      ·rw[kl] at z;cases z
     ·rw[hk'] at m;obtain⟨a',ha'⟩:=Kp (cells:=X.env.cells) (cs:=[]) m;refine⟨a',ha',?_⟩;have:=c.sub I.ok ha';rw[ea] at this;cases this;obtain⟨o,e,d⟩:=hc;exact⟨o,kp _ _ e,d⟩
 ·obtain⟨v,o,e,d⟩:=I.cell x a (c.sub I.ok h);exact⟨v,o,kp _ _ e,d⟩
 ·show upd H s.heap.objs.size (.lst []) .(6)=none;rw[Ak (z6G _)];exact I.hok.fresh (z1N _)
 ·have ha:=c.sub I.ok h;obtain⟨v,o,e,d⟩:=I.cell x a ha;rw[Ak (z0i (lt_of _ _ e))];exact I.freeC x a ha
 ·show (σ++z4h ts.length none).length=(Cy ts X.N++ts).length;unfold Cy;rw[z0N,z0N,z06,I.len,z4j]
def e_ (n:Nat) (wi:TI) (g:TG) (tc:TT) (te:TE):TE:=λ σ H Q=>wi σ H λ J H1=>∀ p,H1 p=none->∃ W:Nat->Nat->List V->Hp->Prop,(∃ m,W 0 m [] (upd H1 p (.lst []))) ∧
 ∀ i m ys H,W i m ys H->(J.stop i H/\Q (.ref p) H)∨(J.go i H/\∀ x H',J.yld i H x H'->∀ os:List (Option V),os.length=n->g x (σ++os) H' λ σ2 H1=>(∃ o2,σ2=σ++o2/\o2.length=n)/\tc σ2 H1 λ b H2=>
  if b=true then te σ2 H2 λ y H3=>H3 p=some (.lst ys)/\ys.length<sizeLine/\∃ m',m'<m/\W (i+1) m' (ys++[y]) (upd H3 p (.lst (ys++[y]))) else ∃ m',m'<m/\W (i+1) m' ys H2)
def PTs (X:Cx) (ifs:List Expr) (tc:TT):Prop:=
 ∀ (π:zP) (s:z03) (σ:St) (H:Hp) (Q:Bool->Hp->Prop),Inv X π σ H s->tc σ H Q ->
  z02 .(0) X.A (forIn ifs true λ c r=>if r=true then do let ok <-z2G c X.env (eval c X.env);pure (z3R ok) else pure (z3R r)) (TP X π σ Q) X.xe s
theorem nY:PTs X [] (λ _ H Q=>Q true H):=λ _ _ _ H _ I h=>wpAny_tests_nil ⟨H,I,h⟩
theorem nZ (h:PT X e tc):PTs X [e] tc:=λ π s σ H Q I q=>wpAny_tests_one (h π s σ H Q I q)
variable {elt iter:Expr}{ifs:List Expr}{px:Pos}{wi:TI}{g:TG}
theorem Xr {A:z0a}{R:z2u->z03->Prop}{itv acc:z00}(J:Nat->z03->Prop) (E:z00->z03->Prop) (hE:E=notedBy (z04 prog w) A env λ e s'=>R (.error e) s')
    (go:∀ n s,J n s->z02 (z04 prog w) A (z0M itv) (λ r s1=>match r with
      | none=>R (.ok .next) s1
      | some v=>z02 (z04 prog w) A (z51 tg itv v) (λ _ s2=>z02 (z04 prog w) A (z3J tg env v) (λ _ s3=>
          z02 (z04 prog w) A (forIn ifs true λ c r=>if r=true then do let ok <-z2G c env (eval c env);pure (z3R ok) else pure (z3R r)) (λ ok s4=>
            if ok=true then z02 (z04 prog w) A (eval elt env) (λ x s5=>z02 (z04 prog w) A (call (.builtin "list.append") [acc,x]) (λ _ s6=>∃ m,m<n/\J m s6) E s5) E s4 else ∃ m,m<n/\J m s4) E s3) E s2) E s1) E s)
    (n:Nat) (j0:J n s):z11 (z04 prog w) A (.compLoop .(41) 0 itv acc env) R s:=by
  subst hE;refine codeAny_loop rfl J (λ n s jn=>?_) n j0;show z02 _ A (Sem.onRaise (compTurn .(41) 0 itv acc env) (λ x=>do noteFrame x env;theTreesLotGoes x)) _ _ s;refine wpAny_noted ?_;rw[compTurn_list];refine z01 (z6k (z01 (thn (go n s jn) λ r s1 q1=>?_)));cases r with
  | none=>exact z05 q1
  | some v=>
    refine z01 (thn q1 λ _ s2 q2=>z01 (thn q2 λ _ s3 q3=>z01 (thn q3 λ ok s4 q4=>?_)));cases ok with
    | false=>exact z05 ⟨rfl,q4⟩
    | true=>exact z01 (z01 (thn q4 λ x s5 q5=>z01 (thn q5 λ _ s6 q6=>z05 (z05 ⟨rfl,q6⟩))))
theorem Xu {Q:VK}{tn:Nat->Heap->Prop}{J:It}{RR:z00->Addr->z2u->z03->Prop}(c:CompOkL X scope ts) (hc:X.calm=true)
    (I:Inv X π σ H s) (T:Turn X.prog X.w X.K tg J fp it tn) (st0:tn 0 s.heap) (hf:∀ b∈fp,FpOk X π H b)
    (hG:∀ s2 H2 fp,PG (CW X scope (Cy ts X.N++ts) s2 H2 fp) tg g) (hI:∀ s2 H2 fp,PTs (CW X scope (Cy ts X.N++ts) s2 H2 fp) ifs tc) (hE:∀ s2 H2 fp,PE (CW X scope (Cy ts X.N++ts) s2 H2 fp) elt te)
    (h:∀ p,H p=none->∃ W:Nat->Nat->List V->Hp->Prop,(∃ m,W 0 m [] (upd H p (.lst []))) ∧
      ∀ i m ys H,W i m ys H->(J.stop i H/\Q (.ref p) H)∨(J.go i H/\∀ x H',J.yld i H x H'->∀ os:List (Option V),os.length=ts.length->g x (σ++os) H' λ σ2 H1=>(∃ o2,σ2=σ++o2/\o2.length=ts.length)/\tc σ2 H1 λ b H2=>
        if b=true then te σ2 H2 λ y H3=>H3 p=some (.lst ys)/\ys.length<sizeLine/\∃ m',m'<m/\W (i+1) m' (ys++[y]) (upd H3 p (.lst (ys++[y]))) else ∃ m',m'<m/\W (i+1) m' ys H2))
    (hRR:∀ p C s' H' m,Inv X π σ H' s'->H' C=none->C≠X.env.locals->X.s₀.heap.objs.size<=C->(∀ x a,X.env.cells.lookup x=some a->a≠C)->(∀ q∈X.pn++π,q.1≠C)->s'.heap.Ns C m->Q (.ref p) H'->RR (.ref p) C (.ok .next) s') :
    z02 .(0) X.A (newList []) (λ acc s₃=>z02 .(0) X.A (newFunctionEnv scope X.env.globals (clOf X.env.cells scope.names []) [] X.env.qual none .none (some X.env)) (λ cenv s₄=>
      z11 .(0) X.A (.compStart .(41) 0 (.ref it) acc { cenv with scope:=z2A scope X.env }) (RR acc cenv.locals) s₄) E s₃) E s:=by
  refine z1P (wpAny_newFunctionEnv c.nocell (by intro y hy;simp at hy) (λ h₁ hns₁ hsb₁=>?_) c.kind);dsimp only at hns₁ hsb₁ ⊢;generalize hH2:s.heap.push { cls:=.type "list",dict:=none,data:=.seq ([]:List z00).toArray }=G2 at hns₁ hsb₁ ⊢;have hC:G2.objs.size=s.heap.objs.size+1:=by rw[<-hH2,z1w]
  rw[hC] at hns₁ hsb₁ ⊢;have kp:∀ b o,s.heap.get? b=some o->h₁.get? b=some o:=λ b o e=>hsb₁.extBut b o (z0i (z2n (z0f e))) (z0d _ (hH2▸z0d _ e));have hacc:h₁.get? s.heap.objs.size=some { cls:=.type "list",data:=.seq #[] }:=hsb₁.extBut _ _ (z0i (z4e _)) (z0d _ (hH2▸z0l _ rfl));have hob:∀ b∈fp,∃ o,s.heap.get? b=some o:=λ b hb=>let ⟨o,e,_⟩:=T.obj 0 _ st0 b hb;⟨o,e⟩;have I0:=c.inv (fp:=fp) (h1:=h₁) (tk:=s.toks+([]:List (Str×z00)).length) I hf hob (by simpa using hns₁) kp hacc;have fr:H s.heap.objs.size=none:=I.hok.fresh (z07 _);obtain⟨W,⟨m0,w0⟩,turn⟩:=h _ fr;have st1:tn 0 h₁:=T.keep 0 _ _ st0 λ b _ o e=>kp b o e;generalize hX:CW X scope (Cy ts X.N++ts) s H fp=Y at I0;have hcY:Y.calm=true:=by rw[<-hX];exact hc
  have stat:∀ {H':Hp},(∀ b∈fp,H' b=none)->∀ b∈fp,FpOk Y [] H' b:=λ {H'} hn b hb=>by
    obtain⟨o,e⟩:=hob b hb;refine⟨hn b hb,?_,?_,.inl ?_,λ x a e'=>?_,λ p hp=>?_⟩
    · rw[<-hX];exact z0i (z2n (z0f e))
    · intro z
      exact I0.ok.exfs b (by rw[<-hX];exact hb) z
    · rw[<-hX];exact hb
    · exact (I0.ok.exf b (by rw[<-hX];exact hb)).2 x a e'
    · rw[<-hX] at hp
      exact absurd (show p∈([]:zP) from hp) (by simp)
  have fp0:∀ b∈fp,upd H s.heap.objs.size (.lst []) b=none:=λ b hb=>by
    obtain⟨o,e⟩:=hob b hb;rw[Ak (z0i (z0f e))];exact (hf b hb).1
  have envY:Y.env=compEnvC scope (clOf X.env.cells scope.names []) .(6) X.env:=by rw[<-hX]
  have pY:Y.prog=X.prog:=by rw[<-hX]
  have wY:Y.w=X.w:=by rw[<-hX]
  have aY:Y.A=X.A:=by rw[<-hX]
  have kY:Y.K=X.K:=by rw[<-hX]
  have xY:Y.xe=λ _ _=>False:=by rw[<-hX]
  have hIY:PTs Y ifs tc:=by rw[<-hX];exact hI s H fp
  have hEY:PE Y elt te:=by rw[<-hX];exact hE s H fp
  have hGY:PG Y tg g:=by rw[<-hX];exact hG s H fp
  have loop:∀ s₃:z03,s₃={ s with heap:=h₁,toks:=s.toks+([]:List (Str×z00)).length } ->
      z11 .(0) X.A (.compLoop .(41) 0 (.ref it) .(5) (compEnvC scope (clOf X.env.cells scope.names []) .(6) X.env)) (RR .(5) .(6)) s₃:=by
    rintro s₃ rfl;rw[<-envY];refine Xr (λ n s'=>∃ i ys os H',os.length=ts.length/\Inv Y [] (σ++os) H' s'/\tn i s'.heap/\(∀ b∈fp,H' b=none)/\W i n ys H') _ rfl ?_ m0 ⟨0,[],_,_,z4j,I0,st1,fp0,w0⟩;rintro n s3 ⟨i,ys,os,H3,hos,I3,st3,fr3,w3⟩
    rcases turn i n ys H3 w3 with ⟨stop,qn⟩ | ⟨go,step⟩
    · have d:=T.done Y pY wY kY hcY i [] s3 _ H3 (λ _ _=>False) I3 (stat fr3) st3 stop
      rw[aY] at d;refine z1t d (λ r s4 ⟨hr,I4⟩=>?_) λ _ _ z=>z.elim;subst hr;have cN:=I4.free;have cN':H3 .(6)=none:=by rw[envY] at cN;exact cN
      have un:=I4.base;obtain⟨m,hm,_⟩:=I4.loc;have hm':s4.heap.Ns .(6) m:=by rw[envY] at hm;exact hm
      have un':Un (frs X.stack) fp H H3 s.heap s4.heap:=by rw[<-hX] at un;exact un
      have os':s4.os=s.os:=by have:=I4.os;rw[<-hX] at this;exact this
      have hok':HOk X.prog X.w H3 s4.heap:=by have:=I4.hok;rw[<-hX] at this;exact this
      have bare':=I4.bare;have IX:Inv X π σ H3 s4:=I.call' os' un' hok' bare' λ b hb=>⟨(hf b hb).2.2.2.1,(hf b hb).2.1,(hf b hb).2.2.2.2.1,(hf b hb).2.2.2.2.2⟩;refine hRR _ _ _ _ m IX cN' (z2H (z2n I.lt)) (z0E I.sz (z1N _)) (λ x a e z=>?_) (λ q hq z=>?_) hm' qn
      · obtain⟨v,oc,e',_⟩:=I.cell x a e
        have q2:a<s.heap.objs.size:=z0f e';have z':a=s.heap.objs.size+1:=z;exact absurd (z'▸q2) (z1Z.mpr (z1N _))
      · have q2:q.1<s.heap.objs.size:=z0f (I.pin q hq).1
        have z':q.1=s.heap.objs.size+1:=z;exact absurd (z'▸q2) (z1Z.mpr (z1N _))
    · have d:=T.item Y pY wY kY hcY i [] s3 _ H3 (λ _ _=>False) I3 (stat fr3) st3 go
      rw[aY] at d;refine z1t d (λ r s4 ⟨u,hr,h4⟩=>?_) λ _ _ z=>z.elim;subst hr;refine z1t h4 (λ _ s4 ⟨x,H5,I5,r5,y5,st5,fr5⟩=>?_) λ _ _ z=>z.elim;have I5':=I5.pinned (stat fr5) (T.obj _ _ st5);have asg:=hGY _ s4 _ H5 x u _ I5' r5 (step x H5 y5 os hos);rw[aY,pY,wY,xY] at asg;refine z1t asg (λ _ s6 ⟨σ6,H6,I6,⟨o2,e6,l6⟩,q⟩=>?_) λ _ _ z=>z.elim;subst e6;have tst:=hIY _ s6 _ H6 _ I6 q;rw[aY,pY,wY,xY] at tst;refine z1t tst (λ b s7 ⟨H7,I7,q7⟩=>?_) λ _ _ z=>z.elim;have back:∀ {H8:Hp}{s8:z03},Inv Y ([]++RL fp s4.heap) (σ++o2) H8 s8->tn (i+1) s8.heap/\∀ b∈fp,H8 b=none:=λ {H8 s8} I8=>by
        refine⟨T.keep _ _ _ st5 λ b hb ob e=>(I8.pin (b,ob) (z27 _ (z27 _ (Js hb e)))).1,λ b hb=>?_⟩;obtain⟨ob,e,d⟩:=T.obj _ _ st5 b hb;exact (I8.pin (b,ob) (z27 _ (z27 _ (Js hb e)))).2.1
      cases b with
      | false=>
        rw[if_neg z0D] at q7 ⊢;obtain⟨m',hm,w7⟩:=q7;obtain⟨t7,f7⟩:=back I7;exact⟨m',hm,i+1,ys,o2,H7,l6,I7.unpinned,t7,f7,w7⟩
      | true=>
        rw[if_pos rfl] at q7 ⊢;have ev:=hEY _ s7 _ H7 _ I7 q7;rw[aY,pY,wY,xY] at ev;refine z1t ev (λ y s8 ⟨yv,H8,I8,r8,hp8,hz8,m',hm,w8⟩=>?_) λ _ _ z=>z.elim;have ap:=Tq (X:=Y) _ s8 _ H8 .(5) [yv] .(5) [y] (λ _ H9=>H9=upd H8 s.heap.objs.size (.lst (ys++[yv]))) I8 rfl (.cons r8 .nil) ⟨_,ys,yv,rfl,rfl,hp8,hz8,rfl⟩;rw[aY,pY,wY,xY] at ap;refine z1t ap (λ _ s9 ⟨_,H9,I9,_,e9⟩=>?_) λ _ _ z=>z.elim;subst e9;obtain⟨t9,f9⟩:=back I9;exact⟨m',hm,i+1,_,o2,_,l6,I9.unpinned,t9,f9,w8⟩
  exact codeAny_compStart_list (loop _ rfl) (T.self X.A 0 _ _ _ st1 (loop _ rfl))
theorem fB (c:CompOkL X scope ts) (hc:X.calm=true) (hi:PI X tg iter wi) (hG:∀ s2 H2 fp,PG (CW X scope (Cy ts X.N++ts) s2 H2 fp) tg g) (hI:∀ s2 H2 fp,PTs (CW X scope (Cy ts X.N++ts) s2 H2 fp) ifs tc) (hE:∀ s2 H2 fp,PE (CW X scope (Cy ts X.N++ts) s2 H2 fp) elt te)
  (hs:∀ x,z3b iter X.env x=pure x:=by intro _;rfl):PE X .(41) (e_ ts.length wi g tc te):=by
 intro π s σ H Q I h;rw[eval_ListComp];refine wpAny_comprehension_free (use:=none) rfl hs (TQ (c.cells I.ok)) c.kind c.names (thn (hi π s σ H _ I h) λ v s1 h1=>thn h1 λ itv s2 h2=>?_);obtain⟨it,fp,tn,J,H2,e,I2,T,st2,f2,q⟩:=h2;subst e;refine Xu (Q:=Q) c hc I2 T st2 f2 hG hI hE q λ p C s' H' m I' n1 n2 n3 n4 n5 hm q'=>?_;exact⟨m,hm,λ h' sb=>⟨.ref p,H',I'.turned (t':=s'.toks) (λ b o hb e=>(sb.2 b hb).trans e) n1 (z0n (z0n n2)) (.inr n3) n4 n5,rfl,q'⟩⟩
abbrev RX (X:Cx) (scope:z25) (t:Str):Prop:=CompOkL X scope [t]
abbrev Xv (X:Cx) (scope:z25) (t:Str) (s2:z03) (H2:Hp) (fp:List Addr):Cx:=CW X scope (Ep t X.N++[t]) s2 H2 fp
theorem gOne (c:RX X scope t) (s2:z03) (H2:Hp) (fp:List Addr):PG (Xv X scope t s2 H2 fp) (.Name t px) (Hd X.N.length):=
 Qu c.nd (by show (Ep t X.N++[t])[X.N.length]?=some t;unfold Ep Cy;rw[z1X (by rw[z06];exact z07 _),z06,z3l];rfl) (.inl (z5h (c.tl t (z2c.mpr rfl)))) (.inr (z5h (c.tl t (z2c.mpr rfl))))
def sE (X:Cx) (wi:TI):TI:=λ σ H R=>∃ R0,wi σ H R0/\∀ J H1,σ.length=X.N.length->R0 J H1->R J H1
theorem ni (hi:PI X tg iter wi):PI X tg iter (sE X wi):=λ π s σ H R I ⟨R0,h0,hm⟩=>
 thn (hi π s σ H R0 I h0) λ v s1 h1=>thn h1 λ itv s2 ⟨it,fp,tn,J,H',e,I',T,st,f,r⟩=>⟨it,fp,tn,J,H',e,I',T,st,f,hm J H' I.len r⟩
end
end L2
namespace PV
open PySem L2
inductive D where
 | non | bl (b:Bool) | int (i:Int) | str (x:Str) | tup (ds:List D) | lst (ds:List D)
 | dk (kvs:List (Key×D)) | dt (kvs:List (List Key×D)) | ob (c:Str) (fs:List (Str×D)) | adr (a:Addr) | exc (c:Str) (fs:List (Str×D)) | err (c:Str) (fs:List (Str×D)) | mem (F:List (List Key)->Int)
inductive Slot where
 | un | fz (d:D) | ow (d:D)
abbrev Rho:=List Slot
abbrev FE:=Rho->Option D
abbrev FA:=Rho->Option (List D)
abbrev FT:=Rho->Option Bool
abbrev FO:=Rho->Option (Option Int)
abbrev FI:=Rho->Option (List D)
def vF (i:Nat):FE:=λ ρ=>match ρ[i]? with | some (.fz d)=>some d | _=>none
def vU (i:Nat):FE:=λ ρ=>match ρ[i]? with | some (.fz d)=>some d | some (.ow d)=>some d | _=>none
def kF (d:D):FE:=λ _=>some d
def bF (g:D->D->Option D) (fa fb:FE):FE:=λ ρ=>(fa ρ).bind λ x=>(fb ρ).bind λ y=>g x y
def uF (g:D->Option D) (fa:FE):FE:=λ ρ=>(fa ρ).bind g
def blF (f:FE):FT:=λ ρ=>match f ρ with | some (.bl b)=>some b | _=>none
def iiD (g:Int->Int->Option D):D->D->Option D:=λ x y=>match x,y with | .int i,.int j=>g i j | _,_=>none
instance (i j:Int):Decidable (CMul i j):=by unfold CMul;infer_instance
instance (i j:Int):Decidable (CDiv i j):=by unfold CDiv;infer_instance
instance (i j:Int):Decidable (CPow i j):=by unfold CPow;infer_instance
def subD:=iiD λ i j=>some (.int (i-j))
def Mf (i j:Int):Prop:=CMul i j∨(z1r i<=4194304/\z1r j<=4194304)
instance (i j:Int):Decidable (Mf i j):=by unfold Mf;infer_instance
def CShl (i j:Int):Prop:=0<=j/\j<=1000000/\z1r i<=4194304
instance (i j:Int):Decidable (CShl i j):=by unfold CShl;infer_instance
def mulD:=iiD λ i j=>if Mf i j then some (.int (i*j)) else none
def Hv:=iiD λ i j=>if CDiv i j then some (.int (i/j)) else none
def modD:=iiD λ i j=>if 0<j then some (.int (i%j)) else none
def shlD:=iiD λ i j=>if CShl i j then some (.int (i*2^j.toNat)) else none
def shrD:=iiD λ i j=>if 0<=j then some (.int (i/2^j.toNat)) else none
def Y7:=iiD λ i j=>some (.int (z3K i j))
def ltD:=iiD λ i j=>some (.bl (decide (i<j)))
def leD:=iiD λ i j=>some (.bl (decide (i<=j)))
def gtD:=iiD λ i j=>some (.bl (decide (j<i)))
def geD:=iiD λ i j=>some (.bl (decide (j<=i)))
def addD:D->D->Option D:=λ x y=>match x,y with
 | .int i,.int j=>some (.int (i+j))
 | .str i,.str j=>if i.length+j.length<=sizeLine then some (.str (i++j)) else none
 | .lst i,.lst j=>if i.length+j.length<=sizeLine then some (.lst (i++j)) else none
 | _,_=>none
def andF (fa fb:FE):FE:=λ ρ=>match fa ρ with | some (.bl true)=>fb ρ | some (.bl false)=>some (.bl false) | _=>none
def notF (fa:FE):FE:=λ ρ=>match fa ρ with | some (.bl b)=>some (.bl (!b)) | _=>none
def andT (fa fb:FT):FT:=λ ρ=>match fa ρ with | some true=>fb ρ | some false=>some false | none=>none
def orT (fa fb:FT):FT:=λ ρ=>match fa ρ with | some true=>some true | some false=>fb ρ | none=>none
def notT (fa:FT):FT:=λ ρ=>(fa ρ).map (!·)
def truD:D->Option Bool
 | .non=>some false
 | .bl b=>some b
 | .int i=>some (i != 0)
 | .str y=>if y.length<=sizeLine then some ((y.length:Int) != 0) else none
 | .lst ds=>some (!ds.isEmpty)
 | .tup ds=>some (!ds.isEmpty)
 | _=>none
def trF (f:FE):FT:=λ ρ=>(f ρ).bind truD
def ifF (t:FT) (fa fb:FE):FE:=λ ρ=>match t ρ with | some true=>fa ρ | some false=>fb ρ | none=>none
def nilA:FA:=λ _=>some []
def Aa (fa:FE) (fs:FA):FA:=λ ρ=>(fa ρ).bind λ d=>(fs ρ).map (d::·)
def tupF (fs:FA):FE:=λ ρ=>(fs ρ).bind λ ds=>if ds.length<=sizeLine then some (.tup ds) else none
def lstF (fs:FA):FE:=λ ρ=>(fs ρ).bind λ ds=>if ds.length<=sizeLine then some (.lst ds) else none
def ixD:D->D->Option D:=λ x y=>match x,y with
 | .lst ds,.int i=>atI ds i
 | .tup ds,.int i=>atI ds i
 | .str z,.int i=>if z.length<=sizeLine then (atI z.cps.toList i).map λ c=>.str ⟨#[c]⟩ else none
 | _,_=>none
def noO:FO:=λ _=>some none
def someO (f:FE):FO:=λ ρ=>match f ρ with | some (.int i)=>some (some i) | _=>none
def cutD {α:Type}(ds:List α) (lo hi:Option Int):List α:=(ds.drop (HT.sIx ds.length 0 lo)).take (HT.sIx ds.length ds.length hi-HT.sIx ds.length 0 lo)
def cutS (z:Str) (lo hi:Option Int):Str:=⟨(cutD z.cps.toList lo hi).toArray⟩
def slD (x:D) (lo hi:Option Int):Option D:=match x with
 | .lst ds=>some (.lst (cutD ds lo hi))
 | .tup ds=>if HT.sIx ds.length 0 lo=0/\HT.sIx ds.length ds.length hi=ds.length then none else some (.tup (cutD ds lo hi))
 | .str z=>if z.length<=sizeLine then some (.str (cutS z lo hi)) else none
 | _=>none
def slF (f:FE) (l h:FO):FE:=λ ρ=>(f ρ).bind λ x=>(l ρ).bind λ lo=>(h ρ).bind λ hi=>slD x lo hi
def flV:D->Option V
 | .non=>some .non
 | .bl b=>some (.bl b)
 | .int i=>some (.int i)
 | .str x=>some (.str x)
 | _=>none
def flVs:List D->Option (List V)
 | []=>some []
 | d::r=>(flV d).bind λ v=>(flVs r).map (v::·)
def inD (neg:Bool):D->D->Option D:=λ x y=>match x,y with
 | .str i,.str j=>some (.bl (if neg then !(!(z2I j i 0 j.length 1).isEmpty) else !(z2I j i 0 j.length 1).isEmpty))
 | x,.lst ds=>(flV x).bind λ v=>(flVs ds).map λ vs=>.bl (if neg then !inV v vs else inV v vs)
 | x,.tup ds=>(flV x).bind λ v=>(flVs ds).map λ vs=>.bl (if neg then !inV v vs else inV v vs)
 | _,_=>none
def allO (f:D->D->Option Bool):List D->List D->Option Bool
 | [],[]=>some true
 | x::xs,y::ys=>match f x y,allO f xs ys with | some a,some b=>some (a&&b) | _,_=>none
 | _,_=>none
def flD (x y:D):Option Bool:=(flV x).bind λ u=>(flV y).map λ v=>eqV u v
def eqS (f:D->D->Option Bool):D->D->Option Bool
 | .lst xs,.lst ys=>if xs.length=ys.length then allO f xs ys else some false
 | .tup xs,.tup ys=>if xs.length=ys.length then allO f xs ys else none
 | x,y=>flD x y
def eqK:Nat->D->D->Option Bool
 | 0=>flD
 | n+1=>eqS (eqK n)
def eqvD (x y:D):Option Bool:=match x,y with
 | .int i,.int j=>some (decide (i=j))
 | .str i,.str j=>some (decide (i=j))
 | .bl i,.bl j=>some (decide (i=j))
 | .lst xs,.lst ys=>if xs.length=ys.length then allO (eqK 180) xs ys else some false
 | .tup xs,.tup ys=>if xs.length=ys.length then allO (eqK 180) xs ys else none
 | _,_=>none
def eqD (neg:Bool) (x y:D):Option D:=(eqvD x y).map λ b=>.bl (if neg then !b else b)
def lenD:D->Option D
 | .str y=>if y.length<=sizeLine then some (.int y.length) else none
 | .lst ds=>some (.int ds.length)
 | .tup ds=>some (.int ds.length)
 | _=>none
def maxD:=iiD λ i j=>some (.int (if j > i then j else i))
def minD:=iiD λ i j=>some (.int (if j<i then j else i))
def fC:D->Option D
 | .lst ds=>some (.lst ds)
 | .tup ds=>some (.lst ds)
 | _=>none
def seqI (f:FE):FI:=λ ρ=>match f ρ with | some (.lst ds)=>some ds | some (.tup ds)=>some ds | _=>none
def rngD (n:Nat):List D:=(z0e n).map λ (i:Nat)=>.int i
def rngI (f:FE):FI:=λ ρ=>match f ρ with | some (.int j)=>if -(2^62)<=j/\j<2^62 then some (rngD j.toNat) else none | _=>none
inductive Out where
 | nx (ρ:Rho) | rt (d:D) (ρ:Rho) | bk (ρ:Rho) | ct (ρ:Rho)
abbrev FS:=Rho->Option Out
def nxF:FS:=λ ρ=>some (.nx ρ)
def seqF (g gs:FS):FS:=λ ρ=>match g ρ with | some (.nx ρ')=>gs ρ' | o=>o
def ifS (t:FT) (g gs:FS):FS:=λ ρ=>match t ρ with | some true=>g ρ | some false=>gs ρ | none=>none
def setF (i:Nat) (f:FE):FS:=λ ρ=>(f ρ).map λ d=>.nx (ρ.set i (.fz d))
def retF (f:FE):FS:=λ ρ=>(f ρ).map λ d=>.rt d ρ
def Er (f:FE):FS:=λ ρ=>(f ρ).map λ _=>.nx ρ
def badF:FS:=λ _=>none
def forF (b:D->FS):List D->FS
 | [],ρ=>some (.nx ρ)
 | d::r,ρ=>match b d ρ with
  | some (.nx ρ')=>forF b r ρ'
  | some (.ct ρ')=>forF b r ρ'
  | some (.bk ρ')=>some (.nx ρ')
  | some (.rt e ρ')=>some (.rt e ρ')
  | none=>none
abbrev FG:=D->Rho->Option Rho
def Cr (i:Nat):FG:=λ d ρ=>some (ρ.set i (.fz d))
def tgB (tg:FG) (b:FS):D->FS:=λ d ρ=>(tg d ρ).bind b
def forS (src:FI) (tg:FG) (b:FS):FS:=λ ρ=>(src ρ).bind λ ds=>forF (tgB tg b) ds ρ
def Gn (c:FT) (b:FS):Nat->FS
 | 0,_=>none
 | n+1,ρ=>match c ρ with
  | some false=>some (.nx ρ)
  | some true=>(match b ρ with
   | some (.nx ρ')=>Gn c b n ρ'
   | some (.ct ρ')=>Gn c b n ρ'
   | some (.bk ρ')=>some (.nx ρ')
   | some (.rt e ρ')=>some (.rt e ρ')
   | none=>none)
  | none=>none
def Am (g:List D->Option D) (fs:FA):FE:=λ ρ=>(fs ρ).bind g
def Em (n:Nat) (ds:List D):Rho:=ds.map .fz++z4h (n-ds.length) .un
def runF (n np:Nat) (b:FS) (ds:List D):Option D:=if ds.length=np then (match b (Em n ds) with | some (.rt d _)=>some d | some (.nx _)=>some .non | _=>none) else none
def Jb (ρ:Rho) (ga:FT) (fe:FE):List D->Option (List D)
 | []=>some []
 | d::r=>match ga (ρ++[.fz d]) with
  | some true=>(fe (ρ++[.fz d])).bind λ y=>(Jb ρ ga fe r).map (y::·)
  | some false=>Jb ρ ga fe r
  | none=>none
def BW (src:FI) (ga:FT) (fe:FE):FE:=λ ρ=>(src ρ).bind λ ds=>if ds.length<=sizeLine then (Jb ρ ga fe ds).map .lst else none
def allT:FT:=λ _=>some true
def mxN (val:Nat->Int):Nat->Int
 | 0=>val 0
 | k+1=>if val (k+1) > mxN val k then val (k+1) else mxN val k
def Fl:List D->Option (List Int)
 | []=>some []
 | .int i::r=>(Fl r).map (i::·)
 | _::_=>none
def WF (x y:D):Option D:=match x with
 | .lst ds=>(Fl ds).map λ ns=>if ns=[] then y else .int (mxN (λ i=>ns.getD i 0) (ns.length-1))
 | _=>none
def Mg:List D->Option (List Str)
 | []=>some []
 | .str i::r=>(Mg r).map (i::·)
 | _::_=>none
def tyD:D->Option String
 | .non=>some "NoneType"
 | .bl _=>some "bool"
 | .int _=>some "int"
 | .str _=>some "str"
 | .lst _=>some "list"
 | .tup _=>some "tuple"
 | _=>none
def isiD (T:String) (x:D):Option D:=(tyD x).map λ n=>.bl (n==T||(n=="bool"&&T=="int"))
def ltS (a b:Str):Bool:=decide (a.cps.toList<b.cps.toList)
def insS (x:Str):List Str->List Str
 | []=>[x]
 | y::r=>if ltS x y then x::y::r else if x=y then y::r else y::insS x r
def Ft (xs:List Str):List Str:=xs.foldr insS []
def setW (i:Nat) (f:FE):FS:=λ ρ=>(f ρ).map λ d=>.nx (ρ.set i (.ow d))
def ownO (ρ:Rho) (i:Nat):Option D:=match ρ[i]? with | some (.ow d)=>some d | _=>none
def appL (x v:D):Option D:=match x with | .lst ds=>if ds.length<sizeLine then some (.lst (ds++[v])) else none | _=>none
def mutF (g:D->D->Option D) (i:Nat) (f:FE):FS:=λ ρ=>(f ρ).bind λ v=>(ownO ρ i).bind λ x=>(g x v).map λ y=>.nx (ρ.set i (.ow y))
def frz1 (ρ:Rho) (i:Nat):Rho:=match ρ[i]? with | some (.ow d)=>ρ.set i (.fz d) | _=>ρ
def fzS (is:List Nat) (g:FS):FS:=λ ρ=>g (is.foldl frz1 ρ)
end PV
namespace EX
open PySem PySem.Spec L2
open PyProof.Rows hiding St
def tbV:Option Addr->z00
 | none=>.none
 | some T=>.ref T
def ExcP (a C:Addr) (od tb:Option Addr):Heap->Prop:=λ h=>∃ o vs,h.get? a=some o/\o.cls=.ref C/\o.dict=od/\o.data=.fields vs/\vs.size=6/\vs[1]?=some (tbV tb)
def TbP (T:Addr) (v:z00):Heap->Prop:=λ h=>∃ o ts,h.get? T=some o/\o.data=.fields ts/\ts[3]?=some v/\o.cls=.type "traceback"
abbrev excO (a C:Addr) (od tb:Option Addr):HO:=.ext (ExcP a C od tb)
abbrev tbO (T:Addr) (v:z00):HO:=.ext (TbP T v)
section
variable {e:Addr}{tb:Option Addr}
end
end EX
namespace PV
open PySem PySem.Spec L2
open PyProof.Rows hiding St
structure Gx where
 K:z08
 cl:Str->Option Addr
 xcl:Str->Option Addr:=λ _=>none
 lent:Option Addr:=none
theorem Dj {K:z08}(e:Same H H') (h:SqT K H a xs):SqT K H' a xs:=by
 rcases h with (h | ⟨o,h⟩) | h
 ·exact .inl (.inl (e _ _ h))
 ·exact .inl (.inr ⟨o,e _ _ h⟩)
 ·exact .inr h
theorem Al (h:H p=none) (o:HO):Same H (upd H p o):=λ b u q=>by rw[Ak (De q h)];exact q
def FsV (fs:List (Str×V)) (gs:List (Str×D)):Prop:=fs.map (λ p=>(p.1,some p.2))=gs.map λ p=>(p.1,flV p.2)
def XdA (H:Hp) (od:Option Addr) (fs:List (Str×V)):Prop:=match od with | some dx=>H dx=some (.xd fs) | none=>fs=[]
theorem XdA.mono {fs:List (Str×V)}(h:XdA H od fs) (s:Same H H'):XdA H' od fs:=by
 cases od with
 | none=>exact h
 | some dx=>exact s _ _ h
inductive Rep (G:Gx) (H:Hp):V->D->Prop
 | non:Rep G H .non .non
 | bl (b:Bool):Rep G H (.bl b) (.bl b)
 | int (i:Int):Rep G H (.int i) (.int i)
 | str (x:Str):Rep G H (.str x) (.str x)
 | tup {a:Addr}{xs:List V}{ds:List D}:SqT G.K H a xs->xs.length=ds.length->(∀ (i:Nat) x d,xs[i]?=some x->ds[i]?=some d->Rep G H x d)->Rep G H (.ref a) (.tup ds)
 | lst {a:Addr}{xs:List V}{ds:List D}:SqL G.K H a xs->xs.length=ds.length->(∀ (i:Nat) x d,xs[i]?=some x->ds[i]?=some d->Rep G H x d)->Rep G H (.ref a) (.lst ds)
 | dk {a:Addr}{o:Obj}{kvs:List (Key×V)}{kds:List (Key×D)}:H a=some (.frz o (.dK kvs))->kvs.map (·.1)=kds.map (·.1)->(∀ (i:Nat) x d,(kvs.map (·.2))[i]?=some x->(kds.map (·.2))[i]?=some d->Rep G H x d)->Rep G H (.ref a) (.dk kds)
 | dt {a:Addr}{o:Obj}{kvs:List (List Key×V)}{kds:List (List Key×D)}:H a=some (.frz o (.dT kvs))->kvs.map (·.1)=kds.map (·.1)->(∀ (i:Nat) x d,(kvs.map (·.2))[i]?=some x->(kds.map (·.2))[i]?=some d->Rep G H x d)->Rep G H (.ref a) (.dt kds)
 | adr (a:Addr):Rep G H (.ref a) (.adr a)
 | ob {a C dx:Addr}{c:Str}{fs:List (Str×V)}{gs:List (Str×D)}:G.cl c=some C->H a=some (.ins C dx fs)->fs.map (·.1)=gs.map (·.1)->(∀ (i:Nat) x d,(fs.map (·.2))[i]?=some x->(gs.map (·.2))[i]?=some d->Rep G H x d)->Rep G H (.ref a) (.ob c gs)
 | err {a C:Addr}{od tb:Option Addr}{c:Str}{fs:List (Str×V)}{gs:List (Str×D)}:G.xcl c=some C->H a=some (EX.excO a C od tb)->XdA H od fs->FsV fs gs->Rep G H (.ref a) (.err c gs)
 | mem {a:Addr}{F:List (List Key)->Int}:H a=some (.mem F G.K)->Rep G H (.ref a) (.mem F)
def RepL (G:Gx) (H:Hp) (xs:List V) (ds:List D):Prop:=xs.length=ds.length/\∀ (i:Nat) x d,xs[i]?=some x->ds[i]?=some d->Rep G H x d
theorem Rep.mono {G:Gx}{H H':Hp}{v:V}{d:D}(r:Rep G H v d) (s:Same H H'):Rep G H' v d:=by
 induction r with
 | non=>exact .non
 | bl b=>exact .bl b
 | int i=>exact .int i
 | str x=>exact .str x
 | tup h l _ ih=>exact .tup (Dj s h) l ih
 | lst h l _ ih=>exact .lst (s.seq h) l ih
 | dk h l _ ih=>exact .dk (s _ _ h) l ih
 | dt h l _ ih=>exact .dt (s _ _ h) l ih
 | adr a=>exact .adr a
 | ob c h l _ ih=>exact .ob c (s _ _ h) l ih
 | err c h q f=>exact .err c (s _ _ h) (q.mono s) f
 | mem h=>exact .mem (s _ _ h)
theorem RepL.mono {G:Gx}{H H':Hp}{xs:List V}{ds:List D}(r:RepL G H xs ds) (s:Same H H'):RepL G H' xs ds:=⟨r.1,λ i x d a b=>(r.2 i x d a b).mono s⟩
theorem RepL.nil {G:Gx}:RepL G H [] []:=⟨rfl,λ i x d h=>by simp at h⟩
theorem RepL.cons {G:Gx}{H:Hp}{x:V}{d:D}{xs:List V}{ds:List D}(r:Rep G H x d) (rs:RepL G H xs ds):RepL G H (x::xs) (d::ds):=
 ⟨by simp[rs.1],λ i y e h1 h2=>by
  cases i with
  | zero=>simp at h1 h2;subst h1;subst h2;exact r
  | succ i=>simp at h1 h2;exact rs.2 i y e h1 h2⟩
theorem RepL.uncons {G:Gx}{d:D}{ds:List D}(r:RepL G H xs (d::ds)):∃ x ys,xs=x::ys/\Rep G H x d/\RepL G H ys ds:=by
 obtain⟨l,h⟩:=r;cases xs with
 | nil=>simp at l
 | cons x ys=>exact⟨x,ys,rfl,h 0 x d rfl rfl,by simpa using l,λ i y e h1 h2=>h (i+1) y e (by simpa using h1) (by simpa using h2)⟩
theorem RepL.nil_inv {G:Gx}(r:RepL G H xs []):xs=[]:=by
 have:=r.1;cases xs with
 | nil=>rfl
 | cons x ys=>simp at this
theorem RepL.append {G:Gx}{ds es:List D}(a:RepL G H xs ds) (b:RepL G H ys es):RepL G H (xs++ys) (ds++es):=by
 refine⟨by rw[z0N,z0N,a.1,b.1],λ i x d h1 h2=>?_⟩
 by_cases hi:i<xs.length
 ·rw[z2b hi] at h1;rw[z2b (by rw[<-a.1];exact hi)] at h2;exact a.2 i x d h1 h2
 ·rw[z1X (z1Z.mp hi)] at h1;rw[z1X (by rw[<-a.1];exact z1Z.mp hi),<-a.1] at h2;exact b.2 _ x d h1 h2
theorem RepL.drop {G:Gx}{ds:List D}(a:RepL G H xs ds) (n:Nat):RepL G H (xs.drop n) (ds.drop n):=
 ⟨by rw[z2P,z2P,a.1],λ i x d h1 h2=>by rw[z6H] at h1 h2;exact a.2 _ x d h1 h2⟩
theorem RepL.take {G:Gx}{ds:List D}(a:RepL G H xs ds) (n:Nat):RepL G H (xs.take n) (ds.take n):=
 ⟨by rw[z1g,z1g,a.1],λ i x d h1 h2=>by
  rw[List.getElem?_take] at h1 h2;split at h1
  ·rename_i hlt;rw[if_pos hlt] at h2;exact a.2 _ x d h1 h2
  ·cases h1⟩
theorem RepL.get {G:Gx}{ds:List D}(a:RepL G H xs ds) {i:Nat}{d:D}(h:ds[i]?=some d):∃ x,xs[i]?=some x/\Rep G H x d:=by
 have hi:i<ds.length:=(z1s.mp h).1;have hi':i<xs.length:=by rw[a.1];exact hi
 exact⟨xs[i],by simp[hi'],a.2 i _ d (by simp[hi']) h⟩
theorem RepL.atI {G:Gx}{H:Hp}{xs:List V}{ds:List D}(a:RepL G H xs ds) {i:Int}{d:D}(h:L2.atI ds i=some d):∃ x,L2.atI xs i=some x/\Rep G H x d:=by
 unfold L2.atI at h ⊢;rw[<-a.1] at h;cases e:ixN xs.length i with
 | none=>rw[e] at h;cases h
 | some j=>
  rw[e] at h;obtain⟨x,h1,h2⟩:=a.get (show ds[j]?=some d from h);exact⟨x,h1,h2⟩
def hid (A:List Addr) (H:Hp):Hp:=λ b=>if b∈A then none else H b
theorem Az (s:Same H H'):Same (hid A H) (hid A H'):=λ b o h=>by
 unfold hid at h ⊢;split at h
 ·cases h
 ·rename_i hb;rw[if_neg hb];exact s b o h
theorem Ar:Same (hid A H) H:=λ b o h=>by
 unfold hid at h;split at h
 ·cases h
 ·exact h
theorem Ju (h:∀ a∈A,a∈B):Same (hid B H) (hid A H):=λ b o q=>by
 unfold hid at q ⊢;split at q
 ·cases q
 ·rename_i hb;rw[if_neg (λ z=>hb (h b z))];exact q
theorem CJ (h:p∉A):hid A H p=H p:=by unfold hid;rw[if_neg h]
theorem Fg {o:HO}(h:p∈A):hid A (upd H p o)=hid A H:=by
 funext b;unfold hid
 by_cases hb:b∈A
 ·rw[if_pos hb,if_pos hb]
 ·rw[if_neg hb,if_neg hb,Ak (λ e:b=p=>hb (by rw[e];exact h))]
def Top (G:Gx) (A:List Addr) (H:Hp) (a:Addr):D->Prop
 | .lst ds=>∃ xs,H a=some (.lst xs)/\RepL G (hid A H) xs ds
 | .dk kds=>∃ kvs,H a=some (.dK kvs)/\kvs.map (·.1)=kds.map (·.1)/\RepL G (hid A H) (kvs.map (·.2)) (kds.map (·.2))
 | .dt kds=>∃ kvs,H a=some (.dT kvs)/\kvs.map (·.1)=kds.map (·.1)/\RepL G (hid A H) (kvs.map (·.2)) (kds.map (·.2))
 | .ob c gs=>∃ C dx fs,H a=some (.ins C dx fs)/\(G.cl c=some C/\fs.map (·.1)=gs.map (·.1))/\RepL G (hid A H) (fs.map (·.2)) (gs.map (·.2))
 | _=>False
theorem Top.mono {G:Gx}{A:List Addr}{H H':Hp}{a:Addr}{d:D}(t:Top G A H a d) (s:Same H H'):Top G A H' a d:=by
 cases d with
 | lst ds=>obtain⟨xs,h,r⟩:=t;exact⟨xs,s _ _ h,r.mono (Az s)⟩
 | dk ds=>obtain⟨xs,h,k,r⟩:=t;exact⟨xs,s _ _ h,k,r.mono (Az s)⟩
 | dt ds=>obtain⟨xs,h,k,r⟩:=t;exact⟨xs,s _ _ h,k,r.mono (Az s)⟩
 | ob c gs=>obtain⟨C,dx,xs,h,k,r⟩:=t;exact⟨C,dx,xs,s _ _ h,k,r.mono (Az s)⟩
 | _=>exact t.elim
structure Nt (x:Option HO):Prop where
 ne:x≠none
 tup:∀ xs,x≠some (.tup xs)
theorem Nt.mono {x y:Option HO}(h:Nt x) (k:∀ u,x=some u->y=some u):Nt y:=by
 cases x with
 | none=>exact absurd rfl h.ne
 | some u=>rw[k u rfl];exact h
theorem Nt.lst {xs:List V}:Nt (some (.lst xs)):=⟨λ z=>(nomatch z),λ _ z=>(nomatch z)⟩
theorem Nt.dK {xs:List (Key×V)}:Nt (some (.dK xs)):=⟨λ z=>(nomatch z),λ _ z=>(nomatch z)⟩
theorem Nt.dT {xs:List (List Key×V)}:Nt (some (.dT xs)):=⟨λ z=>(nomatch z),λ _ z=>(nomatch z)⟩
theorem Nt.ins {C dx:Addr}{xs:List (Str×V)}:Nt (some (.ins C dx xs)):=⟨λ z=>(nomatch z),λ _ z=>(nomatch z)⟩
structure Okp (G:Gx) (A:List Addr) (σ:St) (H:Hp) (ρ:Rho):Prop where
 len:σ.length=ρ.length
 live:∀ a∈A,Nt (H a)
 fz:∀ (i:Nat) (d:D),ρ[i]?=some (.fz d)->∃ v,σ[i]?=some (some v)/\Rep G (hid A H) v d
 ow:∀ (i:Nat) (d:D),ρ[i]?=some (.ow d)->∃ a,σ[i]?=some (some (.ref a))/\a∈A/\Top G A H a d
 inj:∀ (i j:Nat) (d e:D) (a:Addr),ρ[i]?=some (.ow d)->ρ[j]?=some (.ow e)->σ[i]?=some (some (.ref a))->σ[j]?=some (some (.ref a))->i=j
theorem Okp.mono {G:Gx}{A:List Addr}{σ:St}{H H':Hp}{ρ:Rho}(o:Okp G A σ H ρ) (s:Same H H'):Okp G A σ H' ρ:=
 ⟨o.len,λ a ha=>(o.live a ha).mono λ u e=>s _ _ e,
  λ i d h=>let ⟨v,h1,h2⟩:=o.fz i d h;⟨v,h1,h2.mono (Az s)⟩,λ i d h=>let ⟨a,h1,h2,h3⟩:=o.ow i d h;⟨a,h1,h2,h3.mono s⟩,o.inj⟩
def RepT (G:Gx) (A:List Addr) (H:Hp) (v:V) (d:D):Prop:=Rep G (hid A H) v d∨∃ a,v=.ref a/\Top G A H a d
theorem RepT.mono {G:Gx}{A:List Addr}{H H':Hp}{v:V}{d:D}(r:RepT G A H v d) (s:Same H H'):RepT G A H' v d:=by
 rcases r with r | ⟨a,e,r⟩
 ·exact .inl (r.mono (Az s))
 ·exact .inr ⟨a,e,r.mono s⟩
theorem RepT.lst {G:Gx}{A:List Addr}{H:Hp}{v:V}{ds:List D}(r:RepT G A H v (.lst ds)):∃ a xs,v=.ref a/\SqL G.K H a xs/\RepL G (hid A H) xs ds:=by
 rcases r with r | ⟨a,e,xs,h,r⟩
 ·cases r with
  | lst h l r=>exact⟨_,_,rfl,Ar.seq h,l,r⟩
 ·exact⟨a,xs,e,.of h,r⟩
theorem RepT.tup {G:Gx}{A:List Addr}{H:Hp}{v:V}{ds:List D}(r:RepT G A H v (.tup ds)):∃ a xs,v=.ref a/\SqT G.K H a xs/\RepL G (hid A H) xs ds:=by
 rcases r with r | ⟨a,e,r⟩
 ·cases r with
  | tup h l r=>exact⟨_,_,rfl,Dj Ar h,l,r⟩
 ·exact r.elim
theorem RepT.int {G:Gx}{i:Int}(r:RepT G A H v (.int i)):v=.int i:=by
 rcases r with r | ⟨a,e,r⟩
 ·cases r;rfl
 ·exact r.elim
theorem RepT.str {G:Gx}{i:Str}(r:RepT G A H v (.str i)):v=.str i:=by
 rcases r with r | ⟨a,e,r⟩
 ·cases r;rfl
 ·exact r.elim
theorem RepT.bl {G:Gx}{i:Bool}(r:RepT G A H v (.bl i)):v=.bl i:=by
 rcases r with r | ⟨a,e,r⟩
 ·cases r;rfl
 ·exact r.elim
theorem RepT.non {G:Gx}(r:RepT G A H v .non):v=.non:=by
 rcases r with r | ⟨a,e,r⟩
 ·cases r;rfl
 ·exact r.elim
theorem RepT.dk {G:Gx}{A:List Addr}{H:Hp}{v:V}{kds:List (Key×D)}(r:RepT G A H v (.dk kds)):∃ a kvs,v=.ref a/\Rd H a (.dK kvs)/\kvs.map (·.1)=kds.map (·.1)/\RepL G (hid A H) (kvs.map (·.2)) (kds.map (·.2)):=by
 rcases r with r | ⟨a,e,kvs,h,k,r⟩
 ·cases r with
  | dk h k r=>
   refine⟨_,_,rfl,.inr ⟨_,Ar _ _ h⟩,k,?_,r⟩;have:=congrArg z0P k;rw[z06,z06] at this ⊢;exact this
 ·exact⟨a,kvs,e,.of h,k,r⟩
theorem Tt (live:∀ a∈A,Nt (H a)) (hp:H p=none) (o:HO):hid A (upd H p o) p=some o:=by
 rw[CJ (λ z=>(live p z).ne hp),Aj]
theorem DY {G:Gx}{ds:List D}(live:∀ a∈A,Nt (H a)) (hp:H p=none) (r:RepL G (hid A H) xs ds):Rep G (hid A (upd H p (.lst xs))) (.ref p) (.lst ds):=
 let q:=r.mono (Az (Al hp (.lst xs)));.lst (.of (Tt live hp _)) q.1 q.2
theorem Ds {G:Gx}{ds:List D}(live:∀ a∈A,Nt (H a)) (hp:H p=none) (r:RepL G (hid A H) xs ds):Rep G (hid A (upd H p (.tup xs))) (.ref p) (.tup ds):=
 let q:=r.mono (Az (Al hp (.tup xs)));.tup (.of (Tt live hp _)) q.1 q.2
def tF (G:Gx) (A:List Addr) (f:FE):TE:=λ σ H Q=>∃ ρ d,Okp G A σ H ρ/\f ρ=some d/\∀ v H',Same H H'->Rep G (hid A H') v d->Q v H'
def tT (G:Gx) (A:List Addr) (f:FE):TE:=λ σ H Q=>∃ ρ d,Okp G A σ H ρ/\f ρ=some d/\∀ v H',Same H H'->RepT G A H' v d->Q v H'
def PF (X:Cx) (G:Gx) (e:Expr) (f:FE):Prop:=∀ ⦃A⦄,PE X e (tF G A f)
def PU (X:Cx) (G:Gx) (e:Expr) (f:FE):Prop:=∀ ⦃A⦄,PE X e (tT G A f)
theorem Bu {t t':TE}(h:PE X e t) (w:∀ σ H Q,t' σ H Q->t σ H Q):PE X e t':=λ π s σ H Q I q=>h π s σ H Q I (w σ H Q q)
theorem PF.pu {G:Gx}{f:FE}(h:PF X G e f):PU X G e f:=λ A=>Bu (@h A) λ σ H Q ⟨ρ,d,o,e,k⟩=>⟨ρ,d,o,e,λ v H' s r=>k v H' s (.inl r)⟩
def tFA (G:Gx) (A:List Addr) (f:FA):TA:=λ σ H Q=>∃ ρ ds,Okp G A σ H ρ/\f ρ=some ds/\∀ vs H',Same H H'->RepL G (hid A H') vs ds->Q vs H'
def PFA (X:Cx) (G:Gx) (es:List Expr) (f:FA):Prop:=∀ ⦃A⦄,PA X es (tFA G A f)
theorem sG {e:List Expr}{t t':TA}(h:PA X e t) (w:∀ σ H Q,t' σ H Q->t σ H Q):PA X e t':=λ pos π s σ H Q I q=>h pos π s σ H Q I (w σ H Q q)
def tFT (G:Gx) (A:List Addr) (f:FT):TT:=λ σ H Q=>∃ ρ b,Okp G A σ H ρ/\f ρ=some b/\∀ H',Same H H'->Q b H'
def PFT (X:Cx) (G:Gx) (e:Expr) (f:FT):Prop:=∀ ⦃A⦄,PT X e (tFT G A f)
def PFW (X:Cx) (G:Gx) (e:Expr) (f:FT):Prop:=∀ ⦃A⦄,PW X e (tFT G A f)
theorem Y8 {t t':TT}(h:PT X e t) (w:∀ σ H Q,t' σ H Q->t σ H Q):PT X e t':=λ π s σ H Q I q=>h π s σ H Q I (w σ H Q q)
theorem fD {t t':TT}(h:PW X e t) (w:∀ σ H Q,t' σ H Q->t σ H Q):PW X e t':=λ wh π s σ H Q I q=>h wh π s σ H Q I (w σ H Q q)
section
variable {G:Gx}{a b c:Expr}{fa fb fc:FE}
theorem ut (i:Nat) {x:Str}(h:PE X (.Name x pos) (tVar i)):PF X G (.Name x pos) (vF i):=λ A=>Bu h λ σ H Q ⟨ρ,d,o,e,k⟩=>by
 unfold vF at e;split at e
 ·rename_i d' h';cases e;obtain⟨v,h1,h2⟩:=o.fz i _ h';exact⟨v,h1,k v H .(21) h2⟩
 ·cases e
theorem uv (i:Nat) {x:Str}(h:PE X (.Name x pos) (tVar i)):PU X G (.Name x pos) (vU i):=λ A=>Bu h λ σ H Q ⟨ρ,d,o,e,k⟩=>by
 unfold vU at e;split at e
 ·rename_i d' h';cases e;obtain⟨v,h1,h2⟩:=o.fz i _ h';exact⟨v,h1,k v H .(21) (.inl h2)⟩
 ·rename_i d' h';cases e;obtain⟨p,h1,_,h2⟩:=o.ow i _ h';exact⟨.ref p,h1,k _ H .(21) (.inr ⟨p,rfl,h2⟩)⟩
 ·cases e
theorem JS {d:D}(h:PE X a (tC v)) (r:Rep G (λ _=>none) v d):PF X G a (kF d):=λ A=>Bu h λ σ H Q ⟨ρ,d',o,e,k⟩=>by
 cases e;exact k v H .(21) (r.mono λ b o z=>nomatch z)
theorem PQ {i j}:PF X G (.Constant (.int i) j pos) (kF (.int i)):=JS uM (.int i)
theorem KH {b j}:PF X G (.Constant (.bool b) j pos) (kF (.bl b)):=JS wk (.bl b)
theorem fG {j}:PF X G (.Constant .none j pos) (kF .non):=JS uN .non
theorem uw {x j}:PF X G (.Constant (.str x) j pos) (kF (.str x)):=JS uO (.str x)
def Dk (G:Gx) (r:R2) (g:D->D->Option D):Prop:=∀ (A:List Addr) (H:Hp) (x y:V) (dx dy d:D) (Q:VK),(∀ a∈A,Nt (H a))->RepT G A H x dx->RepT G A H y dy->g dx dy=some d->(∀ v H',Same H H'->Rep G (hid A H') v d->Q v H')->r x y H Q
theorem Np {g:D->D->Option D}{ρ:Rho}{d:D}(h:bF g fa fb ρ=some d):∃ x y,fa ρ=some x/\fb ρ=some y/\g x y=some d:=by
 unfold bF at h;cases e1:fa ρ with
 | none=>rw[e1] at h;cases h
 | some x=>
  rw[e1] at h;cases e2:fb ρ with
  | none=>simp[e2] at h
  | some y=>simp[e2] at h;exact⟨x,y,rfl,rfl,h⟩
theorem RZ {r:R2}{g:D->D->Option D}(s:Dk G r g) {A:List Addr}{σ:St}{H:Hp}{Q:VK}(h:tF G A (bF g fa fb) σ H Q):tOp r (tT G A fa) (tT G A fb) σ H Q:=by
 obtain⟨ρ,d,o,e,k⟩:=h;obtain⟨x,y,e1,e2,e3⟩:=Np e;exact⟨ρ,x,o,e1,λ v H1 s1 r1=>⟨ρ,y,o.mono s1,e2,λ u H2 s2 r2=>s A H2 v u x y d Q ((o.mono s1).mono s2).live (r1.mono s2) r2 e3 λ w H3 s3 r3=>k w H3 (s1.trans (s2.trans s3)) r3⟩⟩
theorem Gp {op:Operator}{r:R2}{g:D->D->Option D}(ho:OpR X (z1u op) r) (s:Dk G r g) (ha:PU X G a fa) (hb:PU X G b fb):PF X G (.BinOp a op b pos) (bF g fa fb):=
 λ A=>Bu (xG ho (@ha A) (@hb A)) λ _ _ _ h=>RZ s h
theorem Ur {op:z2s}{r:R2}{g:D->D->Option D}(ho:OpR X (z0B op) r) (s:Dk G r g) (ha:PU X G a fa) (hb:PU X G b fb) (hm:z0Z op b=false):PF X G (.Compare a [op] [b] pos) (bF g fa fb):=
 λ A=>Bu (Yx ho (@ha A) (@hb A) hm) λ _ _ _ h=>RZ s h
theorem WK {f:FE}{ρ:Rho}{b:Bool}(h:blF f ρ=some b):f ρ=some (.bl b):=by
 unfold blF at h;split at h
 ·rename_i e;cases h;exact e
 ·cases h
theorem Hw {op:z2s}{r:R2}{g:D->D->Option D}(ho:OpR X (z0B op) r) (s:Dk G r g) (ha:PU X G a fa) (hb:PU X G b fb) (hm:z0Z op b=false):PFT X G (.Compare a [op] [b] pos) (blF (bF g fa fb)):=
 λ A=>Y8 (Yy ho (@ha A) (@hb A) hm) λ σ H Q ⟨ρ,d,o,e,k⟩=>RZ s ⟨ρ,.bl d,o,WK e,λ v H' s' r'=>by cases r';exact⟨d,rfl,k H' s'⟩⟩
theorem Nq {g:Int->Int->Option D}{x y d:D}(h:iiD g x y=some d):∃ i j,x=.int i/\y=.int j/\g i j=some d:=by
 unfold iiD at h;split at h
 ·exact⟨_,_,rfl,rfl,h⟩
 ·cases h
theorem PX {g:Int->Int->V}{g':Int->Int->D}(e:∀ i j H,Rep G H (g i j) (g' i j)):Dk G (rI0 g) (iiD λ i j=>some (g' i j)):=by
 intro A H x y dx dy d Q lv rx ry h k;obtain⟨i,j,rfl,rfl,h⟩:=Nq h;cases h;exact⟨i,j,rx.int,ry.int,k _ H .(21) (e i j _)⟩
theorem Ra {C:Int->Int->Prop}{g:Int->Int->V}{g':Int->Int->D} [∀ i j,Decidable (C i j)] (e:∀ i j H,Rep G H (g i j) (g' i j)):Dk G (rI C g) (iiD λ i j=>if C i j then some (g' i j) else none):=by
 intro A H x y dx dy d Q lv rx ry h k;obtain⟨i,j,rfl,rfl,h'⟩:=Nq h
 by_cases hc:C i j
 ·rw[if_pos hc] at h';cases h';exact⟨i,j,rx.int,ry.int,hc,k _ H .(21) (e i j _)⟩
 ·rw[if_neg hc] at h';cases h'
theorem nu:Dk G (rI0 λ i j=>.int (i-j)) subD:=PX λ i j H=>.int _
theorem Mf.ok {i j:Int}(h:Mf i j):IntMulOk i j:=by
 rcases h with h | h
 ·exact h.ok
 ·exact IntMulOk.of_le h.1 h.2 (by decide)
theorem n6:OpR X (z1u .Mult) (rI Mf λ i j=>.int (i*j)):=opI λ _ _ _ _ _ _ _ hc q=>mul_int q hc.ok
theorem Us:OpR X (z1u .LShift) (rI CShl λ i j=>.int (i*2^j.toNat)):=opI λ i j _ _ _ _ _ hc q=>lshift_int hc.1 (by have h1:=hc.2.1;have h2:=hc.2.2;omega) q
theorem n8:Dk G (rI Mf λ i j=>.int (i*j)) mulD:=Ra λ i j H=>.int _
theorem fH:Dk G (rI CDiv λ i j=>.int (i/j)) Hv:=Ra λ i j H=>.int _
theorem n_:Dk G (rI (λ _ j=>0<j) λ i j=>.int (i%j)) modD:=Ra (C:=λ _ j=>0<j) λ i j H=>.int _
theorem Ut:Dk G (rI CShl λ i j=>.int (i*2^j.toNat)) shlD:=Ra λ i j H=>.int _
theorem Y9:Dk G (rI (λ _ j=>0<=j) λ i j=>.int (i/2^j.toNat)) shrD:=Ra (C:=λ _ j=>0<=j) λ i j H=>.int _
theorem WL:Dk G (rI0 λ i j=>.int (z3K i j)) Y7:=PX λ i j H=>.int _
theorem fJ:Dk G (rI0 λ i j=>.bl (decide (i<j))) ltD:=PX λ i j H=>.bl _
theorem ux:Dk G (rI0 λ i j=>.bl (decide (i<=j))) leD:=PX λ i j H=>.bl _
theorem uy:Dk G (rI0 λ i j=>.bl (decide (j<i))) gtD:=PX λ i j H=>.bl _
theorem uz:Dk G (rI0 λ i j=>.bl (decide (j<=i))) geD:=PX λ i j H=>.bl _
def sH (K:z08):R2:=λ x y H Q=>∃ l b xs zs,x=.ref l/\y=.ref b/\SqL K H l xs/\SqL K H b zs/\xs.length+zs.length<=sizeLine/\∀ p,H p=none->Q (.ref p) (upd H p (.lst (xs++zs)))
theorem oA:OpR X (z1u .Add) (sH X.K):=by
 intro π s σ H x y v u Q I rx ry h;obtain⟨l,b,xs,zs,rfl,rfl,hl,hb,hz,q⟩:=h;cases rx;cases ry;obtain⟨its,r,pl,z⟩:=I.list hl;obtain⟨its2,r2,pl2,z2⟩:=I.list hb;have e1:=r.length;have e2:=r2.length;obtain⟨⟨cls,dd,data,sl⟩,ho,hc,n,hd⟩:=pl.isList;obtain⟨⟨cls2,dd2,data2,sl2⟩,ho2,hc2,n2,hd2⟩:=pl2.isList;simp only at hc hd hc2 hd2;subst hc hd hc2 hd2;refine z5b ⟨_,ho,rfl⟩ ⟨_,ho2,rfl⟩ noFill_list_add seq_list_add PySem.F.slot_list_add PySem.F.entry_list_add (PySem.F.args_list_add_2 _ _) (list_addW l b its.toArray its2.toArray n n2 dd dd2 sl sl2 (by rw[z0r,z0r];omega)) ⟨ho,ho2,?_⟩;have ea:its.toArray++its2.toArray=(its++its2).toArray:=by simp
 rw[ea];exact⟨.ref _,_,I.lnew (t':=s.toks) (r.append r2) (by rw[z0N];omega),rfl,q _ I.fresh⟩
def rAdd (K:z08):R2:=λ x y H Q=>(rI0 λ i j=>.int (i+j)) x y H Q∨((λ x y H Q=>∃ i j,x=.str i/\y=.str j/\i.length+j.length<=sizeLine/\Q (.str (i++j)) H) x y H Q∨sH K x y H Q)
theorem oE:OpR X (z1u .Add) (rAdd X.K):=ud.or (Xh.or oA)
theorem oF:Dk G (rAdd G.K) addD:=by
 intro A H x y dx dy d Q lv rx ry h k;unfold addD at h;split at h
 ·cases h;exact .inl ⟨_,_,rx.int,ry.int,k _ H .(21) (.int _)⟩
 ·split at h
  ·rename_i hz;cases h;exact .inr (.inl ⟨_,_,rx.str,ry.str,hz,k _ H .(21) (.str _)⟩)
  ·cases h
 ·split at h
  ·rename_i hz;cases h;obtain⟨l,xs,rfl,h1,r1⟩:=rx.lst;obtain⟨m,zs,rfl,h2,r2⟩:=ry.lst;exact .inr (.inr ⟨l,m,xs,zs,rfl,rfl,h1,h2,by rw[r1.1,r2.1];exact hz,λ p hp=>k _ _ (Al hp _) (DY lv hp (r1.append r2))⟩)
  ·cases h
 ·cases h
theorem fK {op:BoolOp}(h:PF X G a fa):PF X G (.BoolOp op [a] pos) fa:=λ A=>uU (@h A)
theorem Uu {rest:List Expr}(ha:PF X G a fa) (hb:PF X G (.BoolOp .And (b::rest) pos) fb):PF X G (.BoolOp .And (a::b::rest) pos) (andF fa fb):=λ A=>Bu (uV (@ha A) (@hb A)) λ σ H Q ⟨ρ,d,o,e,k⟩=>by
 unfold andF at e;split at e
 ·rename_i e1;refine⟨ρ,_,o,e1,λ v H1 s1 r1=>?_⟩;cases r1;refine⟨true,rfl,?_⟩;rw[if_pos rfl];exact⟨ρ,d,o.mono s1,e,λ v H2 s2 r2=>k v H2 (s1.trans s2) r2⟩
 ·rename_i e1;refine⟨ρ,_,o,e1,λ v H1 s1 r1=>?_⟩;cases r1;refine⟨false,rfl,?_⟩;rw[if_neg z0D];cases e;exact k _ H1 s1 (.bl false)
 ·cases e
theorem u0 (ha:PF X G a fa):PF X G (.UnaryOp .Not a pos) (notF fa):=λ A=>Bu (uW (@ha A)) λ σ H Q ⟨ρ,d,o,e,k⟩=>by
 unfold notF at e;split at e
 ·rename_i b e1;refine⟨ρ,_,o,e1,λ v H1 s1 r1=>?_⟩;cases r1;cases e;exact⟨b,rfl,k _ H1 s1 (.bl _)⟩
 ·cases e
variable {ga gb:FT}
theorem PFW.pt (h:PFW X G a ga):PFT X G a ga:=λ A=>(@h A).pt
theorem Xw (h:PFT X G a ga):PFW X G (.BoolOp .And [a] pos) ga:=λ A=>m6 (@h A)
theorem Ht (h:PFT X G a ga):PFW X G (.BoolOp .Or [a] pos) ga:=λ A=>dH (@h A)
theorem Y_ {rest:List Expr}(ha:PFT X G a ga) (hb:PFW X G (.BoolOp .And (b::rest) pos) gb):PFW X G (.BoolOp .And (a::b::rest) pos) (andT ga gb):=λ A=>fD (uR (@ha A) (@hb A)) λ σ H Q ⟨ρ,d,o,e,k⟩=>by
 unfold andT at e;split at e
 ·rename_i e1;exact⟨ρ,_,o,e1,λ H1 s1=>iteT ⟨ρ,d,o.mono s1,e,λ H2 s2=>k H2 (s1.trans s2)⟩⟩
 ·rename_i e1;cases e;exact⟨ρ,_,o,e1,λ H1 s1=>iteF (k H1 s1)⟩
 ·cases e
theorem Mw {rest:List Expr}(ha:PFT X G a ga) (hb:PFW X G (.BoolOp .Or (b::rest) pos) gb):PFW X G (.BoolOp .Or (a::b::rest) pos) (orT ga gb):=λ A=>fD (rN (@ha A) (@hb A)) λ σ H Q ⟨ρ,d,o,e,k⟩=>by
 unfold orT at e;split at e
 ·rename_i e1;cases e;exact⟨ρ,_,o,e1,λ H1 s1=>iteT (k H1 s1)⟩
 ·rename_i e1;exact⟨ρ,_,o,e1,λ H1 s1=>iteF ⟨ρ,d,o.mono s1,e,λ H2 s2=>k H2 (s1.trans s2)⟩⟩
 ·cases e
theorem Jv (ha:PFT X G a ga):PFT X G (.UnaryOp .Not a pos) (notT ga):=λ A=>Y8 (uT (@ha A)) λ σ H Q ⟨ρ,d,o,e,k⟩=>by
 unfold notT at e;cases e1:ga ρ with
 | none=>rw[e1] at e;cases e
 | some b=>rw[e1] at e;cases e;exact⟨ρ,b,o,e1,λ H1 s1=>k H1 s1⟩
theorem Qc {α β:Type}{xs:List α}{ys:List β}(h:xs.length=ys.length):xs.isEmpty=ys.isEmpty:=by
 cases xs<;>cases ys<;>simp at h ⊢
theorem Hj (ha:PU X G a fa) (hG:G.K=X.K) (he:∀ whole,z2G a X.env whole=(do let v <-whole;z1W a.pos;z1v [v] (truthy v)):=by intro _;rfl):PFT X G a (λ ρ=>(fa ρ).bind truD):=λ A=>Y8 (dY (@ha A) he) λ σ H Q ⟨ρ,b,o,e,k⟩=>by
 cases e1:fa ρ with
 | none=>simp[e1] at e
 | some d=>
  have e':truD d=some b:=by simpa [e1] using e
  refine⟨ρ,d,o,e1,λ v H1 s1 r1=>⟨b,?_,k H1 s1⟩⟩;rw[<-hG];cases d with
  | non=>rw[r1.non];exact (z0t e').symm
  | bl b'=>rw[r1.bl];exact (z0t e').symm
  | int i=>rw[r1.int];exact (z0t e').symm
  | str y=>
   rw[r1.str];simp only[truD] at e';split at e'
   ·rename_i hz;exact⟨hz,(z0t e').symm⟩
   ·cases e'
  | lst ds=>
   obtain⟨p,xs,rfl,h1,h2⟩:=r1.lst;refine .inl ⟨xs,h1,?_⟩;rw[Qc h2.1];exact (z0t e').symm
  | tup ds=>
   obtain⟨p,xs,rfl,h1,h2⟩:=r1.tup;refine .inr (.inl ⟨xs,h1,?_⟩);rw[Qc h2.1];exact (z0t e').symm
  | _=>cases e'
theorem ZC (ht:PFT X G c ga) (ha:PF X G a fa) (hb:PF X G b fb):PF X G (.IfExp c a b pos) (ifF ga fa fb):=λ A=>Bu (dI (@ht A) (@ha A) (@hb A)) λ σ H Q ⟨ρ,d,o,e,k⟩=>by
 unfold ifF at e;split at e
 ·rename_i e1;exact⟨ρ,_,o,e1,λ H1 s1=>iteT ⟨ρ,d,o.mono s1,e,λ v H2 s2 r2=>k v H2 (s1.trans s2) r2⟩⟩
 ·rename_i e1;exact⟨ρ,_,o,e1,λ H1 s1=>iteF ⟨ρ,d,o.mono s1,e,λ v H2 s2 r2=>k v H2 (s1.trans s2) r2⟩⟩
 ·cases e
variable {es:List Expr}{fs:FA}
theorem Ac:PFA X G [] nilA:=λ A=>sG Cw λ σ H Q ⟨ρ,ds,o,e,k⟩=>by cases e;exact k [] H .(21) RepL.nil
theorem Ae (ha:PF X G a fa) (hr:PFA X G es fs) (hs:z09 (a::es) X.env=.(7)::z09 es X.env:=by rfl):PFA X G (a::es) (Aa fa fs):=λ A=>sG (Bo (@ha A) (@hr A) hs) λ σ H Q ⟨ρ,ds,o,e,k⟩=>by
 unfold Aa at e;cases e1:fa ρ with
 | none=>simp[e1] at e
 | some d=>
  cases e2:fs ρ with
  | none=>simp[e1,e2] at e
  | some ds'=>
   simp[e1,e2] at e;subst e;exact⟨ρ,d,o,e1,λ v H1 s1 r1=>⟨ρ,ds',o.mono s1,e2,λ vs H2 s2 r2=>k _ H2 (s1.trans s2) (.cons (r1.mono (Az s2)) r2)⟩⟩
theorem Gq {x1} (h:PFA X G es fs):PF X G (.Tuple es x1 pos) (tupF fs):=λ A=>Bu (Xn (@h A)) λ σ H Q ⟨ρ,d,o,e,k⟩=>by
 unfold tupF at e;cases e1:fs ρ with
 | none=>simp[e1] at e
 | some ds=>
  rw[e1] at e;have e':(if ds.length<=sizeLine then some (D.tup ds) else none)=some d:=e;split at e'
  ·rename_i hz;cases e';exact⟨ρ,ds,o,e1,λ vs H1 s1 r1=>⟨by rw[r1.1];exact hz,λ p hp=>k _ _ (s1.trans (Al hp _)) (Ds (o.mono s1).live hp r1)⟩⟩
  ·cases e'
theorem Cq (h:PFA X G es fs):PF X G (.List es pos) (lstF fs):=λ A=>Bu (dj (@h A)) λ σ H Q ⟨ρ,d,o,e,k⟩=>by
 unfold lstF at e;cases e1:fs ρ with
 | none=>simp[e1] at e
 | some ds=>
  rw[e1] at e;have e':(if ds.length<=sizeLine then some (D.lst ds) else none)=some d:=e;split at e'
  ·rename_i hz;cases e';exact⟨ρ,ds,o,e1,λ vs H1 s1 r1=>⟨by rw[r1.1];exact hz,λ p hp=>k _ _ (s1.trans (Al hp _)) (DY (o.mono s1).live hp r1)⟩⟩
  ·cases e'
theorem fL:Dk G (rIx G.K) ixD:=by
 intro A H x y dx dy d Q lv rx ry h k;unfold ixD at h;split at h
 ·obtain⟨p,xs,rfl,h1,r1⟩:=rx.lst;obtain⟨v,h2,r2⟩:=r1.atI h;exact .inl ⟨p,xs,_,v,rfl,ry.int,h1,h2,k v H .(21) r2⟩
 ·obtain⟨p,xs,rfl,h1,r1⟩:=rx.tup;obtain⟨v,h2,r2⟩:=r1.atI h;exact .inr (.inl ⟨p,xs,_,v,rfl,ry.int,h1,h2,k v H .(21) r2⟩)
 ·split at h
  ·rename_i z i hz;cases e:atI z.cps.toList i with
   | none=>rw[e] at h;cases h
   | some c=>
    rw[e] at h;cases h;exact .inr (.inr ⟨z,i,c,rx.str,ry.int,hz,e,k _ H .(21) (.str _)⟩)
  ·cases h
 ·cases h
theorem xX (hG:G.K=X.K) (ha:PU X G a fa) (hb:PU X G b fb) (hs:Nh b):PF X G (.Subscript a b pos) (bF ixD fa fb):=
 λ A=>Bu (rY (r:=rIx X.K) d_ (@ha A) (@hb A) hs) λ _ _ _ h=>RZ (by rw[<-hG];exact fL) h
def tFO (G:Gx) (A:List Addr) (f:FO):TO:=λ σ H Q=>∃ ρ o,Okp G A σ H ρ/\f ρ=some o/\∀ H',Same H H'->Q o H'
def PFO (X:Cx) (G:Gx) (e:Option Expr) (f:FO):Prop:=∀ ⦃A⦄,PO X e (tFO G A f)
theorem sI {e:Option Expr}{t t':TO}(h:PO X e t) (w:∀ σ H Q,t' σ H Q->t σ H Q):PO X e t':=λ π s σ H Q I q=>h π s σ H Q I (w σ H Q q)
theorem Kq:PFO X G none noO:=λ A=>sI nJ λ σ H Q ⟨ρ,o,ok,e,k⟩=>by cases e;exact k H .(21)
theorem Fv (h:PU X G a fa):PFO X G (some a) (someO fa):=λ A=>sI (nM (@h A)) λ σ H Q ⟨ρ,o,ok,e,k⟩=>by
 unfold someO at e;split at e
 ·rename_i i e1;cases e;exact⟨ρ,_,ok,e1,λ v H1 s1 r1=>⟨i,r1.int,k H1 s1⟩⟩
 ·cases e
theorem RepL.cut {ds:List D}(r:RepL G H xs ds) (lo hi:Option Int):RepL G H (cutV xs lo hi) (cutD ds lo hi):=by
 unfold cutV cutD;rw[r.1];exact (r.drop _).take _
end
end PV
theorem L2.Room.unitsW {k:Nat}{A:PySem.Around}(r:L2.Room k A):A.units+190<PySem.cLine:=by have:=r.un;omega
namespace PV
open PySem PySem.Spec L2
open PyProof.Rows hiding St
section
variable {G:Gx}{a b c:Expr}{fa fb fc:FE}
section
open Builtin.Str
theorem WM (n:Nat) (v:Option Int) (d:Nat) (hd:d<=n):(match v with | none=>(d:Int) | some i=>max 0 (min (if i<0 then i+(n:Int) else i) (n:Int)))=(HT.sIx n d v:Int):=by
 cases v with
 | none=>rfl
 | some i=>
  simp only[HT.sIx];split<;>omega
theorem oG (n d:Nat) (v:Option Int) (hd:d<=n):HT.sIx n d v<=n:=by
 cases v with
 | none=>exact hd
 | some i=>simp only[HT.sIx];split<;>omega
theorem Xx (lo hi:Option Int) (n:Nat):strSliceIndices lo hi 1 n=(z0e (HT.sIx n n hi-HT.sIx n 0 lo)).map (λ k=>HT.sIx n 0 lo+k):=by
 have h1:=WM n lo 0 (z18 _);have h2:=WM n hi n (z07 _);have hp:((1:Int) > 0):=by decide
 have e:strSliceIndices lo hi 1 n=z6I (HT.sIx n 0 lo:Int) (HT.sIx n n hi:Int) 1:=by
  unfold strSliceIndices;simp only[hp,if_true];exact congrFun (congr (congrArg z6I h1) h2) 1
 rw[e];unfold z6I;simp only[hp,if_true];generalize HT.sIx n 0 lo=a;generalize HT.sIx n n hi=b;have hc:(if (a:Int)<(b:Int) then ((b:Int)-a+1-1)/1 else 0).toNat=b-a:=by
  split
  ·rw[z8e];omega
  ·omega
 rw[hc];apply z3m;intro k _;omega
theorem bU (x:Str) (lo hi:Option Int):z5i x lo hi=cutS x lo hi:=by
 have hb:=oG x.length x.length hi (z07 _);have hn:x.cps.toList.length=x.length:=by simp[z6B]
 unfold z5i cutS cutD;rw[Xx,hn];generalize HT.sIx x.length 0 lo=a at *;generalize HT.sIx x.length x.length hi=b at *;rw[z06,z2B];split
 ·rename_i h;simp only[z0U,beq_iff_eq] at h;have hab:b-a=x.length:=h.2
  by_cases h0:x.length=0
  ·have:x.cps.toList=[]:=z2C.mp (by omega);cases x with
   | mk c=>
    simp at this;subst this;simp
  ·have ha:a=0:=by omega
   subst ha;have:b=x.length:=by omega
   subst this;rw[z8w,Nat.sub_zero,z6J (by omega)]
 ·congr 1;apply congrArg;apply z8x;intro i;rw[z6w];have key:∀ m,m<=b-a->(List.filterMap ((λ k=>x.cps[k]?) ∘ λ k=>a+k) (z0e m))=((x.cps.toList.drop a).take m):=by
   intro m
   induction m with
   | zero=>intro _;simp
   | succ m ih=>
    intro hm;rw[z6K,List.filterMap_append,ih (by omega)];have hlt:a+m<x.cps.size:=by have:x.length=x.cps.size:=rfl;omega
    rw[List.take_succ_eq_append_getElem .(17)];simp[hlt]
  rw[key _ (z07 _)]
end
def rSlS:V->Option Int->Option Int->Hp->VK->Prop:=λ x lo hi H Q=>∃ z,x=.str z/\z.length<=sizeLine/\Q (.str (z5i z lo hi)) H
theorem u9:SlR X rSlS:=by
 intro π s σ H x v vl vu lo hi sl Q I rx hs pl pu h;obtain⟨z,rfl,hz,q⟩:=h;obtain⟨t,rfl⟩:=rx;obtain⟨o,e1,e2,e3⟩:=hs;have fin:∀ t' k,EP X π σ Q (.str (z5i z lo hi) t') { s with toks:=k }:=λ t' k=>⟨.str _,H,I.tok _,⟨t',rfl⟩,q⟩;have hl:=z0E (Txt.slice_le z lo hi) hz;refine⟨"str",_,PySem.F.slot_str_getitem.lookup,z6C _ _ _,?_⟩;cases pl with
 | none=>
  cases pu with
  | none=>exact z5j (l:=none) (u:=none) (st:=none) ⟨o,e1,e2,e3⟩ rfl (z5k ⟨hl,fin⟩)
  | int j uj=>exact z5j (l:=none) (u:=some (j,uj)) (st:=none) ⟨o,e1,e2,e3⟩ rfl (z5k ⟨hl,fin⟩)
 | int i ui=>
  cases pu with
  | none=>exact z5j (l:=some (i,ui)) (u:=none) (st:=none) ⟨o,e1,e2,e3⟩ rfl (z5k ⟨hl,fin⟩)
  | int j uj=>exact z5j (l:=some (i,ui)) (u:=some (j,uj)) (st:=none) ⟨o,e1,e2,e3⟩ rfl (z5k ⟨hl,fin⟩)
def rSl (K:z08):V->Option Int->Option Int->Hp->VK->Prop:=λ x lo hi H Q=>rSlL K x lo hi H Q∨(rSlT K x lo hi H Q∨rSlS x lo hi H Q)
theorem u_:SlR X (rSl X.K):=nQ.or (ul.or u9)
theorem Hx {lo hi:Option Expr}{gl gh:FO}(hG:G.K=X.K) (ha:PU X G a fa) (hl:PFO X G lo gl) (hh:PFO X G hi gh):PF X G (.Subscript a (.Slice lo hi none p2) pos) (slF fa gl gh):=λ A=>Bu (d9 (u_ (X:=X)) (@ha A) (@hl A) (@hh A)) λ σ H Q ⟨ρ,d,o,e,k⟩=>by
 unfold slF at e;cases e1:fa ρ with
 | none=>simp[e1] at e
 | some x=>
  cases e2:gl ρ with
  | none=>simp[e1,e2] at e
  | some l=>
   cases e3:gh ρ with
   | none=>simp[e1,e2,e3] at e
   | some h=>
    have e':slD x l h=some d:=by simpa [e1,e2,e3] using e
    refine⟨ρ,x,o,e1,λ v H1 s1 r1=>⟨ρ,l,o.mono s1,e2,λ H2 s2=>⟨ρ,h,(o.mono s1).mono s2,e3,λ H3 s3=>?_⟩⟩⟩;have r3:=(r1.mono s2).mono s3;have o3:=((o.mono s1).mono s2).mono s3;have s0:=s1.trans (s2.trans s3);unfold slD at e';split at e'
    ·cases e';obtain⟨p,xs,rfl,h1,r⟩:=r3.lst;exact .inl ⟨p,xs,rfl,by rw[<-hG];exact h1,λ q hq=>k _ _ (s0.trans (Al hq _)) (DY o3.live hq (r.cut _ _))⟩
    ·split at e'
     ·cases e'
     ·rename_i hw;cases e';obtain⟨p,xs,rfl,h1,r⟩:=r3.tup;exact .inr (.inl ⟨p,xs,rfl,by rw[<-hG];exact h1,by rw[r.1];exact hw,λ q hq=>k _ _ (s0.trans (Al hq _)) (Ds o3.live hq (r.cut _ _))⟩)
    ·split at e'
     ·rename_i hz;cases e';refine .inr (.inr ⟨_,r3.str,hz,?_⟩);rw[bU];exact k _ _ s0 (.str _)
     ·cases e'
    ·cases e'
theorem Uv {u:V}{d:D}(r:RepT G A H v d) (h:flV d=some u):v=u/\KD v=true:=by
 cases d with
 | non=>cases h;rw[r.non];exact⟨rfl,rfl⟩
 | bl b=>cases h;rw[r.bl];exact⟨rfl,rfl⟩
 | int b=>cases h;rw[r.int];exact⟨rfl,rfl⟩
 | str b=>cases h;rw[r.str];exact⟨rfl,rfl⟩
 | _=>cases h
theorem WN {H:Hp}:∀ {ds:List D}{xs us:List V},RepL G H xs ds->flVs ds=some us->xs=us/\xs.all KD=true
 | [],xs,us,r,h=>by cases h;rw[r.nil_inv];exact⟨rfl,rfl⟩
 | d::ds,xs,us,r,h=>by
  obtain⟨x,ys,rfl,r1,r2⟩:=r.uncons;unfold flVs at h;cases e1:flV d with
  | none=>simp[e1] at h
  | some v=>
   cases e2:flVs ds with
   | none=>simp[e1,e2] at h
   | some vs=>
    simp[e1,e2] at h;subst h;have q:Rep G (hid [] H) x d:=r1.mono λ b o z=>z;obtain⟨z1,z2⟩:=Uv (A:=[]) (.inl q) e1;obtain⟨z3,z4⟩:=WN r2 e2;subst z1;subst z3;exact⟨rfl,by rw[z4m,z2,z4];rfl⟩
def rInA (K:z08) (neg:Bool):R2:=λ x y H Q=>rIn K neg x y H Q∨∃ i j,x=.str i/\y=.str j/\Q (.bl (if neg then !(!(z2I j i 0 j.length 1).isEmpty) else !(z2I j i 0 j.length 1).isEmpty)) H
theorem fO:OpR X (z0B .In) (rInA X.K false):=bN.or bJ
theorem bV:OpR X (z0B .NotIn) (rInA X.K true):=Uo.or Ui
theorem vA (neg:Bool):Dk G (rInA G.K neg) (inD neg):=by
 intro A H x y dx dy d Q lv rx ry h k;have seq:∀ {ds:List D}{p:Addr}{xs:List V},y=.ref p->(SqL G.K H p xs∨SqT G.K H p xs)->RepL G (hid A H) xs ds->((flV dx).bind λ v=>(flVs ds).map λ vs=>D.bl (if neg then !inV v vs else inV v vs))=some d->rIn G.K neg x y H Q:=λ {ds p xs} ey hq r h=>by
  cases e1:flV dx with
  | none=>simp[e1] at h
  | some v=>
   cases e2:flVs ds with
   | none=>simp[e1,e2] at h
   | some vs=>
    rw[e1,e2] at h;cases h;obtain⟨z1,z2⟩:=Uv rx e1;obtain⟨z3,z4⟩:=WN r e2;subst z1;subst z3;exact⟨p,xs,ey,hq,z2,z4,k _ H .(21) (.bl _)⟩
 unfold inD at h;split at h
 ·cases h;exact .inr ⟨_,_,rx.str,ry.str,k _ H .(21) (.bl _)⟩
 ·obtain⟨p,xs,e,h1,r⟩:=ry.lst;exact .inl (seq e (.inl h1) r h)
 ·obtain⟨p,xs,e,h1,r⟩:=ry.tup;exact .inl (seq e (.inr h1) r h)
 ·cases h
def eAt (f:D->D->Option Bool) (xs ys:List D) (j:Nat):Bool:=match xs[j]?,ys[j]? with | some x,some y=>(f x y).getD false | _,_=>false
theorem Pa {f:D->D->Option Bool}:∀ {xs ys:List D}{b:Bool},allO f xs ys=some b->xs.length=ys.length/\(∀ (j:Nat) x y,xs[j]?=some x->ys[j]?=some y->f x y=some (eAt f xs ys j))/\b=(z0e xs.length).all (eAt f xs ys)
 | [],[],b,h=>by cases h;exact⟨rfl,λ j x y h=>by simp at h,rfl⟩
 | [],_::_,b,h=>by cases h
 | _::_,[],b,h=>by cases h
 | x::xs,y::ys,b,h=>by
  unfold allO at h;split at h
  ·rename_i a c e1 e2;cases h;obtain⟨h1,h2,h3⟩:=Pa e2;refine⟨by simp[h1],λ j u v hu hv=>?_,?_⟩
   ·cases j with
    | zero=>simp at hu hv;subst hu;subst hv;rw[e1];simp[eAt,e1]
    | succ j=>
     have:=h2 j u v (by simpa using hu) (by simpa using hv);rw[this];simp[eAt]
   ·rw[z0u,z8y,z4m,List.all_map];have z:eAt f (x::xs) (y::ys) 0=a:=by simp[eAt,e1]
    rw[z,h3];rfl
  ·cases h
theorem fP {u:V}(h:KD u=true):eqV u u=true:=by
 cases u<;>simp[eqV]<;>cases h
theorem Qw {d:D}{u:V}(r:Rep G H v d) (h:flV d=some u):v=u/\KD v=true:=Uv (A:=[]) (.inl (r.mono λ b o z=>by rw[CJ z8z];exact z)) h
section
theorem WP (I:Inv X π σ H s) (hG:G.K=X.K):∀ (n:Nat) {x y:D}{v:V}{b:Bool},eqK n x y=some b->Rep G H v x->Rep G H v y->b=true:=by
 have flat:∀ {x y:D}{v:V}{b:Bool},flD x y=some b->Rep G H v x->Rep G H v y->b=true:=λ {x y v b} h rx ry=>by
  unfold flD at h;cases e1:flV x with
  | none=>simp[e1] at h
  | some u=>
   cases e2:flV y with
   | none=>simp[e1,e2] at h
   | some w=>
    simp[e1,e2] at h;obtain⟨z1,z2⟩:=Qw rx e1;obtain⟨z3,_⟩:=Qw ry e2;rw[<-h,<-z1,<-z3];exact fP z2
 intro n
 induction n with
 | zero=>intro x y v b h rx ry;exact flat h rx ry
 | succ n ih=>
  have items:∀ {xs:List V}{ds es:List D}{b:Bool},allO (eqK n) ds es=some b->RepL G H xs ds->RepL G H xs es->b=true:=λ {xs ds es b} h r1 r2=>by
   obtain⟨h1,h2,h3⟩:=Pa h;rw[h3,z1a];intro j hj;have hj':j<ds.length:=z0w.mp hj;have hx:xs[j]?=some (xs[j]'(by rw[r1.1];exact hj')):=by simp[r1.1,hj']
   have hd:ds[j]?=some ds[j]:=by simp[hj']
   have he:es[j]?=some (es[j]'(by omega)):=z0C (by omega);exact ih (h2 j _ _ hd he) (r1.2 j _ _ hx hd) (r2.2 j _ _ hx he)
  intro x y v b h rx ry;unfold eqK eqS at h;split at h
  ·split at h
   ·cases rx with
    | lst h1 l1 r1=>
     cases ry with
     | lst h2 l2 r2=>
      have e:=I.list_inj (by rw[<-hG];exact h1) (by rw[<-hG];exact h2);subst e;exact items h ⟨l1,r1⟩ ⟨l2,r2⟩
   ·rename_i hne;cases rx with
    | lst h1 l1 r1=>
     cases ry with
     | lst h2 l2 r2=>
      have e:=I.list_inj (by rw[<-hG];exact h1) (by rw[<-hG];exact h2);subst e;exact absurd (l1.symm.trans l2) hne
  ·split at h
   ·cases rx with
    | tup h1 l1 r1=>
     cases ry with
     | tup h2 l2 r2=>
      have e:=I.tuple_inj (by rw[<-hG];exact h1) (by rw[<-hG];exact h2);subst e;exact items h ⟨l1,r1⟩ ⟨l2,r2⟩
   ·cases h
  ·exact flat h rx ry
theorem Jc {A:z0a}{ds es:List D}{b:Bool}{jts:List z00}(ih:∀ {x y:D}{v w:V}{u1 u2:z00}{b:Bool},eqK n x y=some b->Rep G H v x->Rep G H w y->RelV v u1->RelV w u2->z2m A s u1 u2 b)
  (h:allO (eqK n) ds es=some b) (r1:RepL G H xs ds) (r2:RepL G H ys es) (v1:Vals xs its) (v2:Vals ys jts) :
  its.toArray.size=jts.toArray.size/\b=(z0e its.toArray.size).all (eAt (eqK n) ds es)/\∀ j (h1:j<its.toArray.size) (h2:j<jts.toArray.size),z2m A s its.toArray[j] jts.toArray[j] (eAt (eqK n) ds es j):=by
 obtain⟨h1,h2,h3⟩:=Pa h;have l1:=v1.length;have l2:=v2.length;have q1:=r1.1;have q2:=r2.1;have z1:its.toArray.size=ds.length:=by rw[z0r];omega
 refine⟨by rw[z0r,z0r];omega,by rw[z1];exact h3,λ j j1 j2=>?_⟩;rw[z0r] at j1 j2;have jx:j<xs.length:=by omega
 have jy:j<ys.length:=by omega
 have hx:xs[j]?=some xs[j]:=by simp[jx]
 have hy:ys[j]?=some ys[j]:=by simp[jy]
 have hd:ds[j]?=some (ds[j]'(by omega)):=z0C (by omega);have he:es[j]?=some (es[j]'(by omega)):=z0C (by omega);obtain⟨u,eu,ru⟩:=v1.get hx;obtain⟨w,ew,rw'⟩:=v2.get hy;have a1:its.toArray[j]=u:=by simpa [z0C j1] using eu
 have a2:jts.toArray[j]=w:=by simpa [z0C j2] using ew
 rw[a1,a2];exact ih (h2 j _ _ hd he) (r1.2 j _ _ hx hd) (r2.2 j _ _ hy he) ru rw'
theorem Uw {ds es:List D}{jts:List z00}(h:ds.length≠es.length) (r1:RepL G H xs ds) (r2:RepL G H ys es) (v1:Vals xs its) (v2:Vals ys jts):(its.toArray.size != jts.toArray.size)=true:=by
 have l1:=v1.length;have l2:=v2.length;have q1:=r1.1;have q2:=r2.1;rw[z0r,z0r];exact bne_iff_ne.mpr (by omega)
theorem Rb (I:Inv X π σ H s) (hG:G.K=X.K):∀ (n:Nat) (A:z0a),A.units+n<z0h->∀ {x y:D}{v w:V}{u1 u2:z00}{b:Bool},eqK n x y=some b->Rep G H v x->Rep G H w y->RelV v u1->RelV w u2->z2m A s u1 u2 b:=by
 have flat:∀ {A:z0a}{x y:D}{v w:V}{u1 u2:z00}{b:Bool},flD x y=some b->Rep G H v x->Rep G H w y->RelV v u1->RelV w u2->z2m A s u1 u2 b:=λ {A x y v w u1 u2 b} h rx ry q1 q2=>by
  unfold flD at h;cases e1:flV x with
  | none=>simp[e1] at h
  | some u=>
   cases e2:flV y with
   | none=>simp[e1,e2] at h
   | some w=>
    simp[e1,e2] at h;obtain⟨z1,z2⟩:=Qw rx e1;obtain⟨z3,z4⟩:=Qw ry e2;rw[<-h,<-z1,<-z3];exact eE q1 q2 z2 z4
 intro n
 induction n with
 | zero=>intro A hu x y v w u1 u2 b h rx ry q1 q2;exact flat h rx ry q1 q2
 | succ n ih=>
  intro A hu x y v w u1 u2 b h rx ry q1 q2;have h':=h;have hu1:A.in1.units+n<z0h:=by show A.units+1+n<z0h;omega
  have hu0:A.units<z0h:=by omega
  unfold eqK eqS at h;split at h
  ·cases rx with
   | @lst a _ _ h1 l1 r1=>
    cases ry with
    | @lst c _ _ h2 l2 r2=>
     obtain rfl:u1=.ref a:=q1;obtain rfl:u2=.ref c:=q2;obtain⟨its,v1,p1,_⟩:=I.list (by rw[<-hG];exact h1);obtain⟨jts,v2,p2,_⟩:=I.list (by rw[<-hG];exact h2)
     by_cases hac:a=c
     ·subst hac;have:=WP I hG (n+1) h' (.lst h1 l1 r1) (.lst h2 l2 r2);subst this;exact z6D _
     ·split at h
      ·obtain⟨z1,z2,z3⟩:=Jc (λ q=>ih A.in1 hu1 q) h ⟨l1,r1⟩ ⟨l2,r2⟩ v1 v2;rw[z2];exact z6L hac (z8A p1.isList p2.isList z1 hu0 z3)
      ·rename_i hne;cases h;exact z6L hac (z8B p1.isList p2.isList (Uw hne ⟨l1,r1⟩ ⟨l2,r2⟩ v1 v2) hu0)
  ·cases rx with
   | @tup a _ _ h1 l1 r1=>
    cases ry with
    | @tup c _ _ h2 l2 r2=>
     obtain rfl:u1=.ref a:=q1;obtain rfl:u2=.ref c:=q2;obtain⟨its,v1,p1,_⟩:=I.tuple (by rw[<-hG];exact h1);obtain⟨jts,v2,p2,_⟩:=I.tuple (by rw[<-hG];exact h2)
     by_cases hac:a=c
     ·subst hac;have:=WP I hG (n+1) h' (.tup h1 l1 r1) (.tup h2 l2 r2);subst this;exact z6D _
     ·split at h
      ·obtain⟨z1,z2,z3⟩:=Jc (λ q=>ih A.in1 hu1 q) h ⟨l1,r1⟩ ⟨l2,r2⟩ v1 v2;have q:=z8C (show s.heap.IsTuple a its.toArray from p1) (show s.heap.IsTuple c jts.toArray from p2) hu0 z3;rw[z1,z6M,beq_self_eq_true,z6N,<-z1,<-z2] at q;exact z6L hac q
      ·cases h
  ·exact flat h rx ry q1 q2
end
def rEqP (G:Gx) (neg:Bool):R2:=λ x y H Q=>∃ (A:List Addr) (ds es:List D) (b:Bool),eqvD (.lst ds) (.lst es)=some b/\((RepT G A H x (.lst ds)/\RepT G A H y (.lst es))∨(ds.length=es.length/\RepT G A H x (.tup ds)/\RepT G A H y (.tup es)))/\Q (.bl (if neg then !b else b)) H
theorem vB (hG:G.K=X.K) (hu:X.A.units+190<z0h):OpR X (z0B .Eq) (rEqP G false):=by
 intro π s σ H x y v u Q I rx ry h;obtain⟨A,ds,es,b,e,hr,k⟩:=h;have fin:EP X π σ Q (.bool b) s:=⟨.bl b,H,I,rfl,k⟩;simp only[eqvD] at e
 rcases hr with ⟨r1,r2⟩ | ⟨hl,r1,r2⟩
 ·obtain⟨a,xs,rfl,h1,q1⟩:=r1.lst;obtain⟨c,ys,rfl,h2,q2⟩:=r2.lst;cases rx;cases ry;obtain⟨its,v1,p1,_⟩:=I.list (by rw[<-hG];exact h1);obtain⟨jts,v2,p2,_⟩:=I.list (by rw[<-hG];exact h2);split at e
  ·obtain⟨z1,z2,z3⟩:=Jc (λ q=>Rb I hG 180 X.A.in1 (by show X.A.units+1+180<z0h;omega) q) e (q1.mono Ar) (q2.mono Ar) v1 v2;exact z8A p1.isList p2.isList z1 (by omega) z3 _ _ _ _ (by rw[<-z2];exact fin)
  ·rename_i hne;cases e;exact z8B p1.isList p2.isList (Uw hne q1 q2 v1 v2) (by omega) _ _ _ _ fin
 ·obtain⟨a,xs,rfl,h1,q1⟩:=r1.tup;obtain⟨c,ys,rfl,h2,q2⟩:=r2.tup;cases rx;cases ry;obtain⟨its,v1,p1,_⟩:=I.tuple (by rw[<-hG];exact h1);obtain⟨jts,v2,p2,_⟩:=I.tuple (by rw[<-hG];exact h2);rw[if_pos hl] at e;obtain⟨z1,z2,z3⟩:=Jc (λ q=>Rb I hG 180 X.A.in1 (by show X.A.units+1+180<z0h;omega) q) e (q1.mono Ar) (q2.mono Ar) v1 v2;have q:=z8C (show s.heap.IsTuple a its.toArray from p1) (show s.heap.IsTuple c jts.toArray from p2) (by omega) z3;rw[z1,z6M,beq_self_eq_true,z6N,<-z1,<-z2] at q;exact q _ _ _ _ fin
theorem vC (hG:G.K=X.K) (hu:X.A.units+190<z0h):OpR X (z0B .NotEq) (rEqP G true):=by
 intro π s σ H x y v u Q I rx ry h;obtain⟨A,ds,es,b,e,hr,k⟩:=h;have fin:EP X π σ Q (.bool (!b)) s:=⟨.bl (!b),H,I,rfl,k⟩;simp only[eqvD] at e
 rcases hr with ⟨r1,r2⟩ | ⟨hl,r1,r2⟩
 ·obtain⟨a,xs,rfl,h1,q1⟩:=r1.lst;obtain⟨c,ys,rfl,h2,q2⟩:=r2.lst;cases rx;cases ry;obtain⟨its,v1,p1,_⟩:=I.list (by rw[<-hG];exact h1);obtain⟨jts,v2,p2,_⟩:=I.list (by rw[<-hG];exact h2);split at e
  ·obtain⟨z1,z2,z3⟩:=Jc (λ q=>Rb I hG 180 X.A.in1 (by show X.A.units+1+180<z0h;omega) q) e (q1.mono Ar) (q2.mono Ar) v1 v2;exact SeqAt.RcNeAt.lists p1.isList p2.isList z1 (by omega) z3 _ _ _ _ (by rw[<-z2];exact fin)
  ·rename_i hne;cases e;exact SeqAt.RcNeAt.lists_lengths p1.isList p2.isList (Uw hne q1 q2 v1 v2) (by omega) _ _ _ _ fin
 ·obtain⟨a,xs,rfl,h1,q1⟩:=r1.tup;obtain⟨c,ys,rfl,h2,q2⟩:=r2.tup;cases rx;cases ry;obtain⟨its,v1,p1,_⟩:=I.tuple (by rw[<-hG];exact h1);obtain⟨jts,v2,p2,_⟩:=I.tuple (by rw[<-hG];exact h2);rw[if_pos hl] at e;obtain⟨z1,z2,z3⟩:=Jc (λ q=>Rb I hG 180 X.A.in1 (by show X.A.units+1+180<z0h;omega) q) e (q1.mono Ar) (q2.mono Ar) v1 v2;have q:=SeqAt.RcNeAt.tuples (show s.heap.IsTuple a its.toArray from p1) (show s.heap.IsTuple c jts.toArray from p2) (by omega) z3;rw[z1,z6M,beq_self_eq_true,z6N,<-z1,<-z2] at q;exact q _ _ _ _ fin
def rEqA (G:Gx) (neg:Bool):R2:=λ x y H Q=>(λ x y H Q=>scal x y=true/\Q (.bl (if neg then !decide (x=y) else decide (x=y))) H) x y H Q∨rEqP G neg x y H Q
theorem fQ (hG:G.K=X.K) (hu:X.A.units+190<z0h):OpR X (z0B .Eq) (rEqA G false):=xH.or (vB hG hu)
theorem vD (hG:G.K=X.K) (hu:X.A.units+190<z0h):OpR X (z0B .NotEq) (rEqA G true):=xJ.or (vC hG hu)
theorem Ux {α β:Type} [DecidableEq α] [DecidableEq β] {f:α->β}(h:∀ a b,f a=f b->a=b) (a b:α):decide (f a=f b)=decide (a=b):=by
 by_cases e:a=b
 ·subst e;simp
 ·rw[decide_eq_false e,decide_eq_false λ z=>e (h a b z)]
theorem Xy (neg:Bool):Dk G (rEqA G neg) (eqD neg):=by
 intro A H x y dx dy d Q lv rx ry h k;unfold eqD at h;cases e:eqvD dx dy with
 | none=>simp[e] at h
 | some b=>
  simp only[e,z1z] at h;cases h;unfold eqvD at e;split at e
  ·cases e;rw[rx.int,ry.int];refine .inl ⟨rfl,?_⟩;rw[Ux (f:=V.int) (λ a b z=>by cases z;rfl)];exact k _ H .(21) (.bl _)
  ·cases e;rw[rx.str,ry.str];refine .inl ⟨rfl,?_⟩;rw[Ux (f:=V.str) (λ a b z=>by cases z;rfl)];exact k _ H .(21) (.bl _)
  ·cases e;rw[rx.bl,ry.bl];refine .inl ⟨rfl,?_⟩;rw[Ux (f:=V.bl) (λ a b z=>by cases z;rfl)];exact k _ H .(21) (.bl _)
  ·exact .inr ⟨A,_,_,b,e,.inl ⟨rx,ry⟩,k _ H .(21) (.bl _)⟩
  ·split at e
   ·rename_i hl;exact .inr ⟨A,_,_,b,(by simp only[eqvD];rw[if_pos hl];exact e),.inr ⟨hl,rx,ry⟩,k _ H .(21) (.bl _)⟩
   ·cases e
  ·cases e
def SndC (G:Gx) (r:List V->Hp->VK->Prop) (g:D->Option D):Prop:=∀ (A:List Addr) (H:Hp) (x:V) (dx d:D) (Q:VK),(∀ a∈A,Nt (H a))->RepT G A H x dx->g dx=some d->(∀ v H',Same H H'->Rep G (hid A H') v d->Q v H')->r [x] H Q
def ZD (G:Gx) (r:List V->Hp->VK->Prop) (g:D->D->Option D):Prop:=∀ (A:List Addr) (H:Hp) (x y:V) (dx dy d:D) (Q:VK),(∀ a∈A,Nt (H a))->RepT G A H x dx->RepT G A H y dy->g dx dy=some d->(∀ v H',Same H H'->Rep G (hid A H') v d->Q v H')->r [x,y] H Q
theorem Gw {g:D->Option D}{ρ:Rho}{d:D}(h:uF g fa ρ=some d):∃ x,fa ρ=some x/\g x=some d:=by
 unfold uF at h;cases e:fa ρ with
 | none=>simp[e] at h
 | some x=>exact⟨x,rfl,by simpa [e] using h⟩
theorem fU {g:D->Option D}(s:SndC G r g) {A:List Addr}{σ:St}{H:Hp}{Q:VK}(h:tF G A (uF g fa) σ H Q):tCB r (V5 (tT G A fa) tNil) σ H Q:=by
 obtain⟨ρ,d,o,e,k⟩:=h;obtain⟨x,e1,e2⟩:=Gw e;exact⟨ρ,x,o,e1,λ v H1 s1 r1=>s A H1 v x d Q (o.mono s1).live r1 e2 λ w H2 s2 r2=>k w H2 (s1.trans s2) r2⟩
theorem oH {g:D->D->Option D}(s:ZD G r g) {A:List Addr}{σ:St}{H:Hp}{Q:VK}(h:tF G A (bF g fa fb) σ H Q):tCB r (V5 (tT G A fa) (V5 (tT G A fb) tNil)) σ H Q:=by
 obtain⟨ρ,d,o,e,k⟩:=h;obtain⟨x,y,e1,e2,e3⟩:=Np e;exact⟨ρ,x,o,e1,λ v H1 s1 r1=>⟨ρ,y,o.mono s1,e2,λ u H2 s2 r2=>s A H2 v u x y d Q ((o.mono s1).mono s2).live (r1.mono s2) r2 e3 λ w H3 s3 r3=>k w H3 (s1.trans (s2.trans s3)) r3⟩⟩
theorem BJ {p:Pos}{id:String}{g:D->Option D}(hc:Cv X (.builtin id) r) (s:SndC G r g) (hg:Gl X x) (hm:X.mg x=none) (hv:z0x x=some (.builtin id)) (ha:PU X G a fa)
  (hn:x≠"__name__":=by decide) (hdb:.(3)=false:=by decide) (he:z09 [a] X.env=[.(7)]:=by rfl):PF X G (.Call (.Name x p) [a] [] pos) (uF g fa):=
 λ A=>Bu (Km hc hg hm hv (Bo (@ha A) Cw he) hn hdb he rfl) λ _ _ _ h=>fU s h
theorem Kr {p:Pos}{id:String}{g:D->D->Option D}(hc:Cv X (.builtin id) r) (s:ZD G r g) (hg:Gl X x) (hm:X.mg x=none) (hv:z0x x=some (.builtin id)) (ha:PU X G a fa) (hb:PU X G b fb)
  (hn:x≠"__name__":=by decide) (hdb:.(3)=false:=by decide) (he:z09 [a,b] X.env=.(7)::z09 [b] X.env:=by rfl) (he2:z09 [b] X.env=[(false,eval b X.env)]:=by rfl):PF X G (.Call (.Name x p) [a,b] [] pos) (bF g fa fb):=
 λ A=>Bu (Km hc hg hm hv (Bo (@ha A) (Bo (@hb A) Cw he2) he) hn hdb he (by rw[he2];rfl)) λ _ _ _ h=>oH s h
theorem Lj {p:Pos}{T:String}{g:D->Option D}(hc:Cv X (.type T) r) (s:SndC G r g) (hg:Gl X x) (hm:X.mg x=none) (hv:z0x x=some (.type T)) (ha:PU X G a fa)
  (hn:x≠"__name__":=by decide) (hdb:.(3)=false:=by decide) (he:z09 [a] X.env=[.(7)]:=by rfl):PF X G (.Call (.Name x p) [a] [] pos) (uF g fa):=
 λ A=>Bu (Gm hc hg hm hv (Bo (@ha A) Cw he) hn hdb he rfl) λ _ _ _ h=>fU s h
theorem Qx:SndC G (λ xs H Q=>∃ x n,xs=[x]/\LenV G.K x H n/\Q (.int n) H) lenD:=by
 intro A H x dx d Q lv rx h k;unfold lenD at h;split at h
 ·split at h
  ·rename_i hz;cases h;rw[rx.str];exact⟨_,_,rfl,⟨hz,rfl⟩,k _ H .(21) (.int _)⟩
  ·cases h
 ·cases h;obtain⟨p,xs,rfl,h1,r⟩:=rx.lst;exact⟨_,_,rfl,.inl ⟨xs,h1,rfl⟩,by rw[r.1];exact k _ H .(21) (.int _)⟩
 ·cases h;obtain⟨p,xs,rfl,h1,r⟩:=rx.tup;exact⟨_,_,rfl,.inr ⟨xs,h1,rfl⟩,by rw[r.1];exact k _ H .(21) (.int _)⟩
 ·cases h
theorem BZ (hG:G.K=X.K):Cv X (.builtin "len") (λ xs H Q=>∃ x n,xs=[x]/\LenV G.K x H n/\Q (.int n) H):=by rw[hG];exact dZ
theorem Rc:ZD G (λ xs H Q=>∃ i j,xs=[.int i,.int j]/\Q (.int (if j > i then j else i)) H) maxD:=by
 intro A H x y dx dy d Q lv rx ry h k;obtain⟨i,j,rfl,rfl,h⟩:=Nq h;cases h;exact⟨i,j,by rw[rx.int,ry.int],k _ H .(21) (.int _)⟩
theorem WQ:ZD G (λ xs H Q=>∃ i j,xs=[.int i,.int j]/\Q (.int (if j<i then j else i)) H) minD:=by
 intro A H x y dx dy d Q lv rx ry h k;obtain⟨i,j,rfl,rfl,h⟩:=Nq h;cases h;exact⟨i,j,by rw[rx.int,ry.int],k _ H .(21) (.int _)⟩
theorem fV:SndC G (λ xs H Q=>∃ p ys,xs=[.ref p]/\(SqL G.K H p ys∨SqT G.K H p ys)/\∀ l,H l=none->Q (.ref l) (upd H l (.lst ys))) fC:=by
 intro A H x dx d Q lv rx h k;unfold fC at h;split at h
 ·cases h;obtain⟨p,xs,rfl,h1,r⟩:=rx.lst;exact⟨p,xs,rfl,.inl h1,λ l hl=>k _ _ (Al hl _) (DY lv hl r)⟩
 ·cases h;obtain⟨p,xs,rfl,h1,r⟩:=rx.tup;exact⟨p,xs,rfl,.inr h1,λ l hl=>k _ _ (Al hl _) (DY lv hl r)⟩
 ·cases h
end
def sJ (G:Gx) (F2 H H':Hp) (x:V) (d:D):Prop:=Same H H'/\∀ B:List Addr,(∀ a∈B,Nt (H a))->Same F2 (hid B H)->Rep G (hid B H') x d
theorem Rf {G:Gx}{x:V}{d:D}(h:H'=H/\Rep G F2 x d):sJ G F2 H H' x d:=by
 obtain⟨rfl,r⟩:=h;exact⟨Same.refl _,λ B _ sm=>r.mono sm⟩
structure Src (G:Gx) (J:It) (ds:List D) (F1 F2:Hp):Prop where
 go:∀ i H,Same F1 H->i<ds.length->J.go i H
 yld:∀ i H x H' d,Same F1 H->ds[i]?=some d->J.yld i H x H'->sJ G F2 H H' x d
 stop:∀ i H,Same F1 H->ds.length<=i->J.stop i H
def tI (G:Gx) (A:List Addr) (top:Bool) (f:FI):TI:=λ σ H R=>∃ ρ ds,Okp G A σ H ρ/\f ρ=some ds/\∀ J H1,Same H H1->Src G J ds (if top then H1 else hid A H1) (hid A H1)->R J H1
def PFI (X:Cx) (G:Gx) (top:Bool) (tg e:Expr) (f:FI):Prop:=∀ ⦃A⦄,PI X tg e (tI G A top f)
theorem Nr {t t':TI}(h:PI X tg e t) (w:∀ σ H Q,t' σ H Q->t σ H Q):PI X tg e t':=λ π s σ H Q I q=>h π s σ H Q I (w σ H Q q)
theorem piOr {t t':TI}(h:PI X tg e t) (h':PI X tg e t'):PI X tg e (λ σ H R=>t σ H R∨t' σ H R):=λ π s σ H Q I q=>by
 rcases q with q | q
 ·exact h π s σ H Q I q
 ·exact h' π s σ H Q I q
section
variable {G:Gx}{a b c:Expr}{fa fb fc:FE}
theorem oJ {ds:List D}(h:SqT G.K F1 p xs) (r:RepL G F2 xs ds):Src G (Itt G.K p) ds F1 F2 where
 go:=λ i H s hi=>⟨xs,xs[i]'(by rw[r.1];exact hi),Dj s h,by simp[r.1,hi]⟩
 yld:=λ i H x H' d s hd y=>Rf ⟨y.1,r.2 i x d (y.2 xs (Dj s h)) hd⟩
 stop:=λ i H s hi=>⟨xs,Dj s h,by rw[r.1];exact hi⟩
theorem oK (hG:G.K=X.K) (h:PF X G a fa):PFI X G false tg a (seqI fa):=λ A=>Nr (piOr (m8 (@h A)) (uc (@h A))) λ σ H R ⟨ρ,ds,o,e,k⟩=>by
 unfold seqI at e;split at e
 ·rename_i ds' e1;cases e;refine .inl ⟨ρ,_,o,e1,λ v H1 s1 r1=>?_⟩;cases r1 with
  | lst h l r=>exact⟨_,rfl,⟨_,by rw[<-hG];exact Ar.seq h⟩,by rw[<-hG];exact k _ H1 s1 { go:=λ i H s hi=>⟨_,_,s.seq h,by simp[l,hi];rfl⟩,yld:=λ i H x H' d s hd y=>Rf ⟨y.1,r i x d (y.2 _ (s.seq h)) hd⟩,stop:=λ i H s hi=>⟨_,s.seq h,by rw[l];exact hi⟩ }⟩
 ·rename_i ds' e1;cases e;refine .inr ⟨ρ,_,o,e1,λ v H1 s1 r1=>?_⟩;cases r1 with
  | tup h l r=>exact⟨_,rfl,⟨_,by rw[<-hG];exact Dj Ar h⟩,by rw[<-hG];exact k _ H1 s1 (oJ h ⟨l,r⟩)⟩
 ·cases e
theorem fW {d:D}(h:(rngD n)[i]?=some d):d=.int i:=by
 unfold rngD at h;rw[z0o] at h;cases e:(z0e n)[i]? with
 | none=>rw[e] at h;cases h
 | some j=>
  rw[e] at h;have:=(z1s.mp e);obtain⟨hi,ej⟩:=this;rw[List.getElem_range] at ej;subst ej;exact (z0t h).symm
theorem oN:Src G (Itr 0 n) (rngD n) F1 F2 where
 go:=λ i H s hi=>by unfold rngD at hi;show i<n;simpa using hi
 yld:=λ i H x H' d s hd y=>by
  obtain⟨y1,y2⟩:=y;rw[fW hd,y2,Int.zero_add];exact Rf ⟨y1,.int _⟩
 stop:=λ i H s hi=>by unfold rngD at hi;show n<=i;simpa using hi
theorem Hk {top:Bool}{p:Pos}(hg:Gl X "range") (hm:X.mg "range"=none) (h:PU X G a fa) (hs:z09 [a] X.env=[.(7)]:=by rfl):PFI X G top tg (.Call (.Name "range" p) [a] [] pos) (rngI fa):=λ A=>Nr (bH hg hm (Bo (@h A) Cw hs) hs) λ σ H R ⟨ρ,ds,o,e,k⟩=>by
 unfold rngI at e;split at e
 ·rename_i j e1;split at e
  ·rename_i hj;cases e;exact⟨ρ,_,o,e1,λ v H1 s1 r1=>⟨j,by rw[r1.int],hj.1,hj.2,k _ H1 s1 oN⟩⟩
  ·cases e
 ·cases e
end
structure OkW (G:Gx) (A0:List Addr) (He:Hp) (A:List Addr) (σ:St) (H:Hp) (ρ:Rho):Prop where
 same:Same He H
 sub:∀ a∈A0,a∈A
 fr:∀ a∈A,a∈A0∨He a=none
 l0:∀ a∈A0,He a≠none
 ok:Okp G A σ H ρ
 ow0:∀ (i:Nat) (d:D) (a:Addr),ρ[i]?=some (.ow d)->σ[i]?=some (some (.ref a))->a∉A0
 lt:∀ (x:Addr) (d:D),G.lent=some x->ρ[0]?=some (.ow d)->σ[0]?=some (some (.ref x))
def OkS (G:Gx) (A0:List Addr) (He:Hp) (σ:St) (H:Hp) (ρ:Rho):Prop:=∃ A,OkW G A0 He A σ H ρ
def Tv (G:Gx) (A0:List Addr) (He:Hp) (D:Ends):Out->Prop
 | .nx ρ=>∀ σ H,OkS G A0 He σ H ρ->D.nx σ H
 | .rt d ρ=>∀ v σ H A,OkW G A0 He A σ H ρ->Rep G (hid A H) v d->D.rt v H
 | .bk ρ=>∀ σ H,OkS G A0 He σ H ρ->D.bk σ H
 | .ct ρ=>∀ σ H,OkS G A0 He σ H ρ->D.ct σ H
def tS (G:Gx) (A0:List Addr) (He:Hp) (g:FS):TS:=λ D σ H=>∃ ρ o,OkS G A0 He σ H ρ/\g ρ=some o/\Tv G A0 He D o
def PSD (X:Cx) (G:Gx) (st:Stmt) (g:FS):Prop:=∀ ⦃A0⦄ He,PS X st (tS G A0 He g)
def PSDs (X:Cx) (G:Gx) (st:List Stmt) (g:FS):Prop:=∀ ⦃A0⦄ He,PSs X st (tS G A0 He g)
theorem Okp.set {G:Gx}{A:List Addr}{σ:St}{H:Hp}{ρ:Rho}{v:V}{d:D}(o:Okp G A σ H ρ) (r:Rep G (hid A H) v d) (i:Nat):Okp G A (σ.set i (some v)) H (ρ.set i (.fz d)):=by
 have key:∀ (j:Nat) (z:Slot),(ρ.set i (.fz d))[j]?=some z->(j=i/\z=.fz d/\i<ρ.length)∨(j≠i/\ρ[j]?=some z):=λ j z h=>by
  by_cases hj:j=i
  ·subst hj
   by_cases hl:j<ρ.length
   ·rw[z2j hl] at h;exact .inl ⟨rfl,(z0t h).symm,hl⟩
   ·rw[z2Q (by simpa using z1Z.mp hl)] at h;cases h
  ·rw[z1m (z0n hj)] at h;exact .inr ⟨hj,h⟩
 have keyS:∀ (j:Nat),j≠i->(σ.set i (some v))[j]?=σ[j]?:=λ j hj=>z1m (z0n hj);refine⟨by rw[z3S,z3S];exact o.len,o.live,λ j e h=>?_,λ j e h=>?_,λ j k e f p h1 h2 h3 h4=>?_⟩
 ·rcases key j _ h with ⟨hj,hz,hl⟩ | ⟨hj,hz⟩
  ·cases hz;subst hj;exact⟨v,by rw[z2j (by rw[o.len];exact hl)],r⟩
  ·obtain⟨u,q1,q2⟩:=o.fz j e hz;exact⟨u,by rw[keyS j hj];exact q1,q2⟩
 ·rcases key j _ h with ⟨hj,hz,hl⟩ | ⟨hj,hz⟩
  ·cases hz
  ·obtain⟨u,q1,q2⟩:=o.ow j e hz;exact⟨u,by rw[keyS j hj];exact q1,q2⟩
 ·rcases key j _ h1 with ⟨_,hz,_⟩ | ⟨hj,hz⟩
  ·cases hz
  ·rcases key k _ h2 with ⟨_,hz',_⟩ | ⟨hk,hz'⟩
   ·cases hz'
   ·rw[keyS j hj] at h3;rw[keyS k hk] at h4;exact o.inj j k e f p hz hz' h3 h4
theorem OkW.mono {G:Gx}{A0:List Addr}{He:Hp}{A:List Addr}{σ:St}{H H':Hp}{ρ:Rho}(o:OkW G A0 He A σ H ρ) (s:Same H H'):OkW G A0 He A σ H' ρ:=⟨o.same.trans s,o.sub,o.fr,o.l0,o.ok.mono s,o.ow0,o.lt⟩
theorem OkW.set {G:Gx}{A0:List Addr}{He:Hp}{A:List Addr}{σ:St}{H:Hp}{ρ:Rho}{v:V}{d:D}(o:OkW G A0 He A σ H ρ) (r:Rep G (hid A H) v d) (i:Nat):OkW G A0 He A (σ.set i (some v)) H (ρ.set i (.fz d)):=⟨o.same,o.sub,o.fr,o.l0,o.ok.set r i,λ j e a h1 h2=>by
  have hj:j≠i:=by
   intro z;subst z
   by_cases hl:j<ρ.length
   ·rw[z2j hl] at h1;cases h1
   ·rw[z2Q (by simpa using z1Z.mp hl)] at h1;cases h1
  rw[z1m (z0n hj)] at h1 h2;exact o.ow0 j e a h1 h2,λ x e hx h0=>by
  by_cases hi:i=0
  ·subst hi;cases ρ with
   | nil=>cases h0
   | cons a r=>cases h0
  ·rw[z1m hi] at h0 ⊢;exact o.lt x e hx h0⟩
theorem OkW.base {G:Gx}{Hf:Hp}{ρ:Rho}(o:OkW G A0 Hf A σ H ρ) (s:Same He Hf) (l0:∀ a∈A0,He a≠none):OkW G A0 He A σ H ρ:=
 ⟨s.trans o.same,o.sub,λ a ha=>(o.fr a ha).imp id λ z=>s.free z,l0,o.ok,o.ow0,o.lt⟩
theorem OkW.here {G:Gx}{ρ:Rho}(o:OkW G A0 He A σ H ρ):Same He (hid (A.filter λ a=>decide (a∉A0)) H)/\OkW G A0 (hid (A.filter λ a=>decide (a∉A0)) H) A σ H ρ:=by
 have hb:∀ b,b∈(A.filter λ a=>decide (a∉A0))↔b∈A/\b∉A0:=λ b=>by simp[z2r]
 have s1:Same He (hid (A.filter λ a=>decide (a∉A0)) H):=λ b u h=>by
  rw[CJ]
  ·exact o.same b u h
  ·intro z;obtain⟨z1,z2⟩:=(hb b).mp z
   rcases o.fr b z1 with q | q
   ·exact z2 q
   ·rw[q] at h;cases h
 refine⟨s1,Ar,o.sub,λ a ha=>?_,λ a ha h=>?_,o.ok,o.ow0,o.lt⟩
 ·by_cases hz:a∈A0
  ·exact .inl hz
  ·right;unfold hid;rw[if_pos ((hb a).mpr ⟨ha,hz⟩)]
 ·rw[CJ (λ z=>((hb a).mp z).2 ha)] at h;exact (o.ok.live a (o.sub a ha)).ne h
theorem OkW.plain {G:Gx}{ρ:Rho}(sub:∀ a∈A0,a∈B) (o:OkW G A0 (hid (B.filter λ a=>decide (a∉A0)) H1) A σ H ρ):Same (hid B H1) (hid A H):=λ b u h=>by
 unfold hid at h;split at h
 ·cases h
 ·rename_i hb;have e:hid (B.filter λ a=>decide (a∉A0)) H1 b=some u:=by
   rw[CJ (λ z=>hb (z2r.mp z).1)];exact h
  rw[CJ]
  ·exact o.same b u e
  ·intro z
   rcases o.fr b z with q | q
   ·exact hb (sub b q)
   ·rw[q] at e;cases e
section
variable {G:Gx}{a b c:Expr}{fa fb fc:FE}{ga:FT}{rest:List Stmt}{g gs gb:FS}
theorem Bc:PSDs X G [] nxF:=λ A0 He π s σ H D I ⟨ρ,o,ok,e,k⟩=>by
 cases e;exact Lh π s σ H D I (k σ H ok)
theorem Ad (h1:PSD X G st g) (h2:PSDs X G rest gs):PSDs X G (st::rest) (seqF g gs):=λ A0 He π s σ H D I ⟨ρ,o,ok,e,k⟩=>by
 refine RJ (@h1 A0 He) (@h2 A0 He) π s σ H D I ?_;unfold seqF at e;split at e
 ·rename_i ρ' e1;exact⟨ρ,_,ok,e1,λ σ' H' ok'=>⟨ρ',o,ok',e,k⟩⟩
 ·rename_i hno;refine⟨ρ,o,ok,e,?_⟩;cases o with
  | nx ρ'=>exact absurd e (hno ρ')
  | rt d ρ'=>exact k
  | bk ρ'=>exact k
  | ct ρ'=>exact k
theorem Af (h1:PSD X G st g):PSDs X G [st] g:=λ A0 He=>Yr (@h1 A0 He)
theorem Bv {s1 s2:List Stmt}(ht:PFT X G c ga) (h1:PSDs X G s1 g) (h2:PSDs X G s2 gs):PSD X G (.If c s1 s2 pos) (ifS ga g gs):=λ A0 He π s σ H D I ⟨ρ,o,⟨A,w⟩,e,k⟩=>by
 refine rP (@ht A) (@h1 A0 He) (@h2 A0 He) π s σ H D I ?_;unfold ifS at e;split at e
 ·rename_i e1;exact⟨ρ,_,w.ok,e1,λ H1 s1=>iteT ⟨ρ,o,⟨A,w.mono s1⟩,e,k⟩⟩
 ·rename_i e1;exact⟨ρ,_,w.ok,e1,λ H1 s1=>iteF ⟨ρ,o,⟨A,w.mono s1⟩,e,k⟩⟩
 ·cases e
theorem vG {ρ:Rho}{o:Out}{D:Ends}(w:OkW G A0 He A σ H ρ) (e:setF i fa ρ=some o) (k:Tv G A0 He D o):tAsg (tF G A fa) (Hd i) D σ H:=by
 unfold setF at e;cases e1:fa ρ with
 | none=>simp[e1] at e
 | some d=>
  simp only[e1,z1z] at e;cases e;exact⟨ρ,d,w.ok,e1,λ v H1 s1 r1=>k _ _ ⟨A,(w.mono s1).set r1 i⟩⟩
theorem oO {p:Pos}(h:∀ te,PE X a te->PS X (.Assign [.Name x p] a pos) (tAsg te (Hd i))) (ha:PF X G a fa):PSD X G (.Assign [.Name x p] a pos) (setF i fa):=λ A0 He π s σ H D I ⟨ρ,o,⟨A,w⟩,e,k⟩=>
 h _ (@ha A) π s σ H D I (vG w e k)
theorem Ah (ha:PF X G a fa):PSD X G (.Return (some a) pos) (retF fa):=λ A0 He π s σ H D I ⟨ρ,o,⟨A,w⟩,e,k⟩=>by
 refine uX (@ha A) π s σ H D I ?_;unfold retF at e;cases e1:fa ρ with
 | none=>simp[e1] at e
 | some d=>
  simp only[e1,z1z] at e;cases e;exact⟨ρ,d,w.ok,e1,λ v H1 s1 r1=>k v σ H1 A (w.mono s1) r1⟩
theorem Cz (ha:PF X G a fa) (hs:z1o a none pos.line X.env=pure false:=by rfl):PSD X G (.Expr a pos) (Er fa):=λ A0 He π s σ H D I ⟨ρ,o,⟨A,w⟩,e,k⟩=>by
 refine Ys (@ha A) hs π s σ H D I ?_;unfold Er at e;cases e1:fa ρ with
 | none=>simp[e1] at e
 | some d=>
  simp only[e1,z1z] at e;cases e;exact⟨ρ,d,w.ok,e1,λ v H1 s1 r1=>k _ _ ⟨A,w.mono s1⟩⟩
theorem Jd:PSD X G st badF:=λ A0 He π s σ H D I ⟨ρ,o,ok,e,k⟩=>by cases e
def tGD (G:Gx) (A0:List Addr) (He:Hp) (g:FG):TG:=λ v σ H Q=>∃ A ρ d ρ',OkW G A0 He A σ H ρ/\Rep G (hid A H) v d/\g d ρ=some ρ'/\∀ σ' H',OkS G A0 He σ' H' ρ'->Q σ' H'
def PGD (X:Cx) (G:Gx) (tg:Expr) (g:FG):Prop:=∀ ⦃A0⦄ He,PG X tg (tGD G A0 He g)
theorem C_ (h:PG X tg (Hd i)):PGD X G tg (Cr i):=λ A0 He π s σ H v u Q I r ⟨A,ρ,d,ρ',w,rv,e,k⟩=>by
 cases e;exact h π s σ H v u Q I r (k _ _ ⟨A,w.set rv i⟩)
theorem Tv.base {A0:List Addr}{He Hf:Hp}{D:Ends}{o:Out}(k:Tv G A0 He D o) (s:Same He Hf) (l0:∀ a∈A0,He a≠none):Tv G A0 Hf D o:=by
 cases o with
 | nx ρ=>exact λ σ H ⟨A,w⟩=>k σ H ⟨A,w.base s l0⟩
 | rt d ρ=>exact λ v σ H A w r=>k v σ H A (w.base s l0) r
 | bk ρ=>exact λ σ H ⟨A,w⟩=>k σ H ⟨A,w.base s l0⟩
 | ct ρ=>exact λ σ H ⟨A,w⟩=>k σ H ⟨A,w.base s l0⟩
theorem Df {it:Expr}{src:FI}{fg:FG}(hp:z49 .(0) X.A X.env X.xe) (hc:X.calm=true) (hi:PFI X G false tg it src) (hg:PGD X G tg fg) (hb:PSDs X G body gb)
  (hs:∀ x,z3b it X.env x=pure x:=by intro _;rfl):PSD X G (.For tg it body [] pos) (forS src fg gb):=λ A0 He π s σ H D I ⟨ρ,o,⟨A,w⟩,e,k⟩=>by
 cases e1:src ρ with
 | none=>simp[forS,e1] at e
 | some ds=>
  have e':forF (λ d ρ=>(fg d ρ).bind gb) ds ρ=some o:=by
   have e2:forF (tgB fg gb) ds ρ=some o:=by simpa [forS,e1] using e
   exact e2
  have hb':PSs X body (λ D σ H=>∃ A0 He,tS G A0 He gb D σ H):=λ π s σ H D I ⟨A0,He,q⟩=>@hb A0 He π s σ H D I q;have hg':PG X tg (λ v σ H Q=>∃ A0 He,tGD G A0 He fg v σ H Q):=λ π s σ H v u Q I r ⟨A0,He,q⟩=>@hg A0 He π s σ H v u Q I r q;refine dR hp hc (@hi A) hg' hb' hs π s σ H D I ⟨ρ,ds,w.ok,e1,λ J H1 s1 sr=>?_⟩;obtain⟨sHe,w2⟩:=(w.mono s1).here;have k2:=k.base sHe w.l0;generalize hHf:hid (A.filter λ a=>decide (a∉A0)) H1=Hf at sHe w2 k2;refine⟨λ i m σ' H'=>m=ds.length-i/\i<=ds.length/\∃ ρ',OkS G A0 Hf σ' H' ρ'/\forF (λ d ρ=>(fg d ρ).bind gb) (ds.drop i) ρ'=some o,⟨ds.length,by simp,z18 _,ρ,⟨A,w2⟩,by simpa using e'⟩,?_⟩;rintro i m σ3 H3 ⟨rfl,hil,ρ3,⟨B,w3⟩,e3⟩;have pl:Same (hid A H1) (hid B H3):=by rw[<-hHf] at w3;exact OkW.plain w.sub w3
  by_cases hlt:i<ds.length
  ·right;have hd:ds[i]?=some ds[i]:=by simp[hlt]
   have ed:ds.drop i=ds[i]::ds.drop (i+1):=z4q hlt;rw[ed] at e3;unfold forF at e3;refine⟨sr.go i H3 (pl.trans Ar) hlt,λ σ' H'=>∃ ρ',OkS G A0 Hf σ' H' ρ'/\forF (λ d ρ=>(fg d ρ).bind gb) (ds.drop (i+1)) ρ'=some o,λ σ' H' q=>⟨ds.length-(i+1),by omega,rfl,hlt,q⟩,λ x H' y=>?_⟩;obtain⟨sy,rx⟩:=sr.yld i H3 x H' _ (pl.trans Ar) hd y;refine⟨A0,Hf,B,ρ3,ds[i],?_⟩;cases e4:fg ds[i] ρ3 with
   | none=>simp[e4] at e3
   | some ρ4=>
    refine⟨ρ4,w3.mono sy,rx B w3.ok.live pl,rfl,λ σ5 H5 ok5=>⟨A0,Hf,ρ4,?_⟩⟩;cases e5:gb ρ4 with
    | none=>simp[e4,e5] at e3
    | some o5=>
     refine⟨o5,ok5,rfl,?_⟩;cases o5 with
     | nx ρ5=>
      simp only[e4,e5,z0J] at e3;exact λ σ' H' ok'=>⟨ρ5,ok',e3⟩
     | ct ρ5=>
      simp only[e4,e5,z0J] at e3;exact λ σ' H' ok'=>⟨ρ5,ok',e3⟩
     | bk ρ5=>
      simp only[e4,e5,z0J] at e3;cases e3;exact λ σ' H' ok'=>k2 σ' H' ok'
     | rt d5 ρ5=>
      simp only[e4,e5,z0J] at e3;cases e3;exact k2
  ·left;have ei:i=ds.length:=by omega
   subst ei;rw[z6O] at e3;cases e3;exact⟨sr.stop _ H3 (pl.trans Ar) (z07 _),k2 σ3 H3 ⟨B,w3⟩⟩
theorem bW (n:Nat) (hp:z49 .(0) X.A X.env X.xe) (ht:PFT X G c ga) (hb:PSDs X G body gb):PSD X G (.While c body [] pos) (Gn ga gb n):=λ A0 He π s σ H D I ⟨ρ,o,ok,e,k⟩=>by
 have ht':PT X c (λ σ H Q=>∃ A,tFT G A ga σ H Q):=λ π s σ H Q I ⟨A,q⟩=>@ht A π s σ H Q I q;refine dN hp ht' (@hb A0 He) π s σ H D I ⟨λ m σ' H'=>∃ ρ',OkS G A0 He σ' H' ρ'/\Gn ga gb m ρ'=some o,⟨n,ρ,ok,e⟩,?_⟩;rintro m σ1 H1 ⟨ρ1,⟨A,w1⟩,e1⟩;cases m with
 | zero=>cases e1
 | succ m=>
  unfold Gn at e1;cases e2:ga ρ1 with
  | none=>simp[e2] at e1
  | some t=>
   refine⟨A,ρ1,t,w1.ok,e2,λ H2 s2=>?_⟩;cases t with
   | false=>
    refine iteF ?_;simp only[e2] at e1;cases e1;exact k σ1 H2 ⟨A,w1.mono s2⟩
   | true=>
    refine iteT ⟨λ σ' H'=>∃ ρ',OkS G A0 He σ' H' ρ'/\Gn ga gb m ρ'=some o,λ σ' H' q=>⟨m,z4e m,q⟩,ρ1,?_⟩;simp only[e2] at e1;cases e3:gb ρ1 with
    | none=>simp[e3] at e1
    | some o3=>
     refine⟨o3,⟨A,w1.mono s2⟩,rfl,?_⟩;cases o3 with
     | nx ρ5=>simp only[e3] at e1;exact λ σ' H' ok'=>⟨ρ5,ok',e1⟩
     | ct ρ5=>simp only[e3] at e1;exact λ σ' H' ok'=>⟨ρ5,ok',e1⟩
     | bk ρ5=>simp only[e3] at e1;cases e1;exact λ σ' H' ok'=>k σ' H' ok'
     | rt d5 ρ5=>simp only[e3] at e1;cases e1;exact k
end
def spD (G:Gx) (g:List D->Option D):Sp:=λ vs H Q _=>∃ A ds d,(∀ a∈A,Nt (H a))/\RepL G (hid A H) vs ds/\g ds=some d/\∀ v H',Same H H'->Rep G (hid A H') v d->Q v H'
section
variable {G:Gx}{a:Expr}{es:List Expr}{fs:FA}{p:Pos}
theorem xZ {k:Nat}{f:Addr}{g:List D->Option D}(F:FnOk X.prog X.w X.K X.mg X.base CX0 k f fd ps (spD G g)) (hr:Room k X.A) (hg:Gl X x) (hm:X.mg x=some (.ref f)) (hk:z1K X.K (.ref f)=true)
  (hb:Binds X.K fd ps []) (ha:PFA X G (a::es) fs) (hdb:.(3)=false:=by decide) (he:z09 (a::es) X.env=.(7)::z09 es X.env:=by rfl) (hpl:.(37).any (·.1)=false:=by rfl) :
  PF X G (.Call (.Name x p) (a::es) [] pos) (Am g fs):=λ A=>Bu (nC F hr hg hm hk hb .nil WD (@ha A) hdb he hpl) λ σ H Q ⟨ρ,d,o,e,k⟩=>by
 unfold Am at e;cases e1:fs ρ with
 | none=>simp[e1] at e
 | some ds=>
  have e':g ds=some d:=by simpa [e1] using e
  refine⟨ρ,ds,o,e1,λ vs H1 s1 r1=>⟨A,ds,d,(o.mono s1).live,by rw[z1d];exact r1,e',λ v H2 s2 r2=>k v H2 (s1.trans s2) r2⟩⟩
end
theorem Rg {G:Gx}{vs:List V}{ds:List D}(live:∀ a∈A,Nt (H a)) (r:RepL G (hid A H) vs ds) (hn:vs.length<=N.length):OkS G A H (start N vs) H (Em N.length ds):=by
 have key:∀ (i:Nat) (z:Slot),(Em N.length ds)[i]?=some z->(∃ d,z=.fz d/\ds[i]?=some d)∨z=.un:=λ i z h=>by
  unfold Em at h
  by_cases hi:i<ds.length
  ·rw[z2b (by simpa using hi),z0o] at h;cases e:ds[i]? with
   | none=>rw[e] at h;cases h
   | some d=>rw[e] at h;exact .inl ⟨d,(z0t h).symm,rfl⟩
  ·rw[z1X (by simpa using z1Z.mp hi),z6n] at h;split at h
   ·exact .inr (z0t h).symm
   ·cases h
 refine⟨A,Same.refl H,λ _ h=>h,λ a h=>.inl h,λ a ha=>(live a ha).ne,⟨?_,live,λ i d h=>?_,λ i d h=>?_,λ i j d e a h _ _ _=>?_⟩,λ i d a h _=>?_,λ x d _ h=>?_⟩
 ·unfold L2.start Em;rw[z0N,z0N,z06,z06,z4j,z4j,r.1]
 ·rcases key i _ h with ⟨d',e,hd⟩ | e
  ·cases e;obtain⟨v,h1,h2⟩:=r.get hd;refine⟨v,?_,h2⟩;unfold L2.start;rw[z2b (by rw[z06];exact (z1s.mp h1).1),z0o,h1];rfl
  ·cases e
 ·rcases key i _ h with ⟨d',e,hd⟩ | e
  ·cases e
  ·cases e
 ·rcases key i _ h with ⟨d',e,hd⟩ | e
  ·cases e
  ·cases e
 ·rcases key i _ h with ⟨d',e,hd⟩ | e
  ·cases e
  ·cases e
 ·rcases key 0 _ h with ⟨d',e,hd⟩ | e
  ·cases e
  ·cases e
theorem fn_D {G:Gx}{base:Heap}{f:Addr}{k:Nat}{b:FS}(F:Fun G.K x qual st f fd) (S:FnScope N ps (Ab st)) (hl:ps.length<=N.length)
  (hb:∀ (cdv:z00) (A:z0a) (outer:List Env) (s:z03) (H:Hp) (E:XK),Room k (A.deeper (z1D qual (Ab st) s.heap.objs.size f cdv))->PSDs (cxOf CX0 P w G.K mg base N qual (Ab st) f cdv A outer s H E).nox G (Bw st) b) :
  FnOk P w G.K mg base CX0 (k+1) f fd ps (spD G (runF N.length ps.length b)):=by
 refine F.ok S (λ vs H Q E h=>?_) (λ cdv A outer s H vs Q E hr h=>?_)
 ·obtain⟨A,ds,d,lv,r,e,_⟩:=h;unfold runF at e;split at e
  ·rename_i hz;rw[r.1];exact hz
  ·cases e
 ·obtain⟨A0,ds,d,lv,r,e,k⟩:=h;unfold runF at e;split at e
  ·rename_i hz;have hzz:=hb cdv A outer s H E hr;refine⟨_,@hzz A0 H,Em N.length ds,?_⟩;cases e1:b (Em N.length ds) with
   | none=>simp[e1] at e
   | some o=>
    refine⟨o,Rg lv r (by rw[r.1,hz];exact hl),rfl,?_⟩;cases o with
    | nx ρ=>
     simp only[e1] at e;cases e;exact λ σ H' ⟨A,w⟩=>k _ H' w.same .non
    | rt d' ρ'=>
     simp only[e1] at e;cases e;exact λ v σ H' A w r'=>k v H' w.same (r'.mono (Ju w.sub))
    | bk ρ=>simp[e1] at e
    | ct ρ=>simp[e1] at e
  ·cases e
section
variable {G:Gx}{a b c:Expr}{fa fb fc:FE}{px:Pos}{t:Str}{elt iter:Expr}{ifs:List Expr}{ga:FT}{fe:FE}{src:FI}
def PFTs (X:Cx) (G:Gx) (ifs:List Expr) (f:FT):Prop:=∀ ⦃A⦄,PTs X ifs (tFT G A f)
theorem DG:PFTs X G [] allT:=λ A π s σ H Q I ⟨ρ,b,o,e,k⟩=>by
 cases e;exact nY π s σ H Q I (k H .(21))
theorem Nu (h:PFT X G a ga):PFTs X G [a] ga:=λ A=>nZ (@h A)
theorem Okp.fill {Hc:Hp}{ρ:Rho}(o:Okp G A σ H ρ) (s:Same H Hc) (hp:H p=none) (hc:Nt (Hc p)):Okp G (p::A) σ Hc ρ:=by
 have sm:Same (hid A H) (hid (p::A) Hc):=λ b u h=>by
  unfold hid at h;split at h
  ·cases h
  ·rename_i hb;rw[CJ]
   ·exact s b u h
   ·intro z
    rcases z0j.mp z with z | z
    ·rw[z,hp] at h;cases h
    ·exact hb z
 refine⟨o.len,λ a ha=>?_,λ i d h=>?_,λ i d h=>?_,o.inj⟩
 ·rcases z0j.mp ha with z | z
  ·rw[z];exact hc
  ·exact (o.mono s).live a z
 ·obtain⟨v,h1,h2⟩:=o.fz i d h;exact⟨v,h1,h2.mono sm⟩
 ·obtain⟨a,h1,h2,h3⟩:=o.ow i d h;refine⟨a,h1,z0y _ h2,?_⟩;cases d with
  | lst ds=>obtain⟨xs,q1,q2⟩:=h3;exact⟨xs,s _ _ q1,q2.mono sm⟩
  | dk ds=>obtain⟨xs,q1,q2,q3⟩:=h3;exact⟨xs,s _ _ q1,q2,q3.mono sm⟩
  | dt ds=>obtain⟨xs,q1,q2,q3⟩:=h3;exact⟨xs,s _ _ q1,q2,q3.mono sm⟩
  | ob c gs=>obtain⟨C,dx,xs,q1,q2,q3⟩:=h3;exact⟨C,dx,xs,s _ _ q1,q2,q3.mono sm⟩
  | _=>exact h3.elim
theorem Okp.snoc {ρ:Rho}{d:D}(o:Okp G A σ H ρ) (r:Rep G (hid A H) v d):Okp G A (σ++[some v]) H (ρ++[.fz d]):=by
 have key:∀ (j:Nat) (z:Slot),(ρ++[.fz d])[j]?=some z->(j=ρ.length/\z=.fz d)∨(j<ρ.length/\ρ[j]?=some z):=λ j z h=>by
  by_cases hj:j<ρ.length
  ·rw[z2b hj] at h;exact .inr ⟨hj,h⟩
  ·rw[z1X (z1Z.mp hj)] at h;cases q:j-ρ.length with
   | zero=>rw[q] at h;exact .inl ⟨by omega,(z0t h).symm⟩
   | succ n=>rw[q] at h;cases h
 have keyS:∀ (j:Nat),j<ρ.length->(σ++[some v])[j]?=σ[j]?:=λ j hj=>z2b (by rw[o.len];exact hj);refine⟨by rw[z0N,z0N,o.len];rfl,o.live,λ j e h=>?_,λ j e h=>?_,λ j k e f p h1 h2 h3 h4=>?_⟩
 ·rcases key j _ h with ⟨hj,hz⟩ | ⟨hj,hz⟩
  ·cases hz;subst hj;exact⟨v,by rw[z1X (by rw[o.len];exact z07 _),o.len,z3l];rfl,r⟩
  ·obtain⟨u,q1,q2⟩:=o.fz j e hz;exact⟨u,by rw[keyS j hj];exact q1,q2⟩
 ·rcases key j _ h with ⟨hj,hz⟩ | ⟨hj,hz⟩
  ·cases hz
  ·obtain⟨u,q1,q2⟩:=o.ow j e hz;exact⟨u,by rw[keyS j hj];exact q1,q2⟩
 ·rcases key j _ h1 with ⟨_,hz⟩ | ⟨hj,hz⟩
  ·cases hz
  ·rcases key k _ h2 with ⟨_,hz'⟩ | ⟨hk,hz'⟩
   ·cases hz'
   ·rw[keyS j hj] at h3;rw[keyS k hk] at h4;exact o.inj j k e f p hz hz' h3 h4
theorem Okp.snocs {A:List Addr}{H:Hp}:∀ {vs:List V}{es:List D}{σ:St}{ρ:Rho},Okp G A σ H ρ->RepL G (hid A H) vs es->Okp G A (σ++vs.map some) H (ρ++es.map .fz)
 | [],[],σ,ρ,o,_=>by simpa using o
 | [],_::_,_,_,_,r=>by have:=r.1;simp at this
 | _::_,[],_,_,_,r=>by have:=r.1;simp at this
 | v::vs,e::es,σ,ρ,o,r=>by
  obtain⟨x,ys,h,r1,r2⟩:=r.uncons;cases h;simpa using (o.snoc r1).snocs r2
def En (bd:D->Option (List D)) (ρ:Rho) (ga:FT) (fe:FE):List D->Option (List D)
 | []=>some []
 | d::r=>(bd d).bind λ es=>match ga (ρ++es.map .fz) with
  | some true=>(fe (ρ++es.map .fz)).bind λ y=>(En bd ρ ga fe r).map (y::·)
  | some false=>En bd ρ ga fe r
  | none=>none
def JT (bd:D->Option (List D)) (src:FI) (ga:FT) (fe:FE):FE:=λ ρ=>(src ρ).bind λ ds=>if ds.length<=sizeLine then (En bd ρ ga fe ds).map .lst else none
def bd1 (d:D):Option (List D):=some [d]
theorem WR (ρ:Rho) (ga:FT) (fe:FE):∀ ds,Jb ρ ga fe ds=En bd1 ρ ga fe ds
 | []=>rfl
 | d::r=>by
  unfold Jb En;rw[WR ρ ga fe r];rfl
theorem fY (src:FI) (ga:FT) (fe:FE):BW src ga fe=JT bd1 src ga fe:=by
 funext ρ;unfold BW JT;congr 1;funext ds;rw[WR]
def Bnd (G:Gx) (N n:Nat) (bd:D->Option (List D)) (g:TG):Prop:=∀ (A:List Addr) (σ os:St) (H:Hp) (x:V) (d:D) (es:List D) (Q:St->Hp->Prop),σ.length=N->os.length=n->bd d=some es->Rep G (hid A H) x d->(∀ vs,vs.length=n->RepL G (hid A H) vs es->Q (σ++vs.map some) H)->g x (σ++os) H Q
theorem bnd1 {N:Nat}:Bnd G N 1 bd1 (Hd N):=λ A σ os H x d es Q hl ho e r k=>by
 cases e;obtain⟨o,rfl⟩:=List.length_eq_one_iff.mp ho;have z:(σ++[o]).set N (some x)=σ++[some x]:=by rw[<-hl,z6P _ _ (z07 _),z3l];rfl
 show Q ((σ++[o]).set N (some x)) H;rw[z];exact k [x] rfl (.cons r .nil)
def tN (G:Gx) (A:List Addr) (f:FE):TE:=λ σ H Q=>∃ ρ d,Okp G A σ H ρ/\f ρ=some d/\∀ p H',Same H H'->H p=none->Top G (p::A) H' p d->Q (.ref p) H'
theorem fZ {N:Nat}{bd:D->Option (List D)}{g:TG}(hX:X.N.length=N) (hB:Bnd G N n bd g) {A:List Addr}{σ:St}{H:Hp}{Q:VK}(h:tN G A (JT bd src ga fe) σ H Q):e_ n (sE X (tI G A true src)) g (λ σ H Q=>∃ A,tFT G A ga σ H Q) (λ σ H Q=>∃ A,tF G A fe σ H Q) σ H Q:=by
 obtain⟨ρ,d,o,e,k⟩:=h;unfold JT at e;cases e1:src ρ with
 | none=>simp[e1] at e
 | some ds=>
  rw[e1] at e;have e':(if ds.length<=sizeLine then (En bd ρ ga fe ds).map D.lst else none)=some d:=e;split at e'
  ·rename_i hz;cases e2:En bd ρ ga fe ds with
   | none=>simp[e2] at e'
   | some out=>
    simp only[e2,z1z] at e';cases e';refine⟨λ J H1=>Same H H1/\Src G J ds H1 (hid A H1),⟨ρ,ds,o,e1,λ J H1 s1 sr=>⟨s1,sr⟩⟩,λ J H1 hlen ⟨s1,sr⟩ p hp=>?_⟩;have o1:=o.mono s1;refine⟨λ i m ys Hc=>m=ds.length-i/\i<=ds.length/\Hc p=some (.lst ys)/\Same H1 Hc/\ys.length<=i/\∃ es rest,RepL G (hid (p::A) Hc) ys es/\En bd ρ ga fe (ds.drop i)=some rest/\es++rest=out,
     ⟨ds.length,by simp,z18 _,Aj,Al hp _,z07 _,[],out,RepL.nil,by simpa using e2,rfl⟩,?_⟩
    rintro i m ys Hc ⟨rfl,hil,hpc,sc,hy,es,rest,rr,er,eo⟩
    by_cases hlt:i<ds.length
    ·right;have hd:ds[i]?=some ds[i]:=by simp[hlt]
     have ed:ds.drop i=ds[i]::ds.drop (i+1):=z4q hlt;rw[ed] at er;unfold En at er;refine⟨sr.go i Hc sc hlt,λ x H' y os ho=>?_⟩;obtain⟨sy,rx⟩:=sr.yld i Hc x H' _ sc hd y;have okc:Okp G (p::A) σ Hc ρ:=o1.fill sc hp (by rw[hpc];exact Nt.lst);have sm:Same (hid A H1) (hid (p::A) Hc):=λ b u h=>by
      unfold hid at h;split at h
      ·cases h
      ·rename_i hb;rw[CJ]
       ·exact sc b u h
       ·intro z
        rcases z0j.mp z with z | z
        ·rw[z,hp] at h;cases h
        ·exact hb z
     cases ebd:bd ds[i] with
     | none=>simp[ebd] at er
     | some bs=>
     simp only[ebd,z0J] at er;refine hB (p::A) σ os H' x ds[i] bs _ (hlen.trans hX) ho ebd (rx _ okc.live sm) λ vs hvs rvs=>⟨⟨_,rfl,by rw[z06];exact hvs⟩,?_⟩;have ok2:=(okc.mono sy).snocs rvs;have hpc:=sy _ _ hpc;have rr:=rr.mono (Az sy);have sc:=sc.trans sy;cases eg:ga (ρ++bs.map .fz) with
     | none=>simp[eg] at er
     | some b=>
      refine⟨p::A,_,b,ok2,eg,λ H2 s2=>?_⟩;cases b with
      | false=>
       refine iteF ⟨ds.length-(i+1),by omega,rfl,hlt,s2 _ _ hpc,sc.trans s2,z5l hy,es,rest,rr.mono (Az s2),by simpa [eg] using er,eo⟩
      | true=>
       simp only[eg] at er;cases ee:fe (ρ++bs.map .fz) with
       | none=>simp[ee] at er
       | some yd=>
        cases ec:En bd ρ ga fe (ds.drop (i+1)) with
        | none=>simp[ee,ec] at er
        | some rest'=>
         simp only[ee,ec,z0J,z1z] at er;cases er;refine iteT ⟨p::A,_,yd,ok2.mono s2,ee,λ yv H3 s3 r3=>?_⟩;have hp3:=s3 _ _ (s2 _ _ hpc);refine⟨hp3,by omega,ds.length-(i+1),by omega,rfl,hlt,Aj,λ b u q=>?_,by rw[z0N];simp;omega,es++[yd],rest',?_,ec,by rw[z6Q];exact eo⟩
         ·have hb:b≠p:=De q hp;rw[Ak hb];exact s3 _ _ (s2 _ _ (sc _ _ q))
         ·rw[Fg z0L];exact (rr.mono (Az (s2.trans s3))).append (.cons r3 .nil)
    ·left;have ei:i=ds.length:=by omega
     subst ei;rw[z6O] at er;simp only[En] at er;cases er;rw[z1d] at eo;subst eo;exact⟨sr.stop _ Hc sc (z07 _),k p Hc (s1.trans sc) (s1.free hp) ⟨ys,hpc,rr⟩⟩
  ·cases e'
theorem xf {bd:D->Option (List D)}{Q:VK}(h:tF G A (JT bd src ga fe) σ H Q):tN G A (JT bd src ga fe) σ H Q:=by
 obtain⟨ρ,d,o,e,k⟩:=h;have e':=e;unfold JT at e';cases e1:src ρ with
 | none=>simp[e1] at e'
 | some ds=>
  rw[e1] at e';have e2:(if ds.length<=sizeLine then (En bd ρ ga fe ds).map D.lst else none)=some d:=e';split at e2
  ·cases e3:En bd ρ ga fe ds with
   | none=>rw[e3] at e2;cases e2
   | some out=>
    rw[e3] at e2;cases e2;refine⟨ρ,_,o,e,λ p H' sm hp ⟨xs,h1,h2⟩=>k _ H' sm ?_⟩;have q:=h2.mono (Ju (A:=A) λ a ha=>z0y _ ha);exact .lst (.of (by rw[CJ (λ z=>(o.live p z).ne hp)];exact h1)) q.1 q.2
  ·cases e2
section
variable {bd:D->Option (List D)}{g:TG}{ts:List Str}
theorem WT (N':List Str) (eN:Cy ts X.N++ts=N') (c:CompOkL X scope ts) (hc:X.calm=true) (hi:PFI X G true tg iter src) (hG:∀ s2 H2 fp,PG (CW X scope N' s2 H2 fp) tg g) (hB:Bnd G X.N.length ts.length bd g)
  (hI:∀ s2 H2 fp,PFTs (CW X scope N' s2 H2 fp) G ifs ga) (hE:∀ s2 H2 fp,PF (CW X scope N' s2 H2 fp) G elt fe) (hs:∀ x,z3b iter X.env x=pure x:=by intro _;rfl) (A:List Addr):PE X .(41) (tN G A (JT bd src ga fe)):=by
 subst eN;refine Bu (fB (tc:=λ σ H Q=>∃ A,tFT G A ga σ H Q) (te:=λ σ H Q=>∃ A,tF G A fe σ H Q) c hc (ni (@hi A)) hG (λ s2 H2 fp=>?_) (λ s2 H2 fp=>?_) hs) λ _ _ _ h=>fZ rfl hB h
 ·exact λ π s σ H Q I ⟨A,q⟩=>hI s2 H2 fp π s σ H Q I q
 ·exact λ π s σ H Q I ⟨A,q⟩=>hE s2 H2 fp π s σ H Q I q
end
theorem xg {N':List Str}(eN:Ep t X.N++[t]=N') (c:RX X scope t) (s2:z03) (H2:Hp) (fp:List Addr):PG (CW X scope N' s2 H2 fp) (.Name t px) (Hd X.N.length):=by
 subst eN;exact gOne c s2 H2 fp
theorem Cu (N':List Str) (eN:Ep t X.N++[t]=N') (c:RX X scope t) (hc:X.calm=true) (hi:PFI X G true (.Name t px) iter src) (hI:∀ s2 H2 fp,PFTs { Xv X scope t s2 H2 fp with N:=N' } G ifs ga) (hE:∀ s2 H2 fp,PF { Xv X scope t s2 H2 fp with N:=N' } G elt fe)
  (hs:∀ x,z3b iter X.env x=pure x:=by intro _;rfl):PF X G (.ListComp elt [⟨.Name t px,iter,ifs,0⟩] scope pos) (BW src ga fe):=λ A=>by
 rw[fY];exact Bu (WT N' eN c hc hi (xg eN c) bnd1 hI hE hs A) λ _ _ _ h=>xf h
end
section
variable {A:z0a}{R:z2u->z03->Prop}{I:Addr}{wr:List Addr}{P:Nat->z00->Prop}{Sx:Nat->Heap->Prop}
theorem Uy:(toString "max"++toString ".loop":String)="max.loop":=by decide
theorem oR (W:z1E prog w A.in1 I fp wr n P Sx) (bt:Nat->Nat->Bool) (hcmp:CmpOf prog w A.in1 .Gt P bt) (S:Addr) (nS:S∉fp) :
  ∀ (k j:Nat) (s:z03) (vb:z00) (c:Nat),k=n-(j+1)->j+1<=n->Sx (j+1) s.heap->P (z0Q bt j) vb->s.heap.get? S=some { cls:=.type "list",dict:=none,data:=.seq #[vb,vb] c,slots:=#[] } ->
  (∀ v h' tk,P (z0Q bt (n-1)) v->.(36)->R (.ok (.ret v)) { s with heap:=h',toks:=tk })->z11 (z04 prog w) A (.builtin "max.loop" ⟨[.ref I,.none,.ref S],kw⟩) R s:=by
 have nW:S∉wr:=λ h=>nS (W.sub _ h);intro k
 induction k with
 | zero=>
  intro j s vb c hk hj hst hb hS hR;have en:j+1=n:=by omega
  refine z1A z6R (by
   rw[z2o z3n _];show z02 _ A.in1 (z2R (.ref S) >>= _) _ _ s;refine z01 (z1S hS rfl ?_);show z02 _ A.in1 (tryCatch (z0M (.ref I)) _ >>= _) _ _ s;refine z01 (z2p (W.done s _ _ (by rw[<-en];exact hst) λ h1 tk kp=>?_));have hS1:=kp S _ nW hS;show z02 _ A.in1 (z3T S (λ _=>#[]) >>= _) _ _ _;refine z01 (z2S hS1 rfl (z01 (z2D (z05 ?_))));exact hR vb _ tk (by rw[<-en];exact hb) λ b o nb nbS e=>(z13 _ _ (z0n nbS)).trans (kp b o nb e))
 | succ k ih=>
  intro j s vb c hk hj hst hb hS hR;have hlt:j+1<n:=by omega
  refine z1A z6R (by
   rw[z2o z3n _];show z02 _ A.in1 (z2R (.ref S) >>= _) _ _ s;refine z01 (z1S hS rfl ?_);show z02 _ A.in1 (tryCatch (z0M (.ref I)) _ >>= _) _ _ s;refine z01 (z2p (W.item (j+1) s _ _ hlt hst λ v h1 tk hP st1 kp=>?_));have hS1:=kp S _ nW hS;show z02 _ A.in1 (tryCatch (z1v [v,v] (richCompare .Gt v vb >>= _)) _ >>= _) _ _ _;refine z01 (z2p (wpAny_holding (z01 (hcmp (j+1) (z0Q bt j) v vb _ _ _ hP hb ?_))));refine z01 (wpAny_holding (z1I (z01 (z2D (z05 ?_)))));cases q:bt (j+1) (z0Q bt j) with
   | true=>
    simp only[if_true];refine z01 (z2S hS1 rfl (z01 (z2D ?_)));rw[Uy];refine z05 ⟨z1_ z3n _,ih (j+1) _ v _ (by omega) hlt .(29) (by simp only[z0Q,q,if_true];exact hP) (z1F _ hS1 rfl)
     λ v2 h2 tk2 hP2 kp2=>hR v2 h2 tk2 hP2 λ b o nb nbS e=>kp2 b o nb nbS ((z13 _ _ (z0n nbS)).trans (kp b o nb e))⟩
   | false=>
    simp only[z0G,if_false];refine z01 (z2D ?_);rw[Uy];exact z05 ⟨z1_ z3n _,ih (j+1) _ vb c (by omega) hlt st1 (by simp only[z0Q,q,z0G,if_false];exact hb) hS1 λ v2 h2 tk2 hP2 kp2=>hR v2 h2 tk2 hP2 λ b o nb nbS e=>kp2 b o nb nbS (kp b o nb e)⟩)
theorem fj (W:z1E prog w A.in1 I fp wr n P Sx) (bt:Nat->Nat->Bool) (hcmp:CmpOf prog w A.in1 .Gt P bt) (S:Addr) (nS:S∉fp) {s:z03}{c:Nat}{nm:Str}{dv:z00}(hst:Sx 0 s.heap)
  (hS:s.heap.get? S=some { cls:=.type "list",dict:=none,data:=.seq #[] c,slots:=#[] })
  (hR:0<n->∀ v h' tk,P (z0Q bt (n-1)) v->.(36)->R (.ok (.ret v)) { s with heap:=h',toks:=tk })
  (h0:n=0->∀ h' tk,(∀ b o,b∉wr->s.heap.get? b=some o->h'.get? b=some o)->R (.ok (.ret dv)) { s with heap:=h',toks:=tk }) :
  z11 (z04 prog w) A (.builtin "max.loop" ⟨[.ref I,.none,.ref S],[(nm,dv)]⟩) R s:=by
 have nW:S∉wr:=λ h=>nS (W.sub _ h);refine z1A z6R (by
  rw[z2o z3n _];show z02 _ A.in1 (z2R (.ref S) >>= _) _ _ s;refine z01 (z1S hS rfl ?_);show z02 _ A.in1 (tryCatch (z0M (.ref I)) _ >>= _) _ _ s
  by_cases hn:0<n
  ·refine z01 (z2p (W.item 0 s _ _ hn hst λ v h1 tk hP st1 kp=>?_));have hS1:=kp S _ nW hS;show z02 _ A.in1 (z3T S (λ _=>#[v,v]) >>= _) _ _ _;refine z01 (z2S hS1 rfl ?_);rw[Uy];exact z05 ⟨z1_ z3n _,oR W bt hcmp S nS _ 0 _ v _ rfl hn .(29) hP (z1F _ hS1 rfl)
    λ v2 h2 tk2 hP2 kp2=>hR hn v2 h2 tk2 hP2 λ b o nb nbS e=>kp2 b o nb nbS ((z13 _ _ (z0n nbS)).trans (kp b o nb e))⟩
  ·have en:n=0:=by omega
   refine z01 (z2p (W.done s _ _ (by rw[en];exact hst) λ h1 tk kp=>?_));exact z01 (z33 (z05 (h0 en h1 tk kp))))
end
section
variable {A:z0a}{l:Addr}{xs:Array (Int×Tok)}
theorem bY (a v:z00):z2T "max" ⟨[a],[(z0F "default",v)]⟩:=by unfold z2T;kernel_rfl
theorem bZ {dv:z00}(hh:A.handled=none) (hl:s.heap.IsList l (z0A xs))
  (h1:0<xs.size->∀ v h' tk,(z0A xs)[z0Q (λ i j=>decide (z0R xs i > z0R xs j)) (xs.size-1)]?=some v->.(2)->Q v { s with heap:=h',toks:=tk })
  (h0:xs.size=0->∀ h' tk,.(2)->Q dv { s with heap:=h',toks:=tk }) :
  z02 (z04 prog w) A (call (.builtin "max") [.ref l] [(z0F "default",dv)]) Q E s:=by
 refine z8D PySem.F.kind_max PySem.F.plain_max PySem.F.entry_max (bY _ _) ?_;show z02 _ A.in1 (z5m "max" ["key","default"] 0 ⟨[],[(z0F "default",dv)]⟩ >>= _) _ _ s;refine z01 (z4r (show z5m "max" ["key","default"] 0 ⟨[],[(z0F "default",dv)]⟩=pure [none,some dv] from rfl) (z01 (z05 ?_)));refine z01 (iter_intList hl λ s2 e st hfp hlI=>?_);subst e;refine z01 (z1P ?_);have nS:.(14).objs.size∉[s.heap.objs.size,l]:=λ hm=>z1l _ (hfp _ hm);have W:z1E prog w A.in1.in1 s.heap.objs.size [s.heap.objs.size,l] [s.heap.objs.size] (z0A xs).size (λ i v=>(z0A xs)[i]?=some v) (λ i h=>h.IsListIter s.heap.objs.size l i/\h.IsList l (z0A xs)):=z3U (A:=A.in1.in1) hh _ l hlI (z0A xs);have W1:z1E prog w A.in1 s.heap.objs.size [s.heap.objs.size,l] [s.heap.objs.size] (z0A xs).size (λ i v=>(z0A xs)[i]?=some v) (λ i h=>h.IsListIter s.heap.objs.size l i/\h.IsList l (z0A xs)):=z3U (A:=A.in1) hh _ l hlI (z0A xs);have sz:(z0A xs).size=xs.size:=by simp[z0A]
 have up:∀ b o,s.heap.get? b=some o->(.(14).push { cls:=.type "list",data:=.seq ([]:List z00).toArray }).get? b=some o:=λ b o e=>z0d _ (z0d _ e);rw[Uy];refine z05 ⟨z1_ z3n _,fj W1 (λ i j=>decide (z0R xs i > z0R xs j)) (CmpOf.ints_gt (z0R xs) (λ _ _=>z4s)) _ nS (W1.frame 0 _ _ st λ b hb o e=>z0d _ e) (z0l _ rfl) (λ hn v h' tk hP kp=>?_) (λ hn h' tk kp=>?_)⟩
 ·refine h1 (by rw[<-sz];exact hn) v h' tk (by rw[sz] at hP;exact hP) λ b o e=>kp b o ?_ ?_ (up b o e)
  ·intro hm;exact absurd (z0f e) (by rw[z2c.mp hm];exact z1l _)
  ·intro z;have q:b<s.heap.objs.size:=z0f e;rw[z1w] at z;exact absurd (z▸q) (z1Z.mpr (z1N _))
 ·refine h0 (by rw[<-sz];exact hn) h' tk λ b o e=>kp b o ?_ (up b o e);intro hm;exact absurd (z0f e) (by rw[z2c.mp hm];exact z1l _)
end
theorem Rh (val:Nat->Int):∀ k,val (z0Q (λ i j=>decide (val i > val j)) k)=mxN val k
 | 0=>rfl
 | k+1=>by
  have ih:=Rh val k;unfold z0Q mxN
  by_cases h:val (k+1) > mxN val k
  ·rw[if_pos (by rw[ih];exact decide_eq_true h),if_pos h]
  ·rw[if_neg (by rw[ih];simpa using h),if_neg h];exact ih
theorem Jw (bt:Nat->Nat->Bool):∀ k,z0Q bt k<=k
 | 0=>z07 _
 | k+1=>by
  unfold z0Q;split
  ·exact z07 _
  ·exact z5l (Jw bt k)
theorem ints_rep {G:Gx}{H:Hp}:∀ {ds:List D}{xs:List V}{ns:List Int},RepL G H xs ds->Fl ds=some ns->xs=ns.map V.int
 | [],xs,ns,r,h=>by cases h;rw[r.nil_inv];rfl
 | d::ds,xs,ns,r,h=>by
  obtain⟨x,ys,rfl,r1,r2⟩:=r.uncons;cases d with
  | int i=>
   simp only[Fl] at h;cases e:Fl ds with
   | none=>simp[e] at h
   | some ms=>
    simp only[e,z1z] at h;cases h;cases r1;rw[ints_rep r2 e];rfl
  | _=>simp[Fl] at h
theorem Ri:∀ {us:List z00},Vals (ns.map V.int) us->∃ xs:Array (Int×Tok),us.toArray=z0A xs/\xs.size=ns.length/\∀ i,i<ns.length->z0R xs i=ns.getD i 0:=by
 induction ns with
 | nil=>intro us r;cases r;exact⟨#[],by simp[z0A],rfl,λ i h=>by simp at h⟩
 | cons n ns ih=>
  intro us r;rw[z0c] at r;cases r with
  | cons r1 r2=>
   obtain⟨tk,rfl⟩:=r1;obtain⟨xs,e1,e2,e3⟩:=ih r2;refine⟨⟨(n,tk)::xs.toList⟩,?_,by simp[e2],λ i hi=>?_⟩
   ·have e1':=congrArg z68 e1;simp only[z0A,z8E] at e1';simp only[z0A];apply z6S.mp;simp[e1']
   ·cases i with
    | zero=>simp[z0R]
    | succ i=>
     have:=e3 i (by simpa using hi);simp only[z0R] at this ⊢;simpa using this
theorem Pb {f g:Nat->Int}:∀ {k:Nat},(∀ i,i<=k->f i=g i)->mxN f k=mxN g k
 | 0,h=>h 0 (z07 _)
 | k+1,h=>by
  unfold mxN;rw[h (k+1) (z07 _),Pb λ i hi=>h i (z5l hi)]
def xj (K:z08):V->V->Hp->VK->Prop:=λ x y H Q=>∃ p ns,x=.ref p/\SqL K H p (ns.map V.int)/\Q (if ns=[] then y else .int (mxN (λ i=>ns.getD i 0) (ns.length-1))) H
section
variable {G:Gx}{a b:Expr}{fa fb:FE}{p kpos:Pos}
theorem oU (hc:X.calm=true) {π:zP}{s:z03}{σ:St}{H:Hp}{x y:V}{v u:z00}{Q:VK}(I:Inv X π σ H s) (rx:RelV x v) (ry:RelV y u) (h:xj X.K x y H Q) :
  z02 .(0) X.A (call (.builtin "max") [v] [(z0F "default",u)]) (EP X π σ Q) X.xe s:=by
 obtain⟨q,ns,rfl,hs,k⟩:=h;cases rx;obtain⟨its,rv,pl,hz⟩:=I.list hs;obtain⟨xs,e1,e2,e3⟩:=Ri rv;have hl:s.heap.IsList q (z0A xs):=by rw[<-e1];exact pl.isList
 refine bZ (I.ok.hd hc) hl (λ hn w h' tk hP kp=>?_) (λ hn h' tk kp=>?_)
 ·have nn:ns≠[]:=λ z=>by rw[z] at e2;exact absurd hn (by rw[e2];exact z1l _)
  rw[if_neg nn] at k;obtain⟨t,rfl⟩:=z4s hP;refine⟨.int _,H,I.kept kp,⟨t,?_⟩,k⟩;have hle:=Jw (λ i j=>decide (z0R xs i > z0R xs j)) (xs.size-1);have q:=Rh (z0R xs) (xs.size-1);rw[q,e2];congr 1;have hpos:0<ns.length:=z6T.mpr nn;exact Pb λ i hi=>e3 i (by omega)
 ·have nn:ns=[]:=by
   rw[hn] at e2;exact z2C.mp e2.symm
  rw[if_pos nn] at k;exact⟨y,H,I.kept kp,ry,k⟩
theorem oV (hc:X.calm=true) (hG:G.K=X.K) (hg:Gl X x) (hm:X.mg x=none) (hv:z0x x=some (.builtin "max")) (ha:PU X G a fa) (hb:PF X G b fb) (hn:x≠"__name__":=by decide) (hdb:.(3)=false:=by decide)
  (he:z09 [a] X.env=[.(7)]:=by rfl) (hk:z1f [⟨some (z0F "default"),b,kpos⟩] X.env=[(some (z0F "default"),eval b X.env)]:=by rfl) :
  PF X G (.Call (.Name x p) [a] [⟨some (z0F "default"),b,kpos⟩] pos) (bF WF fa fb):=λ A π s σ H Q I h=>by
 obtain⟨ρ,d,o,e,k⟩:=h;obtain⟨dx,dy,e1,e2,e3⟩:=Np e;refine z3O (Kh I hg hm hv ?_ hn hdb);have hA:=Bo (X:=X) (@ha A) Cw he pos π s σ H (λ vs H1=>∃ v,vs=[v]/\Same H H1/\RepT G A H1 v dx) I ⟨ρ,dx,o,e1,λ v H1 s1 r1=>⟨v,rfl,s1,r1⟩⟩;refine callWith_kw (thn hA λ us s1 ⟨vs,H1,I1,rv,v,ev,s1',r1⟩=>?_) (by rw[he];rfl) (by rw[he];rfl) (by rw[hk];rfl) (by rw[hk];rfl);subst ev;have hK:=Y0 (X:=X) (nm:=some (z0F "default")) (kpos:=kpos) (@hb A) d7 pos π s1 σ H1 (λ vs H2=>∃ v,vs=[v]/\Same H1 H2/\Rep G (hid A H2) v dy) I1 ⟨ρ,dy,o.mono s1',e2,λ v H2 s2 r2=>⟨v,rfl,s2,r2⟩⟩;refine thn hK λ ks s2 ⟨ws,H2,I2,rw',y,ey,s2',r2⟩=>?_;subst ey;obtain⟨u,rfl,ru⟩:=vals1 rv;obtain⟨u2,rfl,ru2⟩:=vals1 rw';rw[hk];have s0:=s1'.trans s2';unfold WF at e3;cases dx with
 | lst ds=>
  simp only at e3;cases ei:Fl ds with
  | none=>simp[ei] at e3
  | some ns=>
   simp only[ei,z1z] at e3;obtain⟨q,xs,rfl,h1,rr⟩:=(r1.mono s2').lst;have ex:=ints_rep rr ei;subst ex;refine oU hc I2 ru ru2 ⟨q,ns,rfl,by rw[<-hG];exact h1,?_⟩
   by_cases nn:ns=[]
   ·rw[if_pos nn] at e3 ⊢;cases e3;exact k _ H2 s0 r2
   ·rw[if_neg nn] at e3 ⊢;cases e3;exact k _ H2 s0 (.int _)
 | _=>cases e3
theorem WW {H:Hp}:∀ {ds:List D}{xs:List V}{ns:List Str},RepL G H xs ds->Mg ds=some ns->xs=ns.map V.str
 | [],xs,ns,r,h=>by cases h;rw[r.nil_inv];rfl
 | d::ds,xs,ns,r,h=>by
  obtain⟨x,ys,rfl,r1,r2⟩:=r.uncons;cases d with
  | str i=>
   simp only[Mg] at h;cases e:Mg ds with
   | none=>simp[e] at h
   | some ms=>
    simp only[e,z1z] at h;cases h;cases r1;rw[WW r2 e];rfl
  | _=>simp[Mg] at h
theorem oW (K:z08) (n T:String):z3N K (.type n) (.type T)=z3N [] (.type n) (.type T):=rfl
def TyX (K:z08) (H:Hp) (x:V) (n:String):Prop:=
 TyOf K H x (.type n)∨(n="list"/\∃ a xs,x=.ref a/\SqL K H a xs)∨(n="tuple"/\∃ a xs,x=.ref a/\SqT K H a xs)
theorem vH {d:D}{n:String}(r:RepT G A H v d) (h:tyD d=some n):TyX G.K H v n:=by
 cases d with
 | non=>cases h;rw[r.non];exact .inl .non
 | bl b=>cases h;rw[r.bl];exact .inl (.bl b)
 | int b=>cases h;rw[r.int];exact .inl (.int b)
 | str b=>cases h;rw[r.str];exact .inl (.str b)
 | lst ds=>cases h;obtain⟨a,xs,e,q,_⟩:=r.lst;exact .inr (.inl ⟨rfl,a,xs,e,q⟩)
 | tup ds=>cases h;obtain⟨a,xs,e,q,_⟩:=r.tup;exact .inr (.inr ⟨rfl,a,xs,e,q⟩)
 | _=>cases h
theorem fu (T:String):Cv X (.builtin "isinstance") (λ xs H Q=>∃ x n b,xs=[x,.ty T]/\TyX X.K H x n/\z3N X.K (.type n) (.type T)=some b/\Q (.bl b) H):=by
 intro π s σ H xs us Q I r h;obtain⟨x,n,b,rfl,ty,e,k⟩:=h;obtain⟨u,c,rfl,ru,rc⟩:=vals2 r;cases rc
 rcases ty with ty | ⟨rfl,a,ys,rfl,q⟩ | ⟨rfl,a,ys,rfl,q⟩
 ·exact bL I ru ty e λ tk=>⟨.bl b,H,I.tok _,rfl,k⟩
 ·cases ru;obtain⟨its,_,p,_⟩:=I.list q;obtain⟨o,ho,hc,_⟩:=p.isList;exact z1M z6h I.kIn ⟨o,ho,hc⟩ e (λ z=>nomatch z) λ tk=>⟨.bl b,H,I.tok _,rfl,k⟩
 ·cases ru;obtain⟨its,_,p,_⟩:=I.tuple q;obtain⟨o,ho,hc,_⟩:=(show s.heap.IsTuple a its.toArray from p);exact z1M z88 I.kIn ⟨o,ho,hc⟩ e (λ z=>nomatch z) λ tk=>⟨.bl b,H,I.tok _,rfl,k⟩
def Rj (T:String):Bool:=(["NoneType","bool","int","str","list","tuple"]:List String).all λ n=>z3N [] (.type n) (.type T)==some (n==T||(n=="bool"&&T=="int"))
theorem bh {T:String}(h:Rj T=true) {d:D}{n:String}(e:tyD d=some n):z3N [] (.type n) (.type T)=some (n==T||(n=="bool"&&T=="int")):=by
 unfold Rj at h;rw[z1a] at h;have m:n∈(["NoneType","bool","int","str","list","tuple"]:List String):=by
  cases d<;>simp[tyD] at e<;>subst e<;>simp
 simpa using h n m
theorem gA {t:Str}{T:String}(hT:Rj T=true) (hG:G.K=X.K) (hg:Gl X x) (hm:X.mg x=none) (hv:z0x x=some (.builtin "isinstance")) (ht:Gl X t) (hmt:X.mg t=none) (hvt:z0x t=some (.type T)) (ha:PU X G a fa)
  (hn:x≠"__name__":=by decide) (hdb:.(3)=false:=by decide) (hnt:t≠"__name__":=by decide) (hdt:(t==("__debug__":Str))=false:=by decide) (he:z09 [a,.Name t tp] X.env=.(7)::z09 [.Name t tp] X.env:=by rfl) (he2:z09 [.Name t tp] X.env=[(false,eval (.Name t tp) X.env)]:=by rfl) :
  PF X G (.Call (.Name x p) [a,.Name t tp] [] pos) (uF (isiD T) fa):=λ A=>Bu (Km (fu T) hg hm hv (Bo (@ha A) (Bo (m5 (v:=.ty T) ht hmt hvt rfl hnt hdt) Cw he2) he) hn hdb he (by rw[he2];rfl)) λ σ H Q ⟨ρ,d,o,e,k⟩=>by
 obtain⟨dx,e1,e2⟩:=Gw e;unfold isiD at e2;cases et:tyD dx with
 | none=>simp[et] at e2
 | some n=>
  simp only[et,z1z] at e2;cases e2;exact⟨ρ,dx,o,e1,λ v H1 s1 r1=>⟨v,n,_,rfl,by rw[<-hG];exact vH r1 et,by rw[oW];exact bh hT et,k _ H1 s1 (.bl _)⟩⟩
theorem oX:Rj "int"=true:=by decide +kernel
theorem gB:Rj "bool"=true:=by decide +kernel
end
theorem Dt:z0x "len"=some (.builtin "len"):=by decide +kernel
theorem Rk:z0x "max"=some (.builtin "max"):=by decide +kernel
theorem Xz:z0x "min"=some (.builtin "min"):=by decide +kernel
theorem Mh:z0x "isinstance"=some (.builtin "isinstance"):=by decide +kernel
theorem Ln:z0x "sorted"=some (.builtin "sorted"):=by decide +kernel
theorem vI:z0x "int"=some (.type "int"):=by decide +kernel
theorem oY:z0x "bool"=some (.type "bool"):=by decide +kernel
theorem Nv:z0x "list"=some (.type "list"):=by decide +kernel
theorem ZF:z0x "dict"=some (.type "dict"):=by decide +kernel
theorem vJ:z0x "set"=some (.type "set"):=by decide +kernel
def Nx (N:List Str) (sc scope:z25) (ts:List Str):Bool:=
 scope.names.all (λ y=>y.2 != .cell)&&scope.kind==.function&&scope.names.all (λ y=>y.2 != .local ||scope.names.lookup y.1==some .local)&&ts.all (λ t=>scope.names.lookup t==some .local)
  && scope.names.all (λ y=>y.2 != .local ||ts.contains y.1||!N.contains y.1)&&scope.names.all (λ y=>y.2 != .free ||sc.names.lookup y.1==some .cell ||sc.names.lookup y.1==some .free)&&scope.names.all (λ y=>y.1 != z3M)&&decide (Cy ts N++ts).Nodup
theorem Rm {ts:List Str}(hN:X.N=N) (hs:X.env.scope=sc) (h:Nx N sc scope ts=true):CompOkL X scope ts:=by
 unfold Nx at h;simp only[z0U,z1a,decide_eq_true_eq,beq_iff_eq,bne_iff_ne,Bool.or_eq_true,ne_eq] at h;obtain⟨⟨⟨⟨⟨⟨⟨h1,h2⟩,h3⟩,h4⟩,h5⟩,h6⟩,h7⟩,h8⟩:=h;refine⟨h1,h2,λ y hy e=>?_,h4,λ y hy e=>?_,λ y hy e=>?_,h7,by rw[hN];exact h8⟩
 ·rcases h3 y hy with z | z
  ·exact absurd e z
  ·exact z
 ·rcases h5 y hy with (z | z) | z
  ·exact absurd e z
  ·exact .inl (by simpa using z)
  ·right;rw[hN];simpa using z
 ·have hk:∀ x,X.env.kindOf x=sc.names.lookup x:=λ x=>by rw[<-hs];rfl
  rw[hk]
  rcases h6 y hy with (z | z) | z
  ·exact absurd e z
  ·exact .inl z
  ·exact .inr z
abbrev ZG (N:List Str) (sc scope:z25) (t:Str):Bool:=Nx N sc scope [t]
theorem bj {t:Str}(hN:X.N=N) (hs:X.env.scope=sc) (h:ZG N sc scope t=true):RX X scope t:=Rm hN hs h
theorem oZ {K:z08}{base:Heap}{G:Gx}{k:Nat}{f:Addr}:FnOk P w K mg base CX0 k f fd ps (spD G λ _=>none):=by
 have no:∀ vs H Q E,¬ spD G (λ _=>none) vs H Q E:=λ vs H Q E ⟨_,_,_,_,_,e,_⟩=>nomatch e;exact⟨λ vs H Q E h=>absurd h (no vs H Q E),λ A outer s H args us vs Q E _ _ _ _ h=>absurd h (no vs H Q E)⟩
theorem Tw {G:Gx}{sl:Array (Option z00)}{its:Array z00}{xs:List Str}(h:G.K.lookup a=some ⟨.type "tuple",od,.seq its n,sl⟩) (hz:its.size<=sizeLine) (r:Vals (xs.map V.str) its.toList):Rep G (λ _=>none) (.ref a) (.tup (xs.map .str)):=by
 refine .tup (xs:=xs.map V.str) (.inr ⟨_,its,n,h,rfl,rfl,hz,r⟩) (by simp) λ i x d h1 h2=>?_;rw[z0o] at h1 h2;cases e:xs[i]? with
 | none=>rw[e] at h1;cases h1
 | some z=>rw[e] at h1 h2;cases h1;cases h2;exact .str z
end PV
namespace PySem
end PySem
namespace PV
open PySem PySem.Spec L2
open PyProof.Rows hiding St
section
variable {G:Gx}{a b c:Expr}{fa fb fc:FE}{px:Pos}{es:List Expr}{fs:FA}
def PN (X:Cx) (G:Gx) (e:Expr) (f:FE):Prop:=∀ ⦃A⦄,PE X e (tN G A f)
theorem Lp (s:Same H H') (hp:H p=none):Same (hid A H) (hid (p::A) H'):=λ b u h=>by
 unfold hid at h;split at h
 ·cases h
 ·rename_i hb;rw[CJ]
  ·exact s b u h
  ·intro z
   rcases z0j.mp z with z | z
   ·rw[z,hp] at h;cases h
   ·exact hb z
theorem X3 (h:PFA X G es fs):PN X G (.List es pos) (lstF fs):=λ A=>Bu (dj (@h A)) λ σ H Q ⟨ρ,d,o,e,k⟩=>by
 unfold lstF at e;cases e1:fs ρ with
 | none=>simp[e1] at e
 | some ds=>
  rw[e1] at e;have e':(if ds.length<=sizeLine then some (D.lst ds) else none)=some d:=e;split at e'
  ·rename_i hz;cases e';exact⟨ρ,ds,o,e1,λ vs H1 s1 r1=>⟨by rw[r1.1];exact hz,λ p hp=>k p _ (s1.trans (Al hp _)) (s1.free hp) ⟨vs,Aj,r1.mono (Lp (Al hp _) hp)⟩⟩⟩
  ·cases e'
theorem Top.live {d:D}(t:Top G A H q d):Nt (H q):=by
 cases d with
 | lst ds=>obtain⟨xs,q1,q2⟩:=t;rw[q1];exact Nt.lst
 | dk ds=>obtain⟨xs,q1,q2,q3⟩:=t;rw[q1];exact Nt.dK
 | dt ds=>obtain⟨xs,q1,q2,q3⟩:=t;rw[q1];exact Nt.dT
 | ob c gs=>obtain⟨C,dx,xs,q1,q2,q3⟩:=t;rw[q1];exact Nt.ins
 | _=>exact t.elim
theorem CZ {α:Type}{l:List α}{x z:α}(h:(l.set i x)[j]?=some z):(j=i/\z=x/\i<l.length)∨(j≠i/\l[j]?=some z):=by
 by_cases hj:j=i
 ·subst hj
  by_cases hl:j<l.length
  ·rw[z2j hl] at h;exact .inl ⟨rfl,(z0t h).symm,hl⟩
  ·rw[z2Q (by simpa using z1Z.mp hl)] at h;cases h
 ·rw[z1m (z0n hj)] at h;exact .inr ⟨hj,h⟩
theorem OkW.setW {ρ:Rho}{d:D}(w:OkW G A0 He A σ H ρ) (s:Same H H') (hp:H p=none) (t:Top G (p::A) H' p d) (i:Nat) (hi0:i≠0):OkW G A0 He (p::A) (σ.set i (some (.ref p))) H' (ρ.set i (.ow d)):=by
 have hf:=w.ok.fill (Hc:=H') s hp t.live;have hep:He p=none:=w.same.free hp;have npA:p∉A:=λ z=>(w.ok.live p z).ne hp;refine⟨w.same.trans s,λ a ha=>z0y _ (w.sub a ha),λ a ha=>?_,w.l0,⟨by rw[z3S,z3S];exact hf.len,hf.live,λ j e h=>?_,λ j e h=>?_,λ j k e f q h1 h2 h3 h4=>?_⟩,λ j e q h1 h2=>?_,λ x e hx h0=>by rw[z1m hi0] at h0 ⊢;exact w.lt x e hx h0⟩
 ·rcases z0j.mp ha with z | z
  ·rw[z];exact .inr hep
  ·exact w.fr a z
 ·rcases CZ h with ⟨_,hz,_⟩ | ⟨hj,hz⟩
  ·cases hz
  ·obtain⟨v,q1,q2⟩:=hf.fz j e hz;exact⟨v,by rw[z1m (z0n hj)];exact q1,q2⟩
 ·rcases CZ h with ⟨hj,hz,hl⟩ | ⟨hj,hz⟩
  ·cases hz;subst hj;exact⟨p,by rw[z2j (by rw[w.ok.len];exact hl)],z0L,t⟩
  ·obtain⟨v,q1,q2,q3⟩:=hf.ow j e hz;exact⟨v,by rw[z1m (z0n hj)];exact q1,q2,q3⟩
 ·have no:∀ (m:Nat) (g:D),ρ[m]?=some (.ow g)->σ[m]?=some (some (.ref q))->q≠p:=λ m g a1 a2 z=>by
   obtain⟨v,b1,b2,_⟩:=w.ok.ow m g a1;rw[a2] at b1;cases b1;exact npA (z▸b2)
  rcases CZ h1 with ⟨hj,_,hl⟩ | ⟨hj,hz⟩
  ·rcases CZ h2 with ⟨hk,_,_⟩ | ⟨hk,hz'⟩
   ·rw[hj,hk]
   ·exfalso;subst hj;rw[z2j (by rw[w.ok.len];exact hl)] at h3;cases h3;rw[z1m (z0n hk)] at h4;exact no k f hz' h4 rfl
  ·rcases CZ h2 with ⟨hk,_,hl⟩ | ⟨hk,hz'⟩
   ·exfalso;subst hk;rw[z2j (by rw[w.ok.len];exact hl)] at h4;cases h4;rw[z1m (z0n hj)] at h3;exact no j e hz h3 rfl
   ·rw[z1m (z0n hj)] at h3;rw[z1m (z0n hk)] at h4;exact w.ok.inj j k e f q hz hz' h3 h4
 ·rcases CZ h1 with ⟨hj,_,hl⟩ | ⟨hj,hz⟩
  ·subst hj;rw[z2j (by rw[w.ok.len];exact hl)] at h2;cases h2;exact λ z=>w.l0 p z hep
  ·rw[z1m (z0n hj)] at h2;exact w.ow0 j e q hz h2
theorem oh {ρ:Rho}{o:Out}{D:Ends}(hi0:i≠0) (w:OkW G A0 He A σ H ρ) (e:setW i fa ρ=some o) (k:Tv G A0 He D o):tAsg (tN G A fa) (Hd i) D σ H:=by
 unfold setW at e;cases e1:fa ρ with
 | none=>simp[e1] at e
 | some d=>
  simp only[e1,z1z] at e;cases e;exact⟨ρ,d,w.ok,e1,λ p H1 s1 hp t=>k _ _ ⟨p::A,w.setW s1 hp t i hi0⟩⟩
theorem gC {p:Pos}(h:∀ te,PE X a te->PS X (.Assign [.Name x p] a pos) (tAsg te (Hd i))) (ha:PN X G a fa) (hi0:i≠0:=by decide):PSD X G (.Assign [.Name x p] a pos) (setW i fa):=λ A0 He π s σ H D I ⟨ρ,o,⟨A,w⟩,e,k⟩=>
 h _ (@ha A) π s σ H D I (oh hi0 w e k)
theorem OkW.wr {ρ:Rho}{d0 d:D}{o:HO}(w:OkW G A0 He A σ H ρ) (hi:ρ[i]?=some (.ow d0)) (hs:σ[i]?=some (some (.ref p))) (t:Top G A (upd H p o) p d):OkW G A0 He A σ (upd H p o) (ρ.set i (.ow d)):=by
 obtain⟨q,h1,hA,_⟩:=w.ok.ow i d0 hi;rw[hs] at h1;cases h1;have hep:He p=none:=by
  rcases w.fr p hA with z | z
  ·exact absurd z (w.ow0 i d0 p hi hs)
  ·exact z
 have eh:hid A (upd H p o)=hid A H:=Fg hA;refine⟨λ b u h=>by rw[Ak (De h hep)];exact w.same b u h,w.sub,w.fr,w.l0,⟨by rw[z3S];exact w.ok.len,λ b hb=>?_,λ j e h=>?_,λ j e h=>?_,λ j k e f q g1 g2 g3 g4=>?_⟩,λ j e q g1 g2=>?_,λ x e hx h0=>?_⟩
 ·by_cases z:b=p
  ·rw[z];exact t.live
  ·rw[Ak z];exact w.ok.live b hb
 ·rcases CZ h with ⟨_,hz,_⟩ | ⟨hj,hz⟩
  ·cases hz
  ·rw[eh];exact w.ok.fz j e hz
 ·rcases CZ h with ⟨hj,hz,hl⟩ | ⟨hj,hz⟩
  ·cases hz;subst hj;exact⟨p,hs,hA,t⟩
  ·obtain⟨q,q1,q2,q3⟩:=w.ok.ow j e hz;have nq:q≠p:=λ z=>hj (w.ok.inj j i e d0 p hz hi (z▸q1) hs);refine⟨q,q1,q2,?_⟩;cases e with
   | lst ds=>obtain⟨xs,a1,a2⟩:=q3;exact⟨xs,by rw[Ak nq];exact a1,by rw[eh];exact a2⟩
   | dk ds=>obtain⟨xs,a1,a2,a3⟩:=q3;exact⟨xs,by rw[Ak nq];exact a1,a2,by rw[eh];exact a3⟩
   | dt ds=>obtain⟨xs,a1,a2,a3⟩:=q3;exact⟨xs,by rw[Ak nq];exact a1,a2,by rw[eh];exact a3⟩
   | ob c gs=>obtain⟨C,dx,xs,a1,a2,a3⟩:=q3;exact⟨C,dx,xs,by rw[Ak nq];exact a1,a2,by rw[eh];exact a3⟩
   | _=>exact q3.elim
 ·have up:∀ (m:Nat) (g:D),(ρ.set i (.ow d))[m]?=some (.ow g)->∃ g',ρ[m]?=some (.ow g'):=λ m g z=>by
   rcases CZ z with ⟨hm,_,_⟩ | ⟨_,hz⟩
   ·exact⟨d0,by rw[hm];exact hi⟩
   ·exact⟨g,hz⟩
  obtain⟨e',z1⟩:=up j e g1;obtain⟨f',z2⟩:=up k f g2;exact w.ok.inj j k e' f' q z1 z2 g3 g4
 ·rcases CZ g1 with ⟨hj,_,_⟩ | ⟨hj,hz⟩
  ·subst hj;exact w.ow0 j d0 q hi g2
  ·exact w.ow0 j e q hz g2
 ·rcases CZ h0 with ⟨hj,_,_⟩ | ⟨_,hz⟩
  ·exact w.lt x d0 hx (by rw[hj];exact hi)
  ·exact w.lt x e hx hz
theorem Pg {ρ:Rho}{d:D}(h:ownO ρ i=some d):ρ[i]?=some (.ow d):=by
 unfold ownO at h;split at h
 ·rename_i e;cases h;exact e
 ·cases h
theorem bu {g:D->D->Option D}{ρ:Rho}{o:Out}(h:mutF g i fa ρ=some o):∃ v x y,fa ρ=some v/\ρ[i]?=some (.ow x)/\g x v=some y/\o=.nx (ρ.set i (.ow y)):=by
 unfold mutF at h;cases e1:fa ρ with
 | none=>simp[e1] at h
 | some v=>
  cases e2:ownO ρ i with
  | none=>simp[e1,e2] at h
  | some x=>
   cases e3:g x v with
   | none=>simp[e1,e2,e3] at h
   | some y=>
    simp[e1,e2,e3] at h;exact⟨v,x,y,rfl,Pg e2,e3,h.symm⟩
theorem Qy (hv:PE X (.Name x xpos) (tVar i)) (ha:PF X G a fa)
  (hbase:z1q (.Name x xpos) "append" X.env (eval (.Name x xpos) X.env)=eval (.Name x xpos) X.env:=by rfl)
  (hfew:((z0z pos (z09 [a] X.env)).all (λ x=>!x.1)&&(z1x pos (z1f [] X.env)).all (λ x=>x.1.isSome)&&decide ([a].length+([]:List z2K).length+(if ([]:List z2K).isEmpty then 0 else 1)<30))=true:=by rfl)
  (hline:(apos.endLine==pos.line)=true:=by rfl) (hs:z09 [a] X.env=[.(7)]:=by rfl) (hsw:z1o (.Call (.Attribute (.Name x xpos) "append" apos) [a] [] pos) none p2.line X.env=pure false:=by rfl) :
  PSD X G (.Expr (.Call (.Attribute (.Name x xpos) "append" apos) [a] [] pos) p2) (mutF appL i fa):=λ A0 He π s σ H D I ⟨ρ,o,⟨A,w⟩,e,k⟩=>by
 obtain⟨v,x0,y,e1,hi,e2,rfl⟩:=bu e;refine Ys (xT z8F PySem.F.slot_list_append PySem.F.type_list_append Tq hv (Bo (@ha A) Cw hs) hbase hfew hline hs rfl) hsw π s σ H D I ?_;unfold appL at e2;split at e2
 ·rename_i ds;split at e2
  ·rename_i hz;cases e2;obtain⟨p,h1,hA,xs,h2,r⟩:=w.ok.ow i _ hi;refine⟨_,h1,.inl ⟨rfl,xs,.of h2⟩,ρ,v,w.ok,e1,λ u H1 s1 r1=>⟨p,xs,u,rfl,rfl,s1 _ _ h2,by rw[r.1];exact hz,?_⟩⟩;have w1:=w.mono s1;refine k _ _ ⟨A,w1.wr hi h1 ⟨xs++[u],Aj,?_⟩⟩;rw[Fg hA];exact (r.mono (Az s1)).append (.cons r1 .nil)
  ·cases e2
 ·cases e2
theorem Inv.frzK {kvs:List (Key×V)}(I:Inv X π σ H s) (e:H p=some (.dK kvs)):∃ o,Inv X π σ (upd H p (.frz o (.dK kvs))) s:=by
 obtain⟨z,hd,vs,rel,dd⟩:=rZ I.hok e;obtain⟨o,es,ep,ho,h2⟩:=id dd;exact⟨o,Qv (h':=s.heap) (t':=s.toks) I (by rw[e];exact z1L) ⟨rfl,λ _ _=>rfl⟩ ⟨o,ho⟩ ⟨ho,z,hd,vs,rel,dd⟩⟩
theorem Inv.frzT (I:Inv X π σ H s) (e:H p=some (.dT kvs)):∃ o,Inv X π σ (upd H p (.frz o (.dT kvs))) s:=by
 obtain⟨z,hd,vs,rel,o,es,ep,ho,h3,h4,h5,h6⟩:=I.hok p _ e;refine⟨o,Qv (h':=s.heap) (t':=s.toks) I (by rw[e];exact z1L) ⟨rfl,λ _ _=>rfl⟩ ⟨o,ho⟩ ⟨ho,z,hd,vs,KT.keeps rel λ c ys ec=>?_,o,es,ep,ho,h3,h4,h5,h6⟩⟩;rw[Ak (rM ec e (λ z=>nomatch z))];exact ec
theorem OkW.frzC {ρ:Rho}{d:D}(w:OkW G A0 He A σ H ρ) (hi:ρ[i]?=some (.ow d)) (h1:σ[i]?=some (some (.ref p))) (hA:p∈A) (hh:∀ b,b≠p->H' b=H b)
  (rp:Same (hid A H) (hid (A.filter λ b=>decide (b≠p)) H')->hid (A.filter λ b=>decide (b≠p)) H' p=H' p->Rep G (hid (A.filter λ b=>decide (b≠p)) H') (.ref p) d):OkS G A0 He σ H' (ρ.set i (.fz d)):=by
 have hn:=w.ow0 i d p hi h1;have hmem:∀ b,b∈A.filter (λ b=>decide (b≠p))↔b∈A/\b≠p:=λ b=>by simp[z2r]
 have sm:Same (hid A H) (hid (A.filter λ b=>decide (b≠p)) H'):=λ b o h=>by
  unfold hid at h ⊢;split at h
  ·cases h
  ·rename_i hb;have hbp:b≠p:=λ z=>hb (z▸hA);rw[if_neg (λ z=>hb ((hmem b).mp z).1),hh b hbp];exact h
 have rp:=rp sm (CJ λ z=>((hmem p).mp z).2 rfl);have hep:He p=none:=(w.fr p hA).resolve_left hn;refine⟨A.filter λ b=>decide (b≠p),λ b o h=>?_,λ b hb=>(hmem b).mpr ⟨w.sub b hb,λ z=>hn (z▸hb)⟩,λ b hb=>w.fr b ((hmem b).mp hb).1,w.l0,⟨by rw[z3S];exact w.ok.len,λ b hb=>?_,λ j e h=>?_,λ j e h=>?_,λ j k e f q g1 g2 g3 g4=>?_⟩,λ j e q g1 g2=>?_,λ x e hx h0=>?_⟩
 ·have hbp:b≠p:=λ z=>by rw[z,hep] at h;cases h
  rw[hh b hbp];exact w.same b o h
 ·obtain⟨z1,z2⟩:=(hmem b).mp hb;rw[hh b z2];exact w.ok.live b z1
 ·rcases CZ h with ⟨hj,hz,_⟩ | ⟨hj,hz⟩
  ·cases hz;subst hj;exact⟨_,h1,rp⟩
  ·obtain⟨v,q1,q2⟩:=w.ok.fz j e hz;exact⟨v,q1,q2.mono sm⟩
 ·rcases CZ h with ⟨_,hz,_⟩ | ⟨hj,hz⟩
  ·cases hz
  ·obtain⟨q,q1,q2,q3⟩:=w.ok.ow j e hz;have nq:q≠p:=λ z=>hj (w.ok.inj j i e d p hz hi (z▸q1) h1);refine⟨q,q1,(hmem q).mpr ⟨q2,nq⟩,?_⟩;cases e with
   | lst ds=>obtain⟨xs,a1,a2⟩:=q3;exact⟨xs,by rw[hh q nq];exact a1,a2.mono sm⟩
   | dk ds=>obtain⟨xs,a1,a2,a3⟩:=q3;exact⟨xs,by rw[hh q nq];exact a1,a2,a3.mono sm⟩
   | dt ds=>obtain⟨xs,a1,a2,a3⟩:=q3;exact⟨xs,by rw[hh q nq];exact a1,a2,a3.mono sm⟩
   | ob c gs=>obtain⟨C,dx,xs,a1,a2,a3⟩:=q3;exact⟨C,dx,xs,by rw[hh q nq];exact a1,a2,a3.mono sm⟩
   | _=>exact q3.elim
 ·rcases CZ g1 with ⟨_,hz,_⟩ | ⟨_,z1⟩
  ·cases hz
  ·rcases CZ g2 with ⟨_,hz,_⟩ | ⟨_,z2⟩
   ·cases hz
   ·exact w.ok.inj j k e f q z1 z2 g3 g4
 ·rcases CZ g1 with ⟨_,hz,_⟩ | ⟨_,z1⟩
  ·cases hz
  ·exact w.ow0 j e q z1 g2
 ·rcases CZ h0 with ⟨_,hz,_⟩ | ⟨_,z1⟩
  ·cases hz
  ·exact w.lt x e hx z1
theorem OkS.frz {π:zP}{s:z03}{A0:List Addr}{He:Hp}{σ:St}{H:Hp}{ρ:Rho}(I:Inv X π σ H s) (w:OkS G A0 He σ H ρ) (i:Nat):∃ H',Inv X π σ H' s/\OkS G A0 He σ H' (frz1 ρ i):=by
 unfold frz1;split
 ·rename_i d hi;obtain⟨A,w⟩:=w;obtain⟨p,h1,hA,t⟩:=w.ok.ow i d hi;cases d with
  | lst ds=>
   obtain⟨xs,a1,a2⟩:=t;exact⟨H,I,w.frzC hi h1 hA (λ _ _=>rfl) λ sm hp=>.lst (.of (by rw[hp];exact a1)) (a2.mono sm).1 (a2.mono sm).2⟩
  | dk ds=>
   obtain⟨xs,a1,a2,a3⟩:=t;obtain⟨o,I'⟩:=Inv.frzK I a1;exact⟨_,I',w.frzC hi h1 hA (λ b hb=>Ak hb) λ sm hp=>.dk (by rw[hp];exact Aj) a2 (a3.mono sm).2⟩
  | dt ds=>
   obtain⟨xs,a1,a2,a3⟩:=t;obtain⟨o,I'⟩:=Inv.frzT I a1;exact⟨_,I',w.frzC hi h1 hA (λ b hb=>Ak hb) λ sm hp=>.dt (by rw[hp];exact Aj) a2 (a3.mono sm).2⟩
  | ob c gs=>
   obtain⟨C,dx,xs,a1,a2,a3⟩:=t;exact⟨H,I,w.frzC hi h1 hA (λ _ _=>rfl) λ sm hp=>.ob a2.1 (by rw[hp];exact a1) a2.2 (a3.mono sm).2⟩
  | _=>exact t.elim
 ·exact⟨H,I,w⟩
theorem ZJ {π:zP}{s:z03}{A0:List Addr}{He:Hp}{σ:St}:∀ (is:List Nat) {H:Hp}{ρ:Rho},Inv X π σ H s->OkS G A0 He σ H ρ->∃ H',Inv X π σ H' s/\OkS G A0 He σ H' (is.foldl frz1 ρ)
 | [],H,_,I,w=>⟨H,I,w⟩
 | i::r,_,_,I,w=>let ⟨_,I1,w1⟩:=w.frz I i;ZJ r I1 w1
theorem My {g:FS}(is:List Nat) (h:PSD X G st g):PSD X G st (fzS is g):=λ A0 He π s σ H D I ⟨ρ,o,ok,e,k⟩=>
 let ⟨H',I',ok'⟩:=ZJ is I ok
 @h A0 He π s σ H' D I' ⟨is.foldl frz1 ρ,o,ok',e,k⟩
end
section
variable {G:Gx}{a b c:Expr}{fa fb fc:FE}{px:Pos}{t:Str}{elt iter:Expr}{ifs:List Expr}{ga:FT}{fe:FE}{src:FI}
end
def getK {κ:Type} [DecidableEq κ] (k:κ):List (κ×D)->Option D
 | []=>none
 | p::r=>if p.1=k then some p.2 else getK k r
def repK {κ:Type} [DecidableEq κ] (k:κ) (v:D):List (κ×D)->List (κ×D)
 | []=>[]
 | p::r=>(p.1,if p.1=k then v else p.2)::repK k v r
def putL {κ:Type} [DecidableEq κ] (k:κ) (v:D) (kds:List (κ×D)):List (κ×D):=if (getK k kds).isSome then repK k v kds else kds++[(k,v)]
def keyD:D->Option Key
 | .int i=>some (.inl i)
 | .str x=>some (.inr x)
 | _=>none
def Ks:List D->Option (List Key)
 | []=>some []
 | d::r=>(keyD d).bind λ k=>(Ks r).map (k::·)
section
variable {κ:Type} [DecidableEq κ] {G:Gx}
theorem Lq {k:κ}:∀ {kds:List (κ×D)}{kvs:List (κ×V)},kvs.map (·.1)=kds.map (·.1)->RepL G H (kvs.map (·.2)) (kds.map (·.2))->(∀ d,getK k kds=some d->∃ v,valV kvs k=some v/\Rep G H v d)/\(valV kvs k).isSome=(getK k kds).isSome
 | [],kvs,e,r=>by
  cases kvs with
  | nil=>exact⟨λ d h=>by simp[getK] at h,rfl⟩
  | cons p q=>simp at e
 | p::kds,kvs,e,r=>by
  cases kvs with
  | nil=>simp at e
  | cons q kvs=>
   rw[z0c,z0c] at e;injection e with e1 e2
   rw[z0c,z0c] at r;obtain⟨x,ys,e3,r1,r2⟩:=r.uncons;injection e3 with e4 e5
   subst e4 e5;have ih:=Lq (k:=k) e2 r2
   by_cases h:p.1=k
   ·have h':q.1=k:=e1.trans h;rw[Nj h'];refine⟨λ d hd=>?_,?_⟩
    ·simp only[getK,if_pos h] at hd;cases hd;exact⟨_,rfl,r1⟩
    ·simp[getK,if_pos h]
   ·have h':¬ q.1=k:=λ z=>h (e1.symm.trans z);rw[Nk h'];simp only[getK,if_neg h];exact ih
theorem ZK {k:κ}{v:V}{d:D}(rv:Rep G H v d):∀ {kds:List (κ×D)}{kvs:List (κ×V)},kvs.map (·.1)=kds.map (·.1)->RepL G H (kvs.map (·.2)) (kds.map (·.2)) ->
  (kvs.map λ kv=>if kv.1=k then (kv.1,v) else kv).map (·.1)=(repK k d kds).map (·.1)/\RepL G H ((kvs.map λ kv=>if kv.1=k then (kv.1,v) else kv).map (·.2)) ((repK k d kds).map (·.2))
 | [],kvs,e,r=>by
  cases kvs with
  | nil=>exact⟨rfl,RepL.nil⟩
  | cons p q=>simp at e
 | p::kds,kvs,e,r=>by
  cases kvs with
  | nil=>simp at e
  | cons q kvs=>
   rw[z0c,z0c] at e;injection e with e1 e2
   rw[z0c,z0c] at r;obtain⟨x,ys,e3,r1,r2⟩:=r.uncons;injection e3 with e4 e5
   subst e4 e5;have ih:=ZK rv (k:=k) e2 r2
   by_cases h:p.1=k
   ·have h':q.1=k:=e1.trans h;refine⟨?_,?_⟩
    ·simp only[z0c,if_pos h',repK];rw[ih.1,e1]
    ·simp only[z0c,if_pos h',repK,if_pos h];exact .cons rv ih.2
   ·have h':¬ q.1=k:=λ z=>h (e1.symm.trans z);refine⟨?_,?_⟩
    ·simp only[z0c,if_neg h',repK];rw[ih.1,e1]
    ·simp only[z0c,if_neg h',repK,if_neg h];exact .cons r1 ih.2
theorem Uz {k:κ}{d:D}(rv:Rep G H v d) {kds:List (κ×D)}{kvs:List (κ×V)}(e:kvs.map (·.1)=kds.map (·.1)) (r:RepL G H (kvs.map (·.2)) (kds.map (·.2))) :
  (putK kvs k v).map (·.1)=(putL k d kds).map (·.1)/\RepL G H ((putK kvs k v).map (·.2)) ((putL k d kds).map (·.2)):=by
 unfold putK putL;rw[RQ,(Lq (k:=k) e r).2];split
 ·exact ZK rv e r
 ·rw[z0S,z0S,z0S,z0S,e];exact⟨rfl,r.append (.cons rv .nil)⟩
end
theorem WX {G:Gx}{d:D}{k:Key}(r:RepT G A H v d) (h:keyD d=some k):v=kV k:=by
 cases d with
 | int i=>cases h;exact r.int
 | str x=>cases h;exact r.str
 | _=>cases h
theorem Lr {G:Gx}{d:D}{k:Key}(r:Rep G H v d) (h:keyD d=some k):v=kV k:=by
 cases d with
 | int i=>cases h;cases r;rfl
 | str x=>cases h;cases r;rfl
 | _=>cases h
theorem Ph {G:Gx}{H:Hp}:∀ {ds:List D}{vs:List V}{ks:List Key},RepL G H vs ds->Ks ds=some ks->vs=ks.map kV
 | [],vs,ks,r,h=>by cases h;exact r.nil_inv
 | d::ds,vs,ks,r,h=>by
  obtain⟨x,ys,rfl,r1,r2⟩:=r.uncons;cases e1:keyD d with
  | none=>simp[Ks,e1] at h
  | some k=>
   cases e2:Ks ds with
   | none=>simp[Ks,e1,e2] at h
   | some ks'=>
    simp[Ks,e1,e2] at h;subst h;rw[Lr r1 e1,Ph r2 e2];rfl
section
variable {G:Gx}{a b c:Expr}{fa fb fc:FE}{px:Pos}{es:List Expr}{fs:FA}
theorem Rn:PN X G (.Dict [] [] pos) (kF (.dk [])):=λ A=>Bu eU λ σ H Q ⟨ρ,d,o,e,k⟩=>by
 cases e;exact λ p hp=>k p _ (Al hp _) hp ⟨[],Aj,rfl,RepL.nil⟩
theorem xm:PN X G (.Dict [] [] pos) (kF (.dt [])):=λ A=>Bu eX λ σ H Q ⟨ρ,d,o,e,k⟩=>by
 cases e;exact λ p hp=>k p _ (Al hp _) hp ⟨[],Aj,rfl,RepL.nil⟩
theorem PN.pf (h:PN X G a fa):PF X G a fa:=λ A π s σ H Q I ⟨ρ,d,o,e,k⟩=>
 thn (@h A π s σ H (λ v H'=>∃ p,v=.ref p/\Same H H'/\H p=none/\Top G (p::A) H' p d) I ⟨ρ,d,o,e,λ p H' sm hp t=>⟨p,rfl,sm,hp,t⟩⟩) λ u s1 ⟨v,H1,I1,r1,p,ev,sm,hp,t⟩=>by
  subst ev;have hpA:p∉A:=λ z=>(o.live p z).ne hp;have up:∀ ob,Same (hid (p::A) H1) (hid A (upd H1 p ob)):=λ ob=>by
   rw[<-Fg (A:=p::A) (H:=H1) (o:=ob) (z0L ..)];exact Ju λ b hb=>z0y _ hb
  have sm':∀ ob,Same H (upd H1 p ob):=λ ob b u hb=>by
   rw[Ak (λ z:b=p=>by rw[z,hp] at hb;cases hb)];exact sm b u hb
  cases d with
  | lst ds=>
   obtain⟨xs,a1,a2⟩:=t;have q:=a2.mono (Ju (A:=A) (B:=p::A) (H:=H1) λ b hb=>z0y _ hb);exact⟨_,H1,I1,r1,k _ H1 sm (.lst (.of (by rw[CJ hpA];exact a1)) q.1 q.2)⟩
  | dk ds=>
   obtain⟨xs,a1,a2,a3⟩:=t;obtain⟨ob,I2⟩:=Inv.frzK I1 a1;exact⟨_,_,I2,r1,k _ _ (sm' _) (.dk (by rw[CJ hpA];exact Aj) a2 (a3.mono (up _)).2)⟩
  | dt ds=>
   obtain⟨xs,a1,a2,a3⟩:=t;obtain⟨ob,I2⟩:=Inv.frzT I1 a1;exact⟨_,_,I2,r1,k _ _ (sm' _) (.dt (by rw[CJ hpA];exact Aj) a2 (a3.mono (up _)).2)⟩
  | ob c gs=>
   obtain⟨C,dx,xs,a1,a2,a3⟩:=t;have q:=a3.mono (Ju (A:=A) (B:=p::A) (H:=H1) λ b hb=>z0y _ hb);exact⟨_,H1,I1,r1,k _ H1 sm (.ob a2.1 (by rw[CJ hpA];exact a1) a2.2 q.2)⟩
  | _=>exact t.elim
def rDIn (neg:Bool):R2:=λ x y H Q=>∃ a kvs k,y=.ref a/\Rd H a (.dK kvs)/\x=kV k/\Q (.bl (if neg then !(valV kvs k).isSome else (valV kvs k).isSome)) H
theorem X4 (hu:X.A.units+1<z0h):OpR X (z0B .In) (rDIn false):=by
 intro π s σ H x y v u Q I rx ry h;obtain⟨a,kvs,k,rfl,e,rfl,q⟩:=h;cases ry;exact d_in hu I (.inl ⟨kvs,k,e,rfl,rfl⟩) rx λ s' I'=>⟨.bl _,H,I',rfl,q⟩
theorem bw (hu:X.A.units+1<z0h):OpR X (z0B .NotIn) (rDIn true):=by
 intro π s σ H x y v u Q I rx ry h;obtain⟨a,kvs,k,rfl,e,rfl,q⟩:=h;cases ry;exact nU hu I (.inl ⟨kvs,k,e,rfl,rfl⟩) rx λ s' I'=>⟨.bl _,H,I',rfl,q⟩
def inE (neg:Bool) (x y:D):Option D:=match y with
 | .dk kds=>(keyD x).map λ k=>.bl (if neg then !(getK k kds).isSome else (getK k kds).isSome)
 | _=>inD neg x y
theorem ou (neg:Bool):Dk G (λ x y H Q=>rInA G.K neg x y H Q∨rDIn neg x y H Q) (inE neg):=by
 intro A H x y dx dy d Q lv rx ry h k;unfold inE at h;split at h
 ·rename_i kds;cases e:keyD dx with
  | none=>simp[e] at h
  | some q=>
   obtain⟨p,kvs,rfl,h1,h2,r⟩:=ry.dk;have h3:=(Lq (k:=q) h2 r).2;rw[e] at h;cases h;refine .inr ⟨p,kvs,q,rfl,h1,WX rx e,?_⟩;rw[h3];exact k _ H .(21) (.bl _)
 ·exact .inl (vA neg A H x y dx dy d Q lv rx ry h k)
def rDIx:R2:=λ x y H Q=>∃ a kvs k v,x=.ref a/\Rd H a (.dK kvs)/\y=kV k/\valV kvs k=some v/\Q v H
theorem xn (hu:X.A.units+1<z0h):IxR X rDIx:=by
 intro value slice π s σ H x y v u Q I rx ry h hs;obtain⟨a,kvs,k,z,rfl,e,rfl,l,q⟩:=h;cases rx;have g:DGet H a (kV k) (some z):=.inl ⟨kvs,k,e,rfl,l.symm⟩;have hT:=V9 I g;unfold z5e;refine z01 ?_;rw[z8s hT.not_modules];refine z01 (z2q hT z6U.lookup ?_);have fin:z02 .(0) X.A (z4l slice false (.ref a) u) (λ r s₃=>z02 .(0) X.A (letTemporaryGo value (.ref a) r >>= λ _=>pure r) (EP X π σ Q) X.xe s₃) X.xe s:=by
  rw[hs];exact wpAny_operating (bO hu I g ry λ w' s3 I3 rw'=>z01 (z8t (z05 ⟨z,H,I3,rw',q⟩)))
 first
  | exact z05 (z01 fin)
  | exact z01 (z05 (z01 fin))
  | exact z01 fin
def ixE (x y:D):Option D:=match x with
 | .dk kds=>(keyD y).bind λ k=>getK k kds
 | _=>ixD x y
theorem o6:Dk G (λ x y H Q=>rIx G.K x y H Q∨rDIx x y H Q) ixE:=by
 intro A H x y dx dy d Q lv rx ry h k;unfold ixE at h;split at h
 ·rename_i kds;cases e:keyD dy with
  | none=>simp[e] at h
  | some q=>
   obtain⟨p,kvs,rfl,h1,h2,r⟩:=rx.dk;simp[e] at h;obtain⟨v,h3,r3⟩:=(Lq (k:=q) h2 r).1 d h;exact .inr ⟨p,kvs,q,v,rfl,h1,WX ry e,h3,k v H .(21) r3⟩
 ·exact .inl (fL A H x y dx dy d Q lv rx ry h k)
theorem vK (hu:X.A.units+1<z0h) (hG:G.K=X.K) (ha:PU X G a fa) (hb:PU X G b fb) (hs:Nh b):PF X G (.Subscript a b pos) (bF ixE fa fb):=
 λ A=>Bu (rY (r:=λ x y H Q=>rIx X.K x y H Q∨rDIx x y H Q) (d_.or (xn hu)) (@ha A) (@hb A) hs) λ _ _ _ h=>RZ (by rw[<-hG];exact o6) h
def Dc (x y v:D):Option D:=match x with
 | .dk kds=>(keyD y).bind λ k=>if kds.length<sizeLine then some (.dk (putL k v kds)) else none
 | _=>none
def putF (i:Nat) (fk fv:FE):FS:=λ ρ=>(fv ρ).bind λ v=>(fk ρ).bind λ y=>(ownO ρ i).bind λ x=>(Dc x y v).map λ z=>.nx (ρ.set i (.ow z))
theorem bx {ρ:Rho}{o:Out}(h:putF i fa fb ρ=some o):∃ v y x z,fb ρ=some v/\fa ρ=some y/\ρ[i]?=some (.ow x)/\Dc x y v=some z/\o=.nx (ρ.set i (.ow z)):=by
 unfold putF at h;cases e1:fb ρ with
 | none=>simp[e1] at h
 | some v=>
  cases e2:fa ρ with
  | none=>simp[e1,e2] at h
  | some y=>
   cases e3:ownO ρ i with
   | none=>simp[e1,e2,e3] at h
   | some x=>
    cases e4:Dc x y v with
    | none=>simp[e1,e2,e3,e4] at h
    | some z=>
     simp[e1,e2,e3,e4] at h;exact⟨v,y,x,z,rfl,rfl,Pg e3,e4,h.symm⟩
theorem Jx (hu:X.A.units+1<z0h) (hv:PE X (.Name x xpos) (tVar i)) (ha:PF X G a fa) (hb:PF X G b fb)
  (hs:z1o b (some (.Subscript (.Name x xpos) a spos)) pos.line X.env=pure false:=by rfl):PSD X G (.Assign [.Subscript (.Name x xpos) a spos] b pos) (putF i fa fb):=λ A0 He π s σ H D I ⟨ρ,o,⟨A,w⟩,e,k⟩=>by
 obtain⟨v,y,x0,z,e1,e2,hi,e3,rfl⟩:=bx e;refine Uq hu hv (@ha A) (@hb A) hs π s σ H D I ?_;unfold Dc at e3;split at e3
 ·rename_i kds;cases e4:keyD y with
  | none=>simp[e4] at e3
  | some q=>
   simp only[e4,z0J] at e3;split at e3
   ·rename_i hz;cases e3;obtain⟨p,h1,hA,kvs,h2,hk,r⟩:=w.ok.ow i _ hi;refine⟨ρ,v,w.ok,e1,λ u H1 s1 r1=>⟨_,h1,ρ,y,(w.mono s1).ok,e2,λ yv H2 s2 r2=>?_⟩⟩;have ek:=Lr r2 e4;subst ek;have hl:kvs.length<sizeLine:=by
     have:=congrArg z0P hk;rw[z06,z06] at this;omega
    refine⟨p,_,rfl,DPut.k (s2 _ _ (s1 _ _ h2)) hl,?_⟩;have w2:=(w.mono s1).mono s2;have pk:=Uz (k:=q) (r1.mono (Az s2)) hk (r.mono (Az (s1.trans s2)));refine k _ _ ⟨A,w2.wr hi h1 ⟨_,Aj,pk.1,?_⟩⟩;rw[Fg hA];exact pk.2
   ·cases e3
 ·cases e3
def Tz:D->Option D
 | .dk kds=>some (.dk kds)
 | _=>none
theorem X5:Cv X (.type "dict") (λ xs H Q=>∃ a kvs,xs=[.ref a]/\Rd H a (.dK kvs)/\∀ p,H p=none->Q (.ref p) (upd H p (.dK kvs))):=by
 intro π s σ H xs us Q I rs h;obtain⟨a,kvs,rfl,e,q⟩:=h;obtain⟨u,rfl,ru⟩:=rs.one;cases ru;exact eY I e λ p s' hp I'=>⟨.ref p,_,I',rfl,q p hp⟩
theorem ZL {p:Pos}(hg:Gl X x) (hm:X.mg x=none) (hv:z0x x=some (.type "dict")) (ha:PU X G a fa)
  (hn:x≠"__name__":=by decide) (hdb:.(3)=false:=by decide) (he:z09 [a] X.env=[.(7)]:=by rfl):PN X G (.Call (.Name x p) [a] [] pos) (uF Tz fa):=
 λ A=>Bu (Gm X5 hg hm hv (Bo (@ha A) Cw he) hn hdb he rfl) λ σ H Q ⟨ρ,d,o,e,k⟩=>by
  obtain⟨x0,e1,e2⟩:=Gw e;unfold Tz at e2;split at e2
  ·cases e2;refine⟨ρ,_,o,e1,λ v H1 s1 r1=>?_⟩;obtain⟨q,kvs,rfl,h1,h2,r⟩:=r1.dk;exact⟨q,kvs,rfl,h1,λ p hp=>k p _ (s1.trans (Al hp _)) (s1.free hp) ⟨kvs,Aj,h2,r.mono (Lp (Al hp _) hp)⟩⟩
  ·cases e2
end
theorem Ls {α β:Type}{R:α->β->Prop}:∀ {xs:List α}{ys:List β}{i:Nat}{x:α}{y:β},z2h R xs ys->xs[i]?=some x->ys[i]?=some y->R x y
 | _,_,i,x,y,.nil,h,_=>by simp at h
 | _,_,0,x,y,.cons r _,h1,h2=>by
  simp at h1 h2;rw[<-h1,<-h2];exact r
 | _,_,i+1,x,y,.cons _ t,h1,h2=>Ls t (by simpa using h1) (by simpa using h2)
def Itd (a:Addr) (o:Obj) (kvs:List (Key×V)):It:=
 ⟨λ i H=>H a=some (.frz o (.dK kvs))/\i<kvs.length,λ i H x H'=>H'=H/\∃ p,kvs[i]?=some p/\x=kV p.1,λ i H=>H a=some (.frz o (.dK kvs))/\kvs.length<=i⟩
theorem relK {k:Key}(h:(Ao P w).is k u=true):RelV (kV k) u:=by
 rcases Bl h with ⟨i,t,rfl,rfl⟩ | ⟨x,t,rfl,rfl⟩
 ·exact⟨t,rfl⟩
 ·exact⟨t,rfl⟩
theorem Pj {kvs:List (Key×V)}{es:Array z2z}(I:Inv X π σ H s) (e:H a=some (.frz o (.dK kvs))) (hd:o.data=.dict es ep) :
  (a==z16)=false/\∃ vs,KV kvs vs/\s.heap.DictAt (Ao X.prog X.w) a vs ep:=by
 obtain⟨ho,z,hm,vs,rel,o',es',ep',ho',h1,h2,h3⟩:=(show BL X.prog X.w H s.heap a (.frz o (.dK kvs)) from I.hok a _ e);rw[ho] at ho';cases ho';rw[hd] at h2;cases h2;exact⟨hm,vs,rel,o,es,ho,h1,hd,h3⟩
theorem bz {K:z08}(a it:Addr) {o:Obj}{es:Array z2z}{ep:Nat}(hd:o.data=.dict es ep) (kvs:List (Key×V)):Turn P w K tg (Itd a o kvs) [it] it (λ i h=>h.IsKeyIter it a i kvs.length ep) where
 mem:=by simp
 obj:=λ i h st b hb=>by
  have e:b=it:=by simpa using hb
  subst e;obtain⟨o,e,c,d⟩:=st;exact⟨o,e,λ v z=>by rw[d] at z;cases z⟩
 keep:=λ i h h' st k=>let ⟨o,e,c,d⟩:=st;⟨o,k it (by simp) o e,c,d⟩
 item:=by
  intro X hP hw hK hc i π s σ H E I hf st hg;subst hP hw hK;obtain⟨he,hi⟩:=hg;obtain⟨hm,vs,rel,dd⟩:=Pj I he hd;have hl:kvs.length=vs.length:=rel.length;obtain⟨f0,f1,f2,f3,f4,f5⟩:=hf it (by simp);have hv:vs[i]?=some (vs[i]'(by omega)):=by simp[show i<vs.length by omega]
  have hk:kvs[i]?=some (kvs[i]'hi):=by simp[hi]
  have hkk:(kvs[i]'hi).1=(vs[i]'(by omega)).1:=(Ls rel hk hv).1;refine wpAny_pyNext_dict_item (knd:=Ao X.prog X.w) (kvs:=vs) (k:=(vs[i]'(by omega)).1) (v:=(vs[i]'(by omega)).2) (by rw[<-hl];exact st) dd hv λ key h' hkey st' sb=>?_;rw[<-hl] at st';have I1:Inv X π σ H { s with heap:=h' }:=I.turned (t':=s.toks) (λ b o hb e=>(sb.2 b hb).trans e) f0 f1 f3 f4 f5;obtain⟨o1,e1,c1,d1⟩:=id st';exact⟨key,rfl,V4 (s:={ s with heap:=h' }) e1 c1 d1 (by decide) ⟨kV (kvs[i]'hi).1,H,I1,by rw[hkk];exact relK hkey,⟨rfl,_,hk,rfl⟩,st',λ b hb=>(hf b hb).1⟩⟩
 done:=by
  intro X hP hw hK hc i π s σ H E I hf st hg;subst hP hw hK;obtain⟨he,hi⟩:=hg;obtain⟨hm,vs,rel,dd⟩:=Pj I he hd;have hl:kvs.length=vs.length:=rel.length;obtain⟨f0,f1,f2,f3,f4,f5⟩:=hf it (by simp);exact wpAny_pyNext_dict_end (I.ok.hd hc) (by rw[<-hl];exact st) dd (by rw[z2Q];omega) λ h' eb=>⟨rfl,I.turned (t':=s.toks) (λ b o hb e=>eb b o hb e) f0 f1 f3 f4 f5⟩
 self:=λ _ _ _ _ _ st h=>z8G st h
section
variable {G:Gx}{a b c:Expr}{fa fb fc:FE}{tl:TE}
def xq (tl:TE):TI:=λ σ H R=>tl σ H λ x H1=>∃ a o kvs,x=.ref a/\H1 a=some (.frz o (.dK kvs))/\R (Itd a o kvs) H1
theorem o7 {l:Expr}(hl:PE X l tl):PI X tg l (xq tl):=by
 intro π s σ H R I h;refine thn (hl π s σ H _ I h) λ v s1 ⟨x,H1,I1,r1,q1⟩=>?_;obtain⟨a,o,kvs,e,hq,q⟩:=q1;subst e;cases r1;obtain⟨_,_,_,_,_,o',es,ep,ho',h1,h2,_⟩:=(show BL X.prog X.w H1 s1.heap a (.frz o (.dK kvs)) from I1.hok a _ hq);obtain⟨ho,_⟩:=(show BL X.prog X.w H1 s1.heap a (.frz o (.dK kvs)) from I1.hok a _ hq);rw[ho] at ho';cases ho';obtain⟨hm,vs,rel,dd⟩:=Pj I1 hq h2;have hl':kvs.length=vs.length:=rel.length;refine wpAny_pyIter_dict hm dd ?_;refine⟨s1.heap.objs.size,[s1.heap.objs.size],_,_,H1,rfl,I1.kept (t':=s1.toks) λ b o e=>z0d _ e,bz a _ h2 kvs,⟨_,z0l _ rfl,rfl,by rw[hl'];rfl⟩,λ b hb=>?_,q⟩;have e:b=s1.heap.objs.size:=by simpa using hb
 subst e;exact I1.fpOk (z07 _) (I1.hok.fresh (z07 _))
def kDt:Key->D
 | .inl i=>.int i
 | .inr x=>.str x
theorem Qz (k:Key):Rep G H (kV k) (kDt k):=by
 cases k with
 | inl i=>exact .int i
 | inr x=>exact .str x
def seqE (f:FE):FI:=λ ρ=>match f ρ with | some (.lst ds)=>some ds | some (.tup ds)=>some ds | some (.dk kds)=>some (kds.map λ p=>kDt p.1) | _=>none
theorem gD {kvs:List (Key×V)}{kds:List (Key×D)}(h:F1 p=some (.frz o (.dK kvs))) (e:kvs.map (·.1)=kds.map (·.1)):Src G (Itd p o kvs) (kds.map λ p=>kDt p.1) F1 F2:=by
 have hl:kvs.length=kds.length:=by have:=congrArg z0P e;rwa [z06,z06] at this
 refine⟨λ i H s hi=>⟨s _ _ h,by rw[hl];rwa [z06] at hi⟩,λ i H x H' d s hd y=>?_,λ i H s hi=>⟨s _ _ h,by rw[hl];rwa [z06] at hi⟩⟩;obtain⟨y1,q,y2,y3⟩:=y;refine Rf ⟨y1,?_⟩;have e1:(kvs.map (·.1))[i]?=some q.1:=by rw[z0o,y2];rfl
 rw[e,z0o] at e1;rw[z0o] at hd;cases e2:kds[i]? with
 | none=>rw[e2] at hd;cases hd
 | some z=>
  rw[e2] at e1 hd;cases hd;injection e1 with e1
  rw[y3,<-e1];exact Qz _
theorem gF (hG:G.K=X.K) (h:PF X G a fa):PFI X G false tg a (seqE fa):=λ A=>Nr (piOr (oK hG h (A:=A)) (o7 (@h A))) λ σ H R ⟨ρ,ds,o,e,k⟩=>by
 unfold seqE at e;split at e
 ·rename_i ds' e1;cases e;exact .inl ⟨ρ,_,o,by unfold seqI;rw[e1],k⟩
 ·rename_i ds' e1;cases e;exact .inl ⟨ρ,_,o,by unfold seqI;rw[e1],k⟩
 ·rename_i kds e1;cases e;refine .inr ⟨ρ,_,o,e1,λ v H1 s1 r1=>?_⟩;cases r1 with
  | dk h l r=>exact⟨_,_,_,rfl,Ar _ _ h,k _ H1 s1 (gD h l)⟩
 ·cases e
end
section
variable {A:z0a}
theorem xr {l:Addr}{its:Array z00}(ne:l≠it):∀ (m i:Nat) (s:z03) (Q:List z00->z03->Prop),s.heap.IsListIter it l i->s.heap.IsList l its->i+m=its.size ->
  (∀ h',h'.IsListIter it l its.size->z14 it s.heap h'->Q (its.toList.drop i) { s with heap:=h' })->z02 (z04 prog w) A (draw (.ref it) m) Q E s:=by
 intro m
 induction m with
 | zero=>
  intro i s Q hi hl hm k;refine z05 ?_;have hz:i=its.size:=by omega
  have e:its.toList.drop i=[]:=by rw[List.drop_eq_nil_iff];simp[hz]
  rw[<-e];exact k s.heap (hz▸hi) (z6V ..)
 | succ m ih=>
  intro i s Q hi hl hm k;have lt:i<its.size:=by omega
  refine z01 (m:=z0M (.ref it)) (z82 hi hl (x:=its[i]) (by simp[lt]) λ h1 hi1 sb1=>?_);have hl1:h1.IsList l its:=let ⟨o,e,r⟩:=hl;⟨o,(sb1.2 l ne).trans e,r⟩;refine z01 (wpAny_holding (ih (i+1) _ _ hi1 hl1 (by omega) λ h2 hi2 sb2=>z05 ?_));have e:its.toList.drop i=its[i]::its.toList.drop (i+1):=by simp[z4q,lt]
  rw[<-e];exact k h2 hi2 (sb1.trans sb2)
theorem o8 {l:Addr}{its:Array z00}{Q:List z00->z03->Prop}(hh:A.handled=none) (hl:s.heap.IsList l its)
  (k:∀ h',z4t s.heap.objs.size s.heap h'->Q its.toList { s with heap:=h' }):z02 (z04 prog w) A (unpackItems (.ref l) its.size none) Q E s:=by
 have ne:l≠s.heap.objs.size:=by obtain⟨o,ho,_⟩:=hl;exact z0i (z0f ho)
 have ty:s.TypeIs (.ref l) "list":=let ⟨o,e,c,_⟩:=hl;⟨o,e,c⟩;unfold unpackItems notIterableAtAll;refine z01 (z01 (z2q ty PySem.F.slot_list_iter.lookup (z05 ?_)));simp only[z0G,if_false];refine z01 (wpAny_holding (z54 hl ?_));have hl0:.(14).IsList l its:=let ⟨o,e,r⟩:=hl;⟨o,z0d _ e,r⟩;refine z01 (wpAny_holding (xr ne its.size 0 _ _ ⟨_,z0l _ rfl,rfl,rfl⟩ hl0 (by omega) λ h1 hi1 sb1=>?_));rw[z8w,if_neg (by simp)];have hl1:h1.IsList l its:=let ⟨o,e,r⟩:=hl0;⟨o,(sb1.2 l ne).trans e,r⟩;refine z01 (wpAny_holding (z83 hh hi1 hl1 (by simp) λ h2 eb=>?_));simp only[Option.isSome_none,z0G,if_false];exact z05 (k h2 λ b o hb e=>eb b o hb ((sb1.2 b hb).trans (z0d _ e)))
end
section
variable {G:Gx}{a b c:Expr}{fa fb fc:FE}{es:List Expr}
def gLst (K:z08) (n:Nat) (t:TGs):TG:=λ v σ H Q=>∃ a xs,v=.ref a/\SqL K H a xs/\xs.length=n/\t xs σ H Q
theorem vL {k:Nat}{t:TGs}(hc:X.calm=true) (h:PGs X es t)
  (hn:(z1C es X.env).length=n:=by rfl) (hst:(z1C es X.env).findIdx? (·.1)=none:=by rfl):PG X (.Tuple es k pos) (gLst X.K n t):=by
 intro π s σ H v u Q I r hw;obtain⟨a,xs,rfl,hq,hl,hw⟩:=hw;cases r;obtain⟨its,rv,ht,hz⟩:=I.list hq;rw[assign_Tuple];refine z01 (z6k ?_);unfold unpack;have e:(z1C es X.env).length=its.toArray.size:=by simp[hn,<-hl,rv.length]
 rw[e,hst];refine z01 (wpAny_holding (o8 (I.ok.hd hc) ht.isList λ h' hx=>?_));have I1:Inv X π σ H { s with heap:=h' }:=I.kept (t':=s.toks) λ b o e=>hx b o (z0i (z0f e)) e;exact h π _ σ H xs _ Q I1 (by simpa using rv) hw
theorem PG.or {t t':TG}(h:PG X tg t) (h':PG X tg t'):PG X tg (λ v σ H Q=>t v σ H Q∨t' v σ H Q):=λ π s σ H v u Q I r q=>by
 rcases q with q | q
 ·exact h π s σ H v u Q I r q
 ·exact h' π s σ H v u Q I r q
abbrev FGs:=List D->Rho->Option Rho
def nilG:FGs:=λ ds ρ=>match ds with | []=>some ρ | _=>none
def BX (i:Nat) (g:FGs):FGs:=λ ds ρ=>match ds with | d::r=>g r (ρ.set i (.fz d)) | []=>none
def tupG (n:Nat) (g:FGs):FG:=λ d ρ=>match d with
 | .tup ds=>if ds.length=n then g ds ρ else none
 | .lst ds=>if ds.length=n then g ds ρ else none
 | _=>none
def tGDs (G:Gx) (A0:List Addr) (He:Hp) (g:FGs):TGs:=λ vs σ H Q=>∃ A ρ ds ρ',OkW G A0 He A σ H ρ/\RepL G (hid A H) vs ds/\g ds ρ=some ρ'/\∀ σ' H',OkS G A0 He σ' H' ρ'->Q σ' H'
def PGDs (X:Cx) (G:Gx) (es:List Expr) (g:FGs):Prop:=∀ ⦃A0⦄ He,PGs X es (tGDs G A0 He g)
theorem Hy:PGDs X G [] nilG:=λ A0 He π s σ H vs us Q I r ⟨A,ρ,ds,ρ',w,rv,e,k⟩=>by
 unfold nilG at e;split at e
 ·cases e;exact Yt π s σ H vs us Q I r ⟨rv.nil_inv,k _ _ ⟨A,w⟩⟩
 ·cases e
theorem Ba {g:FGs}(h1:PG X e (Hd i)) (h2:PGDs X G es g)
  (hs:(z1C (e::es) X.env).map (·.2)=z3J e X.env::(z1C es X.env).map (·.2):=by rfl):PGDs X G (e::es) (BX i g):=λ A0 He π s σ H vs us Q I r ⟨A,ρ,ds,ρ',w,rv,e,k⟩=>by
 unfold BX at e;split at e
 ·rename_i d ds';obtain⟨x,ys,rfl,r1,r2⟩:=rv.uncons;exact RK h1 (@h2 A0 He) hs π s σ H _ us Q I r ⟨x,ys,rfl,A,_,ds',ρ',w.set r1 i,r2,e,k⟩
 ·cases e
theorem Jy {k:Nat}{g:FGs}(hG:G.K=X.K) (hc:X.calm=true) (h:PGDs X G es g)
  (hn:(z1C es X.env).length=n:=by rfl) (hst:(z1C es X.env).findIdx? (·.1)=none:=by rfl):PGD X G (.Tuple es k pos) (tupG n g):=λ A0 He π s σ H v u Q I r ⟨A,ρ,d,ρ',w,rv,e,k⟩=>by
 refine PG.or (dJ hc (@h A0 He) hn hst) (vL hc (@h A0 He) hn hst) π s σ H v u Q I r ?_;unfold tupG at e;split at e
 ·rename_i ds;split at e
  ·rename_i hl;cases rv with
   | tup h1 l1 r1=>exact .inl ⟨_,_,rfl,by rw[<-hG];exact Dj Ar h1,by rw[l1];exact hl,A,ρ,ds,ρ',w,⟨l1,r1⟩,e,k⟩
  ·cases e
 ·rename_i ds;split at e
  ·rename_i hl;cases rv with
   | lst h1 l1 r1=>exact .inr ⟨_,_,rfl,by rw[<-hG];exact Ar.seq h1,by rw[l1];exact hl,A,ρ,ds,ρ',w,⟨l1,r1⟩,e,k⟩
  ·cases e
 ·cases e
def asgF (f:FE) (g:FG):FS:=λ ρ=>(f ρ).bind λ d=>(g d ρ).map .nx
theorem U0 {g:FG}(hg:PGD X G tg g) (ha:PF X G a fa) (hs:swapsWithSole [tg] a pos.line X.env=pure false:=by rfl) (hw:swappedStores [tg] a X.env=pure none:=by rfl)
  (h1:(z1C [tg] X.env).map (·.2)=[z3J tg X.env]:=by rfl):PSD X G (.Assign [tg] a pos) (asgF fa g):=λ A0 He π s σ H D I ⟨ρ,o,⟨A,w⟩,e,k⟩=>by
 unfold asgF at e;cases e1:fa ρ with
 | none=>simp[e1] at e
 | some d=>
  cases e2:g d ρ with
  | none=>simp[e1,e2] at e
  | some ρ'=>
   simp[e1,e2] at e;subst e;exact uY (@ha A) (@hg A0 He) hs hw h1 π s σ H D I ⟨ρ,d,w.ok,e1,λ v H1 s1 r1=>⟨A,ρ,d,ρ',w.mono s1,r1,e2,λ σ' H' ok=>k σ' H' ok⟩⟩
theorem Be:Cv X (.builtin "len") (λ xs H Q=>∃ a kvs,xs=[V.ref a]/\Rd H a (.dK kvs)/\Q (.int kvs.length) H):=by
 intro π s σ H xs us Q I rs h;obtain⟨a,kvs,rfl,e,q⟩:=h;obtain⟨u,rfl,ru⟩:=rs.one;cases ru;exact xV I e λ t s' I'=>⟨.int kvs.length,H,I',⟨t,rfl⟩,q⟩
def lenE:D->Option D
 | .dk kds=>some (.int kds.length)
 | d=>lenD d
theorem Ca:SndC G (λ xs H Q=>(∃ x n,xs=[x]/\LenV G.K x H n/\Q (.int n) H)∨∃ a kvs,xs=[V.ref a]/\Rd H a (.dK kvs)/\Q (.int kvs.length) H) lenE:=by
 intro A H x dx d Q lv rx h k;unfold lenE at h;split at h
 ·cases h;obtain⟨p,kvs,rfl,h1,h2,r⟩:=rx.dk;have hl:=congrArg z0P h2;rw[z06,z06] at hl;refine .inr ⟨p,kvs,rfl,h1,?_⟩;rw[hl];exact k _ H .(21) (.int _)
 ·exact .inl (Qx A H x dx d Q lv rx h k)
end
def Iti (a:Addr) (o:Obj) (kvs:List (Key×V)):It:=
 ⟨λ i H=>H a=some (.frz o (.dK kvs))/\i<kvs.length,λ i H x H'=>∃ T p,H T=none/\kvs[i]?=some p/\x=.ref T/\H'=upd H T (.tup [kV p.1,p.2]),λ i H=>H a=some (.frz o (.dK kvs))/\kvs.length<=i⟩
theorem X6 {K:z08}(a it:Addr) {o:Obj}{es:Array z2z}{ep:Nat}(hd:o.data=.dict es ep) (kvs:List (Key×V)) :
  Turn P w K (.Tuple elts x1 tp) (Iti a o kvs) [it] it (λ i h=>∃ ok ov,IsItemIter h it a i kvs.length ep ok ov) where
 mem:=by simp
 obj:=λ i h st b hb=>by
  have e:b=it:=by simpa using hb
  subst e;obtain⟨ok,ov,e⟩:=st;exact⟨_,e,λ v z=>by
   have z':z52 _=z53 v:=z;cases z'⟩
 keep:=λ i h h' st k=>let ⟨ok,ov,e⟩:=st;⟨ok,ov,k it (by simp) _ e⟩
 item:=by
  intro X hP hw hK hc i π s σ H E I hf st hg;subst hP hw hK;obtain⟨he,hi⟩:=hg;obtain⟨ok,ov,st⟩:=st;obtain⟨hm,vs,rel,dd⟩:=Pj I he hd;have hl:kvs.length=vs.length:=rel.length;obtain⟨f0,f1,f2,f3,f4,f5⟩:=hf it (by simp);have hv:vs[i]?=some (vs[i]'(by omega)):=by simp[show i<vs.length by omega]
  have hk:kvs[i]?=some (kvs[i]'hi):=by simp[hi]
  obtain⟨hkk,hvv⟩:=Ls rel hk hv;have hlt:it<s.heap.objs.size:=z0f st;refine wpAny_pyNext_items_item (knd:=Ao X.prog X.w) (kvs:=vs) (k:=(vs[i]'(by omega)).1) (v:=(vs[i]'(by omega)).2) (by rw[<-hl];exact st) dd hv λ key h1 hkey out ht hz kk=>?_;refine⟨_,rfl,wpAny_letOwnedTupleGo_items (s:={ s with heap:=h1 }) out λ h2 st2 sb=>?_⟩;have hT:H s.heap.objs.size=none:=I.hok.fresh (z07 _);have rk:RelV (kV (kvs[i]'hi).1) key:=by rw[hkk];exact relK hkey
  have I1:Inv X π σ (upd H s.heap.objs.size (.tup [kV (kvs[i]'hi).1,(kvs[i]'hi).2])) { s with heap:=s.heap.push { cls:=.type "tuple",data:=.seq #[key,(vs[i]'(by omega)).2] } }:=
   I.laid (a:=s.heap.objs.size) (t':=s.toks) (λ b u e=>z0d _ e) (z07 _) ⟨by show 2<=sizeLine;decide,[key,(vs[i]'(by omega)).2],.cons rk (.cons hvv .nil),_,z0l _ rfl,rfl,_,rfl⟩
  have kp:∀ b u,b≠it->(s.heap.push { cls:=.type "tuple",data:=.seq #[key,(vs[i]'(by omega)).2] }).get? b=some u->h2.get? b=some u:=λ b u hb e=>by
   refine (sb.2 b hb).trans ?_
   rcases z4u e with ⟨rfl,rfl⟩ | e'
   ·exact ht
   ·exact kk b u hb e'
  have I2:=L2.Inv.turned (t':=s.toks) (it:=it) (h':=h2) I1 kp (by rw[Ak (z0i hlt)];exact f0) f1 f3 f4 f5;refine⟨.ref s.heap.objs.size,_,I2,rfl,⟨_,_,hT,hk,rfl,rfl⟩,⟨key,(vs[i]'(by omega)).2,by rw[hl];exact st2⟩,λ b hb=>?_⟩;have e:b=it:=by simpa using hb
  subst e;rw[Ak (z0i hlt)];exact f0
 done:=by
  intro X hP hw hK hc i π s σ H E I hf st hg;subst hP hw hK;obtain⟨he,hi⟩:=hg;obtain⟨ok,ov,st⟩:=st;obtain⟨hm,vs,rel,dd⟩:=Pj I he hd;have hl:kvs.length=vs.length:=rel.length;obtain⟨f0,f1,f2,f3,f4,f5⟩:=hf it (by simp);exact wpAny_pyNext_items_end (I.ok.hd hc) (by rw[<-hl];exact st) dd (by rw[z2Q];omega) λ h' eb=>⟨rfl,I.turned (t':=s.toks) (λ b o hb e=>eb b o hb e) f0 f1 f3 f4 f5⟩
 self:=λ _ _ _ _ _ ⟨ok,ov,st⟩ h=>PySem.W.kcp_self st h
section
variable {G:Gx}{a b c:Expr}{fa fb fc:FE}{tl:TE}
def vM (tl:TE):TI:=λ σ H R=>tl σ H λ x H1=>∃ a o kvs,x=.ref a/\H1 a=some (.frz o (.dK kvs))/\R (Iti a o kvs) H1
theorem gG {l:Expr}{cpos:Pos}(hl:PE X l tl) (hbase:z1q l "items" X.env (eval l X.env)=eval l X.env:=by rfl) (hline:(apos.endLine==cpos.line)=true:=by rfl) :
  PI X (.Tuple elts x1 tp) (.Call (.Attribute l "items" apos) [] [] cpos) (vM tl):=by
 intro π s σ H R I h;refine z8H (T:="dict") (id:="dict.items") hbase rfl hline F.plainAttrs_dict z8I F.type_dict_items (thn (hl π s σ H _ I h) λ v s1 ⟨x,H1,I1,r1,q1⟩=>?_);obtain⟨a,o,kvs,e,hq,q⟩:=q1;subst e;cases r1;obtain⟨_,_,_,_,_,o',es,ep,ho',h1,h2,_⟩:=(show BL X.prog X.w H1 s1.heap a (.frz o (.dK kvs)) from I1.hok a _ hq);obtain⟨ho,_⟩:=(show BL X.prog X.w H1 s1.heap a (.frz o (.dK kvs)) from I1.hok a _ hq);rw[ho] at ho';cases ho';obtain⟨hm,vs,rel,dd⟩:=Pj I1 hq h2;have hl':kvs.length=vs.length:=rel.length;have hm1:=dd.dictOf;refine⟨hm1.typeIs,hm1.mapOf.noDict,?_⟩;show z02 _ _ (z29 cpos (.builtin "dict.items") [.ref a] [] []) _ _ s1;refine method_meetsIn z8I F.entry_dict_items rfl (PySem.evalArgs_none ⟨rfl,hm1.typeIs,F.args_dict_items_1 _,_,meets_dict_items (Ao X.prog X.w) a hm,⟨vs,hm1⟩,?_⟩);have I2:Inv X π σ H1 { s1 with heap:=s1.heap.push { cls:=.type "dict_items",data:=.fields #[.ref a] } }:=I1.kept (t':=s1.toks) λ b o e=>z0d _ e;refine wpAny_pyIter_items (knd:=Ao X.prog X.w) (kvs:=vs) (s:={ s1 with heap:=s1.heap.push { cls:=.type "dict_items",data:=.fields #[.ref a] } }) ⟨_,z0l _ rfl,rfl,rfl⟩ (dd.push _) ?_;refine⟨(s1.heap.push { cls:=.type "dict_items",data:=.fields #[.ref a] }).objs.size,[(s1.heap.push { cls:=.type "dict_items",data:=.fields #[.ref a] }).objs.size],_,_,H1,rfl,I2.kept (t':=s1.toks) λ b o e=>z0d _ e,X6 a _ h2 kvs,⟨.none,.none,?_⟩,λ b hb=>?_,q⟩
 ·rw[hl'];exact z0l _ rfl
 ·have e:b=(s1.heap.push { cls:=.type "dict_items",data:=.fields #[.ref a] }).objs.size:=by simpa using hb
  subst e;exact I2.fpOk (z07 _) (I2.hok.fresh (z07 _))
def Pk (f:FE):FI:=λ ρ=>match f ρ with | some (.dk kds)=>some (kds.map λ p=>.tup [kDt p.1,p.2]) | _=>none
theorem gH {α β:Type}{f:α->β}{l:List α}{y:β}(h:(l.map f)[i]?=some y):∃ x,l[i]?=some x/\f x=y:=by
 rw[z0o] at h;exact z1T.mp h
theorem b_ {kvs:List (Key×V)}{kds:List (Key×D)}(h:F1 p=some (.frz o (.dK kvs))) (e:kvs.map (·.1)=kds.map (·.1)) (r:RepL G F2 (kvs.map (·.2)) (kds.map (·.2))) :
  Src G (Iti p o kvs) (kds.map λ p=>.tup [kDt p.1,p.2]) F1 F2:=by
 have hl:kvs.length=kds.length:=by have:=congrArg z0P e;rwa [z06,z06] at this
 refine⟨λ i H s hi=>⟨s _ _ h,by rw[hl];rwa [z06] at hi⟩,λ i H x H' d s hd y=>?_,λ i H s hi=>⟨s _ _ h,by rw[hl];rwa [z06] at hi⟩⟩;obtain⟨T,q,hT,y2,rfl,rfl⟩:=y;obtain⟨z,hz,rfl⟩:=gH hd;have e1:(kvs.map (·.1))[i]?=some q.1:=by rw[z0o,y2];rfl
 rw[e,z0o,hz] at e1;injection e1 with e1
 have rz:Rep G F2 q.2 z.2:=r.2 i q.2 z.2 (by rw[z0o,y2];rfl) (by rw[z0o,hz];rfl);refine⟨Al hT _,λ B lv sm=>?_⟩;have rr:RepL G (hid B H) [kV q.1,q.2] [kDt z.1,z.2]:=.cons (by rw[<-e1];exact Qz _) (.cons (rz.mono sm) .nil);exact Ds lv hT rr
theorem T3 {top:Bool}{cpos:Pos}(h:PF X G a fa) (hbase:z1q a "items" X.env (eval a X.env)=eval a X.env:=by rfl) (hline:(apos.endLine==cpos.line)=true:=by rfl) :
  PFI X G false (.Tuple elts x1 tp) (.Call (.Attribute a "items" apos) [] [] cpos) (Pk fa):=λ A=>Nr (gG (@h A) hbase hline) λ σ H R ⟨ρ,ds,o,e,k⟩=>by
 unfold Pk at e;split at e
 ·rename_i kds e1;cases e;refine⟨ρ,_,o,e1,λ v H1 s1 r1=>?_⟩;cases r1 with
  | dk h l r=>exact⟨_,_,_,rfl,Ar _ _ h,k _ H1 s1 (b_ h l ⟨by have:=congrArg z0P l;rwa [z06,z06] at this ⊢,r⟩)⟩
 ·cases e
end
section
variable {G:Gx}{a b c:Expr}{fa fb fc:FE}{es:List Expr}{fs:FA}
theorem U3 {P:z0s}{w:z0k}:∀ {kvs:List (Key×V)}{us:List z00},us.length=kvs.length->(∀ (j:Nat) u,us[j]?=some u->∃ p,kvs[j]?=some p/\(Ao P w).is p.1 u=true)->Vals (kvs.map λ p=>kV p.1) us
 | [],us,hl,_=>by
  have:us=[]:=z4v hl;subst this;exact .nil
 | p::kvs,[],hl,_=>by simp at hl
 | p::kvs,u::us,hl,h=>by
  obtain⟨q,h1,h2⟩:=h 0 u rfl;simp at h1;subst h1;exact .cons (relK h2) (U3 (P:=P) (w:=w) (by simpa using hl) λ j v hv=>by simpa using h (j+1) v (by simpa using hv))
theorem Hl (hc:X.calm=true):Cv X (.type "list") (λ xs H Q=>∃ p kvs,xs=[.ref p]/\Rd H p (.dK kvs)/\∀ l,H l=none->Q (.ref l) (upd H l (.lst (kvs.map λ q=>kV q.1)))):=by
 intro π s σ H xs us Q I r h;obtain⟨p,kvs,rfl,e,q⟩:=h;obtain⟨u,rfl,ru⟩:=r.one;cases ru;obtain⟨z,hd,vs,rel,dd⟩:=Nm I.hok e;obtain⟨ep,dd⟩:=dd.dictAt;have hl:kvs.length=vs.length:=rel.length;refine z8J (z8K (knd:=Ao X.prog X.w) (kvs:=vs) (ep:=ep) hd) (I.ok.hd hc) dd (by omega) λ h' tk acc c' kp hn hi=>?_;have va:Vals (kvs.map λ q=>kV q.1) acc.toList:=by
  refine U3 (P:=X.prog) (w:=X.w) (by simp[hi.1,hl]) λ j u hu=>?_;obtain⟨k,x,h1,h2⟩:=hi.2 j u (by simpa using hu);have hj:j<kvs.length:=by rw[hl];exact (z1s.mp h1).1
  refine⟨kvs[j],by simp[hj],?_⟩;rw[(Ls rel (by simp[hj]) h1).1];exact h2
 exact⟨.ref s.heap.objs.size,_,I.laid (t':=tk) kp (z07 _) (show BL X.prog X.w _ h' _ (.lst (kvs.map λ q=>kV q.1)) from⟨by rw[z06];exact z,acc.toList,c',va,by simpa using hn⟩),rfl,q _ (I.hok.fresh (z07 _))⟩
def listE:D->Option D
 | .dk kds=>some (.lst (kds.map λ p=>kDt p.1))
 | d=>fC d
theorem gJ {H:Hp}:∀ {kvs:List (Key×V)}{kds:List (Key×D)},kvs.map (·.1)=kds.map (·.1)->RepL G H (kvs.map λ q=>kV q.1) (kds.map λ p=>kDt p.1)
 | [],[],_=>RepL.nil
 | [],_::_,h=>by simp at h
 | _::_,[],h=>by simp at h
 | p::kvs,q::kds,h=>by
  rw[z0c,z0c] at h;injection h with h1 h2
  exact .cons (by show Rep G H (kV p.1) (kDt q.1);rw[h1];exact Qz _) (gJ h2)
theorem cA:SndC G (λ xs H Q=>(∃ p ys,xs=[.ref p]/\(SqL G.K H p ys∨SqT G.K H p ys)/\∀ l,H l=none->Q (.ref l) (upd H l (.lst ys)))∨∃ p kvs,xs=[.ref p]/\Rd H p (.dK kvs)/\∀ l,H l=none->Q (.ref l) (upd H l (.lst (kvs.map λ q=>kV q.1)))) listE:=by
 intro A H x dx d Q lv rx h k;unfold listE at h;split at h
 ·cases h;obtain⟨p,kvs,rfl,h1,h2,r⟩:=rx.dk;exact .inr ⟨p,kvs,rfl,h1,λ l hl=>k _ _ (Al hl _) (DY lv hl (gJ h2))⟩
 ·exact .inl (fV A H x dx d Q lv rx h k)
def Ny (x:D) (ds:List D) (v:D):Option D:=match x with
 | .dt kds=>(Ks ds).bind λ k=>if kds.length<sizeLine/\ds.length<=sizeLine then some (.dt (putL k v kds)) else none
 | _=>none
def WY (i:Nat) (fk:FA) (fv:FE):FS:=λ ρ=>(fv ρ).bind λ v=>(fk ρ).bind λ y=>(ownO ρ i).bind λ x=>(Ny x y v).map λ z=>.nx (ρ.set i (.ow z))
theorem X7 {ρ:Rho}{o:Out}(h:WY i fs fb ρ=some o):∃ v y x z,fb ρ=some v/\fs ρ=some y/\ρ[i]?=some (.ow x)/\Ny x y v=some z/\o=.nx (ρ.set i (.ow z)):=by
 unfold WY at h;cases e1:fb ρ with
 | none=>simp[e1] at h
 | some v=>
  cases e2:fs ρ with
  | none=>simp[e1,e2] at h
  | some y=>
   cases e3:ownO ρ i with
   | none=>simp[e1,e2,e3] at h
   | some x=>
    cases e4:Ny x y v with
    | none=>simp[e1,e2,e3,e4] at h
    | some z=>
     simp[e1,e2,e3,e4] at h;exact⟨v,y,x,z,rfl,rfl,Pg e3,e4,h.symm⟩
theorem gK (hu:X.A.units+1<z0h) (hv:PE X (.Name x xpos) (tVar i)) (ha:PFA X G es fs) (hb:PF X G b fb)
  (hs:z1o b (some (.Subscript (.Name x xpos) (.Tuple es x1 tp) spos)) pos.line X.env=pure false:=by rfl):PSD X G (.Assign [.Subscript (.Name x xpos) (.Tuple es x1 tp) spos] b pos) (WY i fs fb):=λ A0 He π s σ H D I ⟨ρ,o,⟨A,w⟩,e,k⟩=>by
 obtain⟨v,y,x0,z,e1,e2,hi,e3,rfl⟩:=X7 e;refine Uq hu hv (Xn (@ha A)) (@hb A) hs π s σ H D I ?_;unfold Ny at e3;split at e3
 ·rename_i kds;cases e4:Ks y with
  | none=>simp[e4] at e3
  | some q=>
   simp only[e4,z0J] at e3;split at e3
   ·rename_i hz;cases e3;obtain⟨p,h1,hA,kvs,h2,hk,r⟩:=w.ok.ow i _ hi;refine⟨ρ,v,w.ok,e1,λ u H1 s1 r1=>⟨_,h1,ρ,y,(w.mono s1).ok,e2,λ vs H2 s2 r2=>⟨by rw[r2.1];exact hz.2,λ T hT=>?_⟩⟩⟩;have ek:=Ph r2 e4;subst ek;have hl:kvs.length<sizeLine:=by
     have:=congrArg z0P hk;rw[z06,z06] at this;omega
    have s3:Same H2 (upd H2 T (.tup (q.map kV))):=Al hT _;refine⟨p,_,rfl,DPut.t (s3 _ _ (s2 _ _ (s1 _ _ h2))) Aj hl,?_⟩;have w2:=((w.mono s1).mono s2).mono s3;have pk:=Uz (k:=q) (r1.mono (Az (s2.trans s3))) hk (r.mono (Az (s1.trans (s2.trans s3))));refine k _ _ ⟨A,w2.wr hi h1 ⟨_,Aj,pk.1,?_⟩⟩;rw[Fg hA];exact pk.2
   ·cases e3
 ·cases e3
end
section
variable {G:Gx}{a b c:Expr}{fa fb fc:FE}{es:List Expr}{fs:FA}{src:FI}
theorem PFI.top (h:PFI X G false tg a src):PFI X G true tg a src:=λ A=>Nr (@h A) λ σ H R ⟨ρ,ds,o,e,k⟩=>
 ⟨ρ,ds,o,e,λ J H1 s1 sr=>k J H1 s1 ⟨λ i H s hi=>sr.go i H (Ar.trans s) hi,λ i H x H' d s hd y=>sr.yld i H x H' d (Ar.trans s) hd y,λ i H s hi=>sr.stop i H (Ar.trans s) hi⟩⟩
theorem RepT.ob {A:List Addr}{H:Hp}{v:V}{c:Str}{gs:List (Str×D)}(r:RepT G A H v (.ob c gs)):∃ a C dx fs,v=.ref a/\G.cl c=some C/\H a=some (.ins C dx fs)/\fs.map (·.1)=gs.map (·.1)/\RepL G (hid A H) (fs.map (·.2)) (gs.map (·.2)):=by
 rcases r with r | ⟨a,e,C,dx,fs,h,k,r⟩
 ·cases r with
  | ob hc h l r=>
   have hl:=congrArg z0P l;rw[z06,z06] at hl;exact⟨_,_,_,_,rfl,hc,Ar _ _ h,l,by rw[z06,z06];exact hl,r⟩
 ·exact⟨a,C,dx,fs,e,k.1,h,k.2,r⟩
def fldD (f:Str):D->Option D
 | .ob _ gs=>gs.lookup f
 | _=>none
theorem Pn {H:Hp}{f:Str}{d:D}:∀ {gs:List (Str×D)}{fs:List (Str×V)},fs.map (·.1)=gs.map (·.1)->RepL G H (fs.map (·.2)) (gs.map (·.2))->gs.lookup f=some d->∃ v,fs.lookup f=some v/\Rep G H v d
 | [],fs,e,r,h=>by simp at h
 | p::gs,[],e,r,h=>by simp at e
 | p::gs,q::fs,e,r,h=>by
  rw[z0c,z0c] at e r;injection e with e1 e2
  obtain⟨x,ys,e3,r1,r2⟩:=r.uncons;injection e3 with e4 e5
  subst e4 e5;obtain⟨p1,p2⟩:=p;obtain⟨q1,q2⟩:=q;simp only at e1 r1;subst e1
  by_cases hf:f=q1
  ·subst hf;simp only[z0q,beq_self_eq_true,z6W] at h ⊢;subst h;exact⟨q2,rfl,r1⟩
  ·have hb:(f==q1)=false:=beq_eq_false_iff_ne.mpr hf;simp only[z0q,hb] at h ⊢;exact Pn e2 r2 h
theorem BR (hcl:∀ c C,G.cl c=some C->Cls X.K C/\Bd X.K C f) (he:PU X G a fa) (hb:z1q a f X.env (eval a X.env)=eval a X.env:=by rfl):PF X G (.Attribute a f pos) (uF (fldD f) fa):=
 λ A=>Bu (Xk (@he A) hb) λ σ H Q ⟨ρ,d,o,e,k⟩=>by
  obtain⟨x0,e1,e2⟩:=Gw e;unfold fldD at e2;split at e2
  ·rename_i cn gs;refine⟨ρ,_,o,e1,λ v H1 s1 r1=>?_⟩;obtain⟨p,C,dx,fs,rfl,hc,h,l,r⟩:=r1.ob;obtain⟨v,h1,h2⟩:=Pn (f:=f) (d:=d) l r e2;exact⟨_,_,_,_,v,rfl,h,(hcl _ _ hc).1,(hcl _ _ hc).2,h1,k v H1 s1 h2⟩
  ·cases e2
end
def Its (x:Str):It:=⟨λ i _=>i<x.cps.size,λ i H y H'=>H'=H/\∃ c,x.cps[i]?=some c/\y=.str ⟨#[c]⟩,λ i _=>x.cps.size<=i⟩
theorem Wa {K:z08}(it:Addr) (x:Str) (t:Tok) (ty:String) (W:∀ A:z0a,A.handled=none->z1E P w A it [it] [it] x.cps.size (SignAt x) (λ i h=>h.IsStrIter it ty x t i))
  (hn:["enumerate","zip","dict_itemiterator","dict_reverseitemiterator","odict_iterator","itertools.zip_longest","itertools.pairwise"].contains ty=false)
  (fin:∀ (A:z0a),A.handled=none->∀ (i:Nat) (s:z03) (Q:Option z00->z03->Prop) (E:z00->z03->Prop),s.heap.IsStrIter it ty x t i->x.cps[i]?=none->(∀ h',z4t it s.heap h'->Q none { s with heap:=h' })->z02 (z04 P w) A (z0M (.ref it)) Q E s)
  (self:∀ (A:z0a) (i:Nat) (s:z03) (Q:z00->z03->Prop) (E:z00->z03->Prop),s.heap.IsStrIter it ty x t i->Q (.ref it) s->z02 (z04 P w) A (z2t (.ref it)) Q E s) :
  Turn P w K tg (Its x) [it] it (λ i h=>h.IsStrIter it ty x t i) where
 mem:=by simp
 obj:=λ i h st b hb=>by
  have e:b=it:=by simpa using hb
  subst e;obtain⟨o,e,c,d⟩:=st;exact⟨o,e,λ v z=>by rw[d] at z;cases z⟩
 keep:=λ i h h' st k=>let ⟨o,e,c,d⟩:=st;⟨o,k it (by simp) o e,c,d⟩
 item:=by
  intro X hP hw hK hc i π s σ H E I hf st hg;subst hP hw hK;obtain⟨f0,f1,f2,f3,f4,f5⟩:=hf it (by simp);refine (W X.A (I.ok.hd hc)).item i s _ _ hg st λ v h' tk hv st' kk=>?_;obtain⟨c,u,e1,rfl⟩:=hv;have I1:Inv X π σ H { s with heap:=h',toks:=tk }:=I.turned (λ b o hb e=>kk b o (by simpa using hb) e) f0 f1 f3 f4 f5;obtain⟨o1,e2,c1,d1⟩:=id st';exact⟨_,rfl,V4 (s:={ s with heap:=h',toks:=tk }) e2 c1 d1 hn ⟨.str ⟨#[c]⟩,H,I1,⟨u,rfl⟩,⟨rfl,c,e1,rfl⟩,st',λ b hb=>(hf b hb).1⟩⟩
 done:=by
  intro X hP hw hK hc i π s σ H E I hf st hg;subst hP hw hK;obtain⟨f0,f1,f2,f3,f4,f5⟩:=hf it (by simp);exact fin X.A (I.ok.hd hc) i s _ _ st (by rw[Array.getElem?_eq_none_iff];exact hg) λ h' eb=>⟨rfl,I.turned (t':=s.toks) (λ b o hb e=>eb b o hb e) f0 f1 f3 f4 f5⟩
 self:=λ A i s Q E st h=>self A i s Q E st h
section
variable {G:Gx}{a b c:Expr}{fa fb fc:FE}{tl:TE}
def iStr (tl:TE):TI:=λ σ H R=>tl σ H λ x H1=>∃ y,x=.str y/\R (Its y) H1
theorem vN {l:Expr}(hl:PE X l tl):PI X tg l (iStr tl):=by
 intro π s σ H R I h;refine thn (hl π s σ H _ I h) λ v s1 ⟨x,H1,I1,r1,q1⟩=>?_;obtain⟨y,e,q⟩:=q1;subst e;obtain⟨t,e⟩:=(show ∃ t,v=z3E y t from r1);subst e;have fp:∀ b∈[s1.heap.objs.size],FpOk X π H1 b:=λ b hb=>by
  have e:b=s1.heap.objs.size:=by simpa using hb
  subst e;exact I1.fpOk (z07 _) (I1.hok.fresh (z07 _))
 cases ha:y.cps.all (·<128)
 ·exact wpAny_pyIter_wide ha ⟨s1.heap.objs.size,[s1.heap.objs.size],_,_,H1,rfl,I1.kept (t':=s1.toks) λ b o e=>z0d _ e,
   Wa _ y t "str_iterator" (λ A hA=>Walks.strWide hA _ y t) (by decide) (λ _ hh _ _ _ _ st hx k=>wpAny_pyNext_wide_end hh st hx k) (λ _ _ _ _ _ st h=>wpAny_pyIter_striter_wide st h),⟨_,z0l _ rfl,rfl,rfl⟩,fp,q⟩
 ·exact wpAny_pyIter_ascii ha ⟨s1.heap.objs.size,[s1.heap.objs.size],_,_,H1,rfl,I1.kept (t':=s1.toks) λ b o e=>z0d _ e,
   Wa _ y t "str_ascii_iterator" (λ A hA=>Walks.strAscii hA _ y t) (by decide) (λ _ hh _ _ _ _ st hx k=>wpAny_pyNext_ascii_end hh st hx k) (λ _ _ _ _ _ st h=>wpAny_pyIter_striter_ascii st h),⟨_,z0l _ rfl,rfl,rfl⟩,fp,q⟩
def Wb (x:Str):List D:=x.cps.toList.map λ c=>.str ⟨#[c]⟩
theorem o9:Src G (Its x) (Wb x) F1 F2:=by
 have hl:(Wb x).length=x.cps.size:=by unfold Wb;simp
 refine⟨λ i H s hi=>by rw[hl] at hi;exact hi,λ i H y H' d s hd q=>?_,λ i H s hi=>by rw[hl] at hi;exact hi⟩;obtain⟨q1,c,q2,q3⟩:=q;refine Rf ⟨q1,?_⟩;obtain⟨z,hz,rfl⟩:=gH hd;have e:x.cps[i]?=some z:=by simpa using hz
 rw[e] at q2;cases q2;rw[q3];exact .str _
def seqA (f:FE):FI:=λ ρ=>match f ρ with | some (.str x)=>some (Wb x) | _=>seqE f ρ
theorem BP (hG:G.K=X.K) (h:PF X G a fa):PFI X G false tg a (seqA fa):=λ A=>Nr (piOr (gF hG h (A:=A)) (vN (@h A))) λ σ H R ⟨ρ,ds,o,e,k⟩=>by
 unfold seqA at e;split at e
 ·rename_i x e1;cases e;refine .inr ⟨ρ,_,o,e1,λ v H1 s1 r1=>?_⟩;cases r1;exact⟨_,rfl,k _ H1 s1 o9⟩
 ·exact .inl ⟨ρ,_,o,e,k⟩
def blsD:List D->Option (List Bool)
 | []=>some []
 | .bl i::r=>(blsD r).map (i::·)
 | _::_=>none
theorem ZM {H:Hp}:∀ {ds:List D}{xs:List V}{bs:List Bool},RepL G H xs ds->blsD ds=some bs->xs=bs.map V.bl
 | [],xs,bs,r,h=>by cases h;exact r.nil_inv
 | d::ds,xs,bs,r,h=>by
  obtain⟨x,ys,rfl,r1,r2⟩:=r.uncons;cases d with
  | bl i=>
   cases e:blsD ds with
   | none=>simp[blsD,e] at h
   | some bs'=>
    simp[blsD,e] at h;subst h;cases r1;rw[ZM r2 e];rfl
  | _=>simp[blsD] at h
theorem Pq (hc:X.calm=true):Cv X (.builtin "all") (λ xs H Q=>∃ (p:Addr) (bs:List Bool),xs=[.ref p]/\SqL X.K H p (bs.map V.bl)/\Q (.bl (bs.all id)) H):=by
 intro π s σ H xs us Q I r h;obtain⟨p,bs,rfl,hs,k⟩:=h;obtain⟨u,rfl,ru⟩:=r.one;cases ru;obtain⟨its,rv,pl,hz⟩:=I.list hs;have hl:=pl.isList;have hlt:p≠s.heap.objs.size:=by obtain⟨o,ho,_⟩:=hl;exact z0i (z0f ho)
 have hlen:bs.length=its.length:=by have:=rv.length;rwa [z06] at this
 refine call_all_walk (z54 hl ?_);refine⟨_,_,_,_,_,_,λ i=>bs.getD i true,rfl,z3U (A:=X.A.in1) (I.ok.hd hc) s.heap.objs.size p hlt its.toArray,⟨⟨_,z0l _ rfl,rfl,rfl⟩,hl.push _⟩,?_,λ h' tk kk=>?_⟩
 ·intro i v s' Q' E' hv hq;have hi:its[i]?=some v:=by simpa using hv
  have hlt':i<bs.length:=by rw[hlen];exact (z1s.mp hi).1
  obtain⟨u',hu,ru⟩:=rv.get (i:=i) (x:=.bl (bs[i]'hlt')) (by rw[z0o];simp[hlt']);rw[hi] at hu;cases hu;cases (show v=z38 (bs[i]'hlt') from ru);have e:bs.getD i true=bs[i]'hlt':=by simp[z6X,hlt']
  have hq':Q' (bs.getD i true) s':=hq;rw[e] at hq';exact z1I hq'
 ·refine⟨.bl (bs.all id),H,I.kept (λ b o e=>kk b o ?_ (z0d _ e)),?_,k⟩
  ·intro hb;have:b=s.heap.objs.size:=by simpa using hb
   exact absurd (z0f e) (by rw[this];exact z1l _)
  ·show z38 _=z38 _;congr 1;rw[z0r,<-hlen];rw[z1V,z1a,z1a];constructor
   ·intro q b hb;obtain⟨i,hi,rfl⟩:=z5n hb;have:=q i (z0w.mpr hi);simpa [z6X,hi] using this
   ·intro q i hi;have hi':=z0w.mp hi;have:=q (bs[i]'hi') (z1b hi');simpa [z6X,hi'] using this
def allD:D->Option D
 | .lst ds=>(blsD ds).map λ bs=>.bl (bs.all id)
 | _=>none
theorem U4:SndC G (λ xs H Q=>∃ (p:Addr) (bs:List Bool),xs=[.ref p]/\SqL G.K H p (bs.map V.bl)/\Q (.bl (bs.all id)) H) allD:=by
 intro A H x dx d Q lv rx h k;unfold allD at h;split at h
 ·rename_i ds;cases e:blsD ds with
  | none=>simp[e] at h
  | some bs=>
   rw[e] at h;cases h;obtain⟨p,xs,rfl,h1,r⟩:=rx.lst;have e2:=ZM r e;subst e2;exact⟨p,bs,rfl,h1,k _ H .(21) (.bl _)⟩
 ·cases h
theorem X8:z0x "all"=some (.builtin "all"):=by decide +kernel
end
section
variable {G:Gx}{a b c:Expr}{fa fb fc:FE}
def isND (neg:Bool):D->Option D
 | .non=>some (.bl (!neg))
 | _=>some (.bl neg)
theorem ZP {d:D}(r:RepT G A H v d):(decide (v=.non))=(match d with | .non=>true | _=>false):=by
 rcases r with r | ⟨p,e,r⟩
 ·cases r<;>simp
 ·subst e;cases d<;>first | exact r.elim | simp
theorem vO {p':Pos}(ha:PU X G a fa):PF X G (.Compare a [.Is] [.Constant .none j p'] pos) (uF (isND false) fa):=λ A=>Bu (uP (dG (@ha A))) λ σ H Q ⟨ρ,d,o,e,k⟩=>by
 obtain⟨x0,e1,e2⟩:=Gw e;refine⟨ρ,x0,o,e1,λ v H1 s1 r1=>?_⟩;show Q (.bl (decide (v=.non))) H1;rw[ZP r1];cases x0<;>(cases e2;exact k _ H1 s1 (.bl _))
theorem o_ {p':Pos}(ha:PU X G a fa):PFT X G (.Compare a [.Is] [.Constant .none j p'] pos) (blF (uF (isND false) fa)):=λ A=>Y8 (uQ (dG (@ha A))) λ σ H Q ⟨ρ,b,o,e,k⟩=>by
 obtain⟨x0,e1,e2⟩:=Gw (WK e);refine⟨ρ,x0,o,e1,λ v H1 s1 r1=>⟨_,rfl,?_⟩⟩;rw[ZP r1];cases x0<;>(cases e2;exact k H1 s1)
end
section
variable {G:Gx}{a b c:Expr}{fa fb fc:FE}
def eqTo (x d:D):Bool:=match eqK 62 d x with | some b=>b | none=>false
def knows (x d:D):Bool:=(eqK 62 d x).isSome
def rInP (G:Gx) (neg:Bool):R2:=λ x y H Q=>∃ (A:List Addr) (as ds:List D),RepT G A H x (.tup as)/\RepT G A H y (.lst ds)/\ds.all (knows (.tup as))=true/\Q (.bl (if neg then !ds.any (eqTo (.tup as)) else ds.any (eqTo (.tup as)))) H
open Classical in
theorem ZQ (hG:G.K=X.K) (hu:X.A.units+64<z0h) {π:zP}{s:z03}{σ:St}{H:Hp}{A:List Addr}{x:V}{u:z00}{as ds:List D}{xs:List V}{its:List z00}(I:Inv X π σ H s) (rx:RepT G A H x (.tup as)) (ru:RelV x u)
  (r:RepL G (hid A H) xs ds) (v:Vals xs its) (hk:ds.all (knows (.tup as))=true) :
  ∃ e:z00->Bool,(∀ y,y∈its.toArray->z2m X.A.in1 s y u (e y))/\its.toArray.any e=ds.any (eqTo (.tup as)):=by
 have rx':Rep G H x (.tup as):=by
  rcases rx with q | ⟨p,_,q⟩
  ·exact q.mono Ar
  ·exact q.elim
 have one:∀ (i:Nat) y,its[i]?=some y->∃ d,ds[i]?=some d/\z2m X.A.in1 s y u (eqTo (.tup as) d):=λ i y hy=>by
  have hi:i<its.length:=(z1s.mp hy).1;have hx:i<xs.length:=by rw[v.length];exact hi
  have hd:i<ds.length:=by rw[<-r.1];exact hx
  obtain⟨y',h1,h2⟩:=v.get (i:=i) (x:=xs[i]) (by simp[hx]);rw[hy] at h1;cases h1;refine⟨ds[i],by simp[hd],?_⟩;have kn:knows (.tup as) ds[i]=true:=z1a.mp hk _ (z1b hd);unfold knows at kn;obtain⟨b,hb⟩:=z6m.mp kn;have eb:eqTo (.tup as) ds[i]=b:=by unfold eqTo;rw[hb]
  rw[eb];exact Rb I hG 62 X.A.in1 (by show X.A.units+1+62<z0h;omega) hb ((r.2 i _ _ (by simp[hx]) (by simp[hd])).mono Ar) rx' h2 ru
 refine⟨λ y=>decide .(44),λ y hy=>?_,?_⟩
 ·by_cases h:∃ (i:Nat) (d:D),its[i]?=some y/\ds[i]?=some d/\eqTo (.tup as) d=true
  ·obtain⟨i,d,h1,h2,h3⟩:=id h;obtain⟨d',h4,h5⟩:=one i y h1;rw[h2] at h4;cases h4;rw[h3] at h5;show z2m X.A.in1 s y u (decide .(44));rw[decide_eq_true h];exact h5
  ·obtain⟨i,hi,rfl⟩:=z5n (show y∈its by simpa using hy);have hii:its[i]?=some its[i]:=z0C hi;obtain⟨d,h4,h5⟩:=one i _ hii;have h6:eqTo (.tup as) d=false:=by
    cases q:eqTo (.tup as) d with
    | false=>rfl
    | true=>exact absurd ⟨i,d,hii,h4,q⟩ h
   rw[h6] at h5;show z2m X.A.in1 s its[i] u (decide (∃ (j:Nat) (d:D),its[j]?=some its[i]/\ds[j]?=some d/\eqTo (.tup as) d=true));rw[decide_eq_false h];exact h5
 ·rw[z1V,z8L];rw[show its.toArray.any (λ y=>decide .(44))=its.any (λ y=>decide .(44)) by simp,z8L];constructor
  ·rintro⟨y,hy,h⟩;obtain⟨i,d,h1,h2,h3⟩:=of_decide_eq_true h;exact⟨d,z3c h2,h3⟩
  ·rintro⟨d,hd,h⟩;obtain⟨i,hi,rfl⟩:=z5n hd;have hx:i<its.length:=by rw[<-v.length,r.1];exact hi
   exact⟨its[i],z1b hx,decide_eq_true ⟨i,_,z0C hx,z0C hi,h⟩⟩
theorem gM (hG:G.K=X.K) (hu:X.A.units+64<z0h):OpR X (z0B .In) (rInP G false):=by
 intro π s σ H x y v u Q I rx ry h;obtain⟨A,as,ds,r1,r2,hk,k⟩:=h;obtain⟨c,ys,rfl,h2,q2⟩:=r2.lst;cases ry;obtain⟨jts,v2,p2,_⟩:=I.list (by rw[<-hG];exact h2);obtain⟨e,he,ea⟩:=ZQ hG hu I r1 rx q2 v2 hk;exact z8j e p2.isList he ⟨.bl _,H,I,rfl,by rw[ea];exact k⟩
theorem cB (hG:G.K=X.K) (hu:X.A.units+64<z0h):OpR X (z0B .NotIn) (rInP G true):=by
 intro π s σ H x y v u Q I rx ry h;obtain⟨A,as,ds,r1,r2,hk,k⟩:=h;obtain⟨c,ys,rfl,h2,q2⟩:=r2.lst;cases ry;obtain⟨jts,v2,p2,_⟩:=I.list (by rw[<-hG];exact h2);obtain⟨e,he,ea⟩:=ZQ hG hu I r1 rx q2 v2 hk;exact z8k e p2.isList he ⟨.bl _,H,I,rfl,by rw[ea];exact k⟩
def inF (neg:Bool) (x y:D):Option D:=match x,y with
 | .tup as,.lst ds=>if ds.all (knows (.tup as))=true then some (.bl (if neg then !ds.any (eqTo (.tup as)) else ds.any (eqTo (.tup as)))) else none
 | x,y=>inE neg x y
theorem U5 (neg:Bool):Dk G (λ x y H Q=>(rInA G.K neg x y H Q∨rDIn neg x y H Q)∨rInP G neg x y H Q) (inF neg):=by
 intro A H x y dx dy d Q lv rx ry h k;unfold inF at h;split at h
 ·split at h
  ·rename_i hk;cases h;exact .inr ⟨A,_,_,rx,ry,hk,k _ H .(21) (.bl _)⟩
  ·cases h
 ·exact .inl (ou neg A H x y _ _ d Q lv rx ry h k)
end
end PV
namespace PySem
open PySem.Spec
theorem gO {A:z0a}(h:∀ h' e,.(2)->z6Y { s with heap:=h' } (.ref e) "StopIteration"->Q (.ref e) { s with heap:=h' }):z02 (z04 prog w) A (z3V (.type "StopIteration") []) Q E s:=by
 unfold z3V z5o
 wp_walk
 exact h _ _ (λ b o e=>z0d _ (z0d _ e)) ⟨_,z0l _ rfl,rfl⟩
theorem gP (it d:Addr) (i ep:Nat) (es:Array z2z) (od:Obj) (hod:od.data=.dict es ep) (hi:i<es.size) :
  Meets (z1e.«dict_keyiterator.__next__» ⟨[.ref it],[]⟩) (λ _ R s=>s.heap.get? it=some { cls:=.type "dict_keyiterator",data:=.fields #[.ref d,.int i 0,.int es.size 0,.int ep 0] }/\s.heap.get? d=some od/\R (.ok (.ret (es[i]'hi).key)) { s with heap:=s.heap.update it (z3o (·.setIfInBounds 1 (z0H ((i:Int)+1)))),toks:=s.toks }):=
 .of_wp λ prog w A R s h=>by
  obtain⟨hp,g,dr,tk,os⟩:=s;obtain⟨h1,h2,h⟩:=h
  wp_walk using z6Z h2 hod,z6_ h2 hod,z5p h1 rfl,z3p h1 rfl
  have e0:(if (i:Int)<0 then none else es[(i:Int).toNat]?)=some (es[i]'hi):=by rw[if_neg (by omega),z19,z5q hi]
  rw[e0];dsimp only
  wp_walk using z3p h1 rfl
  ·rw[if_neg (show ¬ z70 ((z71 "dict_keyiterator").elim "dict_keyiterator" λ x=>x.tpName)=true by decide +kernel)];show 1<4;decide
  ·rw[if_neg (show ¬ z70 ((z71 "dict_keyiterator").elim "dict_keyiterator" λ x=>x.tpName)=true by decide +kernel)];rw[if_neg]
   case hnc=>decide +kernel
   rw[z1Q];have ti:z6Y { heap:=hp.update it (z3o λ x=>x.setIfInBounds 1 (z0H ((i:Int)+1))),gens:=g,drawn:=dr,toks:=tk,os:=os } (.ref it) "dict_keyiterator":=
    ⟨_,z1F _ h1 (z5r (z3q rfl _)),z5s ..⟩
   wp_walk using wpAny_isOneOf_keyiter ti
   exact⟨_,rfl,h⟩
theorem X_ {A:z0a}{d:Addr}{es:Array z2z}{od:Obj}{Q:Option z00->z03->Prop}(hod:od.data=.dict es ep) (hi:i<es.size)
  (h1:s.heap.get? it=some { cls:=.type "dict_keyiterator",data:=.fields #[.ref d,.int i 0,.int es.size 0,.int ep 0] }) (h2:s.heap.get? d=some od)
  (h:Q (some (es[i]'hi).key) { s with heap:=s.heap.update it (z3o (·.setIfInBounds 1 (z0H ((i:Int)+1)))) }):z02 (z04 prog w) A (z0M (.ref it)) Q E s:=by
 have ti:s.TypeIs (.ref it) "dict_keyiterator":=⟨_,h1,rfl⟩;unfold z0M;refine z01 (z3W (z2x (name:=z0F "__next__") ti z4w ?_));refine z6E z4w ti z8M (z8N _) (gP it d i ep es od hod hi) ⟨h1,h2,?_⟩;exact z05 h
theorem TV {A:z0a}{d:Addr}{es:Array z2z}{od:Obj}{Q:Option z00->z03->Prop}(hh:A.handled=none) (hod:od.data=.dict es ep) (hi:es.size<=i)
  (h1:s.heap.get? it=some { cls:=.type "dict_keyiterator",data:=.fields #[.ref d,.int i 0,.int es.size 0,.int ep 0] }) (h2:s.heap.get? d=some od)
  (h:∀ h',z4t it s.heap h'->Q none { s with heap:=h' }):z02 (z04 prog w) A (z0M (.ref it)) Q E s:=by
 have ti:s.TypeIs (.ref it) "dict_keyiterator":=⟨_,h1,rfl⟩;unfold z0M;refine z01 (z3W (z2x (name:=z0F "__next__") ti z4w
  (z1k z4w ti z8M ?_ (z8N _))))
 have hh1:A.in1.handled=none:=hh
 wp_walk using z6Z h2 hod,z6_ h2 hod,z5p h1 rfl,z3p h1 rfl
 have e0:(if (i:Int)<0 then none else es[(i:Int).toNat]?)=none:=by rw[if_neg (by omega),z19,z72 hi]
 rw[e0];dsimp only
 wp_walk using z3p h1 rfl
 ·rw[if_neg (show ¬ z70 ((z71 "dict_keyiterator").elim "dict_keyiterator" λ x=>x.tpName)=true by decide +kernel)];show 0<4;decide
 ·refine z01 ?_;refine gO λ h' e kp ty=>wpAny_raiseNew_none hh1 ?_;refine z01 (z34 ty z73 (z05 (h h' λ b o hb z=>kp b o ?_)));exact ((z3X ..).2 b hb).trans z
theorem YB {A:z0a}{d:Addr}{es:Array z2z}{od:Obj}(hd:(d==z16)=false) (hx:od.ExactDict) (hod:od.data=.dict es ep) (h2:s.heap.get? d=some od)
  (h:Q .(5) { s with heap:=s.heap.push { cls:=.type "dict_keyiterator",data:=.fields #[.ref d,.int 0 0,.int es.size 0,.int ep 0] } }):z02 (z04 prog w) A (z2t (.ref d)) Q E s:=by
 have ti:s.TypeIs (.ref d) "dict":=⟨_,h2,hx.1⟩;refine z74 ti z8O (z1k z8O ti F.entry_dict_iter ?_ (F.args_dict_iter_1 _));unfold z1e.«dict.__iter__»
 wp_walk using z6Z h2 hod,z6_ h2 hod,wpAny_notOrdered_dict ti
 exact⟨_,rfl,"dict_keyiterator",_,⟨_,z0l _ rfl,rfl⟩,z4w.lookup,h⟩
section
variable {A:z0a}{I d:Addr}{es:Array z2z}{od:Obj}
def xu (h:Heap) (I d:Addr) (i n ep:Nat) (od:Obj):Prop:=h.get? I=some { cls:=.type "dict_keyiterator",data:=.fields #[.ref d,.int i 0,.int n 0,.int ep 0] }/\h.get? d=some od
theorem Walks.raw (hh:A.handled=none) (hne:d≠I) (hod:od.data=.dict es ep):z1E prog w A I [I,d] [I] es.size (λ i v=>∃ hi:i<es.size,v=(es[i]'hi).key) (λ i h=>xu h I d i es.size ep od) where
 sub:=λ b hb=>by simp at hb;simp[hb]
 frame:=λ _ _ _ st hk=>⟨hk I (by simp) _ st.1,hk d (by simp) _ st.2⟩
 item:=λ i s Q E hi st hQ=>by
  refine X_ hod hi st.1 st.2 ?_;have e1:(s.heap.update I (z3o (·.setIfInBounds 1 (z0H ((i:Int)+1))))).get? I=some { cls:=.type "dict_keyiterator",data:=.fields #[.ref d,.int ((i+1:Nat):Int) 0,.int es.size 0,.int ep 0] }:=z1F _ st.1 rfl;exact hQ _ _ s.toks ⟨hi,rfl⟩ ⟨e1,(z13 _ _ (z0n hne)).trans st.2⟩ λ b o hb e=>(z13 _ _ (λ z=>hb (by simp[<-z]))).trans e
 done:=λ s Q E st hQ=>TV hh hod (z07 _) st.1 st.2 λ h' he=>hQ h' s.toks λ b o hb e=>he b o (λ z=>hb (by simp[z])) e
 self:=λ _ _ _ _ st hQ=>z8G ⟨_,st.1,rfl,rfl⟩ hQ
theorem pA (hd:(d==z16)=false) (hx:od.ExactDict) (hod:od.data=.dict es ep):z8P prog w "dict" d d es.size (λ i v=>∃ hi:i<es.size,v=(es[i]'hi).key) (λ h=>h.get? d=some od) where
 type:=λ _ hm=>⟨_,hm,hx.1⟩
 there:=λ _ hm=>⟨z0f hm,z0f hm⟩
 keep:=λ _ _ hm hk=>hk d (.inl rfl) _ hm
 notList:=by decide
 notTuple:=by decide
 hint:=λ _ _ _ _ hm hq=>PySem.W.kdl_hint_dict ⟨_,hm,hx.1⟩ hq
 iter:=λ A s hh hm=>⟨_,_,λ E Q hq=>YB hd hx hod hm hq,Walks.raw hh (z0i (z0f hm)) hod,z0l _ rfl,z0d _ hm⟩
end
end PySem
namespace PV
open PySem PySem.Spec L2
open PyProof.Rows hiding St
section
variable {G:Gx}
theorem Hm (hc:X.calm=true):Cv X (.type "list") (λ xs H Q=>∃ p kvs,xs=[.ref p]/\Rd H p (.dT kvs)/\∀ l (cs:List Addr),H l=none->cs.length=kvs.length->(∀ (i:Nat) (c:Addr) (q:List Key×V),cs[i]?=some c->kvs[i]?=some q->H c=some (.tup (q.1.map kV)))->Q (.ref l) (upd H l (.lst (cs.map V.ref)))):=by
 intro π s σ H xs us Q I r h;obtain⟨p,kvs,rfl,e,q⟩:=h;obtain⟨u,rfl,ru⟩:=r.one;cases ru;obtain⟨z,hd,ys,rel,o,es,ep,ho,hx,hod,hes,nd⟩:=(show BL X.prog X.w H s.heap p (.dT kvs) from eG I.hok e);have hl:kvs.length=ys.length:=rel.length;have hn:es.size=ys.length:=by rw[<-z0_,hes,z06]
 refine z8J (PySem.pA hd hx hod) (I.ok.hd hc) ho (by omega) λ h' tk acc c' kp hnew hi=>?_;have va:Vals ((ys.map (·.2.1)).map V.ref) acc.toList:=by
  have hla:acc.toList.length=ys.length:=by rw[z0_,hi.1,hn]
  have g:∀ (j:Nat) u,acc.toList[j]?=some u->∃ y,ys[j]?=some y/\u=.ref y.2.1:=λ j u hu=>by
   obtain⟨h1,h2⟩:=hi.2 j u (by simpa using hu);have hj:j<ys.length:=by omega
   refine⟨ys[j],by simp[hj],?_⟩;have e1:es[j]=z47 (z39 (Ao X.prog X.w)) ys[j]:=by
    have:es.toList[j]?=some (z47 (z39 (Ao X.prog X.w)) ys[j]):=by rw[hes];simp[hj]
    have h3:es.toList[j]?=some es[j]:=by simp[h1]
    rw[h3] at this;exact z0t this
   rw[h2,e1];rfl
  have build:∀ {ys:List (List Key×Addr×z00)}{us:List z00},us.length=ys.length->(∀ (j:Nat) u,us[j]?=some u->∃ y,ys[j]?=some y/\u=.ref y.2.1)->Vals ((ys.map (·.2.1)).map V.ref) us:=by
   intro ys
   induction ys with
   | nil=>intro us h1 _;rw[z4v h1];exact .nil
   | cons y r ih=>
    intro us h1 h2;cases us with
    | nil=>simp at h1
    | cons u us=>
     obtain⟨y',a1,a2⟩:=h2 0 u rfl;simp at a1;subst a1;exact .cons a2 (ih (by simpa using h1) λ j v hv=>by simpa using h2 (j+1) v (by simpa using hv))
  exact build hla g
 refine⟨.ref s.heap.objs.size,_,I.laid (t':=tk) kp (z07 _) (show BL X.prog X.w _ h' _ (.lst ((ys.map (·.2.1)).map V.ref)) from⟨by rw[z06,z06];omega,acc.toList,c',va,by simpa using hnew⟩),rfl,q _ _ (I.hok.fresh (z07 _)) (by rw[z06];exact hl.symm) λ i c qq h1 h2=>?_⟩;rw[z0o] at h1;cases e3:ys[i]? with
 | none=>rw[e3] at h1;cases h1
 | some y=>
  rw[e3] at h1;cases h1;exact (Ls rel h2 e3).2.1
def Ku:D->Option D
 | .dt kds=>some (.lst (kds.map λ p=>.tup (p.1.map kDt)))
 | d=>listE d
theorem Wc {H:Hp}:∀ (k:List Key),RepL G H (k.map kV) (k.map kDt)
 | []=>.nil
 | k::r=>.cons (Qz k) (Wc r)
theorem RepT.dt {A:List Addr}{H:Hp}{v:V}{kds:List (List Key×D)}(r:RepT G A H v (.dt kds)):∃ a kvs,v=.ref a/\Rd H a (.dT kvs)/\kvs.map (·.1)=kds.map (·.1)/\RepL G (hid A H) (kvs.map (·.2)) (kds.map (·.2)):=by
 rcases r with r | ⟨a,e,kvs,h,k,r⟩
 ·cases r with
  | dt h k r=>
   refine⟨_,_,rfl,.inr ⟨_,Ar _ _ h⟩,k,?_,r⟩;have:=congrArg z0P k;rw[z06,z06] at this ⊢;exact this
 ·exact⟨a,kvs,e,.of h,k,r⟩
theorem Lw:SndC G (λ xs H Q=>((∃ p ys,xs=[.ref p]/\(SqL G.K H p ys∨SqT G.K H p ys)/\∀ l,H l=none->Q (.ref l) (upd H l (.lst ys)))∨∃ p kvs,xs=[.ref p]/\Rd H p (.dK kvs)/\∀ l,H l=none->Q (.ref l) (upd H l (.lst (kvs.map λ q=>kV q.1)))) ∨
  ∃ p kvs,xs=[.ref p]/\Rd H p (.dT kvs)/\∀ l (cs:List Addr),H l=none->cs.length=kvs.length->(∀ (i:Nat) (c:Addr) (q:List Key×V),cs[i]?=some c->kvs[i]?=some q->H c=some (.tup (q.1.map kV)))->Q (.ref l) (upd H l (.lst (cs.map V.ref)))) Ku:=by
 intro A H x dx d Q lv rx h k;unfold Ku at h;split at h
 ·rename_i kds;cases h;obtain⟨p,kvs,rfl,h1,h2,r⟩:=rx.dt;have hl:kvs.length=kds.length:=by have:=congrArg z0P h2;rwa [z06,z06] at this
  refine .inr ⟨p,kvs,rfl,h1,λ l cs hfree hcs hc=>k _ _ (Al hfree _) (DY lv hfree ⟨by rw[z06,z06];omega,λ i v dd e1 e2=>?_⟩)⟩;rw[z0o] at e1 e2;cases g1:cs[i]? with
  | none=>rw[g1] at e1;cases e1
  | some c=>
   cases g2:kds[i]? with
   | none=>rw[g2] at e2;cases e2
   | some qd=>
    rw[g1] at e1;rw[g2] at e2;cases e1;cases e2;have hi:i<kvs.length:=by rw[hl];exact (z1s.mp g2).1
    have g3:kvs[i]?=some kvs[i]:=by simp[hi]
    have ek:(kvs[i]).1=qd.1:=by
     have a1:(kvs.map (·.1))[i]?=some (kvs[i]).1:=by rw[z0o,g3];rfl
     rw[h2,z0o,g2] at a1;exact (z0t a1).symm
    have ht:=hc i c _ g1 g3;rw[ek] at ht;have nA:c∉A:=λ z=>(lv c z).tup _ ht;have kr:=Wc (G:=G) (H:=hid A H) qd.1;exact .tup (.of (by rw[CJ nA];exact ht)) kr.1 kr.2
 ·exact .inl (cA A H x dx d Q lv rx h k)
end
end PV
namespace PV
open PySem L2
theorem gQ {α:Type}(l:List α) (k:Nat):cutD l none (some (k:Int))=l.take k:=by
 unfold cutD HT.sIx;simp;rw[if_neg (by omega)]
 first | omega | (rw[List.take_eq_take_iff];omega)
theorem gR {α:Type}(l:List α) (k:Nat):cutD l (some (k:Int)) none=l.drop k:=by
 unfold cutD HT.sIx;simp;rw[if_neg (by omega)]
 by_cases h:k<=l.length
 ·rw[z8Q h,z6J (by simp)]
 ·rw[z8R (by omega),z8S (by omega),z8S (by omega)];simp
theorem vP {α:Type}{xs:List α}{i:Int}(h0:0<=i) (h1:i<xs.length):atI xs i=xs[i.toNat]?:=by
 unfold atI ixN;rw[if_pos h0,if_pos h1];rfl
theorem Fw (i j:Int) (h:0<j):modD (.int i) (.int j)=some (.int (i%j)):=by
 show (if 0<j then some (D.int (i%j)) else none)=_;rw[if_pos h]
theorem Dq (i j:Int) (h:0<j) (h2:j<1073741824):Hv (.int i) (.int j)=some (.int (i/j)):=by
 show (if CDiv i j then some (D.int (i/j)) else none)=_;rw[if_pos ⟨h,h2⟩]
theorem pB (i j:Int) (h : -(2^64)<j/\j<2^64):mulD (.int i) (.int j)=some (.int (i*j)):=by
 show (if Mf i j then some (D.int (i*j)) else none)=_;rw[if_pos (.inl (.inr h))]
theorem U6 (i j:Int) (h : -(2^64)<i/\i<2^64):mulD (.int i) (.int j)=some (.int (i*j)):=by
 show (if Mf i j then some (D.int (i*j)) else none)=_;rw[if_pos (.inl (.inl h))]
theorem Kv (i j:Int):addD (.int i) (.int j)=some (.int (i+j)):=zE_ _
theorem Pu (i j:Int):subD (.int i) (.int j)=some (.int (i-j)):=zE_ _
theorem T4 (i j:Int):ltD (.int i) (.int j)=some (.bl (decide (i<j))):=zE_ _
theorem We (i j:Int):gtD (.int i) (.int j)=some (.bl (decide (j<i))):=zE_ _
theorem ZR (i j:Int):leD (.int i) (.int j)=some (.bl (decide (i<=j))):=zE_ _
theorem gU (i j:Int):geD (.int i) (.int j)=some (.bl (decide (j<=i))):=zE_ _
theorem Qd (i j:Int):eqD false (.int i) (.int j)=some (.bl (decide (i=j))):=zE_ _
theorem ZS (i j:Int):eqD true (.int i) (.int j)=some (.bl (!decide (i=j))):=zE_ _
theorem Nz (h:n<=10000000):n<=sizeLine:=z0E h (by decide)
theorem Ro {i j:List D}(h:i.length+j.length<=10000000):addD (.lst i) (.lst j)=some (.lst (i++j)):=by
 show (if _ then _ else _)=_;rw[if_pos (Nz h)]
theorem N5 {b:D->FS}{P:Nat->Rho->Prop}:∀ {ds:List D}{ρ:Rho}(k:Nat),P k ρ->(∀ (i:Nat) d ρ,ds[i]?=some d->P (k+i) ρ->∃ ρ',b d ρ=some (.nx ρ')/\P (k+i+1) ρ')->∃ ρ',forF b ds ρ=some (.nx ρ')/\P (k+ds.length) ρ'
 | [],ρ,k,h0,_=>⟨ρ,rfl,by simpa using h0⟩
 | d::r,ρ,k,h0,hs=>by
  obtain⟨ρ1,e1,p1⟩:=hs 0 d ρ rfl (by simpa using h0);obtain⟨ρ2,e2,p2⟩:=N5 (ds:=r) (ρ:=ρ1) (k+1) (by simpa using p1) λ i d' ρ' hd hp=>by
   have:=hs (i+1) d' ρ' (by simpa using hd) (by rw[show k+(i+1)=k+1+i by omega];exact hp);rw[show k+(i+1)+1=k+1+i+1 by omega] at this;exact this
  refine⟨ρ2,?_,by rw[z0u,show k+(r.length+1)=k+1+r.length by omega];exact p2⟩;unfold forF;rw[e1];exact e2
theorem Q0 {src:FI}{ga:FT}{fe:FE}{ρ:Rho}{ds out:List D}(h:src ρ=some ds) (hz:ds.length<=10000000) (hc:Jb ρ ga fe ds=some out):BW src ga fe ρ=some (.lst out):=by
 unfold BW;rw[h];show (if ds.length<=sizeLine then (Jb ρ ga fe ds).map D.lst else none)=_;rw[if_pos (Nz hz),hc];rfl
def gW (o:Option Out) (gs:FS):Option Out:=match o with | some (.nx ρ')=>gs ρ' | o=>o
theorem Es (g gs:FS) (ρ:Rho):seqF g gs ρ=gW (g ρ) gs:=zE_ _
theorem e_nx (gs:FS) (ρ:Rho):gW (some (.nx ρ)) gs=gs ρ:=zE_ _
theorem e_rt (gs:FS) (d:D) (ρ:Rho):gW (some (.rt d ρ)) gs=some (.rt d ρ):=zE_ _
theorem sO (ρ:Rho):nxF ρ=some (.nx ρ):=zE_ _
def iteO (o:Option Bool) (g gs:FS) (ρ:Rho):Option Out:=match o with | some true=>g ρ | some false=>gs ρ | none=>none
theorem e_if (t:FT) (g gs:FS) (ρ:Rho):ifS t g gs ρ=iteO (t ρ) g gs ρ:=zE_ _
theorem sS (g gs:FS) (ρ:Rho):iteO (some true) g gs ρ=g ρ:=zE_ _
theorem sU (g gs:FS) (ρ:Rho):iteO (some false) g gs ρ=gs ρ:=zE_ _
def setO (i:Nat) (ρ:Rho) (o:Option D):Option Out:=o.map λ d=>.nx (ρ.set i (.fz d))
theorem ZV (i:Nat) (f:FE) (ρ:Rho):setF i f ρ=setO i ρ (f ρ):=zE_ _
theorem U7 (i:Nat) (ρ:Rho) (d:D):setO i ρ (some d)=some (.nx (ρ.set i (.fz d))):=zE_ _
def retO (ρ:Rho) (o:Option D):Option Out:=o.map λ d=>.rt d ρ
theorem sV (f:FE) (ρ:Rho):retF f ρ=retO ρ (f ρ):=zE_ _
theorem gY (d:D) (ρ:Rho):retO ρ (some d)=some (.rt d ρ):=zE_ _
def sX (ρ:Rho) (o:Option D):Option Out:=o.map λ _=>.nx ρ
theorem gZ (f:FE) (ρ:Rho):Er f ρ=sX ρ (f ρ):=zE_ _
theorem ZW (ρ:Rho) (d:D):sX ρ (some d)=some (.nx ρ):=zE_ _
def b2 (g:D->D->Option D) (x y:Option D):Option D:=x.bind λ x=>y.bind λ y=>g x y
theorem e_b (g:D->D->Option D) (fa fb:FE) (ρ:Rho):bF g fa fb ρ=b2 g (fa ρ) (fb ρ):=zE_ _
theorem e_bs (g:D->D->Option D) (x y:D):b2 g (some x) (some y)=g x y:=zE_ _
def b1 (g:D->Option D) (x:Option D):Option D:=x.bind g
theorem e_u (g:D->Option D) (fa:FE) (ρ:Rho):uF g fa ρ=b1 g (fa ρ):=zE_ _
theorem e_us (g:D->Option D) (x:D):b1 g (some x)=g x:=zE_ _
def cl1 (g:List D->Option D) (x:Option (List D)):Option D:=x.bind g
theorem gf (g:List D->Option D) (fs:FA) (ρ:Rho):Am g fs ρ=cl1 g (fs ρ):=zE_ _
theorem ZX (g:List D->Option D) (ds:List D):cl1 g (some ds)=g ds:=zE_ _
def sY (x:Option D) (y:Option (List D)):Option (List D):=x.bind λ d=>y.map (d::·)
theorem gj (fa:FE) (fs:FA) (ρ:Rho):Aa fa fs ρ=sY (fa ρ) (fs ρ):=zE_ _
theorem ZZ (d:D) (ds:List D):sY (some d) (some ds)=some (d::ds):=zE_ _
theorem gk (ρ:Rho):nilA ρ=some []:=zE_ _
def tupO (o:Option (List D)):Option D:=o.bind λ ds=>if ds.length<=sizeLine then some (.tup ds) else none
def lstO (o:Option (List D)):Option D:=o.bind λ ds=>if ds.length<=sizeLine then some (.lst ds) else none
theorem sZ (fs:FA) (ρ:Rho):tupF fs ρ=tupO (fs ρ):=zE_ _
theorem gr (fs:FA) (ρ:Rho):lstF fs ρ=lstO (fs ρ):=zE_ _
theorem gw (a:D):tupO (some [a])=some (.tup [a]):=zE_ _
theorem g8 (a b:D):tupO (some [a,b])=some (.tup [a,b]):=zE_ _
theorem YC:lstO (some [])=some (.lst []):=zE_ _
theorem g_ (a:D):lstO (some [a])=some (.lst [a]):=zE_ _
theorem h_ (a b:D):lstO (some [a,b])=some (.lst [a,b]):=zE_ _
theorem iB (a b c:D):lstO (some [a,b,c])=some (.lst [a,b,c]):=zE_ _
def blO (o:Option D):Option Bool:=match o with | some (.bl b)=>some b | _=>none
theorem e_bl (f:FE) (ρ:Rho):blF f ρ=blO (f ρ):=zE_ _
theorem su (b:Bool):blO (some (.bl b))=some b:=zE_ _
def andO (o:Option Bool) (fb:FT) (ρ:Rho):Option Bool:=match o with | some true=>fb ρ | some false=>some false | none=>none
def orO (o:Option Bool) (fb:FT) (ρ:Rho):Option Bool:=match o with | some true=>some true | some false=>fb ρ | none=>none
theorem iC (a b:FT) (ρ:Rho):andT a b ρ=andO (a ρ) b ρ:=zE_ _
theorem Za (b:FT) (ρ:Rho):andO (some true) b ρ=b ρ:=zE_ _
theorem Zb (b:FT) (ρ:Rho):andO (some false) b ρ=some false:=zE_ _
theorem tD (a b:FT) (ρ:Rho):orT a b ρ=orO (a ρ) b ρ:=zE_ _
theorem iG (b:FT) (ρ:Rho):orO (some true) b ρ=some true:=zE_ _
theorem iH (b:FT) (ρ:Rho):orO (some false) b ρ=b ρ:=zE_ _
theorem iJ (a:FT) (ρ:Rho):notT a ρ=(a ρ).map (!·):=zE_ _
def andP (o:Option D) (fb:FE) (ρ:Rho):Option D:=match o with | some (.bl true)=>fb ρ | some (.bl false)=>some (.bl false) | _=>none
def notP (o:Option D):Option D:=match o with | some (.bl b)=>some (.bl (!b)) | _=>none
theorem iK (a b:FE) (ρ:Rho):andF a b ρ=andP (a ρ) b ρ:=zE_ _
theorem Zc (b:FE) (ρ:Rho):andP (some (.bl true)) b ρ=b ρ:=zE_ _
theorem iM (a:FE) (ρ:Rho):notF a ρ=notP (a ρ):=zE_ _
theorem Zd (b:Bool):notP (some (.bl b))=some (.bl (!b)):=zE_ _
def ifP (o:Option Bool) (fa fb:FE) (ρ:Rho):Option D:=match o with | some true=>fa ρ | some false=>fb ρ | none=>none
theorem tG (t:FT) (a b:FE) (ρ:Rho):ifF t a b ρ=ifP (t ρ) a b ρ:=zE_ _
theorem iQ (a b:FE) (ρ:Rho):ifP (some true) a b ρ=a ρ:=zE_ _
theorem iR (a b:FE) (ρ:Rho):ifP (some false) a b ρ=b ρ:=zE_ _
def sl3 (f:Option D) (l h:Option (Option Int)):Option D:=f.bind λ x=>l.bind λ lo=>h.bind λ hi=>slD x lo hi
theorem e_sl (f:FE) (l h:FO) (ρ:Rho):slF f l h ρ=sl3 (f ρ) (l ρ) (h ρ):=zE_ _
theorem tH (x:D) (l h:Option Int):sl3 (some x) (some l) (some h)=slD x l h:=zE_ _
theorem tK (ρ:Rho):noO ρ=some none:=zE_ _
def somO (o:Option D):Option (Option Int):=match o with | some (.int i)=>some (some i) | _=>none
theorem Ze (f:FE) (ρ:Rho):someO f ρ=somO (f ρ):=zE_ _
theorem Wf (i:Int):somO (some (.int i))=some (some i):=zE_ _
def getO (o:Option Slot):Option D:=match o with | some (.fz d)=>some d | _=>none
def getU (o:Option Slot):Option D:=match o with | some (.fz d)=>some d | some (.ow d)=>some d | _=>none
theorem e_v (i:Nat) (ρ:Rho):vF i ρ=getO (ρ[i]?):=zE_ _
theorem e_vs (d:D):getO (some (.fz d))=some d:=zE_ _
theorem e_vU (i:Nat) (ρ:Rho):vU i ρ=getU (ρ[i]?):=zE_ _
theorem tL (d:D):getU (some (.ow d))=some d:=zE_ _
theorem e_k (d:D) (ρ:Rho):kF d ρ=some d:=zE_ _
def rngO (o:Option D):Option (List D):=match o with | some (.int j)=>if -(2^62)<=j/\j<2^62 then some (rngD j.toNat) else none | _=>none
theorem Rp (f:FE) (ρ:Rho):rngI f ρ=rngO (f ρ):=zE_ _
theorem U8 (j:Int) (h : -(2^62)<=j/\j<2^62):rngO (some (.int j))=some (rngD j.toNat):=by
 show (if _ then _ else _)=_;rw[if_pos h]
def forO (o:Option (List D)) (tg:FG) (b:FS) (ρ:Rho):Option Out:=o.bind λ ds=>forF (tgB tg b) ds ρ
theorem Rq (src:FI) (tg:FG) (b:FS) (ρ:Rho):forS src tg b ρ=forO (src ρ) tg b ρ:=zE_ _
theorem Mz (ds:List D) (tg:FG) (b:FS) (ρ:Rho):forO (some ds) tg b ρ=forF (tgB tg b) ds ρ:=zE_ _
def ccO (o:Option Bool) (e:Option D) (r:Option (List D)):Option (List D):=match o with | some true=>e.bind λ y=>r.map (y::·) | some false=>r | none=>none
theorem Jz (ρ:Rho) (ga:FT) (fe:FE) (d:D) (r:List D):Jb ρ ga fe (d::r)=ccO (ga (ρ++[.fz d])) (fe (ρ++[.fz d])) (Jb ρ ga fe r):=zE_ _
theorem iT (ρ:Rho):allT ρ=some true:=zE_ _
def runO (o:Option Out):Option D:=match o with | some (.rt d _)=>some d | some (.nx _)=>some .non | _=>none
theorem Je {np:Nat}{b:FS}{ds:List D}(h:ds.length=np):runF n np b ds=runO (b (Em n ds)):=by
 unfold runF;rw[if_pos h];rfl
theorem iU (d:D) (ρ:Rho):runO (some (.rt d ρ))=some d:=zE_ _
theorem iV (ρ:Rho):runO (some (.nx ρ))=some .non:=zE_ _
theorem Kw {α β:Type}(f:α->β) (x:α):Option.map f (some x)=some (f x):=zE_ _
theorem iW {α β:Type}(f:α->Option β) (x:α):Option.bind (some x) f=f x:=zE_ _
theorem DK (n:Nat) (ds:List D):Em n ds=ds.map .fz++z4h (n-ds.length) .un:=zE_ _
theorem truB (b:Bool):truD (.bl b)=some b:=zE_ _
theorem YD {α:Type}(l:List α) (k:Nat):atI l (k:Int)=l[k]?:=by
 unfold atI ixN;rw[if_pos (by omega)]
 by_cases h:k<l.length
 ·rw[if_pos (by omega)];simp
 ·rw[if_neg (by omega),z2Q (by omega)];rfl
theorem e_tr (f:FE) (ρ:Rho):trF f ρ=(f ρ).bind truD:=zE_ _
theorem xx (z:Str) (h:z.length<=10000000):lenD (.str z)=some (.int z.length):=by
 show (if z.length<=sizeLine then some (D.int z.length) else none)=_;rw[if_pos (Nz h)]
theorem iY (l:List D):lenD (.lst l)=some (.int l.length):=zE_ _
theorem pC (x:Str) (ys:List Str):inD false (.str x) (.lst (ys.map .str))=some (.bl (ys.any (λ y=>y==x))):=by
 have h:∀ ys:List Str,flVs (ys.map .str)=some (ys.map V.str):=λ ys=>by
  induction ys with
  | nil=>rfl
  | cons y r ih=>simp[flVs,flV,ih]
 show ((flV (.str x)).bind λ v=>(flVs (ys.map .str)).map λ vs=>D.bl (inV v vs))=_;rw[h];show some (D.bl (inV (.str x) (ys.map V.str)))=_;simp[inV,z75,z0V,eqV]
theorem Ky (n:Nat):(rngD n).length=n:=by simp[rngD]
theorem cC (ys:List Str):Mg (ys.map .str)=some ys:=by
 induction ys with
 | nil=>rfl
 | cons y r ih=>simp[Mg,ih]
def tM (i:Nat) (ρ:Rho) (o:Option D):Option Out:=o.map λ d=>.nx (ρ.set i (.ow d))
theorem iZ (i:Nat) (f:FE) (ρ:Rho):setW i f ρ=tM i ρ (f ρ):=zE_ _
theorem Zf (i:Nat) (ρ:Rho) (d:D):tM i ρ (some d)=some (.nx (ρ.set i (.ow d))):=zE_ _
def mutO (g:D->D->Option D) (i:Nat) (ρ:Rho) (x v:Option D):Option Out:=v.bind λ v=>x.bind λ x=>(g x v).map λ y=>.nx (ρ.set i (.ow y))
def getW (o:Option Slot):Option D:=match o with | some (.ow d)=>some d | _=>none
theorem tO (g:D->D->Option D) (i:Nat) (f:FE) (ρ:Rho):mutF g i f ρ=mutO g i ρ (getW ρ[i]?) (f ρ):=zE_ _
theorem ie (g:D->D->Option D) (i:Nat) (ρ:Rho) (x v:D):mutO g i ρ (some x) (some v)=(g x v).map λ y=>.nx (ρ.set i (.ow y)):=zE_ _
theorem Px (d:D):getW (some (.ow d))=some d:=zE_ _
def forB (o:Option Out) (b:D->FS) (r:List D):Option Out:=match o with
  | some (.nx ρ')=>forF b r ρ'
  | some (.ct ρ')=>forF b r ρ'
  | some (.bk ρ')=>some (.nx ρ')
  | some (.rt e ρ')=>some (.rt e ρ')
  | none=>none
theorem Fo (b:D->FS) (d:D) (r:List D) (ρ:Rho):forF b (d::r) ρ=forB (b d ρ) b r:=zE_ _
theorem Ed (b:D->FS) (r:List D) (ρ:Rho):forB (some (.nx ρ)) b r=forF b r ρ:=zE_ _
def bndO (o:Option Rho) (b:FS):Option Out:=o.bind b
theorem e_tg (tg:FG) (b:FS) (d:D) (ρ:Rho):tgB tg b d ρ=bndO (tg d ρ) b:=zE_ _
theorem Kz (ρ:Rho) (b:FS):bndO (some ρ) b=b ρ:=zE_ _
theorem K1 (i:Nat) (d:D) (ρ:Rho):Cr i d ρ=some (ρ.set i (.fz d)):=zE_ _
abbrev FZ:=Rho->Option (D×Rho)
abbrev FZA:=Rho->Option (List D×Rho)
abbrev Ef:=List (Str×Bool×D)
abbrev FEs:=Rho->Ef->Option (Rho×Ef)
abbrev FTE:=Rho->Ef->Option Bool
def noOw (ρ:Rho):Bool:=ρ.all λ z=>match z with | .ow _=>false | _=>true
def pureE (g:FS):FEs:=λ ρ ε=>match g ρ with | some (.nx ρ')=>if noOw ρ'=true then some (ρ',ε) else none | _=>none
def Hz (f:Str) (fe:FE):FEs:=λ ρ ε=>(fe ρ).bind λ d=>if (ε.lookup f).isNone=true/\ε.length<1000 then some (ρ,ε++[(f,false,d)]) else none
def Qe (f:Str) (fe:FE):FEs:=λ ρ ε=>(fe ρ).bind λ d=>if (ε.lookup f).isNone=true/\ε.length<1000 then some (ρ,ε++[(f,true,d)]) else none
def repE (f:Str) (d:D):Ef->Ef
 | []=>[]
 | (g,b,x)::r=>if g=f then (g,b,d)::r else (g,b,x)::repE f d r
def Qf (f:Str) (fk fv:FE):FEs:=λ ρ ε=>(fv ρ).bind λ v=>(fk ρ).bind λ k=>match ε.lookup f with | some (true,d)=>(Dc d k v).map λ d'=>(ρ,repE f d' ε) | _=>none
def Rr (t:FT):FTE:=λ ρ _=>t ρ
def inTE (f:Str) (fk:FE):FTE:=λ ρ ε=>(fk ρ).bind λ k=>match ε.lookup f with | some (true,.dk kds)=>(keyD k).map λ q=>(getK q kds).isSome | _=>none
def orTE (a b:FTE):FTE:=λ ρ ε=>match a ρ ε with | some true=>some true | some false=>b ρ ε | none=>none
def ifE (t:FTE):FEs:=λ ρ ε=>match t ρ ε with | some false=>some (ρ,ε) | _=>none
def nilE:FEs:=λ ρ ε=>some (ρ,ε)
def Fx (g gs:FEs):FEs:=λ ρ ε=>(g ρ ε).bind λ r=>gs r.1 r.2
def I_ (tg:FG) (b:FEs):List D->FEs
 | [],ρ,ε=>some (ρ,ε)
 | d::r,ρ,ε=>(tg d ρ).bind λ ρ1=>if noOw ρ1=true then (b ρ1 ε).bind λ q=>I_ tg b r q.1 q.2 else none
def forE (src:FI) (tg:FG) (b:FEs):FEs:=λ ρ ε=>(src ρ).bind λ ds=>I_ tg b ds ρ ε
def Rt (n:Nat) (x:Addr) (ds:List D):Rho:=Em n (.adr x::ds)
def runI (n np:Nat) (b:FEs) (x:Addr) (ds:List D):Option Ef:=if ds.length+1=np then (b (Rt n x ds) []).map (·.2) else none
def finE (c:Str) (ε:Ef):D:=.ob c (ε.map λ p=>(p.1,p.2.2))
open Classical in
noncomputable def mkI (c:Str) (g:Addr->List D->Option Ef) (fs:FA):FE:=λ ρ=>(fs ρ).bind λ ds=>(g 0 ds).bind λ ε=>if ∀ x,g x ds=some ε then some (finE c ε) else none
end PV
variable {g:List PV.D->Option PV.D}{d:PV.D}{G:PV.Gx}{ds:List PV.D}{ρ:PV.Rho}{kds:List (L2.Key×PV.D)}{src:PV.FI}{ga ft:PV.FT}{fe fr:PV.FE}{ε:PV.Ef}
namespace PV
open PySem PySem.Spec L2
open PyProof.Rows hiding St
theorem Wg:z0x "tuple"=some (.type "tuple"):=by decide +kernel
section
variable {x:Addr}
def Qg (x:Addr) (H H':Hp):Prop:=∀ b o,b≠x->H b=some o->H' b=some o
theorem Jf (hx:x∈A) (s:Qg x H H'):Same (hid A H) (hid A H'):=λ b o h=>by
 unfold hid at h ⊢;split at h
 ·cases h
 ·rename_i hb;rw[if_neg hb];exact s b o (λ z=>hb (z▸hx)) h
theorem Top.other (t:Top G A H q d) (nq:q≠x) (hx:x∈A) (s:Qg x H H'):Top G A H' q d:=by
 have sm:=Jf hx s;cases d with
 | lst ds=>obtain⟨xs,q1,q2⟩:=t;exact⟨xs,s _ _ nq q1,q2.mono sm⟩
 | dk ds=>obtain⟨xs,q1,q2,q3⟩:=t;exact⟨xs,s _ _ nq q1,q2,q3.mono sm⟩
 | dt ds=>obtain⟨xs,q1,q2,q3⟩:=t;exact⟨xs,s _ _ nq q1,q2,q3.mono sm⟩
 | ob c gs=>obtain⟨C,dx,xs,q1,q2,q3⟩:=t;exact⟨C,dx,xs,s _ _ nq q1,q2,q3.mono sm⟩
 | _=>exact t.elim
end
section
variable {a b c:Expr}{fa fb fc:FE}{px rp p:Pos}{es:List Expr}{fs:FA}{h:FZ}{hs:FZA}
end
theorem Cd (h:noOw ρ=true) (i:Nat) (d:D):ρ[i]?≠some (.ow d):=λ e=>by
 unfold noOw at h;rw[z1a] at h;have:=h _ (z3c e);cases this
inductive FsOk (G:Gx) (A0 A:List Addr) (H:Hp) (x:Addr):List (Str×V)->Ef->List Addr->Prop
 | nil:FsOk G A0 A H x [] [] []
 | pl {f:Str}{v:V}{d:D}{fs:List (Str×V)}{ε:Ef}{as:List Addr}:Rep G (hid A H) v d->FsOk G A0 A H x fs ε as->FsOk G A0 A H x ((f,v)::fs) ((f,false,d)::ε) as
 | ow {f:Str}{a:Addr}{d:D}{fs:List (Str×V)}{ε:Ef}{as:List Addr}:a∈A->a∉A0->a≠x->a∉as->Top G A H a d->FsOk G A0 A H x fs ε as->FsOk G A0 A H x ((f,.ref a)::fs) ((f,true,d)::ε) (a::as)
section
variable {A':List Addr}{x:Addr}{fs:List (Str×V)}{as:List Addr}
theorem FsOk.mp (h:FsOk G A0 A H x fs ε as) (r:∀ v d,Rep G (hid A H) v d->Rep G (hid A' H') v d) (t:∀ a∈as,∀ d,Top G A H a d->Top G A' H' a d) (s:∀ a∈as,a∈A->a∈A'):FsOk G A0 A' H' x fs ε as:=by
 induction h with
 | nil=>exact .nil
 | pl rv _ ih=>exact .pl (r _ _ rv) (ih t s)
 | ow h1 h2 h3 h4 h5 _ ih=>exact .ow (s _ z0L h1) h2 h3 h4 (t _ z0L _ h5) (ih (λ a ha=>t a (z0y _ ha)) (λ a ha=>s a (z0y _ ha)))
theorem FsOk.names (h:FsOk G A0 A H x fs ε as):fs.map (·.1)=ε.map (·.1):=by
 induction h with
 | nil=>rfl
 | pl _ _ ih=>simp[ih]
 | ow _ _ _ _ _ _ ih=>simp[ih]
theorem FsOk.len (h:FsOk G A0 A H x fs ε as):fs.length=ε.length:=by
 have:=congrArg z0P h.names;simpa using this
theorem FsOk.ne (h:FsOk G A0 A H x fs ε as):∀ a∈as,a∈A/\a∉A0/\a≠x:=by
 induction h with
 | nil=>intro a ha;cases ha
 | pl _ _ ih=>exact ih
 | ow h1 h2 h3 _ _ _ ih=>
  intro a ha
  rcases z0j.mp ha with z | z
  ·subst z;exact⟨h1,h2,h3⟩
  ·exact ih a z
theorem Py {f:Str}{v:V}:∀ {fs:List (Str×V)},fs.lookup f=none->L2.putF f v fs=fs++[(f,v)]
 | [],_=>rfl
 | (g,y)::r,h=>by
  by_cases hf:f=g
  ·subst hf;simp[z0q] at h
  ·have hb:(f==g)=false:=beq_eq_false_iff_ne.mpr hf;simp only[z0q,hb] at h;show (if g=f then (g,v)::r else (g,y)::L2.putF f v r)=_;rw[if_neg (λ z=>hf z.symm),Py h];rfl
theorem FsOk.none (h:FsOk G A0 A H x fs ε as) (e:ε.lookup f=none):fs.lookup f=none:=by
 induction h with
 | nil=>rfl
 | @pl g v d fs ε as _ _ ih=>
  by_cases hf:f=g
  ·subst hf;simp[z0q] at e
  ·have hb:(f==g)=false:=beq_eq_false_iff_ne.mpr hf;simp only[z0q,hb] at e ⊢;exact ih e
 | @ow g a d fs ε as _ _ _ _ _ _ ih=>
  by_cases hf:f=g
  ·subst hf;simp[z0q] at e
  ·have hb:(f==g)=false:=beq_eq_false_iff_ne.mpr hf;simp only[z0q,hb] at e ⊢;exact ih e
theorem FsOk.snocP (h:FsOk G A0 A H x fs ε as) (r:Rep G (hid A H) v d):FsOk G A0 A H x (fs++[(f,v)]) (ε++[(f,false,d)]) as:=by
 induction h with
 | nil=>exact .pl r .nil
 | pl rv _ ih=>exact .pl rv ih
 | ow h1 h2 h3 h4 h5 _ ih=>exact .ow h1 h2 h3 h4 h5 ih
theorem FsOk.snocO (h:FsOk G A0 A H x fs ε as) (h1:a∈A) (h2:a∉A0) (h3:a≠x) (h4:a∉as) (t:Top G A H a d):FsOk G A0 A H x (fs++[(f,.ref a)]) (ε++[(f,true,d)]) (as++[a]):=by
 induction h with
 | nil=>exact .ow h1 h2 h3 (λ z=>nomatch z) t .nil
 | pl rv _ ih=>exact .pl rv (ih h4)
 | @ow g b e fs ε as q1 q2 q3 q4 q5 _ ih=>
  have hb:a≠b:=λ z=>h4 (by simp[z]);refine .ow q1 q2 q3 (λ z=>?_) q5 (ih λ z=>h4 (z0y _ z))
  rcases z0Y.mp z with z | z
  ·exact q4 z
  ·simp at z;exact hb z.symm
theorem FsOk.get (h:FsOk G A0 A H x fs ε as) (e:ε.lookup f=some (true,d)):∃ a,fs.lookup f=some (.ref a)/\a∈as/\a∈A/\a∉A0/\a≠x/\Top G A H a d:=by
 induction h with
 | nil=>cases e
 | @pl g v d' fs ε as _ _ ih=>
  by_cases hf:f=g
  ·subst hf;simp[z0q] at e
  ·have hb:(f==g)=false:=beq_eq_false_iff_ne.mpr hf;simp only[z0q,hb] at e ⊢;exact ih e
 | @ow g a d' fs ε as h1 h2 h3 _ h5 _ ih=>
  by_cases hf:f=g
  ·subst hf;simp only[z0q,beq_self_eq_true,z6W,z3C,true_and] at e ⊢;subst e;exact⟨a,rfl,z0L,h1,h2,h3,h5⟩
  ·have hb:(f==g)=false:=beq_eq_false_iff_ne.mpr hf;simp only[z0q,hb] at e ⊢;obtain⟨a',q1,q2,q3⟩:=ih e;exact⟨a',q1,z0y _ q2,q3⟩
theorem FsOk.wr {d':D}(h:FsOk G A0 A H x fs ε as) (e:ε.lookup f=some (true,d)) (ea:fs.lookup f=some (.ref a)) (sx:Qg a H H') (hA:a∈A) (t:Top G A H' a d'):FsOk G A0 A H' x fs (repE f d' ε) as:=by
 have sm:=Jf hA sx
 induction h with
 | nil=>cases e
 | @pl g v d2 fs ε as rv hr ih=>
  by_cases hf:f=g
  ·subst hf;simp[z0q] at e
  ·have hb:(f==g)=false:=beq_eq_false_iff_ne.mpr hf;simp only[z0q,hb] at e ea;unfold repE;rw[if_neg (λ z=>hf z.symm)];exact .pl (rv.mono sm) (ih e ea)
 | @ow g b d2 fs ε as h1 h2 h3 h4 h5 hr ih=>
  by_cases hf:f=g
  ·subst hf;simp only[z0q,beq_self_eq_true,z6W,V.ref.injEq] at ea;subst ea;unfold repE;rw[if_pos rfl];refine .ow h1 h2 h3 h4 t (hr.mp (λ v d r=>r.mono sm) (λ c hc d t'=>t'.other (λ z=>h4 (by rw[<-z];exact hc)) hA sx) λ _ _ z=>z)
  ·have hb:(f==g)=false:=beq_eq_false_iff_ne.mpr hf;simp only[z0q,hb] at e ea;obtain⟨a',q1,q2,_⟩:=hr.get e;rw[ea] at q1;cases q1;unfold repE;rw[if_neg (λ z=>hf z.symm)];exact .ow h1 h2 h3 h4 (h5.other (λ z=>h4 (z▸q2)) hA sx) (ih e ea)
end
structure EOk (G:Gx) (c:Str) (A0:List Addr) (He:Hp) (x:Addr) (A:List Addr) (σ:St) (H:Hp) (ρ:Rho) (ε:Ef):Prop where
 w:OkW G A0 He A σ H ρ
 no:noOw ρ=true
 xA:x∈A
 x0:x∉A0
 s0:ρ[0]?=some (.fz (.adr x))
 ob:∃ C dx fs as,H x=some (.ins C dx fs)/\G.cl c=some C/\FsOk G A0 A H x fs ε as
def EOkS (G:Gx) (c:Str) (A0:List Addr) (He:Hp) (x:Addr) (σ:St) (H:Hp) (ρ:Rho) (ε:Ef):Prop:=∃ A,EOk G c A0 He x A σ H ρ ε
section
variable {x:Addr}
theorem EOk.at0 (o:EOk G c A0 He x A σ H ρ ε):σ[0]?=some (some (.ref x)):=by
 obtain⟨v,h1,h2⟩:=o.w.ok.fz 0 _ o.s0;cases h2;exact h1
theorem EOk.mono (o:EOk G c A0 He x A σ H ρ ε) (s:Same H H'):EOk G c A0 He x A σ H' ρ ε:=by
 obtain⟨C,dx,fs,as,h1,h2,h3⟩:=o.ob;exact⟨o.w.mono s,o.no,o.xA,o.x0,o.s0,C,dx,fs,as,s _ _ h1,h2,h3.mp (λ v d r=>r.mono (Az s)) (λ a ha d t=>t.mono s) λ _ _ z=>z⟩
theorem ig (s:Same H H') (fr:∀ a∈B,a∈A∨H a=none):Same (hid A H) (hid B H'):=λ b u h=>by
 unfold hid at h;split at h
 ·cases h
 ·rename_i hb;rw[CJ]
  ·exact s b u h
  ·intro z
   rcases fr b z with q | q
   ·exact hb q
   ·rw[q] at h;cases h
theorem Top.plain (t:Top G A H a d) (s:Same H H') (p:Same (hid A H) (hid B H')):Top G B H' a d:=by
 cases d with
 | lst ds=>obtain⟨xs,q1,q2⟩:=t;exact⟨xs,s _ _ q1,q2.mono p⟩
 | dk ds=>obtain⟨xs,q1,q2,q3⟩:=t;exact⟨xs,s _ _ q1,q2,q3.mono p⟩
 | dt ds=>obtain⟨xs,q1,q2,q3⟩:=t;exact⟨xs,s _ _ q1,q2,q3.mono p⟩
 | ob c gs=>obtain⟨C,dx,xs,q1,q2,q3⟩:=t;exact⟨C,dx,xs,s _ _ q1,q2,q3.mono p⟩
 | _=>exact t.elim
theorem EOk.frame (o:EOk G c A0 He x A σ H ρ ε):OkS G A H σ H ρ:=⟨A,Same.refl H,λ _ h=>h,λ a h=>.inl h,λ a ha=>(o.w.ok.live a ha).ne,o.w.ok,λ i d a h _=>absurd h (Cd o.no i d),λ y d _ h=>absurd h (Cd o.no 0 d)⟩
theorem EOk.unframe {σ':St}{ρ':Rho}(o:EOk G c A0 He x A σ H ρ ε) (w:OkS G A H σ' H' ρ') (no:noOw ρ'=true) (s0:ρ'[0]?=some (.fz (.adr x))):EOkS G c A0 He x σ' H' ρ' ε:=by
 obtain⟨B,w⟩:=w;have pl:Same (hid A H) (hid B H'):=ig w.same w.fr;obtain⟨C,dx,fs,as,h1,h2,h3⟩:=o.ob;refine⟨B,⟨o.w.same.trans w.same,λ a ha=>w.sub a (o.w.sub a ha),λ a ha=>?_,o.w.l0,w.ok,λ i d a h _=>absurd h (Cd no i d),λ y d _ h=>absurd h (Cd no 0 d)⟩,no,w.sub x o.xA,o.x0,s0,C,dx,fs,as,w.same _ _ h1,h2,h3.mp (λ v d r=>r.mono pl) (λ a ha d t=>t.plain w.same pl) λ a _ ha=>w.sub a ha⟩
 rcases w.fr a ha with q | q
 ·exact o.w.fr a q
 ·exact .inr (o.w.same.free q)
theorem EOk.wr {ε':Ef}(o:EOk G c A0 He x A σ H ρ ε) (hp:p∈A) (h0:p∉A0) (sx:Qg p H H') (lv:Nt (H' p)) (ob:∃ C dx fs as,H' x=some (.ins C dx fs)/\G.cl c=some C/\FsOk G A0 A H' x fs ε' as):EOk G c A0 He x A σ H' ρ ε':=by
 have hep:He p=none:=(o.w.fr p hp).resolve_left h0;have sm:=Jf hp sx;refine⟨⟨λ b u h=>sx b u (De h hep) (o.w.same b u h),o.w.sub,o.w.fr,o.w.l0,⟨o.w.ok.len,λ b hb=>?_,λ j e h=>?_,λ j e h=>absurd h (Cd o.no j e),λ i j d e a h _ _ _=>absurd h (Cd o.no i d)⟩,λ i d a h _=>absurd h (Cd o.no i d),λ y d _ h=>absurd h (Cd o.no 0 d)⟩,o.no,o.xA,o.x0,o.s0,ob⟩
 ·by_cases z:b=p
  ·rw[z];exact lv
  ·exact (o.w.ok.live b hb).mono λ u e=>sx b u z e
 ·obtain⟨v,q1,q2⟩:=o.w.ok.fz j e h;exact⟨v,q1,q2.mono sm⟩
end
def tE (G:Gx) (c:Str) (A0:List Addr) (He:Hp) (x:Addr) (g:FEs):TS:=λ D σ H=>∃ ρ ε r,EOkS G c A0 He x σ H ρ ε/\g ρ ε=some r/\∀ σ' H',EOkS G c A0 He x σ' H' r.1 r.2->D.nx σ' H'
def PSE (X:Cx) (G:Gx) (c:Str) (st:Stmt) (g:FEs):Prop:=∀ ⦃A0⦄ He x,PS X st (tE G c A0 He x g)
def PSEs (X:Cx) (G:Gx) (c:Str) (st:List Stmt) (g:FEs):Prop:=∀ ⦃A0⦄ He x,PSs X st (tE G c A0 He x g)
def tTE (G:Gx) (c:Str) (A0:List Addr) (He:Hp) (x:Addr) (t:FTE):TT:=λ σ H Q=>∃ A ρ ε b,EOk G c A0 He x A σ H ρ ε/\t ρ ε=some b/\∀ H',Same H H'->Q b H'
def PTE (X:Cx) (G:Gx) (c:Str) (e:Expr) (t:FTE):Prop:=∀ ⦃A0⦄ He x,PT X e (tTE G c A0 He x t)
def PWE (X:Cx) (G:Gx) (c:Str) (e:Expr) (t:FTE):Prop:=∀ ⦃A0⦄ He x,PW X e (tTE G c A0 He x t)
section
variable {a b k it:Expr}{fa fb fk:FE}{p px:Pos}{rest:List Stmt}{g gs:FEs}{gp:FS}{ta tb:FTE}{tp:FT}
theorem Wh (h1:PSE X G c st g) (h2:PSEs X G c rest gs):PSEs X G c (st::rest) (Fx g gs):=λ A0 He x π s σ H D I ⟨ρ,ε,r,o,e,k⟩=>by
 refine RJ (@h1 A0 He x) (@h2 A0 He x) π s σ H D I ?_;unfold Fx at e;cases e1:g ρ ε with
 | none=>simp[e1] at e
 | some q=>
  simp only[e1,z0J] at e;exact⟨ρ,ε,q,o,e1,λ σ' H' o'=>⟨q.1,q.2,r,o',e,k⟩⟩
theorem Zg (h1:PSE X G c st g):PSEs X G c [st] g:=λ A0 He x=>Yr (@h1 A0 He x)
theorem Ru (h:PSD X G st gp) (hk:∀ ρ ρ',gp ρ=some (.nx ρ')->ρ'[0]?=ρ[0]?):PSE X G c st (pureE gp):=λ A0 He x π s σ H D I ⟨ρ,ε,r,⟨A,o⟩,e,k⟩=>by
 unfold pureE at e;split at e
 ·rename_i ρ' e1;split at e
  ·rename_i no;cases e;refine @h A H π s σ H D I ⟨ρ,_,o.frame,e1,λ σ' H' w=>k σ' H' (o.unframe w no (by rw[hk ρ ρ' e1];exact o.s0))⟩
  ·cases e
 ·cases e
theorem Wi (h:PFT X G e tp):PTE X G c e (Rr tp):=λ A0 He x=>λ π s σ H Q I ⟨A,ρ,ε,b,o,e,k⟩=>@h A π s σ H Q I ⟨ρ,b,o.w.ok,e,k⟩
theorem pD (h:PTE X G c a ta):PWE X G c (.BoolOp .Or [a] pos) ta:=λ A0 He x=>dH (@h A0 He x)
theorem vQ {rest:List Expr}(ha:PTE X G c a ta) (hb:PWE X G c (.BoolOp .Or (b::rest) pos) tb):PWE X G c (.BoolOp .Or (a::b::rest) pos) (orTE ta tb):=λ A0 He x=>fD (rN (@ha A0 He x) (@hb A0 He x)) λ σ H Q ⟨A,ρ,ε,d,o,e,k⟩=>by
 unfold orTE at e;split at e
 ·rename_i e1;cases e;exact⟨A,ρ,ε,_,o,e1,λ H1 s1=>iteT (k H1 s1)⟩
 ·rename_i e1;exact⟨A,ρ,ε,_,o,e1,λ H1 s1=>iteF ⟨A,ρ,ε,d,o.mono s1,e,λ H2 s2=>k H2 (s1.trans s2)⟩⟩
 ·cases e
theorem PWE.pt (h:PWE X G c a ta):PTE X G c a ta:=λ A0 He x=>(@h A0 He x).pt
theorem vR {ap:Pos}(hu:X.A.units+1<z0h) (hcl:∀ c C,G.cl c=some C->Cls X.K C/\Bd X.K C f) (hv:PE X (.Name x px) (tVar 0)) (ha:PF X G a fa) (hb:z1q (.Name x px) f X.env (eval (.Name x px) X.env)=eval (.Name x px) X.env:=by rfl)
  (hm:z0Z .In (.Attribute (.Name x px) f ap)=false:=by rfl):PTE X G c (.Compare a [.In] [.Attribute (.Name x px) f ap] pos) (inTE f fa):=λ A0 He y π s σ H Q I ⟨A,ρ,ε,d,o,e,k⟩=>by
 refine Yy (X4 hu) (@ha A) (Xk hv hb) hm π s σ H Q I ?_;unfold inTE at e;cases e1:fa ρ with
 | none=>simp[e1] at e
 | some kd=>
  simp only[e1,z0J] at e;split at e
  ·rename_i kds e2;cases e3:keyD kd with
   | none=>simp[e3] at e
   | some q=>
    simp only[e3,z1z] at e;cases e;refine⟨ρ,kd,o.w.ok,e1,λ v H1 s1 r1=>?_⟩;obtain⟨C,dx,fs,as,h1,h2,h3⟩:=(o.mono s1).ob;obtain⟨p,q1,q2,q3,q4,q5,kvs,t1,t2,t3⟩:=h3.get e2;refine⟨_,o.at0,y,C,dx,fs,_,rfl,h1,(hcl _ _ h2).1,(hcl _ _ h2).2,q1,p,kvs,q,rfl,.of t1,Lr r1 e3,?_⟩;rw[(Lq (k:=q) t2 t3).2];exact⟨_,rfl,k H1 s1⟩
  ·cases e
theorem ik {s1:List Stmt}(ht:PTE X G c e ta) (h1:PSDs X G s1 badF):PSE X G c (.If e s1 [] pos) (ifE ta):=λ A0 He x π s σ H D I ⟨ρ,ε,r,⟨A,o⟩,e,k⟩=>by
 refine rP (@ht A0 He x) (@h1 A0 He) Lh π s σ H D I ?_;unfold ifE at e;split at e
 ·rename_i e1;cases e;exact⟨A,ρ,ε,_,o,e1,λ H1 s1=>iteF (k σ H1 ⟨A,o.mono s1⟩)⟩
 ·cases e
theorem K3 (hcl:∀ c C,G.cl c=some C->Cls X.K C/\Bd X.K C f) (hv:PE X (.Name x px) (tVar 0)) (ha:PF X G a fa) (hsw:z1o a (some (.Attribute (.Name x px) f pos')) pos.line X.env=pure false:=by rfl) :
  PSE X G c (.Assign [.Attribute (.Name x px) f pos'] a pos) (Hz f fa):=λ A0 He y π s σ H D I ⟨ρ,ε,r,⟨A,o⟩,e,k⟩=>by
 refine di hv (@ha A) hsw π s σ H D I ?_;unfold Hz at e;cases e1:fa ρ with
 | none=>simp[e1] at e
 | some d=>
  simp only[e1,z0J] at e;split at e
  ·rename_i hz;cases e;refine⟨ρ,d,o.w.ok,e1,λ u H1 s1 r1=>?_⟩;have o1:=o.mono s1;obtain⟨C,dx,fs,as,h1,h2,h3⟩:=o1.ob;have hn:=h3.none (z3r.mp hz.1);refine⟨_,o.at0,y,C,dx,fs,rfl,h1,(hcl _ _ h2).1,(hcl _ _ h2).2,by rw[h3.len];exact hz.2,?_⟩;rw[Py hn];have sx:Qg y H1 (upd H1 y (.ins C dx (fs++[(f,u)]))):=λ b w hb hw=>by rw[Ak hb];exact hw
   have sm:=Jf o1.xA sx;refine k _ _ ⟨A,o1.wr o1.xA o1.x0 sx (by rw[Aj];exact Nt.ins) ⟨C,dx,_,as,Aj,h2,?_⟩⟩;exact (h3.mp (λ v d r=>r.mono sm) (λ p hp d t=>t.other (h3.ne p hp).2.2 o1.xA sx) λ _ _ z=>z).snocP (r1.mono sm)
  ·cases e
theorem Wj (hcl:∀ c C,G.cl c=some C->Cls X.K C/\Bd X.K C f) (hv:PE X (.Name x px) (tVar 0)) (ha:PN X G a fa) (hsw:z1o a (some (.Attribute (.Name x px) f pos')) pos.line X.env=pure false:=by rfl) :
    PSE X G c (.Assign [.Attribute (.Name x px) f pos'] a pos) (Qe f fa):=λ A0 He y π s σ H D I ⟨ρ,ε,r,⟨A,o⟩,e,k⟩=>by
  refine di hv (@ha A) hsw π s σ H D I ?_;unfold Qe at e;cases e1:fa ρ with
  | none=>simp[e1] at e
  | some d=>
    simp only[e1,z0J] at e;split at e
    · rename_i hz
      cases e;refine⟨ρ,d,o.w.ok,e1,λ q H1 s1 hq t=>?_⟩;obtain⟨C,dx,fs,as,h1,h2,h3⟩:=o.ob;have nqA:q∉A:=λ z=>(o.w.ok.live q z).ne hq;have pl:Same (hid A H) (hid (q::A) H1):=Lp s1 hq;have hn:=h3.none (z3r.mp hz.1);have nq0:q∉A0:=λ z=>nqA (o.w.sub q z);have nqy:q≠y:=λ z=>nqA (z▸o.xA);have nqs:q∉as:=λ z=>nqA (h3.ne q z).1;have o1:EOk G c A0 He y (q::A) σ H1 ρ ε:=⟨⟨o.w.same.trans s1,λ a ha=>z0y _ (o.w.sub a ha),λ a ha=>by
          rcases z0j.mp ha with z | z
          · rw[z];exact .inr (o.w.same.free hq)
          · exact o.w.fr a z,o.w.l0,o.w.ok.fill s1 hq t.live,λ i d a h _=>absurd h (Cd o.no i d),λ y d _ h=>absurd h (Cd o.no 0 d)⟩,o.no,z0y _ o.xA,o.x0,o.s0,C,dx,fs,as,s1 _ _ h1,h2,
          h3.mp (λ v d r=>r.mono pl) (λ p hp d t=>t.plain s1 pl) λ p _ hp=>z0y _ hp⟩
      have g1:=s1 _ _ h1;have g2:=h2;have g3:FsOk G A0 (q::A) H1 y fs ε as:=h3.mp (λ v d r=>r.mono pl) (λ p hp d t=>t.plain s1 pl) λ p _ hp=>z0y _ hp;have hn':=g3.none (z3r.mp hz.1);refine⟨_,o.at0,y,C,dx,fs,rfl,g1,(hcl _ _ g2).1,(hcl _ _ g2).2,by rw[g3.len];exact hz.2,?_⟩;rw[Py hn'];have sx:Qg y H1 (upd H1 y (.ins C dx (fs++[(f,.ref q)]))):=λ b w hb hw=>by rw[Ak hb];exact hw
      have sm:=Jf o1.xA sx;refine k _ _ ⟨q::A,o1.wr o1.xA o1.x0 sx (by rw[Aj];exact Nt.ins) ⟨C,dx,_,as++[q],Aj,g2,?_⟩⟩;exact (g3.mp (λ v d r=>r.mono sm) (λ p hp d t=>t.other (g3.ne p hp).2.2 o1.xA sx) λ _ _ z=>z).snocO z0L nq0 nqy nqs (t.other nqy o1.xA sx)
    · cases e
theorem Wk {ap:Pos}(hu:X.A.units+1<z0h) (hcl:∀ c C,G.cl c=some C->Cls X.K C/\Bd X.K C f) (hv:PE X (.Name x px) (tVar 0)) (ha:PF X G a fa) (hb:PF X G b fb) (hbase:z1q (.Name x px) f X.env (eval (.Name x px) X.env)=eval (.Name x px) X.env:=by rfl)
  (hs:z1o b (some (.Subscript (.Attribute (.Name x px) f ap) a spos)) pos.line X.env=pure false:=by rfl):PSE X G c (.Assign [.Subscript (.Attribute (.Name x px) f ap) a spos] b pos) (Qf f fa fb):=λ A0 He y π s σ H D I ⟨ρ,ε,r,⟨A,o⟩,e,k⟩=>by
 refine Uq hu (Xk hv hbase) (@ha A) (@hb A) hs π s σ H D I ?_;unfold Qf at e;cases e1:fb ρ with
 | none=>simp[e1] at e
 | some v=>
  cases e2:fa ρ with
  | none=>simp[e1,e2] at e
  | some kd=>
   simp only[e1,e2,z0J] at e;split at e
   ·rename_i d e3;cases e4:Dc d kd v with
    | none=>simp[e4] at e
    | some d'=>
     simp only[e4,z1z] at e;cases e;unfold Dc at e4;split at e4
     ·rename_i kds;cases e5:keyD kd with
      | none=>simp[e5] at e4
      | some q=>
       simp only[e5,z0J] at e4;split at e4
       ·rename_i hz;cases e4;refine⟨ρ,v,o.w.ok,e1,λ u H1 s1 r1=>?_⟩;have o1:=o.mono s1;obtain⟨C,dx,fs,as,h1,h2,h3⟩:=o1.ob;obtain⟨p,q1,q2,q3,q4,q5,kvs,t1,t2,t3⟩:=h3.get e3;refine⟨_,o.at0,y,C,dx,fs,_,rfl,h1,(hcl _ _ h2).1,(hcl _ _ h2).2,q1,ρ,kd,o1.w.ok,e2,λ yv H2 s2 r2=>?_⟩;have ek:=Lr r2 e5;subst ek;have o2:=o1.mono s2;obtain⟨C',dx',fs',as',g1,g2,g3⟩:=o2.ob;rw[s2 _ _ h1] at g1;cases g1;have hl:kvs.length<sizeLine:=by
         have:=congrArg z0P t2;rw[z06,z06] at this;omega
        refine⟨p,_,rfl,DPut.k (s2 _ _ t1) hl,?_⟩;have pk:=Uz (k:=q) (r1.mono (Az s2)) t2 (t3.mono (Az s2));have sx:Qg p H2 (upd H2 p (.dK (putK kvs q u))):=λ b w hb hw=>by rw[Ak hb];exact hw
        refine k _ _ ⟨A,o2.wr q3 q4 sx (by rw[Aj];exact Nt.dK) ⟨C,dx,fs,as',by rw[Ak (z0n q5)];exact s2 _ _ h1,g2,?_⟩⟩;refine g3.wr e3 q1 sx q3 ⟨_,Aj,pk.1,?_⟩;rw[Fg q3];exact pk.2
       ·cases e4
     ·cases e4
   ·cases e
theorem EOk.frameW {x:Addr}(o:EOk G c A0 He x A σ H ρ ε):OkW G A H A σ H ρ:=⟨Same.refl H,λ _ h=>h,λ a h=>.inl h,λ a ha=>(o.w.ok.live a ha).ne,o.w.ok,λ i d a h _=>absurd h (Cd o.no i d),λ y d _ h=>absurd h (Cd o.no 0 d)⟩
theorem Zh {fg:FG}{gb:FEs}(hp:z49 .(0) X.A X.env X.xe) (hc:X.calm=true) (hi:PFI X G false tg it src) (hg:PGD X G tg fg) (hk:∀ d ρ ρ',fg d ρ=some ρ'->ρ'[0]?=ρ[0]?) (hb:PSEs X G c body gb)
  (hs:∀ x,z3b it X.env x=pure x:=by intro _;rfl):PSE X G c (.For tg it body [] pos) (forE src fg gb):=λ A0 He x π s σ H D I ⟨ρ,ε,r,⟨A,o⟩,e,k⟩=>by
 cases e1:src ρ with
 | none=>simp[forE,e1] at e
 | some ds=>
  have e':I_ fg gb ds ρ ε=some r:=by simpa [forE,e1] using e
  have hb':PSs X body (λ D σ H=>∃ A0 He x,tE G c A0 He x gb D σ H):=λ π s σ H D I ⟨A0,He,x,q⟩=>@hb A0 He x π s σ H D I q;have hg':PG X tg (λ v σ H Q=>∃ A0 He,tGD G A0 He fg v σ H Q):=λ π s σ H v u Q I r ⟨A0,He,q⟩=>@hg A0 He π s σ H v u Q I r q;refine dR hp hc (@hi A) hg' hb' hs π s σ H D I ⟨ρ,ds,o.w.ok,e1,λ J H1 s1 sr=>?_⟩;have o1:=o.mono s1;obtain⟨sHe,w2⟩:=o1.w.here;generalize hHf:hid (A.filter λ a=>decide (a∉A0)) H1=Hf at sHe w2;have k2:∀ σ' H',EOkS G c A0 Hf x σ' H' r.1 r.2->D.nx σ' H':=λ σ' H' ⟨B,q⟩=>k σ' H' ⟨B,q.w.base sHe o.w.l0,q.no,q.xA,q.x0,q.s0,q.ob⟩;refine⟨λ i m σ' H'=>m=ds.length-i/\i<=ds.length/\∃ ρ' ε',EOkS G c A0 Hf x σ' H' ρ' ε'/\I_ fg gb (ds.drop i) ρ' ε'=some r,⟨ds.length,by simp,z18 _,ρ,ε,⟨A,w2,o1.no,o1.xA,o1.x0,o1.s0,o1.ob⟩,by simpa using e'⟩,?_⟩;rintro i m σ3 H3 ⟨rfl,hil,ρ3,ε3,⟨B,o3⟩,e3⟩;have pl:Same (hid A H1) (hid B H3):=by rw[<-hHf] at o3;exact OkW.plain o.w.sub o3.w
  by_cases hlt:i<ds.length
  ·right;have hd:ds[i]?=some ds[i]:=by simp[hlt]
   have ed:ds.drop i=ds[i]::ds.drop (i+1):=z4q hlt;rw[ed] at e3;unfold I_ at e3;refine⟨sr.go i H3 (pl.trans Ar) hlt,λ σ' H'=>∃ ρ' ε',EOkS G c A0 Hf x σ' H' ρ' ε'/\I_ fg gb (ds.drop (i+1)) ρ' ε'=some r,λ σ' H' q=>⟨ds.length-(i+1),by omega,rfl,hlt,q⟩,λ y H' yy=>?_⟩;obtain⟨sy,rx⟩:=sr.yld i H3 y H' _ (pl.trans Ar) hd yy;have o4:=o3.mono sy;cases e4:fg ds[i] ρ3 with
   | none=>simp[e4] at e3
   | some ρ4=>
    simp only[e4,z0J] at e3;split at e3
    ·rename_i no;refine⟨B,H',B,ρ3,ds[i],ρ4,o4.frameW,rx B o3.w.ok.live pl,e4,λ σ5 H5 ok5=>?_⟩;cases e5:gb ρ4 ε3 with
     | none=>simp[e5] at e3
     | some q=>
      simp only[e5,z0J] at e3;exact⟨A0,Hf,x,ρ4,ε3,q,o4.unframe ok5 no (by rw[hk _ _ _ e4];exact o4.s0),e5,λ σ' H' o'=>⟨q.1,q.2,o',e3⟩⟩
    ·cases e3
  ·left;have ei:i=ds.length:=by omega
   subst ei;rw[z6O] at e3;cases e3;exact⟨sr.stop _ H3 (pl.trans Ar) (z07 _),k2 σ3 H3 ⟨B,o3⟩⟩
end
theorem Rv:b∈A.filter (λ b=>decide (b≠p))↔b∈A/\b≠p:=by simp[z2r]
theorem pF (I:Inv X π σ H s) (hA:a∈A) (t:Top G A H a d) :
  ∃ H',Inv X π σ H' s/\(∀ b,b≠a->H' b=H b)/\Same (hid A H) (hid (A.filter λ b=>decide (b≠a)) H')/\Rep G (hid (A.filter λ b=>decide (b≠a)) H') (.ref a) d:=by
 have key:∀ H':Hp,(∀ b,b≠a->H' b=H b)->Same (hid A H) (hid (A.filter λ b=>decide (b≠a)) H'):=λ H' hh b u h=>by
  unfold hid at h;split at h
  ·cases h
  ·rename_i hb;rw[CJ (λ z=>hb (Rv.mp z).1),hh b (λ z=>hb (z▸hA))];exact h
 have at0:∀ H':Hp,hid (A.filter λ b=>decide (b≠a)) H' a=H' a:=λ H'=>CJ (λ z=>(Rv.mp z).2 rfl);cases d with
 | lst ds=>
  obtain⟨xs,a1,a2⟩:=t;have sm:=key H λ _ _=>rfl;exact⟨H,I,λ _ _=>rfl,sm,.lst (.of (by rw[at0];exact a1)) (a2.mono sm).1 (a2.mono sm).2⟩
 | dk ds=>
  obtain⟨xs,a1,a2,a3⟩:=t;obtain⟨o,I'⟩:=Inv.frzK I a1;have sm:=key _ λ b hb=>Ak (o:=.frz o (.dK xs)) hb;exact⟨_,I',λ b hb=>Ak hb,sm,.dk (by rw[at0];exact Aj) a2 (a3.mono sm).2⟩
 | dt ds=>
  obtain⟨xs,a1,a2,a3⟩:=t;obtain⟨o,I'⟩:=Inv.frzT I a1;have sm:=key _ λ b hb=>Ak (o:=.frz o (.dT xs)) hb;exact⟨_,I',λ b hb=>Ak hb,sm,.dt (by rw[at0];exact Aj) a2 (a3.mono sm).2⟩
 | ob c gs=>
  obtain⟨C,dx,xs,a1,a2,a3⟩:=t;have sm:=key H λ _ _=>rfl;exact⟨H,I,λ _ _=>rfl,sm,.ob a2.1 (by rw[at0];exact a1) a2.2 (a3.mono sm).2⟩
 | _=>exact t.elim
theorem FsOk.frz {X:Cx}{G:Gx}{A0 A:List Addr}{π:zP}{s:z03}{σ:St}{H:Hp}{x:Addr}{fs:List (Str×V)}{ε:Ef}{as:List Addr}(h:FsOk G A0 A H x fs ε as) (I:Inv X π σ H s) :
  ∃ H' A',Inv X π σ H' s/\(∀ b,b∉as->H' b=H b)/\(∀ b,b∈A'↔b∈A/\b∉as)/\Same (hid A H) (hid A' H')/\RepL G (hid A' H') (fs.map (·.2)) (ε.map λ p=>p.2.2):=by
 induction h with
 | nil=>exact⟨H,A,I,λ _ _=>rfl,λ b=>by simp,Same.refl _,.nil⟩
 | pl rv _ ih=>
  obtain⟨H',A',i1,i2,i3,i4,i5⟩:=ih;exact⟨H',A',i1,i2,i3,i4,.cons (rv.mono i4) i5⟩
 | @ow f a d fs ε as h1 h2 h3 h4 t _ ih=>
  obtain⟨H1,A1,i1,i2,i3,i4,i5⟩:=ih;have ha:a∈A1:=(i3 a).mpr ⟨h1,h4⟩;have e1:H1 a=H a:=i2 a h4;have t1:Top G A1 H1 a d:=by
   cases d with
   | lst ds=>obtain⟨xs,q1,q2⟩:=t;exact⟨xs,by rw[e1];exact q1,q2.mono i4⟩
   | dk ds=>obtain⟨xs,q1,q2,q3⟩:=t;exact⟨xs,by rw[e1];exact q1,q2,q3.mono i4⟩
   | dt ds=>obtain⟨xs,q1,q2,q3⟩:=t;exact⟨xs,by rw[e1];exact q1,q2,q3.mono i4⟩
   | ob c gs=>obtain⟨C,dx,xs,q1,q2,q3⟩:=t;exact⟨C,dx,xs,by rw[e1];exact q1,q2,q3.mono i4⟩
   | _=>exact t.elim
  obtain⟨H2,j1,j2,j3,j4⟩:=pF i1 ha t1;refine⟨H2,A1.filter λ b=>decide (b≠a),j1,λ b hb=>?_,λ b=>?_,i4.trans j3,.cons j4 (i5.mono j3)⟩
  ·rw[j2 b (λ z=>hb (by simp[z])),i2 b (λ z=>hb (z0y _ z))]
  ·rw[Rv,i3 b];simp only[z0j,not_or];exact⟨λ ⟨⟨p1,p2⟩,p3⟩=>⟨p1,p3,p2⟩,λ ⟨p1,p3,p2⟩=>⟨⟨p1,p2⟩,p3⟩⟩
theorem EOk.whole {x:Addr}(o:EOk G c A0 He x A σ H ρ ε) (I:Inv X π σ H s) :
  ∃ H',Inv X π σ H' s/\Same He H'/\Rep G (hid A0 H') (.ref x) (finE c ε):=by
 obtain⟨C,dx,fs,as,h1,h2,h3⟩:=o.ob;obtain⟨H',A',i1,i2,i3,i4,i5⟩:=h3.frz I;have nx:x∉as:=λ z=>(h3.ne x z).2.2 rfl;refine⟨H',i1,λ b u hb=>?_,?_⟩
 ·rw[i2 b (λ z=>?_)]
  ·exact o.w.same b u hb
  ·obtain⟨q1,q2,_⟩:=h3.ne b z;rw[(o.w.fr b q1).resolve_left q2] at hb;cases hb
 ·have sb:∀ a∈A0,a∈A':=λ a ha=>(i3 a).mpr ⟨o.w.sub a ha,λ z=>(h3.ne a z).2.1 ha⟩;have en:fs.map (·.1)=(ε.map λ p=>(p.1,p.2.2)).map (·.1):=by
   rw[h3.names,z0p];rfl
  have es:(ε.map λ p=>(p.1,p.2.2)).map (·.2)=ε.map λ p=>p.2.2:=by rw[z0p];rfl
  refine .ob h2 (by rw[CJ o.x0,i2 x nx];exact h1) en ?_;rw[es];exact (i5.mono (Ju sb)).2
def tEI (G:Gx) (c:Str) (A0:List Addr) (He:Hp) (x:Addr) (g:FEs):TS:=λ D σ H=>∃ ρ ε r,EOkS G c A0 He x σ H ρ ε/\g ρ ε=some r/\∀ σ' H',Same He H'->Rep G (hid A0 H') (.ref x) (finE c r.2)->D.nx σ' H'
def PSI (X:Cx) (G:Gx) (c:Str) (st:List Stmt) (g:FEs):Prop:=∀ ⦃A0⦄ He x,PSs X st (tEI G c A0 He x g)
theorem Zi:PSI X G c [] nilE:=λ A0 He x π s σ H D I ⟨ρ,ε,r,⟨A,o⟩,e,k⟩=>by
 cases e;obtain⟨H',I',q1,q2⟩:=o.whole I;exact Lh π s σ H' D I' (k σ H' q1 q2)
theorem Dl {rest:List Stmt}{g gs:FEs}(h1:PSE X G c st g) (h2:PSI X G c rest gs):PSI X G c (st::rest) (Fx g gs):=λ A0 He x π s σ H D I ⟨ρ,ε,r,o,e,k⟩=>by
 refine RJ (@h1 A0 He x) (@h2 A0 He x) π s σ H D I ?_;unfold Fx at e;cases e1:g ρ ε with
 | none=>simp[e1] at e
 | some q=>
  simp only[e1,z0J] at e;exact⟨ρ,ε,q,o,e1,λ σ' H' o'=>⟨q.1,q.2,r,o',e,k⟩⟩
def spI (G:Gx) (c:Str) (g:Addr->List D->Option Ef):Sp:=λ vs H Q _=>∃ A x vs' ds ε C dx,vs=.ref x::vs'/\(∀ a∈A,Nt (H a))/\x∉A/\H x=some (.ins C dx [])/\G.cl c=some C/\RepL G (hid (x::A) H) vs' ds/\g x ds=some ε ∧
 ∀ H',Qg x H H'->Rep G (hid A H') (.ref x) (finE c ε)->Q .non H'
theorem M3 (n:Nat) (ds:List D):noOw (Em n ds)=true:=by
 unfold noOw Em;rw[z1a];intro z hz
 rcases z0Y.mp hz with q | q
 ·obtain⟨d,_,rfl⟩:=z0g.mp q;rfl
 ·rw[(List.mem_replicate.mp q).2]
theorem fn_I {base:Heap}{f:Addr}{k:Nat}{b:FEs}(F:Fun G.K x qual st f fd) (S:FnScope N ps (Ab st)) (hl:ps.length<=N.length)
  (hb:∀ (cdv:z00) (A:z0a) (outer:List Env) (s:z03) (H:Hp) (E:XK),Room k (A.deeper (z1D qual (Ab st) s.heap.objs.size f cdv))->PSI (cxOf CX0 P w G.K mg base N qual (Ab st) f cdv A outer s H E).nox G c (Bw st) b) :
  FnOk P w G.K mg base CX0 (k+1) f fd ps (spI G c (runI N.length ps.length b)):=by
 refine F.ok S (λ vs H Q E h=>?_) (λ cdv A outer s H vs Q E hr h=>?_)
 ·obtain⟨A,x,vs',ds,ε,C,dx,rfl,lv,hx,hH,hc,r,e,_⟩:=h;unfold runI at e;split at e
  ·rename_i hz;rw[z0u,r.1];exact hz
  ·cases e
 ·obtain⟨A1,x,vs',ds,ε,C,dx,rfl,lv,hx,hH,hc,r,e,k⟩:=h;unfold runI at e;split at e
  ·rename_i hz;have lv':∀ a∈x::A1,Nt (H a):=λ a ha=>by
    rcases z0j.mp ha with z | z
    ·rw[z,hH];exact Nt.ins
    ·exact lv a z
   have r':RepL G (hid (x::A1) H) (.ref x::vs') (.adr x::ds):=.cons (.adr x) r;obtain⟨B,w⟩:=Rg (N:=N) lv' r' (by rw[z0u,r.1];omega);cases e1:b (Rt N.length x ds) [] with
   | none=>simp[e1] at e
   | some q=>
    simp only[e1,z1z] at e;cases e;have hzz:=hb cdv A outer s H E hr;refine⟨_,@hzz A1 (hid [x] H) x,Rt N.length x ds,[],q,?_,e1,λ σ' H' s' rv=>k H' (λ b o hb ho=>s' b o (by rw[CJ (by simpa using hb)];exact ho)) rv⟩;refine⟨B,⟨Ar,λ a ha=>w.sub a (z0y _ ha),λ a ha=>?_,λ a ha=>?_,w.ok,λ i d a h _=>absurd h (Cd (M3 _ _) i d),λ y d _ h=>absurd h (Cd (M3 _ _) 0 d)⟩,M3 _ _,w.sub x z0L,hx,rfl,C,dx,[],[],hH,hc,.nil⟩
    ·rcases w.fr a ha with z | z
     ·rcases z0j.mp z with z | z
      ·right;unfold hid;rw[if_pos (by simp[z])]
      ·exact .inl z
     ·right;unfold hid;split
      ·rfl
      ·exact z
    ·rw[CJ (λ z=>hx (by simp at z;rw[<-z];exact ha))];exact (lv a ha).ne
  ·cases e
section
variable {a b:Expr}{fa fb:FE}{p:Pos}{es:List Expr}{fs:FA}
theorem U9 {k:Nat}{f:Addr}{g:Addr->List D->Option Ef}{cn:Str}(hcl:G.cl cn=some C) (M:Mk X.K C f) (F:FnOk X.prog X.w X.K X.mg X.base CX0 k f fd ps (spI G cn g)) (hr:Room (k+1) X.A) (hg:Gl X x) (hm:X.mg x=some (.ref C)) (hb:Binds X.K fd ps [])
  (ha:PFA X G (a::es) fs) (hdb:.(3)=false:=by decide) (he:z09 (a::es) X.env=.(7)::z09 es X.env:=by rfl) (hpl:.(37).any (·.1)=false:=by rfl) :
  PF X G (.Call (.Name x p) (a::es) [] pos) (mkI cn g fs):=λ A=>Bu (nD M F hr hg hm hb .nil WD (@ha A) hdb he hpl) λ σ H Q ⟨ρ,d,o,e,k⟩=>by
 unfold mkI at e;cases e1:fs ρ with
 | none=>simp[e1] at e
 | some ds=>
  cases e3:g 0 ds with
  | none=>simp[e1,e3] at e
  | some ε=>
   simp only[e1,e3,z0J] at e;split at e
   ·rename_i hall;cases e;refine⟨ρ,ds,o,e1,λ vs H1 s1 rv=>λ y dx hy hdx hne=>?_⟩;have sm:Same H1 (upd (upd H1 dx (.own y)) y (.ins C dx [])):=(Al hdx _).trans (Al (by rw[Ak (z0n hne)];exact hy) _);have lv1:=(o.mono s1).live;refine⟨A,y,vs,ds,ε,C,dx,by rw[z1d],λ b hb=>?_,λ z=>(lv1 y z).ne hy,Aj,hcl,rv.mono (Lp sm hy),hall y,λ H' sx rv'=>?_⟩
    ·exact (lv1 b hb).mono λ u e=>sm _ _ e
    ·refine⟨rfl,k _ H' (λ b u hb=>sx b u (λ z=>?_) (sm _ _ (s1 _ _ hb))) rv'⟩;have:=s1 _ _ hb;rw[z,hy] at this;cases this
   ·cases e
end
theorem U_ {f:FE}(ρ ρ':Rho) (h:Er f ρ=some (.nx ρ')):ρ'[0]?=ρ[0]?:=by
 unfold Er at h;cases e:f ρ with
 | none=>simp[e] at h
 | some d=>simp[e] at h;rw[h]
def K0s (g:FGs):Prop:=∀ ds ρ ρ',g ds ρ=some ρ'->ρ'[0]?=ρ[0]?
theorem ir:K0s nilG:=λ ds ρ ρ' h=>by
 unfold nilG at h;split at h
 ·cases h;rfl
 ·cases h
theorem Q3 {g:FGs}(hi:i≠0) (hg:K0s g):K0s (BX i g):=λ ds ρ ρ' h=>by
 unfold BX at h;split at h
 ·rw[hg _ _ _ h,z1m hi]
 ·cases h
theorem iu {g:FGs}(hg:K0s g) (d:D) (ρ ρ':Rho) (h:tupG n g d ρ=some ρ'):ρ'[0]?=ρ[0]?:=by
 unfold tupG at h;split at h
 ·split at h
  ·exact hg _ _ _ h
  ·cases h
 ·split at h
  ·exact hg _ _ _ h
  ·cases h
 ·cases h
end PV
namespace PV
open PySem PySem.W PySem.Calls PyProof.Rows L2
theorem YF:∀ (ns:List Int) (i:Int),i∈ns->z1r i<=z76 (ns.map z3P):=by
 intro ns
 induction ns with
 | nil=>intro i h;cases h
 | cons n r ih=>
  intro i h;rw[z0c];show z1r i<=z77 (.int n)+1+z76 (r.map z3P)
  rcases z0j.mp h with q | q
  ·subst q;have:z77 (.int i)=z1r i:=by unfold z77 z1r;rfl
   omega
  ·have:=ih i q;omega
theorem pG {l:OpenLaw}{q:z0s}{XP:(Str->Option z00)->Heap->Prop}{YP:z0k->Heap->Prop}{d:DefRec}(hn:l.most=some n) (hdf:d.params.defaults=[])
  (call:∀ (w:z0k) (s₀ s₁:z03) (mg mb:Str->Option z00) (fa:Addr) (o:Obj) (pm cd doc:z00) (a:Addr) (vs:List z00) (ns:List Int),
   Ground q loose [] XP w s₀ mg mb s₁.heap->YP w s₁.heap ->
   s₁.heap.get? fa=some o->o.data=.func (docDef d.name d.params d.body d.scope pm cd doc)->s₁.heap.CodeRec cd d.name->mg d.name=some (.ref fa) ->
   s₁.heap.get? a=some { cls:=.type "list",data:=.seq vs.toArray }->z3e vs ns->ns.length<=n->(∀ i∈ns,z1r i<=1048576)->s₁.gens=#[] ->
   z11 (z04 l.prog w) z3j (.call (.ref fa) ⟨[.ref a],[]⟩) (λ r s'=>r=.ok (.ret (.bool true))/\OldK s₁.heap s'.heap/\s'.os=s₁.os/\z2i s'.gens) s₁) :
  WalkO q loose XP YP l.row.toRowW d [] (λ f vs=>z78 f vs):=by
 intro w s₀ s₁ mg mb G Y fa o pm cd doc dV kV ho hd hcd hD hmg hg args vals as hpre hlay hrd hwl hlo;obtain rfl:dV=.none:=Dflts.none hD hdf;obtain rfl:kV=.none:=Dflts.noKw hD;obtain⟨a,vs,ns,rfl,rfl,hobj,hints,hlen⟩:=Att.bR hn hpre hwl;have hb:∀ i∈ns,z1r i<=1048576:=λ i hi=>by
  have h1:=YF ns i hi;have h2:z76 (ns.map z3P)<=1048576:=by
   have h3:z8T (.list (ns.map z3P))=true:=z1a.mp hlay _ (z0L ..);unfold z8T at h3;rw[z0U] at h3;exact of_decide_eq_true h3.2
  omega
 refine enter_call (z2J (call w s₀ s₁ mg mb fa o pm cd doc a vs ns G Y ho (fd_plain hd) hcd hmg hobj hints hlen hb hg) λ r s' hq=>?_);obtain⟨rfl,h2,h3,h4⟩:=hq;exact⟨.inl ⟨.bool true,.bool true,[],rfl,λ _=>rfl,.bool true,Att.bT l _,λ _=>⟨z5t,λ _ hm=>(nomatch hm)⟩⟩,h2,h3,h4⟩
theorem iw {l:PySem.W.OpenLaw}{k:Nat}{q:z0s}{XP:(Str->Option z00)->Heap->Prop}{YP:z0k->Heap->Prop}{d:DefRec}{K:Params->z08}{CX:z0k->CXT}{sp:z0k->Sp}(hn:l.most=some n) (hn2:n<=sizeLine) (hdf:d.params.defaults=[]) (hr:Room k z3j)
  (hY:∀ (w:z0k) (h:Heap),YP w h->(K w.params).In h)
  (F:∀ (w:z0k) (mg:Str->Option z00) (fa:Addr) (h:Heap),(K w.params).In h->h.Ns z0T mg->mg d.name=some (.ref fa) ->
   ∃ fd:z2k,(∀ (s:z03) (u:z00),z4f s fd ⟨[u],[]⟩ [(x,u)]) ∧
    ∀ base:Heap,(K w.params).In base->base.Ns z0T mg->FnOk l.prog w (K w.params) mg base (CX w) k fa fd [x] (sp w))
  (hsp:∀ (w:z0k) (H:Hp) (a:Addr) (ns:List Int),ns.length<=n->(∀ i∈ns,z1r i<=1048576)->Only H->SqL (K w.params) H a (ns.map V.int)->sp w [.ref a] H (λ v _=>v=.bl true) λ _ _ _=>False)
  (hCX:∀ (w:z0k) (H:Hp) (s:z03) (e:z00) (s':z03),CX w [] H s (λ _ _ _=>False) e s'->False) :
  PySem.W.WalkO q loose XP YP l.row.toRowW d [] (λ f vs=>z78 f vs):=by
 refine pG hn hdf λ w s₀ s₁ mg mb fa o pm cd doc a vs ns G Y ho hd hcd hmg hobj hints hlen hbits hg=>?_;have KX:=hY w _ Y;obtain⟨fd,hb,hF⟩:=F w mg fa _ KX G.T.g hmg;exact eZ KX G.T.g G.T.b G.T.builtins G.T.nolimit hg hobj hints (z0E hlen hn2) hr hF hb (λ H hO hS=>hsp w H a ns hlen hbits hO hS) λ H e s'=>hCX w H s₁ e s'
end PV
namespace PV
open PySem PySem.Spec L2
open PyProof.Rows hiding St
section
end
structure FunD (K:z08) (x qual:Str) (st:Stmt) (f:Addr) (fd:z2k):Prop where
 ex:∃ (oc:z00) (od:Option Addr) (dV kV doc pm:z00) (an:Option Addr) (cdv ct:z00) (osl:Array (Option z00)),
  fd=z1y x qual (Ec st) (Bw st) (Ab st) dV kV doc pm an cdv ct/\K.lookup f=some ⟨oc,od,.func fd,osl⟩/\z2N K cdv qual=true
 kp:z1K K (.ref f)=true
theorem pH {K:z08}{f:Addr}{dV kV:z00}(l:K.lookup f=some ⟨oc,od,.func (z1y x qual (Ec st) (Bw st) (Ab st) dV kV doc pm an cdv ct),osl⟩)
  (c:z2N K cdv qual=true) (k:z1K K (.ref f)=true):FunD K x qual st f (z1y x qual (Ec st) (Bw st) (Ab st) dV kV doc pm an cdv ct):=⟨⟨oc,od,dV,kV,doc,pm,an,cdv,ct,osl,rfl,l,c⟩,k⟩
theorem x_ {base:Heap}{f:Addr}{k:Nat}{b:FS}(F:FunD G.K x qual st f fd) (S:FnScope N ps (Ab st)) (hl:ps.length<=N.length)
  (hb:∀ (cdv:z00) (A:z0a) (outer:List Env) (s:z03) (H:Hp) (E:XK),Room k (A.deeper (z1D qual (Ab st) s.heap.objs.size f cdv))->PSDs (cxOf CX0 P w G.K mg base N qual (Ab st) f cdv A outer s H E).nox G (Bw st) b) :
  FnOk P w G.K mg base CX0 (k+1) f fd ps (spD G (runF N.length ps.length b)):=by
 obtain⟨oc,od,dV,kV,doc,pm,an,cdv,ct,osl,rfl,lk,hcd⟩:=F.ex;refine rW lk hcd S (λ vs H Q E h=>?_) (λ A outer s H vs Q E hr h=>?_)
 ·obtain⟨A,ds,d,lv,r,e,_⟩:=h;unfold runF at e;split at e
  ·rename_i hz;rw[r.1];exact hz
  ·cases e
 ·obtain⟨A0,ds,d,lv,r,e,k⟩:=h;unfold runF at e;split at e
  ·rename_i hz;have hzz:=hb cdv A outer s H E hr;refine⟨_,(@hzz A0 H).nox,Em N.length ds,?_⟩;cases e1:b (Em N.length ds) with
   | none=>simp[e1] at e
   | some o=>
    refine⟨o,Rg lv r (by rw[r.1,hz];exact hl),rfl,?_⟩;cases o with
    | nx ρ=>
     simp only[e1] at e;cases e;exact λ σ H' ⟨A,w⟩=>k _ H' w.same .non
    | rt d' ρ'=>
     simp only[e1] at e;cases e;exact λ v σ H' A w r'=>k v H' w.same (r'.mono (Ju w.sub))
    | bk ρ=>simp[e1] at e
    | ct ρ=>simp[e1] at e
  ·cases e
end PV
namespace PV
open PySem L2
theorem N6 (k:List (Key×D)) (x:Str):ixE (.dk k) (.str x)=getK (.inr x) k:=zE_ _
theorem Zj (l:List (Key×D)):lenE (.dk l)=some (.int l.length):=zE_ _
theorem Zk (neg:Bool) (x:Int) (k:List (Key×D)):inF neg (.int x) (.dk k)=some (.bl (if neg then !(getK (.inl x) k).isSome else (getK (.inl x) k).isSome)):=zE_ _
def N7 (o:Option D):Option (List D):=match o with | some (.str x)=>some (Wb x) | some (.lst ds)=>some ds | some (.tup ds)=>some ds | some (.dk kds)=>some (kds.map λ p=>kDt p.1) | _=>none
theorem DN (f:FE) (ρ:Rho):seqA f ρ=N7 (f ρ):=by
 unfold seqA seqE N7;cases f ρ with
 | none=>rfl
 | some d=>cases d<;>rfl
theorem Eg (l:List D):N7 (some (.lst l))=some l:=zE_ _
theorem Q4 (l:List D):N7 (some (.tup l))=some l:=zE_ _
theorem N8 (l:List (Key×D)):N7 (some (.dk l))=some (l.map λ p=>kDt p.1):=zE_ _
def putO (i:Nat) (ρ:Rho) (x y v:Option D):Option Out:=v.bind λ v=>y.bind λ y=>x.bind λ x=>(Dc x y v).map λ z=>.nx (ρ.set i (.ow z))
theorem Rw (i:Nat) (fk fv:FE) (ρ:Rho):putF i fk fv ρ=putO i ρ (getW ρ[i]?) (fk ρ) (fv ρ):=zE_ _
theorem M4 (i:Nat) (ρ:Rho) (x y v:D):putO i ρ (some x) (some y) (some v)=(Dc x y v).map λ z=>.nx (ρ.set i (.ow z)):=zE_ _
def tQ (i:Nat) (ρ:Rho) (x:Option D) (y:Option (List D)) (v:Option D):Option Out:=v.bind λ v=>y.bind λ y=>x.bind λ x=>(Ny x y v).map λ z=>.nx (ρ.set i (.ow z))
theorem vV (i:Nat) (fk:FA) (fv:FE) (ρ:Rho):WY i fk fv ρ=tQ i ρ (getW ρ[i]?) (fk ρ) (fv ρ):=zE_ _
theorem pI (i:Nat) (ρ:Rho) (x:D) (y:List D) (v:D):tQ i ρ (some x) (some y) (some v)=(Ny x y v).map λ z=>.nx (ρ.set i (.ow z)):=zE_ _
def frzO (ρ:Rho) (i:Nat) (o:Option Slot):Rho:=match o with | some (.ow d)=>ρ.set i (.fz d) | _=>ρ
theorem yC (g:FS) (ρ:Rho):fzS [] g ρ=g ρ:=zE_ _
theorem yD (i:Nat) (is:List Nat) (g:FS) (ρ:Rho):fzS (i::is) g ρ=fzS is g (frzO ρ i ρ[i]?):=zE_ _
theorem vW (ρ:Rho) (i:Nat) (d:D):frzO ρ i (some (.ow d))=ρ.set i (.fz d):=zE_ _
theorem N_ (i j:Nat) (a b:D) (ρ:Rho):tupG 2 (BX i (BX j nilG)) (.tup [a,b]) ρ=some ((ρ.set i (.fz a)).set j (.fz b)):=zE_ _
theorem Ry (x:Str):kDt (.inr x)=.str x:=zE_ _
theorem Pz {κ:Type} [DecidableEq κ] {k:κ}:∀ {l:List (κ×D)},k∉l.map (·.1)->getK k l=none
 | [],_=>rfl
 | p::r,h=>by
  unfold getK;rw[z0c,z0j,not_or] at h;rw[if_neg (λ z=>h.1 z.symm)];exact Pz h.2
theorem VB {κ:Type} [DecidableEq κ] {k:κ}{d:D}:∀ {l:List (κ×D)},(l.map (·.1)).Nodup->(k,d)∈l->getK k l=some d
 | [],_,h=>by cases h
 | p::r,nd,h=>by
  unfold getK;rw[z0c,z2l] at nd
  rcases z0j.mp h with q | q
  ·subst q;rw[if_pos rfl]
  ·rw[if_neg (λ z=>nd.1 (by rw[z];exact z0g.mpr ⟨(k,d),q,rfl⟩))];exact VB nd.2 q
theorem putL_new {κ:Type} [DecidableEq κ] {k:κ}{v:D}{l:List (κ×D)}(h:k∉l.map (·.1)):putL k v l=l++[(k,v)]:=by
 unfold putL;rw[Pz h];rfl
theorem M5 (k:List (Key×D)) (x:Str) (v:D) (hl:k.length<=1000000):Dc (.dk k) (.str x) v=some (.dk (putL (.inr x) v k)):=by
 show (if k.length<sizeLine then some (D.dk (putL (.inr x) v k)) else none)=_;rw[if_pos (z3k hl (by decide))]
theorem vX (k:List (Key×D)) (x:Int) (v:D) (hl:k.length<=1000000):Dc (.dk k) (.int x) v=some (.dk (putL (.inl x) v k)):=by
 show (if k.length<sizeLine then some (D.dk (putL (.inl x) v k)) else none)=_;rw[if_pos (z3k hl (by decide))]
theorem vY (k:List (List Key×D)) (x y:Int) (v:D) (hl:k.length<=1000000):Ny (.dt k) [.int x,.int y] v=some (.dt (putL [.inl x,.inl y] v k)):=by
 show (if k.length<sizeLine/\2<=sizeLine then some (D.dt (putL [.inl x,.inl y] v k)) else none)=_;rw[if_pos ⟨z3k hl (by decide),by decide⟩]
theorem VD {g:FS}{ρ':Rho}(h:g ρ=some (.nx ρ')) (hn:noOw ρ'=true):pureE g ρ ε=some (ρ',ε):=by
 unfold pureE;rw[h];show (if noOw ρ'=true then some (ρ',ε) else none)=_;rw[if_pos hn]
def tR (r:Option (Rho×Ef)) (gs:FEs):Option (Rho×Ef):=r.bind λ r=>gs r.1 r.2
theorem Fy (g gs:FEs) (ρ:Rho) (ε:Ef):Fx g gs ρ ε=tR (g ρ ε) gs:=zE_ _
theorem Dr (gs:FEs) (ρ:Rho) (ε:Ef):tR (some (ρ,ε)) gs=gs ρ ε:=zE_ _
theorem iz (ρ:Rho) (ε:Ef):nilE ρ ε=some (ρ,ε):=zE_ _
theorem i_ {tg:FG}{b:FEs}(h:src ρ=some ds):forE src tg b ρ ε=I_ tg b ds ρ ε:=by
 unfold forE;rw[h];rfl
end PV
namespace PV
open PySem PySem.Spec
section
variable {A:z0a}
def btx (w:z0k):Bool:=w.params.followText "set-order"
def ObX (h:Heap) (a:Addr) (es:Array (Int×z00)) (t:SetTable):Prop:=∃ o ep,h.get? a=some o/\o.ExactSet/\o.data=.set es ep t
end
section
variable {A:z0a}{R:z2u->z03->Prop}{I:Addr}{wr:List Addr}{P:Nat->z00->Prop}{Sx:Nat->Heap->Prop}
end
section
variable {A:z0a}
theorem yE {T nid iid:String}{as:List z00}{Q1:z00->z03->Prop}(ft:TypeCalled T nid iid) (hc:checkTypeCall T ⟨as,[]⟩=pure ()) (hn:z11 (z04 prog w) A.in1 (.call (.builtin nid) ⟨.type T::as,[]⟩) (wants Q1 E) s)
  (hi:∀ ob s1,Q1 ob s1->s1.TypeIs ob T/\z11 (z04 prog w) A.in1 (.call (.builtin iid) ⟨ob::as,[]⟩) (wants (λ r s2=>r=.none/\Q ob s2) E) s1):z02 (z04 prog w) A (call (.type T) as) Q E s:=by
 obtain⟨m0,mr,g1⟩:=ft.mro;have g2:=ft.made;have g3:=ft.sub;have g4:=ft.notType;have g5:=ft.canCreate;refine z59 (codeAny_of_tree (show z02 _ _ (callAny (.type T) _) _ _ _ from z05 ⟨z79 _ .(34),z1A F.entry_type_call ?_⟩));rw[Around.under_plain (weight_type_call_type T as []) (units_type_call_type T as [])]
 repeat (any_goals (first | assumption | wp_step))
 refine z2J hn λ r s1 q1=>?_
 match r,q1 with
 | .error _,q1=>exact q1
 | .ok .next,q1=>exact q1.elim
 | .ok .brk,q1=>exact q1.elim
 | .ok .cont,q1=>exact q1.elim
 | .ok (.ret ob),q1=>
  obtain⟨ty,run⟩:=hi ob s1 q1;have g6:=ft.init.lookup;have g7:=ft.init.bind ob
  repeat (any_goals (first | assumption | wp_step))
  refine z2J run λ r2 s2 q2=>?_
  match r2,q2 with
  | .error _,q2=>exact q2
  | .ok .next,q2=>exact q2.elim
  | .ok .brk,q2=>exact q2.elim
  | .ok .cont,q2=>exact q2.elim
  | .ok (.ret v),⟨e,q2⟩=>
   subst e
   repeat (any_goals (first | assumption | wp_step))
theorem pJ (v:z00) {Q:z00->z03->Prop}(k:Q .(5) { s with heap:=s.heap.push { cls:=.type "set",dict:=none,data:=.set #[] 0 (.fresh 0 0 (!btx w)) } }):z11 (z04 prog w) A (.call (.builtin "set.__new__") ⟨[.type "set",v],[]⟩) (wants Q E) s:=by
 have sb:isSubtype (.type "set") (.type "set")=pure true:=by rw[z2U];kernel_rfl
 refine codeAny_of_tree (show z02 _ A.in1 (do checkBuiltinCall "set.__new__" ⟨[.type "set",v],[]⟩;again (.builtin "set.__new__" ⟨[.type "set",v],[]⟩)) _ _ s from ?_);refine z01 (z4r (F.newCall_set_1 v) (z05 ⟨z1_ z8U _,z1A F.entry_set_new ?_⟩));rw[z2o z8U _];unfold z1e.«set.__new__» Builtin.Frozenset.newClass;obtain⟨h,g,d,tk,os⟩:=s
 wp_walk
 refine z3Y (z05 ?_);dsimp only [newObj];exact z01 (wpAny_alloc (z05 (z05 k)))
end
end PV
namespace PV
open PySem
open PySem.SetTable (below insertAt Probe Met)
abbrev Rise (l:List Nat):Prop:=l.Pairwise (·<·)
theorem R1 (xs:Array Nat) (hr:Rise xs.toList) (j:Nat):∀ (f lo hi:Nat),hi-lo<=f->lo<=hi->hi<=xs.size->(∀ i (h:i<xs.size),i<lo->xs[i]<j)->(∀ i (h:i<xs.size),hi<=i->j<=xs[i]) ->
  lo<=below.go xs j f lo hi/\below.go xs j f lo hi<=hi/\(∀ i (h:i<xs.size),i<below.go xs j f lo hi->xs[i]<j)/\(∀ i (h:i<xs.size),below.go xs j f lo hi<=i->j<=xs[i])
 | 0,lo,hi,hf,hl,hs,h1,h2=>by
  have:lo=hi:=by omega
  subst this;exact⟨z07 _,z07 _,h1,h2⟩
 | f+1,lo,hi,hf,hl,hs,h1,h2=>by
  have mono:∀ a b (ha:a<xs.size) (hb:b<xs.size),a<=b->xs[a]<=xs[b]:=λ a b ha hb hab=>by
   rcases z8V hab with h | h
   ·have:=z3Z.mp hr a b (by simpa using ha) (by simpa using hb) h;simp at this;omega
   ·subst h;exact z07 _
  have e0:below.go xs j (f+1) lo hi=if lo<hi then (if xs.getD ((lo+hi)/2) j<j then below.go xs j f ((lo+hi)/2+1) hi else below.go xs j f lo ((lo+hi)/2)) else lo:=rfl
  by_cases c:lo<hi
  ·have hm:(lo+hi)/2<xs.size:=by omega
   have gd:xs.getD ((lo+hi)/2) j=xs[(lo+hi)/2]:=by simp[hm]
   rw[e0,if_pos c,gd]
   by_cases d:xs[(lo+hi)/2]<j
   ·simp only[if_pos d];obtain⟨a,b,e,g⟩:=R1 xs hr j f ((lo+hi)/2+1) hi (by omega) (by omega) hs (λ i h hi'=>z3k (mono i _ h hm (by omega)) d) h2;exact⟨by omega,b,e,g⟩
   ·simp only[if_neg d];obtain⟨a,b,e,g⟩:=R1 xs hr j f lo ((lo+hi)/2) (by omega) (by omega) (by omega) h1 (λ i h hi'=>by have:=mono _ i hm h hi';omega);exact⟨a,by omega,e,g⟩
  ·rw[e0,if_neg c];have:lo=hi:=by omega
   subst this;exact⟨z07 _,z07 _,h1,h2⟩
theorem OD (xs:Array Nat) (hr:Rise xs.toList) (j:Nat):below xs j<=xs.size/\(∀ i (h:i<xs.size),i<below xs j->xs[i]<j)/\(∀ i (h:i<xs.size),below xs j<=i->j<=xs[i]):=by
 have:=R1 xs hr j xs.size 0 xs.size (by omega) (by omega) (z07 _) (λ _ _ h=>by omega) (λ i h h'=>by omega);exact this.2
theorem below_at (xs:Array Nat) (hr:Rise xs.toList) {i j:Nat}(h:xs[i]?=some j):below xs j=i:=by
 obtain⟨hi,e⟩:=z7a.mp h;obtain⟨b0,b1,b2⟩:=OD xs hr j
 rcases z5u (below xs j) i with c | c | c
 ·have h1:=b2 (below xs j) (by omega) (z07 _);have:=z3Z.mp hr (below xs j) i .(17) (by simpa using hi) c;simp at this;omega
 ·exact c
 ·have:=b1 i hi c;omega
theorem T5 {t:SetTable}(hr:Rise t.place.toList) {i j:Nat}(h:t.place[i]?=some j):t.slot j=.live i:=by
 unfold z8W;rw[below_at _ hr h];simp[h]
theorem YG {t:SetTable}(hd:t.dummies=#[]) {j:Nat}(h:j∉t.place.toList):t.slot j=.empty:=by
 unfold z8W;have h1:¬ (t.place[below t.place j]?==some j)=true:=λ z=>by
  have:=eq_of_beq z;exact h (by have:=Array.mem_of_getElem? this;simpa using this)
 have h2:z8X t.dummies j=false:=by rw[hd];rfl
 simp only[h1,h2];rfl
def adv (m:Nat) (p:Probe):Probe:=if p.more > 0 then { p with j:=p.j+1,more:=p.more-1 } else { p with j:=(z20 m p.i p.perturb).1,more:=z0O m (z20 m p.i p.perturb).1-(z20 m p.i p.perturb).1,i:=(z20 m p.i p.perturb).1,perturb:=(z20 m p.i p.perturb).2 }
theorem jA (t:SetTable) (p:Probe):t.advance p=adv t.mask p:=by
 unfold SetTable.advance adv;split<;>rfl
def way (m:Nat) (p:Probe):Nat->Probe
 | 0=>p
 | n+1=>way m (adv m p) n
theorem T6 (m:Nat):∀ (n:Nat) (p:Probe),(way m p n).dummy=p.dummy
 | 0,_=>rfl
 | n+1,p=>by
  show (way m (adv m p) n).dummy=_;rw[T6 m n];unfold adv;split<;>rfl
theorem Wm (t:SetTable) (ha:Nat->Int) (h:Int):∀ (n f:Nat) (p:Probe),n<f->(∀ k,k<n->∃ i,t.slot (way t.mask p k).j=.live i/\ha i≠h)->t.slot (way t.mask p n).j=.empty->z2V t ha h f p=some (.empty (way t.mask p n).j p.dummy)
 | 0,f+1,p,_,_,e=>by
  unfold z2V;have e:t.slot p.j=.empty:=e;rw[e];rfl
 | n+1,f+1,p,hn,hk,e=>by
  obtain⟨i,s,d⟩:=hk 0 (by omega);have s:t.slot p.j=.live i:=s;have ih:=Wm t ha h n f (adv t.mask p) (by omega) (λ k hk'=>hk (k+1) (by omega)) e;unfold z2V;rw[s];show (if (ha i==h)=true then _ else z2V t ha h f (t.advance p))=_;rw[if_neg (by simpa using d),jA,ih];rw[show (adv t.mask p).dummy=p.dummy from T6 t.mask 1 p];rfl
theorem Zm (t:SetTable) (ha:Nat->Int) (h:Int):∀ (n f:Nat) (p:Probe) (i:Nat),n<f->(∀ k,k<n->∃ i,t.slot (way t.mask p k).j=.live i/\ha i≠h)->t.slot (way t.mask p n).j=.live i->ha i=h->∃ nx,z2V t ha h f p=some (.candidate (way t.mask p n).j i nx)
 | 0,f+1,p,i,_,_,e,g=>by
  unfold z2V;have e:t.slot p.j=.live i:=e;rw[e];show ∃ nx,(if (ha i==h)=true then _ else _)=_;rw[if_pos (by simpa using g)];exact⟨_,rfl⟩
 | n+1,f+1,p,i',hn,hk,e,g=>by
  obtain⟨i,s,d⟩:=hk 0 (by omega);have s:t.slot p.j=.live i:=s;obtain⟨nx,ih⟩:=Zm t ha h n f (adv t.mask p) i' (by omega) (λ k hk'=>hk (k+1) (by omega)) e g;unfold z2V;rw[s];show ∃ nx,(if (ha i==h)=true then _ else z2V t ha h f (t.advance p))=_;rw[if_neg (by simpa using d),jA,ih];exact⟨nx,rfl⟩
def wayJ (m:Nat) (h:Int) (n:Nat):Nat:=(way m { j:=z1h h%(m+1),more:=z0O m (z1h h%(m+1))-z1h h%(m+1),i:=z1h h%(m+1),perturb:=z1h h,dummy:=none } n).j
def Cov (m:Nat) (h:Int):Prop:=∀ j,j<=m->∃ n,n<10*z21 m/\wayJ m h n=j
structure Tab (t:SetTable) (hs:List Int):Prop where
 len:t.place.toList.length=hs.length
 rise:Rise t.place.toList
 dum:t.dummies=#[]
 mask:∀ j∈t.place.toList,j<=t.mask
 room:hs.length<=t.mask
 far:∀ q∈t.place.toList.zip hs,∃ n,n<10*z21 t.mask/\wayJ t.mask q.2 n=q.1/\∀ k,k<n->wayJ t.mask q.2 k∈t.place.toList
theorem least {P:Nat->Prop}(h:P n):∃ m,m<=n/\P m/\∀ k,k<m->¬ P k:=by
 induction n using Nat.strongRecOn with
 | ind n ih=>
  by_cases c:∃ k,k<n/\P k
  ·obtain⟨k,hk,pk⟩:=c;obtain⟨m,a,b,d⟩:=ih k hk pk;exact⟨m,by omega,b,d⟩
  ·exact⟨n,z07 _,h,λ k hk pk=>c ⟨k,hk,pk⟩⟩
theorem VF {t:SetTable}{hs:List Int}(T:Tab t hs) {j:Nat}(h:j∈t.place.toList):∃ i,i<hs.length/\t.place.toList[i]?=some j/\t.slot j=.live i:=by
 obtain⟨i,hi,e⟩:=z3s.mp h;have e':t.place.toList[i]?=some j:=by rw[z0C hi,e]
 exact⟨i,by rw[<-T.len];exact hi,e',T5 T.rise (by simpa using e')⟩
theorem len_sub:∀ {l m:List Nat},l.Nodup->(∀ x∈l,x∈m)->l.length<=m.length
 | [],m,_,_=>z18 _
 | x::l,m,nd,h=>by
  obtain⟨n1,n2⟩:=z2l.mp nd;have hx:=h x (by simp);have ih:=len_sub (m:=m.erase x) n2 λ y hy=>(z5v (show y≠x from λ z=>n1 (z▸hy))).mpr (h y (by simp[hy]));rw[z5w hx] at ih;have:=z5x hx;simp;omega
theorem cD {m:Nat}(hr:Rise l) (hm:l.length<=m):∃ j,j<=m/\j∉l:=by
 refine z5y λ c=>?_;have sub:∀ j,j<=m->j∈l:=λ j hj=>z5y λ z=>c ⟨j,hj,z⟩;have nd:(z0e (m+1)).Nodup:=z4x;have:(z0e (m+1)).length<=l.length:=by
  refine len_sub nd λ x hx=>sub x ?_;have:=z0w.mp hx;omega
 rw[z2B] at this;omega
theorem VG {t:SetTable}{hs:List Int}(T:Tab t hs) (ha:Nat->Int) (he:∀ i h,hs[i]?=some h->ha i=h) (nd:hs.Nodup) {i:Nat}{h:Int}(hi:hs[i]?=some h):∃ j nx,t.probe ha h (t.probeStart h)=some (.candidate j i nx):=by
 have hl:i<t.place.toList.length:=by rw[T.len];exact (z1s.mp hi).1
 have hz:(t.place.toList[i],h)∈t.place.toList.zip hs:=by
  refine z4y.mpr ⟨i,?_⟩;rw[z4z];exact⟨z0C hl,hi⟩
 obtain⟨n,hn,hj,hb⟩:=T.far _ hz;simp only at hj hb;obtain⟨m,hm,⟨i1,s1,g1⟩,hk⟩:=least (P:=λ n=>∃ i,t.slot (wayJ t.mask h n)=.live i/\ha i=h) (n:=n) ⟨i,by rw[hj];exact T5 T.rise (by simp[hl]),he i h hi⟩;have bef:∀ k,k<m->∃ i,t.slot (wayJ t.mask h k)=.live i/\ha i≠h:=λ k hk'=>by
  obtain⟨i2,_,_,s2⟩:=VF T (hb k (by omega));exact⟨i2,s2,λ z=>hk k hk' ⟨i2,s2,z⟩⟩
 obtain⟨nx,e⟩:=Zm t ha h m (10*z21 t.mask) (t.probeStart h) i1 (by omega) bef s1 g1;have mem:wayJ t.mask h m∈t.place.toList:=by
  rcases z8V hm with c | c
  ·exact hb m c
  ·rw[c,hj];exact z1b hl
 obtain⟨i3,l3,p3,s3⟩:=VF T mem;have ei:i1=i3:=by
  have:=s1.symm.trans s3;injection this
 subst ei;have g3:=he i1 _ (z0C l3);have:i1=i:=by
  have e1:hs[i1]?=some h:=by rw[z0C l3,<-g3,g1]
  exact (z7b l3 nd).mp (e1.trans hi.symm)
 subst this;exact⟨_,nx,e⟩
theorem Wn {t:SetTable}{hs:List Int}(T:Tab t hs) (ha:Nat->Int) (he:∀ i h,hs[i]?=some h->ha i=h) {h:Int}(hi:h∉hs) (cv:Cov t.mask h):∃ n,n<10*z21 t.mask/\wayJ t.mask h n∉t.place.toList/\(∀ k,k<n->wayJ t.mask h k∈t.place.toList)/\t.probe ha h (t.probeStart h)=some (.empty (wayJ t.mask h n) none):=by
 obtain⟨j,hj,nj⟩:=cD (m:=t.mask) T.rise (by rw[T.len];exact T.room);obtain⟨n0,hn0,e0⟩:=cv j hj;obtain⟨n,hn,p,hk⟩:=least (P:=λ n=>wayJ t.mask h n∉t.place.toList) (n:=n0) (by rw[e0];exact nj);have bef:∀ k,k<n->wayJ t.mask h k∈t.place.toList:=λ k hk'=>z5y λ z=>hk k hk' z;refine⟨n,by omega,p,bef,?_⟩;refine Wm t ha h n (10*z21 t.mask) (t.probeStart h) (by omega) (λ k hk'=>?_) (YG T.dum p);obtain⟨i,l,p',s⟩:=VF T (bef k hk');refine⟨i,s,λ z=>hi ?_⟩;have:=he i _ (z0C l);rw[z] at this;rw[this];exact z1b l
theorem R3 {α:Type}(xs:Array α) (p:Nat) (x:α):(insertAt xs p x).toList=xs.toList.take p++x::xs.toList.drop p:=by
 unfold insertAt;simp;rw[z6J];simp
theorem YH {xs:Array Nat}(hr:Rise xs.toList) {j:Nat}(nj:j∉xs.toList):(∀ a∈xs.toList.take (below xs j),a<j)/\∀ a∈xs.toList.drop (below xs j),j<a:=by
 obtain⟨b0,b1,b2⟩:=OD xs hr j;refine⟨λ a ha=>?_,λ a ha=>?_⟩
 ·obtain⟨i,hi,rfl⟩:=z3s.mp ha;rw[z1g] at hi;rw[z8Y];have:=b1 i (by simp at hi;omega) (by omega);simpa using this
 ·have hm:a∈xs.toList:=z8Z ha;obtain⟨i,hi,rfl⟩:=z3s.mp ha;rw[z2P] at hi;rw[List.getElem_drop];have:=b2 (below xs j+i) (by simp at hi;omega) (by omega);have ne:¬ xs.toList[below xs j+i]'(by omega)=j:=λ z=>nj (z▸z1b _);simp at this ne ⊢;omega
theorem jB {α β:Type}{l:List α}{m:List β}{p:Nat}{q:α×β}(h:q∈(l.take p).zip (m.take p)):q∈l.zip m:=by
 obtain⟨i,hi⟩:=z4y.mp h;rw[z4z] at hi;have hp:i<p:=by
  have:=(z1s.mp hi.1).1;rw[z1g] at this;omega
 rw[z6o hp,z6o hp] at hi;exact z4y.mpr ⟨i,z4z.mpr hi⟩
theorem jC {α β:Type}{l:List α}{m:List β}{p:Nat}{q:α×β}(h:q∈(l.drop p).zip (m.drop p)):q∈l.zip m:=by
 obtain⟨i,hi⟩:=z4y.mp h;rw[z4z,z6H,z6H] at hi;exact z4y.mpr ⟨p+i,z4z.mpr hi⟩
theorem Tab.put {t:SetTable}{hs:List Int}(T:Tab t hs) {h:Int}{n j:Nat}(hn:n<10*z21 t.mask) (ej:wayJ t.mask h n=j) (hj:j∉t.place.toList) (hm:j<=t.mask) (hb:∀ k,k<n->wayJ t.mask h k∈t.place.toList) (rm:hs.length+1<=t.mask) :
  Tab (t.put j).1 (hs.take (t.put j).2++h::hs.drop (t.put j).2)/\(t.put j).2<=hs.length:=by
 have hp:(t.put j).2=below t.place j:=rfl;have hl:(t.put j).1.place.toList=t.place.toList.take (below t.place j)++j::t.place.toList.drop (below t.place j):=R3 _ _ _;have hk:(t.put j).1.mask=t.mask:=rfl;have hd:(t.put j).1.dummies=#[]:=by
  show (if z8X t.dummies j then _ else t.dummies)=_;rw[T.dum];rfl
 obtain⟨b0,b1,b2⟩:=OD t.place T.rise j;obtain⟨s1,s2⟩:=YH T.rise hj;have len:=T.len;have b0':below t.place j<=hs.length:=by rw[<-len];simpa using b0
 have sub:∀ x∈t.place.toList,x∈(t.put j).1.place.toList:=λ x hx=>by
  rw[hl];rw[<-z5z (below t.place j) t.place.toList] at hx
  rcases z0Y.mp hx with hx | hx
  ·exact z64 _ hx
  ·exact z27 _ (z0y _ hx)
 refine⟨⟨?_,?_,hd,?_,?_,?_⟩,by rw[hp];exact b0'⟩
 ·rw[hl,hp];simp only[z0N,z1g,z0u,z2P];omega
 ·rw[hl];have r:=T.rise;rw[<-z5z (below t.place j) t.place.toList] at r;obtain⟨r1,r2,r3⟩:=z8_.mp r;refine z8_.mpr ⟨r1,z22.mpr ⟨s2,r2⟩,λ a ha b hb'=>?_⟩
  rcases z0j.mp hb' with z | z
  ·rw[z];exact s1 a ha
  ·exact r3 a ha b z
 ·intro x hx;rw[hl] at hx;rw[hk]
  rcases z0Y.mp hx with hx | hx
  ·exact T.mask x (z7c hx)
  ·rcases z0j.mp hx with z | z
   ·rw[z];exact hm
   ·exact T.mask x (z8Z z)
 ·rw[hk,hp];simp only[z0N,z1g,z0u,z2P];omega
 ·intro q hq;rw[hl,hp,List.zip_append (by simp only[z1g];omega),z4T] at hq;rw[hk];have old:∀ q∈t.place.toList.zip hs,∃ n,n<10*z21 t.mask/\wayJ t.mask q.2 n=q.1/\∀ k,k<n->wayJ t.mask q.2 k∈(t.put j).1.place.toList:=λ q hq=>by
   obtain⟨n,a,b,c⟩:=T.far q hq;exact⟨n,a,b,λ k hk=>sub _ (c k hk)⟩
  rcases z0Y.mp hq with hq | hq
  ·exact old q (jB hq)
  ·rcases z0j.mp hq with z | z
   ·rw[z];exact⟨n,hn,ej,λ k hk=>sub _ (hb k hk)⟩
   ·exact old q (jC z)
def stA (m i pt:Nat):Probe:={ j:=i,more:=z0O m i-i,i:=i,perturb:=pt,dummy:=none }
theorem OJ (m:Nat):∀ (a b:Nat) (p:Probe),way m p (a+b)=way m (way m p a) b
 | 0,b,p=>by rw[z1Q];rfl
 | a+1,b,p=>by
  rw[Nat.add_right_comm];exact OJ m a b (adv m p)
theorem VH (m i pt:Nat):∀ (k L:Nat),k<=L->∀ c,way m { j:=i+c,more:=L,i:=i,perturb:=pt,dummy:=none } k={ j:=i+c+k,more:=L-k,i:=i,perturb:=pt,dummy:=none }
 | 0,L,_,c=>rfl
 | k+1,L,h,c=>by
  show way m (adv m _) k=_;have:adv m { j:=i+c,more:=L,i:=i,perturb:=pt,dummy:=none }={ j:=i+(c+1),more:=L-1,i:=i,perturb:=pt,dummy:=none }:=by
   unfold adv;rw[if_pos (show L > 0 by omega)];simp[z4R]
  rw[this,VH m i pt k (L-1) (by omega) (c+1)];simp;omega
theorem R4 (m i pt:Nat):way m (stA m i pt) (z0O m i-i+1)=stA m (z20 m i pt).1 (z20 m i pt).2:=by
 rw[OJ];have:=VH m i pt (z0O m i-i) (z0O m i-i) (z07 _) 0;rw[z90] at this;unfold stA;rw[this];show adv m _=_;unfold adv;rw[if_neg (by simp)]
theorem VJ (m i pt k:Nat) (h:k<=z0O m i-i):(way m (stA m i pt) k).j=i+k:=by
 have:=VH m i pt k (z0O m i-i) h 0;rw[z90] at this;unfold stA;rw[this]
theorem R5 (m i:Nat):z0O m i+1-i<=10/\i<=z0O m i:=by
 unfold z0O;split<;>omega
def Full (ow:Array (Option Nat)) (j:Nat):Prop:=(ow.getD j (some 0)).isNone=false
theorem Zn (m:Nat) (ow:Array (Option Nat)):∀ (f i pt j:Nat),z4A m ow f i pt=some j->∃ n,n<10*f/\(way m (stA m i pt) n).j=j/\(ow.getD j (some 0)).isNone=true/\∀ k,k<n->Full ow (way m (stA m i pt) k).j
 | 0,i,pt,j,h=>by cases h
 | f+1,i,pt,j,h=>by
  obtain⟨r1,r2⟩:=R5 m i;unfold z4A at h;cases e:(z0e (z0O m i+1-i)).find? λ k=>(ow.getD (i+k) (some 0)).isNone with
  | some k=>
   rw[e] at h;obtain rfl:i+k=j:=z0t h;have hk:=z5A e;rw[z0w] at hk;have hp:=z7d e;refine⟨k,by omega,VJ m i pt k (by omega),hp,λ k' hk'=>?_⟩;rw[VJ m i pt k' (by omega)];obtain⟨as,bs,e1,e2⟩:=(List.find?_eq_some_iff_append.mp e).2;have:k'∈as:=by
    have la:as.length=k:=by
     have:=congrArg (λ l=>l[as.length]?) e1;simp only[z1X (z07 _),z3l,z1R] at this;rw[z4B (by
      have:=congrArg z0P e1;simp at this;omega)] at this
     exact z0t this
    have:=congrArg (λ l=>l[k']?) e1;simp only[z2b (show k'<as.length by omega)] at this;rw[z4B (by omega)] at this;exact z3c this.symm
   have:=e2 k' this;unfold Full;simpa using this
  | none=>
   rw[e] at h;obtain⟨n,a,b,c,d⟩:=Zn m ow f _ _ j h;refine⟨z0O m i-i+1+n,by omega,by rw[OJ,R4];exact b,c,λ k hk=>?_⟩
   by_cases z:k<=z0O m i-i
   ·rw[VJ m i pt k z];have:=z7e.mp e k (by rw[z0w];omega);exact z91.mpr this
   ·have e2:k=z0O m i-i+1+(k-(z0O m i-i+1)):=by omega
    rw[e2,OJ,R4];exact d _ (by omega)
def M6 (m:Nat) (j:Nat):Nat->Nat->Nat->Bool
 | 0,_,_=>false
 | f+1,i,pt=>(decide (i<=j)&&decide (j<=z0O m i))||M6 m j f (z20 m i pt).1 (z20 m i pt).2
theorem T7 (m:Nat) (ow:Array (Option Nat)) (j:Nat) (hj:(ow.getD j (some 0)).isNone=true):∀ (f i pt:Nat),M6 m j f i pt=true->∃ x,z4A m ow f i pt=some x
 | 0,i,pt,h=>by cases h
 | f+1,i,pt,h=>by
  obtain⟨r1,r2⟩:=R5 m i;unfold z4A;cases e:(z0e (z0O m i+1-i)).find? λ k=>(ow.getD (i+k) (some 0)).isNone with
  | some k=>exact⟨_,rfl⟩
  | none=>
   unfold M6 at h
   rcases z92.mp h with h | h
   ·rw[z0U,decide_eq_true_eq,decide_eq_true_eq] at h;have:=z7e.mp e (j-i) (by rw[z0w];omega);rw[show i+(j-i)=j by omega] at this;exact absurd hj this
   ·exact T7 m ow j hj f _ _ h
theorem Zo (m j:Nat):∀ (f i pt:Nat),M6 m j f i pt=true->∃ n,n<10*f/\(way m (stA m i pt) n).j=j
 | 0,i,pt,h=>by cases h
 | f+1,i,pt,h=>by
  obtain⟨r1,r2⟩:=R5 m i;unfold M6 at h
  rcases z92.mp h with h | h
  ·rw[z0U,decide_eq_true_eq,decide_eq_true_eq] at h;exact⟨j-i,by omega,by rw[VJ m i pt (j-i) (by omega)];omega⟩
  ·obtain⟨n,a,b⟩:=Zo m j f _ _ h;exact⟨z0O m i-i+1+n,by omega,by rw[OJ,R4];exact b⟩
def CovR (m:Nat) (h:Int):Prop:=∀ j,j<=m->M6 m j (z21 m) (z1h h%(m+1)) (z1h h)=true
theorem CovR.cov {m:Nat}{h:Int}(c:CovR m h):Cov m h:=λ j hj=>Zo m j _ _ _ (c j hj)
theorem vZ {m:Nat}{p:Probe}(h:p.j+p.more<=m):(adv m p).j+(adv m p).more<=m:=by
 unfold adv;split
 ·simp;omega
 ·have hl:(z20 m p.i p.perturb).1<=m:=z4C (z5B _ (z93 m));obtain⟨r1,r2⟩:=R5 m (z20 m p.i p.perturb).1;have:z0O m (z20 m p.i p.perturb).1<=m:=by
   unfold z0O;split<;>omega
  simp;omega
theorem jD {m:Nat}:∀ (n:Nat) {p:Probe},p.j+p.more<=m->(way m p n).j<=m
 | 0,p,h=>by show p.j<=m;omega
 | n+1,p,h=>jD n (vZ h)
theorem VL (m:Nat) (h:Int) (n:Nat):wayJ m h n<=m:=by
 refine jD n ?_;have hl:z1h h%(m+1)<=m:=z4C (z5B _ (z93 m));obtain⟨r1,r2⟩:=R5 m (z1h h%(m+1));have:z0O m (z1h h%(m+1))<=m:=by
  unfold z0O;split<;>omega
 show z1h h%(m+1)+(z0O m (z1h h%(m+1))-z1h h%(m+1))<=m;omega
structure Ow (m:Nat) (ow:Array (Option Nat)) (hs:List Int):Prop where
 size:ow.size=m+1
 own:∀ i,i<hs.length->∃ j:Nat,ow[j]?=some (some i)
 lt:∀ (j i:Nat),ow[j]?=some (some i)->i<hs.length
 inj:∀ (j k i:Nat),ow[j]?=some (some i)->ow[k]?=some (some i)->j=k
 far:∀ (j i:Nat) (h:Int),ow[j]?=some (some i)->hs[i]?=some h->∃ n,n<10*z21 m/\wayJ m h n=j/\∀ k,k<n->∃ x,ow[wayJ m h k]?=some (some x)
theorem T8 {m:Nat}(hz:ow.size=m+1) {j:Nat}(hj:j<=m) (h:Full ow j):∃ x,ow[j]?=some (some x):=by
 have hl:j<ow.size:=by omega
 unfold Full at h;rw[show ow.getD j (some 0)=ow[j] by simp[hl]] at h;cases e:ow[j] with
 | none=>rw[e] at h;cases h
 | some x=>exact⟨x,by simp[hl,e]⟩
theorem Ow.free {m:Nat}{hs:List Int}(O:Ow m ow hs) (hl:hs.length<=m):∃ j,j<=m/\(ow.getD j (some 0)).isNone=true:=by
 refine z5y λ c=>?_;have al:∀ j,j<=m->∃ x,ow[j]?=some (some x):=λ j hj=>T8 O.size hj (by
  unfold Full;exact z91.mpr λ z=>c ⟨j,hj,z⟩)
 have nd:((z0e (m+1)).map λ j=>(ow.getD j none).getD 0).Nodup:=by
  rw[z2d,z1B];refine z2W (R:=λ a b=>a<b) (λ {a b} ha hb hab z=>?_) z94;have ha:=z0w.mp ha;have hb:=z0w.mp hb;obtain⟨x,hx⟩:=al a (by omega);obtain⟨y,hy⟩:=al b (by omega);have ex:(ow.getD a none).getD 0=x:=by simp[hx]
  have ey:(ow.getD b none).getD 0=y:=by simp[hy]
  rw[ex,ey] at z;subst z;have:=O.inj a b x hx hy;omega
 have:=len_sub (m:=z0e hs.length) nd λ y hy=>by
  obtain⟨j,hj,rfl⟩:=z0g.mp hy;obtain⟨x,hx⟩:=al j (by have:=z0w.mp hj;omega);rw[show (ow.getD j none).getD 0=x by simp[hx]];exact z0w.mpr (O.lt j x hx)
 simp at this;omega
def Q5 (m:Nat) (acc:Option (Array (Option Nat)×Nat)) (h:Int):Option (Array (Option Nat)×Nat):=do
 let (owner,k) <-acc
 let j <-z4A m owner (z21 m) (z1h h%(m+1)) (z1h h)
 pure (owner.setIfInBounds j (some k),k+1)
theorem Ow.add {m:Nat}{hs:List Int}(O:Ow m ow hs) (hl:hs.length<=m) {h:Int}(cv:CovR m h):∃ ow',Q5 m (some (ow,hs.length)) h=some (ow',(hs++[h]).length)/\Ow m ow' (hs++[h]):=by
 obtain⟨j0,hj0,f0⟩:=O.free hl;obtain⟨j,e⟩:=T7 m ow j0 f0 _ _ _ (cv j0 hj0);obtain⟨n,hn,hj,fr,bf⟩:=Zn m ow _ _ _ j e;have ej:wayJ m h n=j:=hj;have jm:j<=m:=ej▸VL m h n;have jl:j<ow.size:=by rw[O.size];omega
 have nj:ow[j]?=some none:=by
  rw[show ow.getD j (some 0)=ow[j] by simp[jl]] at fr;have:ow[j]=none:=by simpa using fr
  simp[jl,this]
 have at_:∀ k,(ow.setIfInBounds j (some hs.length))[k]?=if j=k then some (some hs.length) else ow[k]?:=λ k=>by
  rw[Array.getElem?_setIfInBounds]
  by_cases c:j=k
  ·subst c;simp[jl]
  ·simp[c]
 refine⟨ow.setIfInBounds j (some hs.length),?_,⟨by simp[O.size],λ i hi=>?_,λ k i hk=>?_,λ a b i ha hb=>?_,λ k i g hk hg=>?_⟩⟩
 ·unfold Q5;simp only[z95,z0J,e];simp
 ·rw[z0N,z4n] at hi
  by_cases c:i=hs.length
  ·exact⟨j,by rw[at_,if_pos rfl,c]⟩
  ·obtain⟨k,hk⟩:=O.own i (by omega);refine⟨k,?_⟩;rw[at_,if_neg (λ z=>?_),hk];rw[<-z,nj] at hk;cases hk
 ·rw[at_] at hk;rw[z0N,z4n]
  by_cases c:j=k
  ·rw[if_pos c] at hk;have:=z0t (z0t hk);omega
  ·rw[if_neg c] at hk;have:=O.lt k i hk;omega
 ·rw[at_] at ha hb
  by_cases c:j=a
  ·by_cases d:j=b
   ·omega
   ·rw[if_pos c] at ha;rw[if_neg d] at hb;have:=z0t (z0t ha);have:=O.lt b i hb;omega
  ·by_cases d:j=b
   ·rw[if_neg c] at ha;rw[if_pos d] at hb;have:=z0t (z0t hb);have:=O.lt a i ha;omega
   ·rw[if_neg c] at ha;rw[if_neg d] at hb;exact O.inj a b i ha hb
 ·rw[at_] at hk;have up:∀ k:Nat,(∃ x,ow[k]?=some (some x))->∃ x,(ow.setIfInBounds j (some hs.length))[k]?=some (some x):=λ k ⟨x,hx⟩=>by
   rw[at_]
   by_cases c:j=k
   ·exact⟨_,if_pos c⟩
   ·exact⟨x,by rw[if_neg c,hx]⟩
  by_cases c:j=k
  ·rw[if_pos c] at hk;have ei:=z0t (z0t hk);subst ei;rw[z1X (z07 _),z3l] at hg;have eg:h=g:=by simpa using hg
   subst eg;exact⟨n,hn,by rw[ej];exact c,λ k hk=>up _ (T8 O.size (VL m h k) (bf k hk))⟩
  ·rw[if_neg c] at hk;have hi:=O.lt k i hk;rw[z2b hi] at hg;obtain⟨n',a,b,d⟩:=O.far k i g hk hg;exact⟨n',a,b,λ k hk=>up _ (d k hk)⟩
theorem Wo (m:Nat):∀ (r hs:List Int) (ow:Array (Option Nat)),Ow m ow hs->hs.length+r.length<=m->(∀ h∈r,CovR m h)->∃ ow',r.foldl (Q5 m) (some (ow,hs.length))=some (ow',(hs++r).length)/\Ow m ow' (hs++r)
 | [],hs,ow,O,_,_=>⟨ow,by simp,by simpa using O⟩
 | h::r,hs,ow,O,hl,hc=>by
  simp only[z0u] at hl;obtain⟨ow1,e1,O1⟩:=O.add (by omega) (hc h (by simp));obtain⟨ow2,e2,O2⟩:=Wo m r (hs++[h]) ow1 O1 .(17) λ g hg=>hc g (by simp[hg]);refine⟨ow2,?_,by simpa using O2⟩;rw[List.foldl_cons,e1,e2];simp
theorem cF (m:Nat) (hs:Array Int) (hl:hs.size<=m) (hc:∀ h∈hs.toList,CovR m h):∃ ow,z96 m hs=some ow/\Ow m ow hs.toList:=by
 have no:∀ (j i:Nat),(z4D (m+1) (none:Option Nat))[j]?=some (some i)->False:=λ j i hj=>by
  rw[Array.getElem?_replicate] at hj;split at hj
  ·cases hj
  ·cases hj
 have O0:Ow m (z4D (m+1) none) []:=⟨by simp,λ i hi=>by simp at hi,λ j i hj=>(no j i hj).elim,λ j k i hj=>(no j i hj).elim,λ j i h hj=>(no j i hj).elim⟩;obtain⟨ow,e,O⟩:=Wo m hs.toList [] _ O0 (by simpa using hl) hc;refine⟨ow,?_,by simpa using O⟩;have:z96 m hs=(hs.foldl (Q5 m) (some (z4D (m+1) none,0))).map (·.1):=rfl;rw[this,<-Array.foldl_toList];rw[show (some (z4D (m+1) none,0):Option (Array (Option Nat)×Nat))=some (z4D (m+1) none,([]:List Int).length) from rfl,e];rfl
theorem pK (m fi mv:Nat) (ld pl:Bool) (es:Array (Int×z00)) (hl:es.size<=m) (hc:∀ e∈es.toList,CovR m e.1):∃ t ord,z97 m fi mv ld pl (es.map (·.1))=some (t,ord)/\t.mask=m/\t.led=ld/\t.plain=pl/\(ord.filterMap (es[·]?)).toList.Perm es.toList/\Tab t ((ord.filterMap (es[·]?)).toList.map (·.1)):=by
 obtain⟨ow,e,O⟩:=cF m (es.map (·.1)) (by simpa using hl) (λ h hh=>by
  rw[z8E] at hh;obtain⟨x,hx,rfl⟩:=z0g.mp hh;exact hc x hx)
 have hlen:(es.map (·.1)).toList.length=es.size:=by simp
 generalize hlive:((z0e (m+1)).filterMap λ j=>(ow.getD j none).map (j,·))=live;have mem:∀ (j i:Nat),(j,i)∈live↔ow[j]?=some (some i):=λ j i=>by
  rw[<-hlive,z69];constructor
  ·rintro⟨k,hk,ek⟩;have hk:=z0w.mp hk;have hs:k<ow.size:=by rw[O.size];exact hk
   rw[show ow.getD k none=ow[k] by simp[hs]] at ek;cases ec:ow[k] with
   | none=>rw[ec] at ek;cases ek
   | some x=>
    rw[ec] at ek;have:=z0t ek;simp only[z3C] at this;obtain⟨rfl,rfl⟩:=this;simp[hs,ec]
  ·intro h;obtain⟨hs,eh⟩:=z7a.mp h;refine⟨j,z0w.mpr (by rw[<-O.size];exact hs),?_⟩;rw[show ow.getD j none=ow[j] by simp[hs],eh];rfl
 have rise:Rise (live.map (·.1)):=by
  rw[<-hlive,Rise,z1B];refine List.Pairwise.filterMap _ (R:=λ a b=>a<b) (λ a b hab x hx y hy=>?_) z94;obtain⟨u,_,rfl⟩:=z1T.mp hx;obtain⟨v,_,rfl⟩:=z1T.mp hy;exact hab
 have nd:(live.map (·.2)).Nodup:=by
  rw[z2d,z1B];rw[Rise,z1B] at rise;refine z2W (λ {a b} ha hb hab z=>?_) rise;have h1:=(mem a.1 a.2).mp ha;have h2:=(mem b.1 b.2).mp hb;rw[<-z] at h2;have:=O.inj _ _ _ h1 h2;omega
 have lt:∀ q∈live,q.2<es.size:=λ q hq=>by
  have:=O.lt q.1 q.2 ((mem q.1 q.2).mp hq)
  rwa [hlen] at this
 have per:(live.map (·.2)).Perm (z0e es.size):=by
  refine (List.perm_ext_iff_of_nodup nd z4x).mpr λ i=>?_;rw[z0w];constructor
  ·intro h;obtain⟨q,hq,rfl⟩:=z0g.mp h;exact lt q hq
  ·intro h;obtain⟨j,hj⟩:=O.own i (by rw[hlen];exact h);exact z0g.mpr ⟨(j,i),(mem j i).mpr hj,rfl⟩
 have fm:((live.map (·.2)).toArray.filterMap (es[·]?)).toList=live.map λ q=>es.getD q.2 (0,.none):=by
  rw[Array.toList_filterMap];show (live.map (·.2)).filterMap _=_;rw[z6w];have:∀ l:List (Nat×Nat),(∀ q∈l,q.2<es.size)->l.filterMap ((λ i=>es[i]?) ∘ λ x=>x.2)=l.map λ q=>es.getD q.2 (0,.none):=λ l=>by
   induction l with
   | nil=>intro _;rfl
   | cons q r ih=>
    intro h;have hq:=h q (by simp);rw[List.filterMap_cons_some (b:=es.getD q.2 (0,.none)) (by simp[hq]),ih λ y hy=>h y (by simp[hy])];rfl
  exact this live lt
 refine⟨{ mask:=m,place:=(live.map (·.1)).toArray,dummies:=#[],finger:=fi,led:=ld,moves:=mv,plain:=pl },(live.map (·.2)).toArray,?_,rfl,rfl,rfl,?_,?_⟩
 ·unfold z97;rw[e];simp only[z95,z0J,hlive];rfl
 ·rw[fm];have e1:(live.map λ q=>es.getD q.2 (0,.none))=(live.map (·.2)).map λ i=>es.getD i (0,.none):=by rw[z0p];rfl
  have e2:(z0e es.size).map (λ i=>es.getD i (0,.none))=es.toList:=by
   apply z98
   ·simp
   ·intro i h1 h2;simp at h1;simp[h1]
  rw[e1,<-e2];exact per.map _
 ·rw[fm,z0p];have zl:∀ l:List (Nat×Nat),(l.map (·.1)).zip (l.map ((λ x:Int×z00=>x.1) ∘ λ q=>es.getD q.2 (0,.none)))=l.map λ q=>(q.1,(es.getD q.2 (0,.none)).1):=λ l=>by
   induction l with
   | nil=>rfl
   | cons q r ih=>rw[z0c,z0c,z4T,ih];rfl
  refine⟨by simp,rise,rfl,λ j hj=>?_,?_,λ q hq=>?_⟩
  ·have hj:j∈live.map (·.1):=hj;obtain⟨p,hp,rfl⟩:=z0g.mp hj;have:=(z7a.mp ((mem p.1 p.2).mp hp)).1;rw[O.size] at this;show p.1<=m;omega
  ·rw[z06];have:=per.length_eq;rw[z06,z2B] at this;show live.length<=m;omega
  ·have hq:q∈(live.map (·.1)).zip (live.map ((λ x:Int×z00=>x.1) ∘ λ q=>es.getD q.2 (0,.none))):=hq;rw[zl] at hq;obtain⟨p,hp,rfl⟩:=z0g.mp hq;have hm:=(mem p.1 p.2).mp hp;have hlt:=lt p hp;obtain⟨n,a,b,c⟩:=O.far p.1 p.2 (es.getD p.2 (0,.none)).1 hm (by simp[hlt]);refine⟨n,a,b,λ k hk=>?_⟩;obtain⟨x,hx⟩:=c k hk;exact z0g.mpr ⟨(_,x),(mem _ x).mpr hx,rfl⟩
end PV
namespace PV
open PySem PySem.Spec L2
abbrev Pr5:=Nat×Nat
def kk (p:Pr5):List Key:=[.inl (p.1:Int),.inl (p.2:Int)]
def hP (p:Pr5):Int:=z5U (z4Q [(p.1:Int),(p.2:Int)])
def In5 (p:Pr5):Prop:=p.1<5/\p.2<5
def covB (m:Nat) (h:Int):Bool:=(z0e (m+1)).all λ j=>M6 m j (z21 m) (z1h h%(m+1)) (z1h h)
theorem all5:((z0e 5).all λ a=>(z0e 5).all λ b=>covB 7 (hP (a,b))&&covB 31 (hP (a,b)))=true:=by decide +kernel
theorem dif5:((z0e 25).all λ a=>(z0e 25).all λ b=>a==b||!(hP (a/5,a%5)==hP (b/5,b%5)))=true:=by decide +kernel
theorem cov5 {p:Pr5}(h:In5 p):CovR 7 (hP p)/\CovR 31 (hP p):=by
 have:=z1a.mp (z1a.mp all5 p.1 (z0w.mpr h.1)) p.2 (z0w.mpr h.2);rw[z0U] at this;exact⟨λ j hj=>z1a.mp this.1 j (z0w.mpr (by omega)),λ j hj=>z1a.mp this.2 j (z0w.mpr (by omega))⟩
theorem inj5 {p q:Pr5}(h:In5 p) (k:In5 q) (e:hP p=hP q):p=q:=by
 obtain⟨a,b⟩:=p;obtain⟨c,d⟩:=q;obtain⟨h1,h2⟩:a<5/\b<5:=h;obtain⟨k1,k2⟩:c<5/\d<5:=k;have:=z1a.mp (z1a.mp dif5 (5*a+b) (z0w.mpr (by omega))) (5*c+d) (z0w.mpr (by omega));rw[show (5*a+b)/5=a by omega,show (5*a+b)%5=b by omega,show (5*c+d)/5=c by omega,show (5*c+d)%5=d by omega,e] at this;simp at this;have e1:a=c:=by omega
 have e2:b=d:=by omega
 rw[e1,e2]
section
variable {A:z0a}
theorem pM {p:Pr5}(h:In5 p):z42 (Ao prog w) (kk p)=hP p:=by
 have e:∀ n:Nat,n<5->(Ao prog w).hash (.inl (n:Int))=(n:Int):=λ n hn=>by
  match n,hn with
  | 0,_=>rfl
  | 1,_=>rfl
  | 2,_=>rfl
  | 3,_=>rfl
  | 4,_=>rfl
 unfold z42 hP kk;simp only[z0c,z12,e p.1 h.1,e p.2 h.2]
theorem vd {p q:Pr5}(e:kk p=kk q):p=q:=by
 unfold kk at e;injection e with e1 e2
 injection e2 with e2 _
 have h1:=z46 e1;have h2:=z46 e2;exact z3d (by omega) (by omega)
abbrev IsP (prog:z0s) (w:z0k) (h:Heap) (p:Pr5) (b:Addr):Prop:=In5 p/\z4P (Ao prog w) h (kk p) b
theorem IsP.keep {g:Heap}{p:Pr5}(x:IsP prog w h p b) (k:∀ o,h.get? b=some o->g.get? b=some o):IsP prog w g p b:=by
 obtain⟨i,o,us,n,g0,r⟩:=x;exact⟨i,o,us,n,k o g0,r⟩
theorem IsP.ne {p:Pr5}{t:SetTable}(x:IsP prog w h p b) (g:h.get? a=some o) (d:o.data=.set es ep t):b≠a:=λ z=>by
 subst z;obtain⟨_,o2,us,n,g2,_,d2,_⟩:=x;cases g.symm.trans g2;cases d.symm.trans d2
structure FP (prog:z0s) (w:z0k) (h:Heap) (es:Array (Int×z00)) (t:SetTable) (qs:List .(38)):Prop where
 ent:es.toList=qs.map λ x=>(hP x.1,z0b x.2)
 isp:∀ x∈qs,IsP prog w h x.1 x.2
 nd:(qs.map (·.1)).Nodup
 tab:Tab t (es.toList.map (·.1))
 msk:(t.mask=7/\qs.length<=4)∨(t.mask=31/\qs.length<=18)
 led:btx w=false->t.led=true
 pln:t.plain=true
def SetP (prog:z0s) (w:z0k) (B:Addr->Prop) (h:Heap) (a:Addr) (ps:List Pr5):Prop:=∃ es t qs,ObX h a es t/\FP prog w h es t qs/\(qs.map (·.1)).Perm ps/\∀ x∈qs,B x.2
theorem FP.len {t:SetTable}{qs:List .(38)}(f:FP prog w h es t qs):es.size=qs.length:=by
 have:=congrArg z0P f.ent;simpa using this
theorem FP.fits {h:Heap}{es:Array (Int×z00)}{t:SetTable}{qs:List .(38)}(f:FP prog w h es t qs):t.fits es.size=true:=by
 have l:=f.tab.len;rw[z06,z0_,z0_] at l;have r:=f.tab.room;rw[z06,z0_] at r;unfold z99 z9a;rw[f.tab.dum];simp[l,r]
theorem FP.hs {t:SetTable}{qs:List .(38)}(f:FP prog w h es t qs):es.toList.map (·.1)=qs.map λ x=>hP x.1:=by
 rw[f.ent,z0p];rfl
theorem FP.hnd {t:SetTable}{qs:List .(38)}(f:FP prog w h es t qs):(es.toList.map (·.1)).Nodup:=by
 rw[f.hs];have nd:=f.nd;rw[z2d,z1B] at nd ⊢;exact z2W (λ {a b} ha hb hab z=>hab (inj5 (f.isp a ha).1 (f.isp b hb).1 z)) nd
theorem FP.keep {h g:Heap}{es:Array (Int×z00)}{t:SetTable}{qs:List .(38)}(f:FP prog w h es t qs) (k:∀ x∈qs,∀ o,h.get? x.2=some o->g.get? x.2=some o):FP prog w g es t qs:=⟨f.ent,λ x hx=>(f.isp x hx).keep (k x hx),f.nd,f.tab,f.msk,f.led,f.pln⟩
theorem FP.odd {t:SetTable}{qs:List .(38)}(f:FP prog w h es t qs):t.gaveWay=false:=by
 unfold SetTable.gaveWay
 rcases f.msk with ⟨e,_⟩ | ⟨e,_⟩<;>rw[e]<;>rfl
theorem FP.cov {t:SetTable}{qs:List .(38)}(f:FP prog w h es t qs) {p:Pr5}(hp:In5 p):CovR t.mask (hP p):=by
 rcases f.msk with ⟨e,_⟩ | ⟨e,_⟩<;>rw[e]
 ·exact (cov5 hp).1
 ·exact (cov5 hp).2
theorem Zq (n:Nat) {p:Pr5}{b:Addr}{Q:Bool->z03->Prop}(x:IsP prog w s.heap p b) (k:Q false s):z02 (z04 prog w) A (z5C (n+1) (.ref b)) Q E s:=by
 have ty:=x.2.typeIs;obtain⟨_,o,us,m,g,_,d,i⟩:=x;unfold z5C;refine z01 (z4k ty ?_);show z02 _ _ (if ("tuple"=="tuple")=true then _ else _) _ _ s;rw[if_pos (show (("tuple":String)=="tuple")=true by decide)];refine z01 (z05 ?_);simp only[z24,z0G,if_false];refine z01 (z1S g d ?_);dsimp only;refine z01 ?_;rw[<-z44];refine z32 _ (λ r q z=>q.1=none/\z=s/\∀ v∈r,z5X v=true) _ ?_ ?_ _ _ ⟨rfl,rfl,i.byValue⟩
 ·rintro v r q z ⟨e,rfl,al⟩;have cv:=al v (by simp);have:z5C n v=pure false:=by
   cases v with
   | ref a=>cases cv
   | _=>first | rfl | (unfold z5C;rfl)
  rw[this];refine z01 (z05 ?_);simp only[z0G,if_false];exact z05 ⟨rfl,rfl,λ u hu=>al u (by simp[hu])⟩
 ·rintro⟨q1,q2⟩ z ⟨e,rfl,_⟩;simp only at e;subst e;exact z05 k
theorem vf {p:Pr5}(x:IsP prog w s.heap p b):∀ (vs:List z00) {Q:Bool->z03->Prop},(∀ v∈vs,∃ q c,v=.ref c/\IsP prog w s.heap q c)->Q false s->z02 (z04 prog w) A (z9b (.ref b) vs) Q E s:=by
 intro vs Q hv k;unfold z9b;refine z01 ?_;refine z32 _ (λ r q z=>q.1=none/\z=s/\∀ v∈r,∃ q c,v=.ref c/\IsP prog w s.heap q c) _ ?_ ?_ _ _ ⟨rfl,rfl,hv⟩
 ·rintro v r q z ⟨e,rfl,al⟩;obtain⟨q2,c,rfl,y⟩:=al v (by simp);have al':∀ v∈r,∃ q c,v=.ref c/\IsP prog w z.heap q c:=λ u hu=>al u (by simp[hu]);dsimp only
  by_cases bc:(b==c)=true
  ·rw[if_pos (by simp[bc])];exact z05 ⟨rfl,rfl,al'⟩
  ·rw[if_neg (by simp[bc,z5X])];refine z01 (z9c x.2 ?_);simp only[z24,z0G,if_false];refine z01 (z9c y.2 ?_);simp only[z24,z0G,if_false];refine z01 (Zq 7 x ?_);simp only[z0G,if_false];refine z01 (Zq 7 y ?_);simp only[z0G,if_false];exact z05 ⟨rfl,rfl,al'⟩
 ·rintro⟨q1,q2⟩ z ⟨e,rfl,_⟩;simp only at e;subst e;exact z05 k
theorem yF {p:Pr5}{Q:Bool->z03->Prop}(x:IsP prog w s.heap p b) (k:Q true s):z02 (z04 prog w) A (z5D 8 (.ref b)) Q E s:=by
 have ty:=x.2.typeIs;obtain⟨_,o,us,m,g,_,d,i⟩:=x;unfold z5D;refine z01 (z2q ty z43.lookup ?_);dsimp only;refine z01 (z1S g d ?_);refine z01 ?_;show z02 _ _ (forIn us _ _) _ _ s;rw[<-z44];refine z32 _ (λ r q z=>q.1=none/\z=s/\∀ v∈r,∃ i t,v=.int i t) _ ?_ ?_ _ _ ⟨rfl,rfl,?_⟩
 ·rintro v r q z ⟨e,rfl,al⟩;obtain⟨j,t,rfl⟩:=al v (by simp);have:z5D 7 (.int j t)=pure true:=by unfold z5D;rfl
  rw[this];refine z01 (z05 ?_);simp only[z24,z0G,if_false];exact z05 ⟨rfl,rfl,λ u hu=>al u (by simp[hu])⟩
 ·rintro⟨q1,q2⟩ z ⟨e,rfl,_⟩;simp only at e;subst e;exact z05 k
 ·have:∀ {ks:List Key}{vs:List z00},ItemsAre (Ao prog w) ks vs->(∀ k∈ks,∃ i,k=.inl i)->∀ v∈vs,∃ i t,v=z36 i t:=λ {ks vs} it=>by
   induction it with
   | nil=>intro _ v hv;simp at hv
   | @cons k0 v0 ks0 vs0 h1 _ ih=>
    intro hk v hv
    rcases z0j.mp hv with rfl | hv
    ·obtain⟨i,rfl⟩:=hk k0 (by simp)
     rcases Bl (show QV (.inl i) v=true from h1) with ⟨j,t,_,e⟩ | ⟨y,t,e,_⟩
     ·exact⟨j,t,e⟩
     ·cases e
    ·exact ih (λ k hk'=>hk k (by simp[hk'])) v hv
  exact this i λ k hk=>by
   unfold kk at hk;simp only[z0j,z8z,or_false] at hk
   rcases hk with rfl | rfl
   ·exact⟨_,rfl⟩
   ·exact⟨_,rfl⟩
end
section
variable {A:z0a}
abbrev nK (X:Cx):=RG (Ao X.prog X.w)
theorem Q6:∀ {bs:List Addr}{us:List z00},Vals (bs.map V.ref) us->us=bs.map z0b
 | [],_,.nil=>rfl
 | c::bs,_,.cons r t=>by
  obtain rfl:=(show _=z0b c from r);rw[Q6 t];rfl
theorem tup_is (I:Inv X π σ H s) {k:List Key}{c:Addr}(h:TupAt X.K H c (k.map kV)):z4P (Ao X.prog X.w) s.heap k c:=by
 obtain⟨its,r,⟨o,g,cl,n,d⟩,_⟩:=I.tuple (show SqT X.K H c (k.map kV) from h);exact⟨o,its.toArray,n,g,cl,d,PL r⟩
theorem Lx (I:Inv X π σ H s) {ks:List (List Key)}{b:Addr}(h:MemK X.K H ks b):Nest (Ao X.prog X.w) s.heap ks b:=by
 obtain⟨bs,h1,h2⟩:=h;obtain⟨its,r,⟨o,g,cl,n,d⟩,hz⟩:=I.tuple (show SqT X.K H b (bs.map V.ref) from h1);refine⟨o,its.toArray,n,g,cl,d,?_⟩;rw[Q6 r];show NkI (Ao X.prog X.w) s.heap ks (bs.map z0b);clear h1 r d hz
 induction h2 with
 | nil=>exact .nil
 | cons h _ ih=>exact .cons (tup_is I h) ih
theorem YJ (I:Inv X π σ H s) (ha:H a=some (.mem F X.K)):(a==z16)=false/\∃ xs,s.heap.DictOfH (nK X) a xs/\∀ q∈xs,MemK X.K H q.1 q.2.1/\Kin q.1/\RelV (.int (F q.1)) q.2.2:=by
 obtain⟨hs,xs,al,o,es,ep,g,ex,d,e,nd⟩:=(show BL X.prog X.w H s.heap a (.mem F X.K) from I.hok a _ ha);exact⟨hs,xs,⟨o,es,ep,g,ex,d,e,λ q hq=>Lx I (al q hq).1,nd⟩,al⟩
def num:List (Nat×Nat)->Nat
 | []=>0
 | p::r=>(5*p.1+p.2+1)+26*num r
theorem jE:∀ {ps:List (Nat×Nat)}{n:Nat},ps.length<=n->(∀ p∈ps,p.1<5/\p.2<5)->num ps<26^n
 | [],n,_,_=>z9d (by simp)
 | p::r,0,h,_=>by simp at h
 | p::r,n+1,h,hp=>by
  have ih:=jE (ps:=r) (n:=n) (by simpa using h) λ q hq=>hp q (by simp[hq]);have:=hp p (by simp);unfold num;rw[Nat.pow_succ];omega
theorem Zr:∀ {ps qs:List (Nat×Nat)},(∀ p∈ps,p.1<5/\p.2<5)->(∀ p∈qs,p.1<5/\p.2<5)->num ps=num qs->ps=qs
 | [],[],_,_,_=>rfl
 | [],q::s,_,hq,e=>by unfold num at e;omega
 | p::r,[],hp,_,e=>by unfold num at e;omega
 | p::r,q::s,hp,hq,e=>by
  have a:=hp p (by simp);have b:=hq q (by simp);unfold num at e;have e0:5*p.1+p.2=5*q.1+q.2:=by omega
  have e1:p.1=q.1:=by omega
  have e2:p.2=q.2:=by omega
  have e3:num r=num s:=by omega
  rw[Zr (λ x hx=>hp x (by simp[hx])) (λ x hx=>hq x (by simp[hx])) e3];rw[show p=q from z3d e1 e2]
theorem jF {ks:List (List (List Key))}(nd:ks.Nodup) (h:∀ k∈ks,Kin k):ks.length<=sizeLine:=by
 have:∀ k:List (List Key),∃ n:Nat,Kin k->∃ ps:List (Nat×Nat),k=ps.map (λ p=>[.inl (p.1:Int),.inl (p.2:Int)])/\ps.length<=5/\(∀ p∈ps,p.1<5/\p.2<5)/\n=num ps:=λ k=>by
  by_cases hk:Kin k
  ·obtain⟨ps,h1,h2,h3⟩:=hk;exact⟨num ps,λ _=>⟨ps,h1,h2,h3,rfl⟩⟩
  ·exact⟨0,λ z=>absurd z hk⟩
 obtain⟨f,hg⟩:=Classical.axiomOfChoice this;have hf:∀ k,Kin k->f k<26^5/\∀ k',Kin k'->f k=f k'->k=k':=λ k hk=>by
  obtain⟨ps,h1,h2,h3,h4⟩:=hg k hk;refine⟨by rw[h4];exact jE h2 h3,λ k' hk' e=>?_⟩;obtain⟨qs,g1,g2,g3,g4⟩:=hg k' hk';rw[h4,g4] at e;rw[h1,g1,Zr h3 g3 e]
 have nd':(ks.map f).Nodup:=by
  rw[z2d,z1B];exact z2W (λ {a b} ha hb hab z=>hab ((hf a (h a ha)).2 b (h b hb) z)) nd
 have:=len_sub (m:=z0e (26^5)) nd' λ y hy=>by
  obtain⟨k,hk,rfl⟩:=z0g.mp hy;exact z0w.mpr (hf k (h k hk)).1
 rw[z06,z2B] at this;rw[z1p];exact z0E this (by decide)
theorem P0 (hu:A.units+4<z0h) (I:Inv X π σ H s) (ha:H a=some (.mem F X.K)) (hk:MemK X.K H ks b)
  (h:∀ xs tk,s.heap.DictOfH (nK X) a xs->(∀ q∈xs,MemK X.K H q.1 q.2.1/\Kin q.1/\RelV (.int (F q.1)) q.2.2)->Q (.bool (!(z0I xs ks).isSome)) { s with toks:=tk }):z02 .(0) A (z0B .NotIn (.ref b) (.ref a)) Q E s:=by
 obtain⟨hs,xs,dd,al⟩:=YJ I ha;exact z9e (knd:=nK X) (by show A.units+1+1<z0h;omega) (Lx I hk) hs dd (h xs _ dd al)
theorem jG (ha:H a=some (.mem F X.K)):upd H a (.mem F X.K)=H:=by
 funext c;unfold upd;split
 ·rename_i e;rw[e,ha]
 ·rfl
theorem mem_set {v:z00}{Q:Unit->z03->Prop}(hu:A.units+4<z0h) (I:Inv X π σ H s) (ha:H a=some (.mem F X.K)) (hk:MemK X.K H ks b) (hi:Kin ks) (rv:RelV (.int (F ks)) v)
  (h:∀ xs s',Inv X π σ H s'->s'.heap.DictOfH (nK X) a xs->(∀ q∈xs,MemK X.K H q.1 q.2.1/\Kin q.1/\RelV (.int (F q.1)) q.2.2)->(z0I xs ks).isSome=true->Q () s'):z02 .(0) A (setItem (.ref a) (.ref b) v) Q E s:=by
 obtain⟨hs,xs,dd,al⟩:=YJ I ha;have nd:(xs.map (·.1)).Nodup:=let ⟨_,_,_,_,_,_,_,_,z⟩:=dd;z;have few:=jF nd λ k hk=>by
  obtain⟨q,hq,rfl⟩:=z0g.mp hk;exact (al q hq).2.1
 rw[z06] at few;refine z8r (knd:=nK X) (by show A.units+1+1<z0h;omega) (Lx I hk) dd (λ h' dd' sb=>?_) few;have al':∀ q∈z4o xs ks b v,MemK X.K H q.1 q.2.1/\Kin q.1/\RelV (.int (F q.1)) q.2.2:=λ q hq=>by
  unfold z4o at hq;split at hq
  ·obtain⟨x,hx,e⟩:=z0g.mp hq;have ax:=al x hx;unfold putAt at e;split at e
   ·rename_i ek;rw[<-e];exact⟨ax.1,ax.2.1,ek▸rv⟩
   ·rw[<-e];exact ax
  ·rcases z0Y.mp hq with hq | hq
   ·exact al q hq
   ·obtain rfl:q=(ks,b,v):=by simpa using hq
    exact⟨hk,hi,rv⟩
 have pres:(z0I (z4o xs ks b v) ks).isSome=true:=by
  cases hc:z0I xs ks with
  | none=>
   rw[storedH_new hc];unfold z0I;rw[z4p,z9f];exact⟨(ks,b,v),by simp,by simp⟩
  | some p=>
   rw[storedH_old hc];unfold z0I at hc ⊢;obtain⟨x,hx,e⟩:=z1T.mp hc;rw[z4p,z9f];have hx1:=z5A hx;have hx2:=z7d hx;refine⟨putAt ks v x,z0g.mpr ⟨x,hx1,rfl⟩,?_⟩;have:x.1=ks:=of_decide_eq_true hx2;unfold putAt;rw[if_pos this];simpa using this
 obtain⟨o',es',ep',g',ex',d',e',is',nd'⟩:=id dd';have I':=I.write (x:=a) (e:=a) (o:=.mem F X.K) (t':=s.toks+(nK X).draws ks) (by rw[ha];exact trivial) (.inl rfl) (λ c q hc z=>(sb.2 c hc).trans z) ⟨o',g'⟩ (by
  rw[jG ha];exact⟨hs,_,al',o',es',ep',g',ex',d',e',nd'⟩)
 rw[jG ha] at I';exact h _ _ I' dd' al' pres
theorem Zt {xs:List (List (List Key)×Addr×z00)}(hu:A.units+4<z0h) (I:Inv X π σ H s) (hk:MemK X.K H ks b) (dd:s.heap.DictOfH (nK X) a xs) (al:∀ q∈xs,MemK X.K H q.1 q.2.1/\Kin q.1/\RelV (.int (F q.1)) q.2.2) (pr:(z0I xs ks).isSome=true)
  (h:∀ u tk,RelV (.int (F ks)) u->Q u { s with toks:=tk }):z02 .(0) A (z2w (.ref a) (.ref b)) Q E s:=by
 obtain⟨p,hp⟩:=z6m.mp pr;refine z8q (knd:=nK X) (by show A.units+1+1<z0h;omega) (Lx I hk) dd hp (h _ _ ?_);unfold z0I at hp;obtain⟨x,hx,e⟩:=z1T.mp hp;have h1:=(al x (z5A hx)).2.2;have h0:=z7d hx;have h2:x.1=ks:=of_decide_eq_true h0;rw[<-e,<-h2];exact h1
end
open PyProof.Rows (isTrue_and isTrue_not isTrue_and_nil)
def prD:D->Option Pr5
 | .tup [.int i,.int j]=>if 0<=i/\i<5/\0<=j/\j<5 then some (i.toNat,j.toNat) else none
 | _=>none
def prsD:List D->Option (List Pr5)
 | []=>some []
 | d::r=>(prD d).bind λ p=>(prsD r).map (p::·)
def keyP:D->Option (List Pr5)
 | .tup ds=>(prsD ds).bind λ ps=>if ps.length<=5 then some ps else none
 | _=>none
abbrev kks (ps:List Pr5):List (List Key):=ps.map kk
section
theorem vg {A:List Addr}{p:Pr5}(r:Rep G H v d) (e:prD d=some p):In5 p/\∃ c,v=.ref c/\TupAt G.K H c ((kk p).map kV):=by
 unfold prD at e;split at e
 ·rename_i i j;split at e
  ·rename_i h;cases e;cases r with
   | @tup c xs ds h1 h2 h3=>
    refine⟨⟨by show i.toNat<5;omega,by show j.toNat<5;omega⟩,c,rfl,?_⟩;have:xs=[.int i,.int j]:=by
     match xs,h2,h3 with
     | [x,y],_,h3=>
      have r1:=h3 0 x (.int i) rfl rfl;have r2:=h3 1 y (.int j) rfl rfl;cases r1;cases r2;rfl
    rw[this] at h1;show SqT G.K H c [.int ((i.toNat:Nat):Int),.int ((j.toNat:Nat):Int)];rw[z7f h.1,z7f h.2.2.1];exact h1
  ·cases e
 ·cases e
theorem Q7 {H:Hp}:∀ {ds:List D}{xs:List V}{ps:List Pr5},RepL G H xs ds->prsD ds=some ps->(∀ p∈ps,In5 p)/\∃ bs:List Addr,xs=bs.map V.ref/\z2h (λ k c=>TupAt G.K H c (k.map kV)) (kks ps) bs
 | [],xs,ps,r,e=>by
  cases e;have:xs=[]:=z2C.mp r.1;subst this;exact⟨by simp,[],rfl,.nil⟩
 | d::ds,xs,ps,r,e=>by
  obtain⟨x,ys,rfl,r1,r2⟩:=r.uncons;unfold prsD at e;cases e1:prD d with
  | none=>rw[e1] at e;cases e
  | some p=>
   rw[e1] at e;cases e2:prsD ds with
   | none=>rw[e2] at e;cases e
   | some qs=>
    rw[e2] at e;cases e;obtain⟨i1,c,rfl,t1⟩:=vg (A:=[]) r1 e1;obtain⟨i2,bs,rfl,t2⟩:=Q7 r2 e2;refine⟨λ q hq=>?_,c::bs,rfl,.cons t1 t2⟩
    rcases z0j.mp hq with rfl | hq
    ·exact i1
    ·exact i2 q hq
theorem pO {ps:List Pr5}(r:Rep G H v d) (e:keyP d=some ps):∃ b,v=.ref b/\MemK G.K H (kks ps) b/\Kin (kks ps):=by
 unfold keyP at e;split at e
 ·rename_i ds;cases e1:prsD ds with
  | none=>rw[e1] at e;cases e
  | some qs=>
   rw[e1] at e;have e:(if qs.length<=5 then some qs else none)=some ps:=e;split at e
   ·rename_i h5;cases e;cases r with
    | @tup b xs _ h1 h2 h3=>
     obtain⟨i5,bs,rfl,t⟩:=Q7 (G:=G) (H:=H) ⟨h2,h3⟩ e1;exact⟨b,rfl,⟨bs,h1,t⟩,ps,rfl,h5,i5⟩
   ·cases e
 ·cases e
theorem Hu {K:z08}(s:Same H H') (h:MemK K H ks b):MemK K H' ks b:=by
 have tp:∀ {c:Addr}{xs:List V},TupAt K H c xs->TupAt K H' c xs:=λ {c xs} z=>by
  rcases z with (z | ⟨o,z⟩) | z
  ·exact .inl (.inl (s _ _ z))
  ·exact .inl (.inr ⟨o,s _ _ z⟩)
  ·exact .inr z
 obtain⟨bs,h1,h2⟩:=h;exact⟨bs,tp h1,Paired.mapP h2 λ _ _ z=>tp z⟩
theorem H_ (hN:X.N[i]?=some x) (hv:Vis X.env.scope x) (hd:.(3)=false) (hcd:.(27)=false) (I:Inv X π σ H s) (e:σ[i]?=some (some v)) (k:∀ u,RelV v u->Q u s):z02 .(0) X.A (eval (.Name x pos) X.env) Q E s:=by
 obtain⟨m,hn,hl⟩:=I.loc;obtain⟨u,r,l⟩:=hl i x v hN e hv
 rcases l with ⟨hk,hm⟩ | ⟨hk,c,hc,hcell⟩
 ·exact z3G (z7Y I.ok.kind hk hn hm (k u r)) hd
 ·rcases hk with hk | hk
  ·exact z3G (z7Z I.ok.kind hk hc hcell (k u r)) hd
  ·exact z3G (z7_ I.ok.kind hk hc hcell (k u r) hcd) hd
structure Fm (X:Cx) (σ:St) (H:Hp) (i:Nat) (f:Str) (m:Addr) (F:List (List Key)->Int):Prop where
 at_:∃ a C dx fs,σ[i]?=some (some (.ref a))/\H a=some (.ins C dx fs)/\Cls X.K C/\Bd X.K C f/\fs.lookup f=some (.ref m)
 mem:H m=some (.mem F X.K)
theorem Fm.mono {m:Addr}(h:Fm X σ H i f m F) (s:Same H H'):Fm X σ H' i f m F:=by
 obtain⟨⟨a,C,dx,fs,h1,h2,h3⟩,h4⟩:=h;exact⟨⟨a,C,dx,fs,h1,s _ _ h2,h3⟩,s _ _ h4⟩
theorem M7 {m:Addr}(hN:X.N[i]?=some x) (hv:Vis X.env.scope x) (hd:.(3)=false) (hcd:.(27)=false)
  (hb:z1q (.Name x p1) f X.env (eval (.Name x p1) X.env)=eval (.Name x p1) X.env) (I:Inv X π σ H s) (h:Fm X σ H i f m F) (k:∀ tk,Q (.ref m) { s with toks:=tk }):z02 .(0) X.A (eval (.Attribute (.Name x p1) f p2) X.env) Q E s:=by
 obtain⟨⟨a,C,dx,fs,h1,h2,c,n,l⟩,_⟩:=h;refine Uk hb (H_ hN hv hd hcd I h1 λ u r=>?_);obtain rfl:u=z0b a:=r;obtain⟨mA,O,r,_,_,_⟩:=Li I.hok h2;obtain⟨u,hu,ru⟩:=RelO.some_of (v:=.ref m) (o:=mA f) (by rw[<-l];exact r f);obtain rfl:u=z0b m:=ru;exact Uj I.kIn O (c.get f) c.hd n hu (O_ (v:=.ref m) rfl) (k _)
theorem jH (hG:G.K=X.K) (hcl:∀ c C,G.cl c=some C->Cls X.K C/\Bd X.K C f) (o:Okp G A σ H ρ) (e:uF (fldD f) (vF i) ρ=some (.mem F)):∃ m,Fm X σ H i f m F:=by
 obtain⟨d0,e1,e2⟩:=Gw e;have hz:ρ[i]?=some (.fz d0):=by
  unfold vF at e1;split at e1
  ·rename_i z hz;cases e1;exact hz
  ·cases e1
 obtain⟨v,h1,h2⟩:=o.fz i d0 hz;unfold fldD at e2;split at e2
 ·rename_i cn gs;cases h2 with
  | @ob a C dx c fs _ q1 q2 q3 q4=>
   have hl:=congrArg z0P q3;rw[z06,z06] at hl;obtain⟨v2,l1,l2⟩:=Pn (f:=f) (d:=.mem F) (G:=G) q3 ⟨by rw[z06,z06];exact hl,q4⟩ e2;cases l2 with
   | @mem m _ hm=>exact⟨m,⟨a,C,dx,fs,h1,Ar _ _ q2,(hcl _ _ q1).1,(hcl _ _ q1).2,l1⟩,by rw[<-hG];exact Ar _ _ hm⟩
 ·cases e2
theorem K4 {ps:List Pr5}(hG:G.K=X.K) (o:Okp G A σ H ρ) (e:vF j ρ=some d) (ek:keyP d=some ps):∃ b,σ[j]?=some (some (.ref b))/\MemK X.K H (kks ps) b/\Kin (kks ps):=by
 have hz:ρ[j]?=some (.fz d):=by
  unfold vF at e;split at e
  ·rename_i z hz;cases e;exact hz
  ·cases e
 obtain⟨v,h1,h2⟩:=o.fz j d hz;obtain⟨b,rfl,h3,h4⟩:=pO h2 ek;exact⟨b,h1,by rw[<-hG];exact Hu Ar h3,h4⟩
def memR (i:Nat) (f:Str) (j:Nat) (fv:FE):FS:=λ ρ=>match uF (fldD f) (vF i) ρ,(vF j ρ).bind keyP,fv ρ with
 | some (.mem F),some ps,some (.int v)=>if v=F (kks ps) then some (.rt (.int v) ρ) else none
 | _,_,_=>none
def memZ (i:Nat) (f:Str) (j:Nat) (ft:FT):FS:=λ ρ=>match uF (fldD f) (vF i) ρ,(vF j ρ).bind keyP,ft ρ with
 | some (.mem F),some ps,some t=>if t=true∨F (kks ps)=0 then some (.nx ρ) else none
 | _,_,_=>none
theorem jJ {y:Str}{value:Expr}{fv:FE}{p14 p15:Pos}(hu:X.A.units+64<z0h) (hG:G.K=X.K) (hcl:∀ c C,G.cl c=some C->Cls X.K C/\Bd X.K C f) (hN:X.N[i]?=some x) (hv:Vis X.env.scope x) (hN2:X.N[j]?=some y) (hv2:Vis X.env.scope y) (hval:PF X G value fv)
    (hs:z1o value (some (.Subscript (.Attribute (.Name x p5) f p6) (.Name y p7) p8)) p9.line X.env=pure false:=by rfl) (hm:z0Z .NotIn (.Attribute (.Name x p2) f p3)=false:=by rfl) (hsl:NoSl (.Name y p13):=by intro _ _;rfl)
    (hd:.(3)=false:=by decide) (hcd:.(27)=false:=by decide) (hd2:(y==("__debug__":Str))=false:=by decide) (hcd2:(y==("__classdict__":Str))=false:=by decide)
    (hb:∀ p,z1q (.Name x p) f X.env (eval (.Name x p) X.env)=eval (.Name x p) X.env:=by intro _;rfl) :
    PSDs X G [.If (.Compare (.Name y p1) [.NotIn] [.Attribute (.Name x p2) f p3] p4) [.Assign [.Subscript (.Attribute (.Name x p5) f p6) (.Name y p7) p8] value p9] [] p10,.Return .(24) p15] (memR i f j fv):=λ A0 He π s σ H D I ⟨ρ,o,⟨A,w⟩,e,k⟩=>by
  unfold memR at e;split at e
  · rename_i F ps v ef ek ev
    split at e
    · rename_i hF
      cases e;obtain⟨dk,ek1,ek2⟩:=z4E.mp ek;obtain⟨m,fm⟩:=jH (X:=X) hG hcl w.ok ef;obtain⟨b,hb1,mk,kin⟩:=K4 (X:=X) hG w.ok ek1 ek2;have fin:∀ (H':Hp) (s':z03) (xs:List (List (List Key)×Addr×z00)),Same H H'->Inv X π σ H' s'->s'.heap.DictOfH (nK X) m xs->(∀ q∈xs,MemK X.K H' q.1 q.2.1/\Kin q.1/\RelV (.int (F q.1)) q.2.2)->(z0I xs (kks ps)).isSome=true ->
          z02 .(0) X.A (exec (.Return .(24) p15) X.env) (SP X π D) X.xe s':=λ H' s' xs sm I' dd al pr=>by
        refine z50 (Y5 z6U.lookup hsl (M7 hN hv hd hcd (hb _) I' (fm.mono sm) λ tk=>H_ hN2 hv2 hd2 hcd2 (I'.tok tk) hb1 λ u r=>⟨dd.typeIs,?_⟩));obtain rfl:u=z0b b:=r;refine Zt (F:=F) (by omega) (I'.tok tk) (Hu sm mk) dd al pr λ u tk2 ru=>⟨.int v,σ,H',(I'.tok tk).tok tk2,by rw[hF];exact ru,?_⟩;exact k (.int v) σ H' A (w.mono sm) (.int v)
      have rest:∀ (H':Hp) (s':z03) (xs:List (List (List Key)×Addr×z00)),Same H H'->Inv X π σ H' s'->s'.heap.DictOfH (nK X) m xs->(∀ q∈xs,MemK X.K H' q.1 q.2.1/\Kin q.1/\RelV (.int (F q.1)) q.2.2)->(z0I xs (kks ps)).isSome=true ->
          z02 .(0) X.A (z1J [.Return .(24) p15] X.env) (SP X π D) X.xe s':=λ H' s' xs sm I' dd al pr=>by
        refine z26 (thn (fin H' s' xs sm I' dd al pr) λ fl s1 q=>?_);cases fl with
        | next=>
          obtain⟨σ',H2,I2,q⟩:=q;exact Lh (X:=X) π s1 σ' H2 D I2 q
        | ret v=>exact q
        | brk=>exact q
        | cont=>exact q
      refine z26 (z48 (z3H (H_ hN2 hv2 hd2 hcd2 I hb1 λ u r=>M7 hN hv hd hcd (hb _) I fm λ tk=>?_) hm));obtain rfl:u=z0b b:=r;refine P0 (F:=F) (by omega) (I.tok tk) fm.mem mk λ xs tk2 dd al=>z1I ?_;cases pr:(z0I xs (kks ps)).isSome with
      | true=>
        show z02 _ _ (z1J [] X.env) _ _ _;exact z1U (rest H _ xs .(21) ((I.tok tk).tok tk2) dd al pr)
      | false=>
        show z02 _ _ (z1J [_] X.env) _ _ _;have I2:=(I.tok tk).tok tk2;refine z26 (z5g (thn (@hval A π _ σ H (λ x H1=>Same H H1/\x=.int v) I2 ⟨ρ,_,w.ok,ev,λ v1 H1 s1 r1=>⟨s1,by cases r1;rfl⟩⟩) λ r1 s1 ⟨v1,H1,I1,rv,sm,ev1⟩=>?_) hs);subst ev1;refine M7 hN hv hd hcd (hb _) I1 (fm.mono sm) λ tk3=>H_ hN2 hv2 hd2 hcd2 (I1.tok tk3) hb1 λ u r=>?_;obtain rfl:u=z0b b:=r;refine mem_set (F:=F) (by omega) (I1.tok tk3) (sm _ _ fm.mem) (Hu sm mk) kin (by rw[<-hF];exact rv) λ xs' s' I' dd' al' pr'=>?_;exact z1U (rest H1 s' xs' sm I' dd' al' pr')
    · cases e
  · cases e
theorem jK {y:Str}{test:Expr}{jj:Nat}(hu:X.A.units+64<z0h) (hG:G.K=X.K) (hcl:∀ c C,G.cl c=some C->Cls X.K C/\Bd X.K C f) (hN:X.N[i]?=some x) (hv:Vis X.env.scope x) (hN2:X.N[j]?=some y) (hv2:Vis X.env.scope y) (ht:PFT X G test ft)
  (hs:z1o (.Constant (.int 0) jj p9) (some (.Subscript (.Attribute (.Name x p5) f p6) (.Name y p7) p8)) p10.line X.env=pure false:=by rfl) (hm:z0Z .NotIn (.Attribute (.Name x p2) f p3)=false:=by rfl)
  (hd:.(3)=false:=by decide) (hcd:.(27)=false:=by decide) (hd2:(y==("__debug__":Str))=false:=by decide) (hcd2:(y==("__classdict__":Str))=false:=by decide)
  (hb:∀ p,z1q (.Name x p) f X.env (eval (.Name x p) X.env)=eval (.Name x p) X.env:=by intro _;rfl) :
  PSD X G (.If (.BoolOp .And [.Compare (.Name y p1) [.NotIn] [.Attribute (.Name x p2) f p3] p4,.UnaryOp .Not test p11] p12) [.Assign [.Subscript (.Attribute (.Name x p5) f p6) (.Name y p7) p8] (.Constant (.int 0) jj p9) p10] [] p13) (memZ i f j ft):=λ A0 He π s σ H D I ⟨ρ,o,⟨A,w⟩,e,k⟩=>by
 unfold memZ at e;split at e
 ·rename_i F ps t ef ek et;split at e
  ·rename_i hF;cases e;obtain⟨dk,ek1,ek2⟩:=z4E.mp ek;obtain⟨m,fm⟩:=jH (X:=X) hG hcl w.ok ef;obtain⟨b,hb1,mk,kin⟩:=K4 (X:=X) hG w.ok ek1 ek2;have done:∀ (H':Hp) (s':z03),Same H H'->Inv X π σ H' s'->SP X π D .next s':=λ H' s' sm I'=>⟨σ,H',I',k σ H' ⟨A,w.mono sm⟩⟩;have put:∀ (H':Hp) (s':z03),Same H H'->Inv X π σ H' s'->F (kks ps)=0->z02 .(0) X.A (z1J [.Assign [.Subscript (.Attribute (.Name x p5) f p6) (.Name y p7) p8] (.Constant (.int 0) jj p9) p10] X.env) (SP X π D) X.xe s':=λ H' s' sm I' h0=>by
    refine z26 (z5g (z65 ?_) hs);have I2:=I'.tok (s'.toks+1);refine M7 hN hv hd hcd (hb _) I2 (fm.mono sm) λ tk3=>H_ hN2 hv2 hd2 hcd2 (I2.tok tk3) hb1 λ u r=>?_;obtain rfl:u=z0b b:=r;refine mem_set (F:=F) (by omega) (I2.tok tk3) (sm _ _ fm.mem) (Hu sm mk) kin (by rw[h0];exact⟨_,rfl⟩) λ xs' s2 I3 dd' al' pr'=>?_;exact z1U (done H' s2 sm I3)
   refine z48 (z3I (z3H (H_ hN2 hv2 hd2 hcd2 I hb1 λ u r=>M7 hN hv hd hcd (hb _) I fm λ tk=>?_) hm));obtain rfl:u=z0b b:=r;refine P0 (F:=F) (by omega) (I.tok tk) fm.mem mk λ xs tk2 dd al=>z1I ?_;have I2:=(I.tok tk).tok tk2;cases pr:(z0I xs (kks ps)).isSome with
   | true=>
    show z02 _ _ (z1J [] X.env) _ _ _;exact z1U (done H _ .(21) I2)
   | false=>
    show z02 _ _ (z2G _ _ _) _ _ _;refine z3I (z67 (thn (@ht A π _ σ H (λ b H1=>Same H H1/\b=t) I2 ⟨ρ,_,w.ok,et,λ H1 s1=>⟨s1,rfl⟩⟩) λ b s1 ⟨H1,I1,sm,eb⟩=>?_));subst eb;cases b with
    | true=>
     show z02 _ _ (z1J [] X.env) _ _ _;exact z1U (done H1 s1 sm I1)
    | false=>
     refine z66 ?_;show z02 _ _ (z1J [_] X.env) _ _ _;exact put H1 s1 sm I1 (hF.resolve_left (by simp))
  ·cases e
 ·cases e
def memE (Φ:Rho->Option (List (List Key)->Int)):FE:=λ ρ=>(Φ ρ).map .mem
theorem vh {Φ:Rho->Option (List (List Key)->Int)}(hG:G.K=X.K):PF X G (.Dict [] [] pos) (memE Φ):=λ A π s σ H Q I ⟨ρ,d,o,e,k⟩=>by
 unfold memE at e;obtain⟨F,_,rfl⟩:=z1T.mp e;have hd:(s.heap.objs.size==z16)=false:=(show BL X.prog X.w (upd H s.heap.objs.size (.dK [])) _ _ (.dK []) from V_ s.heap I.big).2.1;have hn:H s.heap.objs.size=none:=I.hok.fresh (z07 _);obtain⟨o1,es,ep,g1,ex,d1,e1,_,nd⟩:=Heap.DictOfH.new (knd:=nK X) s.heap;refine z6F ⟨.ref s.heap.objs.size,_,I.laid (a:=s.heap.objs.size) (o:=.mem F X.K) (t':=s.toks) (λ _ _ q=>z0d _ q) (z07 _) ⟨hd,[],by simp,o1,es,ep,g1,ex,d1,e1,nd⟩,rfl,k _ _ (Al hn _) (.mem ?_)⟩;unfold hid;rw[if_neg,hG]
 ·exact Aj
 ·intro hm;have:=o.live _ hm;rw[hn] at this;exact absurd rfl this.1
end
def addQ (ps:List Pr5) (p:Pr5):List Pr5:=if p∈ps then ps else ps++[p]
section
variable {A:z0a}
theorem vm {h:Int}(e:(es.toList.map (·.1))[i]?=some h):∃ v,es[i]?=some (h,v):=by
 rw[z0o] at e;obtain⟨x,hx,rfl⟩:=z1T.mp e;exact⟨x.2,by rw[<-z7g];exact hx⟩
theorem pP {t:SetTable}{qs:List .(38)}{p:Pr5}{Q:SetFound->z03->Prop}(hu:A.units<z0h) (g:s.heap.get? a=some o) (d:o.data=.set es ep t) (f:FP prog w s.heap es t qs) (y:IsP prog w s.heap p b)
    (k1:p∈qs.map (·.1)->Q (.there none) s)
    (k2:p∉qs.map (·.1)->∀ n,n<10*z21 t.mask->wayJ t.mask (hP p) n∉t.place.toList->(∀ k,k<n->wayJ t.mask (hP p) k∈t.place.toList)->Q (.free (wayJ t.mask (hP p) n) false) s):z02 (z04 prog w) A (setSearch a (.ref b) (hP p) (adding:=true)) Q E s:=by
  unfold setSearch z7h;refine z01 (z2E g d f.fits ?_);dsimp only;rw[f.odd];simp only[z0G,if_false];have ha:∀ (i:Nat) (h:Int),(es.toList.map (·.1))[i]?=some h->(es[i]?.map (·.1)).getD 0=h:=λ i h e=>by
    obtain⟨v,hv⟩:=vm e;rw[hv];rfl
  by_cases m:p∈qs.map (·.1)
  · obtain⟨x,hx,ex⟩:=z0g.mp m
    obtain⟨i,hi,ei⟩:=z3s.mp hx;have hh:(es.toList.map (·.1))[i]?=some (hP p):=by
      rw[f.hs,z0o,z0C hi,ei,<-ex];rfl
    obtain⟨j,nx,e⟩:=VG f.tab _ ha f.hnd hh;have e':t.probe (λ i=>(es[i]?.map (·.1)).getD 0) (hP p) (z5E none (t.probeStart (hP p)))=some (.candidate j i nx):=e;have ev:es[i]?=some (hP x.1,z0b x.2):=by
      rw[<-z7g,f.ent,z0o,z0C hi,ei];rfl
    have yx:=f.isp x hx;have rest:z02 (z04 prog w) A (do
        let some (_,y):=es[i]? | z7i "internal:set-entry"
        let equal <-z1v [y] (eqBool y (.ref b))
        let (es',_,t') <-setState a
        if true&&equal then return SetFound.there none
        let some same:=t'.sameMemory t.moves t.mask | z7i "set.changed-during-lookup:is-the-new-block-at-the-old-address"
        let still <-match (if same then t'.slot j else .empty) with
          | .live i'=>match es'[i']? with
            | some (_,y')=>do pure (if <-isSame y' y then some i' else none)
            | none=>pure none
          | _=>pure none
        match still with
        | none=>rule "set.search.anew";z7h a (.ref b) (hP p) true 99999 none
        | some i'=>if equal then return .there (some i') else z7h a (.ref b) (hP p) true 99999 (some nx)) Q E s:=by
      rw[ev];dsimp only;refine z01 (wpAny_holding (z7Q hu yx.2 y.2 ?_));rw[decide_eq_true (show kk x.1=kk p by rw[ex])];refine z01 (z2E g d f.fits ?_);dsimp only;simp only[Bool.and_self,if_true];exact z05 (k1 m)
    show z02 _ _ (match t.probe (λ i=>(es[i]?.map (·.1)).getD 0) (hP p) (z5E none (t.probeStart (hP p))) with | some met=>_ | _=>_) _ _ _;rw[e'];dsimp only
    by_cases ld:t.led=true
    · rw[ld]
      simp only[z24,z0G,if_false];exact rest
    · have ld':t.led=false:=by simpa using ld
      rw[ld'];simp only[z7R,if_true];refine z01 (vf y _ (λ v hv=>?_) ?_)
      · obtain⟨e1,he1,rfl⟩:=z0g.mp hv
        have:e1∈es.toList:=by
          have:=z6a.mp he1;rw[Array.mem_filter] at this;exact z6a.mpr this.1
        rw[f.ent] at this;obtain⟨z,hz,rfl⟩:=z0g.mp this;exact⟨z.1,z.2,rfl,f.isp z hz⟩
      · simp only[z0G,if_false]
        exact rest
  · have hn:hP p∉es.toList.map (·.1):=λ z=>by
      rw[f.hs] at z;obtain⟨x,hx,ex⟩:=z0g.mp z;exact m (z0g.mpr ⟨x,hx,inj5 (f.isp x hx).1 y.1 ex⟩)
    obtain⟨n,hn1,hn2,hn3,e⟩:=Wn f.tab _ ha hn (f.cov y.1).cov;have e':t.probe (λ i=>(es[i]?.map (·.1)).getD 0) (hP p) (z5E none (t.probeStart (hP p)))=some (.empty (wayJ t.mask (hP p) n) none):=e;show z02 _ _ (match t.probe (λ i=>(es[i]?.map (·.1)).getD 0) (hP p) (z5E none (t.probeStart (hP p))) with | some met=>_ | _=>_) _ _ _;rw[e'];dsimp only;exact z05 (k2 m n hn1 hn2 hn3)
end
end PV
namespace PV
open PySem PySem.Spec L2
open PySem.SetTable (insertAt)
section
variable {A:z0a}
theorem jL {es':Array (Int×z00)}{t t':SetTable}{Q:Unit->z03->Prop}(g:s.heap.get? a=some o) (ex:o.ExactSet) (d:o.data=.set es ep t) (z:es'.size<=100)
  (k:∀ h' o',z14 a s.heap h'->h'.get? a=some o'->o'.ExactSet->o'.data=.set es' (ep+1) t'->Q () { s with heap:=h' }):z02 (z04 prog w) A (storeSet a es' t') Q E s:=by
 refine wpAny_storeSet_of g d (k _ { o with data:=.set es' (ep+1) t' } (z3X _ _ _) ?_ ex rfl) (z0E z (by decide));have u:=z1F (Obj.putSet es' t') g (by rw[putSet_of es' t' d];rfl)
 rwa [putSet_of es' t' d] at u
theorem yG (n:Nat) (h:n<=18):z9g n=n*4:=by
 unfold z9g;rw[if_neg (by omega)]
theorem jM:z7j 20=32:=by decide +kernel
theorem Wq {α β:Type}{f:α->β}{l:List β}{m:List α}(h:l.Perm (m.map f)):∃ k:List α,l=k.map f/\k.Perm m:=by
 generalize e:m.map f=x at h
 induction h generalizing m with
 | nil=>
  have:m=[]:=by simpa using e
  subst this;exact⟨[],rfl,z4F _⟩
 | @cons a l1 l2 _ ih=>
  cases m with
  | nil=>cases e
  | cons y r=>
   rw[z0c] at e;injection e with e1 e2
   obtain⟨k,ek,pk⟩:=ih e2;exact⟨y::k,by rw[z0c,e1,ek],z5F _ pk⟩
 | swap a c l1=>
  match m,e with
  | y::z::r,e=>
   rw[z0c,z0c] at e;injection e with e1 e2
   injection e2 with e2 e3
   exact⟨z::y::r,by rw[z0c,z0c,e1,e2,e3],z9h _ _ _⟩
 | trans _ _ ih1 ih2=>
  obtain⟨k2,ek2,pk2⟩:=ih2 e;obtain⟨k1,ek1,pk1⟩:=ih1 ek2.symm;exact⟨k1,ek1,pk1.trans pk2⟩
theorem yH {B:Addr->Prop}{ps:List Pr5}{p:Pr5}{Q:Bool->z03->Prop}(hu:A.units<z0h) (x:SetP prog w B s.heap a ps) (y:IsP prog w s.heap p b) (yb:B b) (r:ps.length<=17) (c:∀ v h',z14 a s.heap h'->SetP prog w B h' a (addQ ps p)->Q v { s with heap:=h' }):z02 (z04 prog w) A (setAddHashed a (.ref b) (hP p)) Q E s:=by
 obtain⟨es,t,qs,⟨o,ep,g,ex,d⟩,f,pm,bq⟩:=x;have lq:qs.length=ps.length:=by have:=pm.length_eq;simpa using this
 have le:=f.len;unfold setAddHashed setAddHashedIn;refine wpAny_holding (z01 (z2E g d f.fits ?_));dsimp only;rw[if_neg (show ¬ byScan (.ref b) es=true by unfold byScan Value.scannable;simp)];refine z01 (pP hu g d f y (λ m=>?_) λ m n hn1 hn2 hn3=>?_)
 ·dsimp only;have mp:p∈ps:=pm.mem_iff.mp m;refine z05 ?_;have:=c false s.heap (z6V a _) (by unfold addQ;rw[if_pos mp];exact⟨es,t,qs,⟨o,ep,g,ex,d⟩,f,pm,bq⟩);exact this
 ·dsimp only;have mp:p∉ps:=λ z=>m (pm.mem_iff.mpr z);refine z01 (z2E g d f.fits ?_);dsimp only;generalize hj:wayJ t.mask (hP p) n=j at hn2;have jm:j<=t.mask:=hj▸VL _ _ _;have hl:(es.toList.map (·.1)).length=qs.length:=by rw[z06,z0_,le]
  have rm:(es.toList.map (·.1)).length+1<=t.mask:=by
   rw[hl]
   rcases f.msk with ⟨e,z⟩ | ⟨e,z⟩<;>omega
  obtain⟨T1,pl⟩:=f.tab.put hn1 hj hn2 jm hn3 rm;have pl0:(t.put j).1.plain=true:=f.pln;rw[pl0];simp only[if_true];refine z01 (yF y ?_);simp only[if_true];rw[hl] at pl;have ent1:.(23).toList=(qs.take (t.put j).2++(p,b)::qs.drop (t.put j).2).map λ x=>(hP x.1,z0b x.2):=by
   rw[R3,f.ent,<-z3t,<-z5G,z0S,z0c]
  have pq:(qs.take (t.put j).2++(p,b)::qs.drop (t.put j).2).Perm (qs++[(p,b)]):=by
   refine z9i.trans ?_;rw[z5z];exact (List.perm_append_singleton _ _).symm
  have bq1:∀ x∈qs.take (t.put j).2++(p,b)::qs.drop (t.put j).2,B x.2:=λ x hx=>by
   rcases z0Y.mp (pq.mem_iff.mp hx) with hx | hx
   ·exact bq x hx
   ·obtain rfl:x=(p,b):=by simpa using hx
    exact yb
  have sz1:.(23).size=qs.length+1:=by
   have:=congrArg z0P ent1;rw[z06,pq.length_eq] at this;simpa using this
  have nbq:∀ x∈qs,x.2≠a:=λ x hx=>(f.isp x hx).ne g d;have nba:b≠a:=y.ne g d;have isp1:∀ h',z14 a s.heap h'->∀ x∈qs.take (t.put j).2++(p,b)::qs.drop (t.put j).2,IsP prog w h' x.1 x.2:=λ h' sb x hx=>by
   have hx:=pq.mem_iff.mp hx
   rcases z0Y.mp hx with hx | hx
   ·exact (f.isp x hx).keep λ o' g'=>(sb.2 x.2 (nbq x hx)).trans g'
   ·obtain rfl:x=(p,b):=by simpa using hx
    exact y.keep λ o' g'=>(sb.2 b nba).trans g'
  have nd1:((qs.take (t.put j).2++(p,b)::qs.drop (t.put j).2).map (·.1)).Nodup:=by
   rw[(pq.map (·.1)).nodup_iff,z0S];refine z0W.mpr ⟨f.nd,by simp,λ u hu v hv e=>?_⟩;have:v=p:=by simpa using hv
   exact m (this▸e▸hu)
  have per1:((qs.take (t.put j).2++(p,b)::qs.drop (t.put j).2).map (·.1)).Perm (addQ ps p):=by
   unfold addQ;rw[if_neg mp];refine (pq.map (·.1)).trans ?_;rw[z0S];exact pm.append_right _
  have hs1:.(23).toList.map (·.1)=(es.toList.map (·.1)).take (t.put j).2++hP p::(es.toList.map (·.1)).drop (t.put j).2:=by
   rw[R3,z0S,z0c,z3t,z5G]
  have T1':Tab (t.put j).1 (.(23).toList.map (·.1)):=by rw[hs1];exact T1
  have fill1:(t.put j).1.fill=qs.length+1:=by
   unfold z9a;rw[T1'.dum];have:=T1'.len;rw[z06,z0_,z0_,sz1] at this;simpa using this
  have msk0:(t.put j).1.mask=t.mask:=rfl;refine z01 (jL g ex d (by rw[sz1];omega) λ h1 o1 sb1 g1 ex1 d1=>?_)
  by_cases full:(t.put j).1.tooFull=true
  ·rw[if_pos (by simp[full])];have m7:t.mask=7/\qs.length=4:=by
    unfold z9j at full;rw[fill1,msk0] at full;simp at full
    rcases f.msk with ⟨e,z⟩ | ⟨e,z⟩
    ·rw[e] at full;exact⟨e,by omega⟩
    ·rw[e] at full;omega
   have e5:es.size+1=5:=by omega
   rw[e5,yG 5 (by omega)];refine z01 ?_;unfold setRelay;have ft1:(t.put j).1.fits .(23).size=true:=by
    unfold z99;rw[fill1,msk0,sz1];have:=T1'.len;rw[z06,z0_,z0_,sz1] at this;simp[this];omega
   refine z01 (z2E g1 d1 ft1 ?_);dsimp only;rw[show z7j (5*4)=32 from jM];rw[if_neg (by decide)];have cv:∀ e∈.(23).toList,CovR 31 e.1:=λ e he=>by
    rw[ent1] at he;obtain⟨x,hx,rfl⟩:=z0g.mp he;exact (cov5 (isp1 s.heap (z6V a _) x hx).1).2
   obtain⟨t2,ord,el,l1,l2,l3,l4,l5⟩:=pK 31 (t.put j).1.finger ((t.put j).1.movedTo 31) (t.put j).1.led (t.put j).1.plain .(23) (by rw[sz1];omega) cv;have el':(t.put j).1.relaid (.(23).map (·.1)) (5*4)=some (t2,ord):=by
    unfold SetTable.relaid;rw[show z7j (5*4)=32 from jM];exact el
   have sz2:(ord.filterMap λ i=>.(23)[i]?).size=qs.length+1:=by
    have:=l4.length_eq;rw[z0_,z0_,sz1] at this;exact this
   generalize hes:insertAt es (t.put j).2 (hP p,z0b b)=es1 at *;rw[el'];refine z01 (show z02 _ _ (if ((ord.filterMap λ i=>es1[i]?).size != es1.size)=true then _ else pure ((ord.filterMap λ i=>es1[i]?),t2)) _ _ _ from ?_);rw[if_neg (by simp[sz2,sz1])];refine z05 ?_;dsimp only;refine jL g1 ex1 d1 (by rw[sz2];omega) λ h2 o2 sb2 g2 ex2 d2=>z05 (c true h2 (sb1.trans sb2) ?_);obtain⟨qs2,eq2,pq2⟩:∃ qs2:List .(38),(ord.filterMap λ i=>es1[i]?).toList=qs2.map (λ x=>(hP x.1,z0b x.2))/\qs2.Perm (qs.take (t.put j).2++(p,b)::qs.drop (t.put j).2):=by
    have l4':=l4;rw[ent1] at l4';obtain⟨q2,e2,p2⟩:=Wq l4';exact⟨q2,e2,p2⟩
   refine⟨_,_,qs2,⟨o2,_,g2,ex2,d2⟩,⟨eq2,λ x hx=>isp1 h2 (sb1.trans sb2) x (pq2.mem_iff.mp hx),(pq2.map (·.1)).nodup_iff.mpr nd1,l5,?_,λ z=>l2.trans (f.led z),l3.trans pl0⟩,(pq2.map (·.1)).trans per1,λ x hx=>bq1 x (pq2.mem_iff.mp hx)⟩;right;rw[pq2.length_eq,pq.length_eq,z0N,z4n];exact⟨l1,by omega⟩
  ·rw[if_neg (by simp[full])];refine z05 (c true h1 sb1 ⟨_,_,_,⟨o1,ep+1,g1,ex1,d1⟩,⟨ent1,isp1 h1 sb1,nd1,T1',?_,f.led,pl0⟩,per1,bq1⟩);rw[pq.length_eq,z0N,z4n,msk0];unfold z9j at full;rw[fill1,msk0] at full;simp at full
   rcases f.msk with ⟨e,z⟩ | ⟨e,z⟩
   ·left;rw[e] at full;exact⟨e,by omega⟩
   ·right;exact⟨e,by omega⟩
end
section
variable {A:z0a}{R:z2u->z03->Prop}{I:Addr}{wr:List Addr}{P:Nat->z00->Prop}{Sx:Nat->Heap->Prop}{B:Addr->Prop}
theorem SetP.keep {h h':Heap}{a:Addr}{ps:List Pr5}(x:SetP prog w B h a ps) (e:∀ b,B b->∀ o,h.get? b=some o->h'.get? b=some o) (ea:∀ o,h.get? a=some o->h'.get? a=some o):SetP prog w B h' a ps:=by
 obtain⟨es,t,qs,⟨o,ep,g,q⟩,f,pm,bq⟩:=x;exact⟨es,t,qs,⟨o,ep,ea o g,q⟩,f.keep λ x hx o' g'=>e x.2 (bq x hx) o' g',pm,bq⟩
def metP (val:Nat->Pr5) (i:Nat):List Pr5:=((z0e i).map val).foldl addQ []
theorem P_ (val:Nat->Pr5) (i:Nat):metP val (i+1)=addQ (metP val i) (val i):=by simp[metP,z6K,List.foldl_append]
theorem Wr (val:Nat->Pr5):∀ i,(metP val i).length<=i
 | 0=>z07 _
 | i+1=>by
  have q:=Wr val i;rw[P_];unfold addQ;split<;>simp<;>omega
theorem yI (hu:A.units+1<z0h) (W:z1E prog w A.in1 I fp wr n P Sx) {S:Addr}(nS:S∉fp) (val:Nat->Pr5) (bs:Nat->Addr) (hv:∀ i v,P i v->v=.ref (bs i)) (hB:∀ i,i<n->B (bs i)) (nB:∀ b,B b->b∉wr/\b≠S) (hb:n<=17) :
    ∀ (m i:Nat) (s:z03),i+m=n->Sx i s.heap->SetP prog w B s.heap S (metP val i)->(∀ i,i<n->IsP prog w s.heap (val i) (bs i)) ->
      (∀ h' tk,.(36)->SetP prog w B h' S (metP val n)->R (.ok (.ret .none)) { s with heap:=h',toks:=tk }) ->
      z11 (z04 prog w) A (.builtin "set.update.loop" ⟨[.ref S,.ref I],[]⟩) R s:=by
  have nW:S∉wr:=λ z=>nS (W.sub S z);have turn:∀ {s:z03},z02 (z04 prog w) A.in1 (do
        let some x <-z0M (.ref I) | ret .none
        let _ <-z1v [x] (setAdd S x)
        again (.builtin "set.update.loop" ⟨[.ref S,.ref I],[]⟩))
      (λ fin s'=>match fin with | .done f=>R (.ok f) s' | .again c'=>c'.quiet=true/\z11 (z04 prog w) A c' R s') (λ e s'=>R (.error e) s') s->z11 (z04 prog w) A (.builtin "set.update.loop" ⟨[.ref S,.ref I],[]⟩) R s:=λ q=>by
    refine z1A PyProof.Rows.F.entry_set_update_loop ?_;rw[z2o z9k _];exact q
  intro m
  induction m with
  | zero=>
    intro i s e st x _ k;have:i=n:=by omega
    subst this;exact turn (z01 (W.done s _ _ st λ h' tk kp=>z05 (k h' tk (λ b o nb _ q=>kp b o nb q) (x.keep (λ b hb o q=>kp b o (nB b hb).1 q) λ o q=>kp S o nW q))))
  | succ m ih=>
    intro i s e st x al k;refine turn (z01 (W.item i s _ _ (by omega) st λ v h1 tk pv st1 kp=>?_));obtain rfl:=hv i v pv;have x1:SetP prog w B h1 S (metP val i):=x.keep (λ b hb o q=>kp b o (nB b hb).1 q) λ o q=>kp S o nW q;have al1:∀ i,i<n->IsP prog w h1 (val i) (bs i):=λ i hi=>(al i hi).keep λ o q=>kp _ o (nB _ (hB i hi)).1 q;have hl:=Wr val i;have y:=al1 i (by omega);refine z01 (wpAny_holding (wpAny_holding (z01 (z7P (s:={ s with heap:=h1,toks:=tk }) (show A.in1.units<z0h from hu) y.2 ?_))));rw[pM y.1];refine yH (s:={ s with heap:=h1,toks:=tk+((kk (val i)).length+1) }) (w:=w) (show A.in1.units<z0h from hu) x1 y (hB i (by omega)) (by omega) λ b h2 sb x2=>z05 ⟨z1_ z9k _,?_⟩;rw[<-P_] at x2;refine ih (i+1) { s with heap:=h2,toks:=tk+((kk (val i)).length+1) } (by omega) (W.frame _ _ _ st1 λ b m o q=>(sb.2 b λ z=>nS (z▸m)).trans q) x2 (λ i hi=>(al1 i hi).keep λ o q=>(sb.2 _ (nB _ (hB i hi)).2).trans q) λ h3 t3 kp3 x3=>?_;exact k h3 t3 (λ b o nb nS' q=>kp3 b o nb nS' ((sb.2 b nS').trans (kp b o nb q))) x3
structure PrsAt (prog:z0s) (w:z0k) (T:String) (l:Addr) (n:Nat) (bs:Nat->Addr) (h0:Heap):Prop where
 ty:∀ s:z03,(∀ o,h0.get? l=some o->s.heap.get? l=some o)->s.TypeIs (.ref l) T
 ns:isSubtype (.type T) (.type "set")=pure false
 nf:isSubtype (.type T) (.type "frozenset")=pure false
 nd:(z2g T==z2g "dict")=false
 lt:l<h0.objs.size
 it:∀ (A:z0a) (E:z00->z03->Prop) (s:z03) (Q:z00->z03->Prop),A.handled=none->(∀ o,h0.get? l=some o->s.heap.get? l=some o)->l<s.heap.objs.size ->
  (∀ (oI:Obj) (Sx:Nat->Heap->Prop) (P:Nat->z00->Prop),(∀ A':z0a,A'.handled=none->z1E prog w A' s.heap.objs.size [s.heap.objs.size,l] [s.heap.objs.size] n P Sx)->Sx 0 (s.heap.push oI)->(∀ i v,P i v->v=.ref (bs i))->Q .(5) { s with heap:=s.heap.push oI }) ->
  z02 (z04 prog w) A (z2t (.ref l)) Q E s
theorem YK (h:Heap):SetP prog w B (h.push { cls:=.type "set",dict:=none,data:=.set #[] 0 (.fresh 0 0 (!btx w)) }) h.objs.size []:=
 ⟨#[],_,[],⟨_,0,z0l _ rfl,⟨rfl,rfl,rfl⟩,rfl⟩,⟨rfl,by simp,by simp,⟨rfl,by simp[z7k,Rise],rfl,by simp[z7k],by simp,by simp⟩,.inl ⟨rfl,by simp⟩,λ b=>by simp[z7k,b],rfl⟩,by simp,by simp⟩
theorem pQ {B:Addr->Prop}{T:String}{l:Addr}{val:Nat->Pr5}{bs:Nat->Addr}(hu:A.units+4<z0h) (hh:A.handled=none) (X:PrsAt prog w T l n bs s.heap) (al:∀ i,i<n->IsP prog w s.heap (val i) (bs i)) (hb:n<=17) (hB:∀ i,i<n->B (bs i)) (lB:∀ b,B b->b<s.heap.objs.size)
  (k:∀ h' tk,SetP prog w B h' s.heap.objs.size (metP val n)->.(2)->Q .(5) { s with heap:=h',toks:=tk }):z02 (z04 prog w) A (call (.type "set") [.ref l]) Q E s:=by
 refine yE (Q1:=λ ob s1=>ob=.ref s.heap.objs.size/\s1={ s with heap:=s.heap.push { cls:=.type "set",dict:=none,data:=.set #[] 0 (.fresh 0 0 (!btx w)) } }) F.called_set (F.typeCall_set_1 _) (pJ _ ⟨rfl,rfl⟩) λ ob s1 ⟨e1,e2⟩=>?_;subst e1 e2;have ob:=z0l s.heap (o:={ cls:=.type "set",dict:=none,data:=.set #[] 0 (.fresh 0 0 (!btx w)) }) rfl;refine⟨⟨_,ob,rfl⟩,codeAny_call_builtin F.called_set.init.plain F.entry_set_init (check_set_init_1 ⟨_,ob,rfl⟩ ?_)⟩;have kl:∀ o,s.heap.get? l=some o->(s.heap.push { cls:=.type "set",dict:=none,data:=.set #[] 0 (.fresh 0 0 (!btx w)) }).get? l=some o:=λ o q=>z0d _ q;have ty:=X.ty { s with heap:=s.heap.push { cls:=.type "set",dict:=none,data:=.set #[] 0 (.fresh 0 0 (!btx w)) } } kl;have s1:=X.ns;have s2:=X.nf;have s3:=X.nd;unfold z1e.«set.__init__» noKeywords Builtin.Frozenset.updateFrom;generalize hp:z2t=PI
 wp_walk
 subst hp;refine X.it _ _ _ _ (by simp[hh]) kl (by rw[z1w];exact z2n X.lt) λ oI Sx P W st hv=>?_;refine z01 (z5H ?_);have szI:(s.heap.push { cls:=.type "set",dict:=none,data:=.set #[] 0 (.fresh 0 0 (!btx w)) }).objs.size=s.heap.objs.size+1:=z1w _ _;have x0:SetP prog w B ((s.heap.push { cls:=.type "set",dict:=none,data:=.set #[] 0 (.fresh 0 0 (!btx w)) }).push oI) s.heap.objs.size (metP val 0):=(YK s.heap).keep (λ b _ o q=>z0d _ q) λ o q=>z0d _ q;refine yI .(17) (W _ (by simp[hh])) (S:=s.heap.objs.size) (λ z=>?_) val bs hv hB (λ b hb=>⟨λ z=>?_,z0i (lB b hb)⟩) hb n 0 _ (by omega) st x0 (λ i hi=>(al i hi).keep λ o q=>z0d _ (z0d _ q)) λ h' tk kp x=>?_
 ·rcases z0j.mp z with z | z
  ·rw[szI] at z;exact absurd z (z0i (z4e _))
  ·exact absurd (z2c.mp z) (z2H X.lt)
 ·have e:=z2c.mp z;rw[szI] at e;exact absurd e (z0i (z2n (lB b hb)))
 ·show z02 _ _ _ _ _ _;refine z05 (show z02 _ _ (ret z15) _ _ _ from z05 ⟨rfl,k h' tk x λ b o q=>?_⟩);have lb:b<s.heap.objs.size:=z0f q;exact kp b o (λ z=>by have e:=z2c.mp z;rw[szI] at e;exact absurd e (z0i (z2n lb))) (z0i lb) (z0d _ (z0d _ q))
end
end PV
namespace PV
open PySem PySem.W PyProof.Rows
section
variable {key:Nat->Nat}
def Sat (n:Nat) (key:Nat->Nat) {α:Type}:KasT α->(α->Prop)->Prop
 | .ret a,Q=>Q a
 | .ask i j k,Q=>i<n/\j<n/\Sat n key (k (decide (key i<key j))) Q
theorem Sat.bind {α β:Type}{f:α->KasT β}{Q:β->Prop}{R:α->Prop}:∀ {t:KasT α},Sat n key t R->(∀ a,R a->Sat n key (f a) Q)->Sat n key (t.bind f) Q
 | .ret a,h,k=>k a h
 | .ask i j g,h,k=>⟨h.1,h.2.1,Sat.bind h.2.2 k⟩
theorem Sat.wp {α:Type}{cmp:Nat->Nat->(Bool->z03->Prop)->z03->Prop}{s:z03}(hc:∀ i j C,i<n->j<n->C (decide (key i<key j)) s->cmp i j C s) {Q:α->Prop}{R:α->z03->Prop}(hr:∀ a,Q a->R a s):∀ {t:KasT α},Sat n key t Q->t.kasWp cmp R s
 | .ret a,h=>hr a h
 | .ask i j k,h=>hc i j _ h.1 h.2.1 (Sat.wp hc hr h.2.2)
structure Od (n:Nat) (p:Array Nat):Prop where
 sz:p.size=n
 pm:p.toList.Perm (z0e n)
theorem Od.lt {p:Array Nat}(o:Od n p) {i:Nat}(h:i<n):p.getD i 0<n:=by
 have hi:i<p.size:=by rw[o.sz];exact h
 rw[show p.getD i 0=p[i] by simp[hi]];have:p[i]∈p.toList:=by simp
 exact z0w.mp (o.pm.mem_iff.mp this)
theorem Od.inj {p:Array Nat}(o:Od n p) {i j:Nat}(hi:i<n) (hj:j<n) (e:p.getD i 0=p.getD j 0):i=j:=by
 have hi':i<p.size:=by rw[o.sz];exact hi
 have hj':j<p.size:=by rw[o.sz];exact hj
 rw[show p.getD i 0=p[i] by simp[hi'],show p.getD j 0=p[j] by simp[hj']] at e;have nd:p.toList.Nodup:=o.pm.nodup_iff.mpr z4x;refine (z7b (l:=p.toList) (by simpa using hi') nd).mp ?_;rw[z0C (by simpa using hi'),z0C (by simpa using hj')];simpa using e
def Asc (key:Nat->Nat) (p:Array Nat) (m:Nat):Prop:=∀ i j,i<j->j<m->key (p.getD i 0)<key (p.getD j 0)
def Dsc (key:Nat->Nat) (p:Array Nat) (m:Nat):Prop:=∀ i j,i<j->j<m->key (p.getD j 0)<key (p.getD i 0)
variable (inj:∀ i j,i<n->j<n->key i=key j->i=j)
include inj
theorem jN {p:Array Nat}(o:Od n p) {i j:Nat}(hi:i<n) (hj:j<n) (h:i≠j):key (p.getD i 0)≠key (p.getD j 0):=λ e=>h (o.inj hi hj (inj _ _ (o.lt hi) (o.lt hj) e))
theorem YL {p:Array Nat}(o:Od n p):∀ (f m:Nat),1<=m->m+f<=n->Asc key p m->Sat n key (kas_asc p f m) λ r=>m<=r/\r<=m+f/\Asc key p r/\(r<m+f->key (p.getD r 0)<key (p.getD (r-1) 0))
 | 0,m,h1,h2,a=>⟨z07 _,z07 _,a,λ z=>absurd z (by omega)⟩
 | f+1,m,h1,h2,a=>by
  refine⟨o.lt (by omega),o.lt (by omega),?_⟩
  by_cases c:key (p.getD m 0)<key (p.getD (m-1) 0)
  ·rw[decide_eq_true c];dsimp only;rw[if_pos rfl];exact⟨z07 _,by omega,a,λ _=>c⟩
  ·rw[decide_eq_false c];dsimp only;rw[if_neg (by simp)];have ne:=jN inj o (i:=m) (j:=m-1) (by omega) (by omega) (by omega);have a':Asc key p (m+1):=λ i j hij hj=>by
    by_cases e:j=m
    ·subst e
     by_cases e2:i=j-1
     ·subst e2;omega
     ·have:=a i (j-1) (by omega) (by omega);omega
    ·exact a i j hij (by omega)
   have:=YL o f (m+1) (by omega) (by omega) a';have up:∀ {t:KasT Nat},Sat n key t (λ r=>m+1<=r/\r<=m+1+f/\Asc key p r/\(r<m+1+f->key (p.getD r 0)<key (p.getD (r-1) 0)))->Sat n key t λ r=>m<=r/\r<=m+(f+1)/\Asc key p r/\(r<m+(f+1)->key (p.getD r 0)<key (p.getD (r-1) 0)):=λ {t}=>by
    induction t with
    | ret r=>exact λ h=>⟨by have:=h.1;omega,by have:=h.2.1;omega,h.2.2.1,λ z=>h.2.2.2 (by omega)⟩
    | ask i j k ih=>exact λ h=>⟨h.1,h.2.1,ih _ h.2.2⟩
   exact up this
theorem Zu {p:Array Nat}(o:Od n p):∀ (f m:Nat),1<=m->m+f<=n->Dsc key p m->Sat n key (kas_desc f p m 0) λ r=>r.1=p/\r.2.2=0/\m<=r.2.1/\r.2.1<=m+f/\Dsc key p r.2.1
 | 0,m,h1,h2,a=>⟨rfl,rfl,z07 _,z07 _,a⟩
 | f+1,m,h1,h2,a=>by
  refine⟨o.lt (by omega),o.lt (by omega),?_⟩;have ne:=jN inj o (i:=m) (j:=m-1) (by omega) (by omega) (by omega)
  by_cases c:key (p.getD m 0)<key (p.getD (m-1) 0)
  ·rw[decide_eq_true c];dsimp only;rw[if_pos rfl,if_neg (by omega)];have a':Dsc key p (m+1):=λ i j hij hj=>by
    by_cases e:j=m
    ·subst e
     by_cases e2:i=j-1
     ·subst e2;omega
     ·have:=a i (j-1) (by omega) (by omega);omega
    ·exact a i j hij (by omega)
   have:=Zu o f (m+1) (by omega) (by omega) a';have up:∀ {t:KasT (Array Nat×Nat×Nat)},Sat n key t (λ r=>r.1=p/\r.2.2=0/\m+1<=r.2.1/\r.2.1<=m+1+f/\Dsc key p r.2.1)->Sat n key t λ r=>r.1=p/\r.2.2=0/\m<=r.2.1/\r.2.1<=m+(f+1)/\Dsc key p r.2.1:=λ {t}=>by
    induction t with
    | ret r=>exact λ h=>⟨h.1,h.2.1,by have:=h.2.2.1;omega,by have:=h.2.2.2.1;omega,h.2.2.2.2⟩
    | ask i j k ih=>exact λ h=>⟨h.1,h.2.1,ih _ h.2.2⟩
   exact up this
  ·rw[decide_eq_false c];dsimp only;rw[if_neg (by simp)];refine⟨o.lt (by omega),o.lt (by omega),?_⟩;rw[decide_eq_true (show key (p.getD (m-1) 0)<key (p.getD m 0) by omega)];dsimp only;rw[if_pos rfl];exact⟨rfl,rfl,z07 _,Nat.le_add_right m (f+1),a⟩
omit inj
theorem Od.rev {p:Array Nat}(o:Od n p) (m:Nat):Od n (z4G p 0 m):=⟨(mirror_size _ _ _ _).trans o.sz,(z9l.mp (mirror_perm p 0 m _)).trans o.pm⟩
theorem jO {p:Array Nat}{m:Nat}(hm:m<=p.size) {k:Nat}(hk:k<m):(z4G p 0 m).getD k 0=p.getD (m-1-k) 0:=by
 have e:=getElem?_mirror (xs:=p) (i:=0) (j:=m) hm ((m-0)/2) (by omega) k;have:(z4G p 0 m)[k]?=p[m-1-k]?:=by
  unfold z4G;rw[e];split
  ·congr 1;omega
  ·congr 1;omega
 simp only[z9m,this]
include inj
theorem jP {p:Array Nat}(o:Od n p) (m:Nat) (h1:1<=m) (h2:m<=n) (d:Dsc key p m):Sat n key (kas_tail3 m n p) λ r=>Od n r.2/\1<=r.1/\r.1<=n/\Asc key r.2 r.1:=by
 have o':=o.rev m;have a:Asc key (z4G p 0 m) m:=λ i j hij hj=>by
  rw[jO (by rw[o.sz];exact h2) (by omega:i<m),jO (by rw[o.sz];exact h2) hj];exact d _ _ (by omega) (by omega)
 unfold kas_tail3;exact Sat.bind (YL inj o' (n-m) m h1 (by omega) a) λ r hr=>⟨o',by omega,by omega,hr.2.2.1⟩
theorem jQ (h1:1<=n) {p:Array Nat}(o:Od n p):Sat n key (kas_count n p) λ r=>Od n r.2/\1<=r.1/\r.1<=n/\Asc key r.2 r.1:=by
 unfold kas_count;refine Sat.bind (YL inj o (n-1) 1 (z07 _) (by omega) λ i j hij hj=>by omega) λ m hm=>?_;obtain⟨m1,m2,a,ls⟩:=hm
 by_cases c:(m==n)=true
 ·rw[if_pos c];exact⟨o,m1,by omega,a⟩
 ·rw[if_neg c];have c':m≠n:=by simpa using c
  by_cases c1:m > 1
  ·rw[if_pos c1];refine⟨o.lt (by omega),o.lt (by omega),?_⟩;rw[decide_eq_true (a 0 (m-1) (by omega) (by omega))];dsimp only;rw[if_pos rfl];exact⟨o,m1,by omega,a⟩
  ·rw[if_neg c1];have e1:m=1:=by omega
   subst e1;have l0:=ls (by omega);unfold kas_descPart;have d:Dsc key p 2:=λ i j hij hj=>by
    have:i=0:=by omega
    have:j=1:=by omega
    subst i j;exact l0
   refine Sat.bind (Zu inj o (n-(1+1)) (1+1) (by omega) (by omega) d) λ r hr=>?_;obtain⟨r1,r2,r3,r4,r5⟩:=hr;rw[r2,if_neg (by omega),r1];exact jP inj o r.2.1 (by omega) (by omega) r5
omit inj
theorem R6 {p:Array Nat}(o:Od n p) {k:Nat}(hk:k<n) (a:Asc key p k):∀ (f l r:Nat),r-l<=f->l<=r->r<=k->(∀ i,i<l->¬ key (p.getD k 0)<key (p.getD i 0))->(∀ i,r<=i->i<k->key (p.getD k 0)<key (p.getD i 0))->Sat n key (kas_place p k f l r) λ x=>x<=k/\(∀ i,i<x->¬ key (p.getD k 0)<key (p.getD i 0))/\(∀ i,x<=i->i<k->key (p.getD k 0)<key (p.getD i 0))
 | 0,l,r,hf,hl,hr,h1,h2=>⟨by omega,h1,λ i hi hik=>h2 i (by omega) hik⟩
 | f+1,l,r,hf,hl,hr,h1,h2=>by
  unfold kas_place
  by_cases c:l≥r
  ·rw[if_pos c];exact⟨by omega,h1,λ i hi hik=>h2 i (by omega) hik⟩
  ·rw[if_neg c];refine⟨o.lt hk,o.lt (by omega),?_⟩
   by_cases d:key (p.getD k 0)<key (p.getD ((l+r)/2) 0)
   ·rw[decide_eq_true d];dsimp only;rw[if_pos rfl];refine R6 o hk a f l ((l+r)/2) (by omega) (by omega) (by omega) h1 λ i hi hik=>?_
    by_cases e:i=(l+r)/2
    ·subst e;exact d
    ·have:=a ((l+r)/2) i (by omega) hik;omega
   ·rw[decide_eq_false d];dsimp only;rw[if_neg (by simp)];refine R6 o hk a f ((l+r)/2+1) r (by omega) (by omega) hr (λ i hi=>?_) h2
    by_cases e:i=(l+r)/2
    ·subst e;exact d
    ·have:=a i ((l+r)/2) (by omega) (by omega);omega
include inj
theorem jR:∀ (f:Nat) {p:Array Nat}{k:Nat},Od n p->k+f=n->Asc key p k->Sat n key (kas_bin f p k) λ q=>Od n q/\Asc key q n
 | 0,p,k,o,e,a=>⟨o,by rw[<-e];exact a⟩
 | f+1,p,k,o,e,a=>by
  unfold kas_bin;refine Sat.bind (R6 o (by omega) a k 0 k (by omega) (by omega) (z07 _) (λ i hi=>by omega) λ i h1 h2=>by omega) λ l hl=>?_;obtain⟨l1,l2,l3⟩:=hl;have hs:k<p.size:=by rw[o.sz];omega
  have o':Od n (bubble p k (k-l)):=⟨(bubble_size _ _ _).trans o.sz,(z9l.mp (bubble_perm p k _)).trans o.pm⟩;have at_:∀ i,(bubble p k (k-l)).getD i 0=if i=l then p.getD k 0 else if l<i/\i<=k then p.getD (i-1) 0 else p.getD i 0:=λ i=>by
   have e:=getElem?_bubble hs (k-l) (by omega) i;rw[show k-(k-l)=l by omega] at e;simp only[z9m,e];split
   ·rfl
   ·split<;>rfl
  refine jR f o' (by omega) λ i j hij hj=>?_;rw[at_ i,at_ j];have hne:∀ x,x<k->key (p.getD k 0)≠key (p.getD x 0):=λ x hx=>jN inj o (by omega) (by omega) (by omega)
  by_cases i1:i=l
  ·rw[if_pos i1,if_neg (by omega),if_pos (by omega)];exact l3 (j-1) (by omega) (by omega)
  ·rw[if_neg i1]
   by_cases j1:j=l
   ·rw[if_pos j1,if_neg (by omega)];have:=l2 i (by omega);have:=hne i (by omega);omega
   ·rw[if_neg j1]
    by_cases i2:l<i/\i<=k
    ·rw[if_pos i2,if_pos (by omega)];exact a _ _ (by omega) (by omega)
    ·rw[if_neg i2]
     by_cases j2:l<j/\j<=k
     ·rw[if_pos j2]
      by_cases e2:i=j-1
      ·omega
      ·exact a _ _ (by omega) (by omega)
     ·rw[if_neg j2];exact a _ _ (by omega) (by omega)
theorem pR (h1:1<=n):Sat n key (kas_sort n) λ q=>Od n q/\Asc key q n:=by
 have o:Od n (z9n (z0e n)):=⟨by simp,by simp⟩;unfold kas_sort;refine Sat.bind (jQ inj h1 o) λ r hr=>?_;obtain⟨r1,r2,r3,r4⟩:=hr
 by_cases c:r.1<n
 ·rw[if_pos c,show max r.1 1=r.1 by omega];exact jR inj (n-r.1) r1 (by omega) r4
 ·rw[if_neg c];have:r.1=n:=by omega
  exact⟨r1,this▸r4⟩
end
end PV
namespace PV
open PySem PySem.Spec L2 PySem.W
open PyProof.Rows (seqObj listItems_at listUpdate_at seqEpoch_at list_sort_plain sortedHeap get?_update_seq keyLt' tuples' keyKind' oneLt' oneLt_int arrOf failedOf SortSt general' pairsOf)
def cod (p:Pr5):Nat:=5*p.1+p.2
section
variable {A:z0a}
theorem IsP.items {p:Pr5}(x:IsP prog w h p b):∃ o n t u,h.get? b=some o/\o.cls=.type "tuple"/\o.data=.seq #[.int (p.1:Int) t,.int (p.2:Int) u] n:=by
 obtain⟨_,o,us,n,g,c,d,i⟩:=x;unfold kk at i;generalize e:us.toList=l at i;cases i with
 | @cons _ v1 _ vs1 h1 i=>
  cases i with
  | @cons _ v2 _ vs2 h2 i=>
   cases i;have f:∀ {k:Int}{v:z00},(Ao prog w).is (.inl k) v=true->∃ t,v=.int k t:=λ {k v} hk=>by
    rcases Bl (show QV (.inl k) v=true from hk) with ⟨j,t,e1,e2⟩ | ⟨y,t,e1,_⟩
    ·have:=z46 e1;subst this;exact⟨t,e2⟩
    ·cases e1
   obtain⟨t,rfl⟩:=f h1;obtain⟨u,rfl⟩:=f h2;refine⟨o,n,t,u,g,c,?_⟩;rw[d];congr 1;exact z6S.mp e
theorem yJ {p q:Pr5}{c:Addr}{Q:Bool->z03->Prop}(x:IsP prog w s.heap p b) (y:IsP prog w s.heap q c) (k:Q (decide (cod p<cod q)) s):z02 (z04 prog w) A (keyLt' (tuples' true) (.ref b) (.ref c)) Q E s:=by
 have p5:=x.1;have q5:=y.1;obtain⟨o,n,t,u,g,_,d⟩:=x.items;obtain⟨o2,n2,t2,u2,g2,_,d2⟩:=y.items;obtain⟨p1,p2⟩:=p;obtain⟨q1,q2⟩:=q;obtain⟨h1,h2⟩:p1<5/\p2<5:=p5;obtain⟨h3,h4⟩:q1<5/\q2<5:=q5;unfold cod at k;simp only at k;refine kat_lt g d g2 d2 ?_;show KatLex _ _ _ _ _ _ [(.int (p1:Int) t,.int (q1:Int) t2),(.int (p2:Int) u,.int (q2:Int) u2)] 0 s;refine kat_cons (z5Z (kat_go (λ e=>?_) λ e=>?_))
 ·have e1:p1=q1:=by have:=eq_of_beq e;omega
  refine kat_yes (kat_cons (z5Z (kat_go (λ e2=>?_) λ e2=>?_)))
  ·have e3:p2=q2:=by have:=eq_of_beq e2;omega
   refine kat_yes (kat_nil ?_);rw[decide_eq_false (by omega)] at k;exact k
  ·refine kat_no (kat_one _ _ (PyProof.Rows.lt_int ?_));show Q (decide ((p2:Int)<(q2:Int))) s;rw[show decide ((p2:Int)<(q2:Int))=decide (5*p1+p2<5*q1+q2) by rw[decide_eq_decide];omega];exact k
 ·have e1:p1≠q1:=λ z=>by rw[z] at e;simp at e
  refine kat_no (oneLt_int ?_);rw[show decide ((p1:Int)<(q1:Int))=decide (5*p1+p2<5*q1+q2) by rw[decide_eq_decide];omega];exact k
theorem jT {h:Heap}:∀ {qs:List .(38)},(∀ x∈qs,IsP prog w h x.1 x.2)->∃ fs:List z00,KatTups h (qs.map λ x=>.ref x.2) fs/\fs.length=qs.length/\∀ v∈fs,∃ i t,v=z36 i t
 | [],_=>⟨[],KatTups.nil,rfl,by simp⟩
 | x::r,hx=>by
  obtain⟨fs,a,b,c⟩:=jT (qs:=r) λ y hy=>hx y (by simp[hy]);obtain⟨o,n,t,u,g,cl,d⟩:=(hx x (by simp)).items;refine⟨.int (x.1.1:Int) t::fs,KatTups.cons g cl d rfl a,by simp[b],λ v hv=>?_⟩
  rcases z0j.mp hv with rfl | hv
  ·exact⟨_,_,rfl⟩
  ·exact c v hv
theorem Zv {p q:Pr5}(a:In5 p) (b:In5 q) (e:cod p=cod q):p=q:=by
 obtain⟨p1,p2⟩:=p;obtain⟨q1,q2⟩:=q;obtain⟨h1,h2⟩:p1<5/\p2<5:=a;obtain⟨h3,h4⟩:q1<5/\q2<5:=b;unfold cod at e;simp only at e;have:p1=q1:=by omega
 have:p2=q2:=by omega
 rw[‹p1=q1›,‹p2=q2›]
theorem Zw {α:Type}:∀ l:List α,(l.zip l).map (·.2)=l
 | []=>rfl
 | x::r=>by rw[z4T,z0c,Zw r]
theorem R7 {qs:List .(38)}{P:Fin->z03->Prop}(ho:s.heap.get? a=some (seqObj "list" (qs.map λ x=>z0b x.2).toArray n)) (isp:∀ x∈qs,IsP prog w s.heap x.1 x.2) (nd:(qs.map (·.1)).Nodup) (h64:qs.length<64)
  (k:∀ qs':List .(38),qs'.Perm qs->(qs'.map λ x=>cod x.1).Pairwise (·<·)->P (.done (.ret .none)) { s with heap:=sortedHeap s.heap a (qs.map λ x=>z0b x.2) (qs'.map λ x=>z0b x.2).toArray }) :
  z02 (z04 prog w) A (z1e.«list.sort» ⟨[.ref a],[]⟩) P E s:=by
 generalize hvs:(qs.map λ x=>z0b x.2)=vs at ho k;have lv:vs.length=qs.length:=by rw[<-hvs,z06]
 rw[list_sort_plain];have ha:a<s.heap.objs.size:=z0f ho;refine z01 (listItems_at ho rfl ?_);refine z01 (z7l ho rfl ?_ (by rw[z0r,z1p];omega) (z18 _));obtain⟨e1,ho1⟩:∃ e1,(s.heap.update a (z1Y λ _=>#[])).get? a=some (seqObj "list" #[] e1):=⟨_,get?_update_seq ho (λ _=>#[])⟩;refine z01 (z7m ho1 rfl ?_);refine z01 (wpAny_newTuple ?_ (by show vs.length<=_;rw[z1p];omega));refine z01 (z3_ ?_ (z18 _));refine wpAny_holding ?_;generalize hg:((s.heap.update a (z1Y λ _=>#[])).push (seqObj "tuple" vs.toArray 0)).push (seqObj "list" #[] 0)=g6;have ho6:g6.get? a=some (seqObj "list" #[] e1):=by
  rw[<-hg];exact z0d _ (z0d _ ho1)
 have isp6:∀ x∈qs,IsP prog w g6 x.1 x.2:=λ x hx=>(isp x hx).keep λ o g=>by
  rw[<-hg];have ne:x.2≠a:=λ z=>by
   obtain⟨o2,_,_,_,g2,c2,_⟩:=(isp x hx).items;rw[z] at g2;cases g2.symm.trans ho;have c3:z2g "list"=z2g "tuple":=c2;injection c3 with c3
   exact absurd c3 (by decide)
  exact z0d _ (z0d _ ((z13 _ _ (z0n ne)).trans g))
 have hG:sortedHeap s.heap a vs=λ out=>g6.update a (z1Y λ _=>out):=by funext out;rw[<-hg];rfl
 dsimp only
 by_cases h2:vs.toArray.size<2
 ·rw[if_pos h2,if_pos h2];refine z01 (z05 ?_);rw[StateT.run_pure];refine z01 (z05 ?_);dsimp only;refine z01 (z7m ho6 rfl ?_);refine z01 (z7l ho6 rfl ?_ (hsz2:=by rw[Array.size_map];show (pairsOf vs).size<=_;rw[PyProof.Rows.pairsOf_size,z1p];omega));simp only[bne_self_eq_false,z0G,if_false];refine z05 ?_;have:=k qs (z4F _) (by
   rw[z0r,lv] at h2
   match qs,h2 with
   | [],_=>exact z5t
   | [x],_=>exact List.pairwise_singleton _ _)
  rw[hvs,hG] at this;have ez:(arrOf (z9o general' (vs.toArray.zip vs.toArray) #[] 7 none)).map (·.2)=vs.toArray:=by
   show (vs.toArray.zip vs.toArray).map (·.2)=vs.toArray;apply z6S.mp;simp[Zw]
  rw[show (vs.toArray.zip vs.toArray)=pairsOf vs from rfl] at ez;show P _ { s with heap:=g6.update a (z1Y λ _=>(arrOf (z9o general' (pairsOf vs) #[] 7 none)).map (·.2)) };rw[ez];exact this
 ·rw[if_neg h2,if_neg h2];have l2:2<=vs.length:=by rw[z0r] at h2;omega
  obtain⟨fs,t1,t2,t3⟩:=jT isp6;rw[hvs] at t1;refine z01 (kat_kind (s:={ s with heap:=g6 }) (T:=z2g "int") t1 (by rw[t2,<-lv];omega) (λ v hv=>?_) (by decide) ?_)
  ·obtain⟨i,t,rfl⟩:=t3 v hv;exact .now
  show z02 (z04 prog w) A _ P E { s with heap:=g6 };rw[show (z2g "int" != z2g "tuple")=true by decide];have at_:∀ i (h:i<qs.length),vs.getD i z15=.ref qs[i].2:=λ i h=>by
   rw[<-hvs];simp[h]
  have inj:∀ i j,i<vs.length->j<vs.length->(λ i=>cod (qs.getD i ((0,0),0)).1) i=(λ i=>cod (qs.getD i ((0,0),0)).1) j->i=j:=λ i j hi hj e=>by
   rw[lv] at hi hj;simp only[show qs.getD i ((0,0),0)=qs[i] by simp[hi],show qs.getD j ((0,0),0)=qs[j] by simp[hj]] at e;have e2:=Zv (isp _ (z1b hi)).1 (isp _ (z1b hj)).1 e;refine (z7b (l:=qs.map (·.1)) (by simpa using hi) nd).mp ?_;rw[z0o,z0o,z0C hi,z0C hj];exact congrArg some e2
  have run:=Sat.wp (cmp:=kas_ask prog w A (tuples' true) vs) (s:={ s with heap:=g6 }) (λ i j C hi hj hC=>by
   rw[lv] at hi hj;unfold kas_ask;rw[at_ i hi,at_ j hj];refine yJ (isp6 _ (z1b hi)) (isp6 _ (z1b hj)) ?_;simp only[show qs.getD i ((0,0),0)=qs[i] by simp[hi],show qs.getD j ((0,0),0)=qs[j] by simp[hj]] at hC;exact hC) (Q:=λ q=>Od vs.length q/\Asc (λ i=>cod (qs.getD i ((0,0),0)).1) q vs.length) (R:=λ q z=>z={ s with heap:=g6 }/\Od vs.length q/\Asc (λ i=>cod (qs.getD i ((0,0),0)).1) q vs.length) (λ q hq=>⟨rfl,hq⟩) (pR inj (by omega))
  refine z01 (z1t (kat_run (Q:=λ st' z=>z={ s with heap:=g6 }/\∃ p:Array Nat,arrOf st'=p.map (kas_item (vs.toArray.zip vs.toArray))/\failedOf st'=none/\Od vs.length p/\Asc (λ i=>cod (qs.getD i ((0,0),0)).1) p vs.length) rfl l2 (by omega) (λ p st' z a1 a2 a3 a4=>⟨a4.1,p,a2,a3,a4.2.1,a4.2.2⟩) run) ?_ λ _ _ e=>e);rintro⟨⟨⟩,st'⟩ z ⟨rfl,p,har,hf,od,asc⟩;dsimp only;have hout:=kat_snds (ks:=vs) (vs:=vs) rfl har;have oq:(z9n (p.toList.map λ i=>vs.getD i z15))=((p.toList.map λ i=>qs.getD i ((0,0),0)).map λ x=>z0b x.2).toArray:=by
   rw[z0p];congr 1;refine z3m λ i hi=>?_;have hi:=z0w.mp (od.pm.mem_iff.mp hi);rw[lv] at hi;rw[at_ i hi];simp[hi]
  rw[hout,oq];have per:(p.toList.map λ i=>qs.getD i ((0,0),0)).Perm qs:=by
   have e:(z0e vs.length).map (λ i=>qs.getD i ((0,0),0))=qs:=by
    apply z98
    ·simp[lv]
    ·intro i h1 h2;simp[h2]
   have:=od.pm.map λ i=>qs.getD i ((0,0),0)
   rwa [e] at this
  have srt:((p.toList.map λ i=>qs.getD i ((0,0),0)).map λ x=>cod x.1).Pairwise (·<·):=by
   rw[z0p,z1B,z3Z];intro i j hi hj hij;have hi':i<p.size:=by simpa using hi
   have hj':j<p.size:=by simpa using hj
   have:=asc i j hij (by rw[<-od.sz];exact hj');rw[show p.getD i 0=p[i] by simp[hi'],show p.getD j 0=p[j] by simp[hj']] at this;simpa using this
  refine z01 (z7m ho6 rfl ?_);refine z01 (z7l ho6 rfl ?_ (hsz2:=by
   rw[z0r,z06,per.length_eq,z1p];omega))
  rw[hf];simp only[bne_self_eq_false,z0G,if_false];have:=k _ per srt;rw[hG] at this;exact z05 this
end
end PV
namespace PV
open PySem PySem.Spec
theorem Ly:z9p "set_iterator" "__next__" "set_iterator.__next__":=
 .of (owner:="set_iterator") (n:="__next__") (by rw[typeLookup_type,z9q];kernel_rfl) .(34) .(34) .(34) (by first | exact .inl .(34) | exact .inr .(34)) (by rw[z2U];kernel_rfl)
theorem Ws:entryFor table "set_iterator.__next__"=some z1e.«set_iterator.__next__»:=entryFor_of_tree (by kernel_rfl)
theorem jU:Manifest.owners.lookup (String.ofList ['r','o','t','a','r','e','t','i','_','t','e','s'].reverse)=some Manifest.sig_set_iterator:=by kernel_rfl
theorem Zx (a:z00):z2T "set_iterator.__next__" ⟨[a],[]⟩:=by
 unfold z2T;rw[signature?_of (id:="set_iterator.__next__") (n:=['_','_','t','x','e','n','_','_']) (o:=['r','o','t','a','r','e','t','i','_','t','e','s']) (by kernel_rfl) jU]
 kernel_rfl
section
variable {A:z0a}{I T:Addr}{first:z00}{t:SetTable}
def ItX (h:Heap) (I q:Addr) (first:z00) (j n ep:Nat):Prop:=∃ o,h.get? I=some o/\o.cls=.type "set_iterator"/\o.data=.fields #[first,.int j 0,.ref q,.int n 0,.int ep 0]
def K5 (h:Heap) (q:Addr) (es:Array (Int×z00)) (ep:Nat) (t:SetTable):Prop:=∃ o,h.get? q=some o/\o.ExactSet/\o.data=.set es ep t
theorem ItX.ty (x:ItX s.heap I q first j n ep):s.TypeIs (.ref I) "set_iterator":=let ⟨o,g,c,_⟩:=x;⟨o,g,c⟩
theorem ItX.put0 (x:ItX h I q first j n ep) (f2:z00):ItX (h.update I (z3o (·.setIfInBounds 0 f2))) I q f2 j n ep:=by
 obtain⟨o,g,c,d⟩:=x;exact⟨_,z1F _ g (z5r (z3q d _)),(z5s ..).trans c,by rw[z3q d];simp⟩
theorem ItX.put1 (x:ItX h I q first j n ep):ItX (h.update I (z3o (·.setIfInBounds 1 (z0H ((j:Int)+1))))) I q first (j+1) n ep:=by
 obtain⟨o,g,c,d⟩:=x;exact⟨_,z1F _ g (z5r (z3q d _)),(z5s ..).trans c,by rw[z3q d];simp[z0H]⟩
theorem VM {a:Addr}(z:s.heap=h) (x:ItX h I q first j n ep) {i:Nat}(hi:i<5) {v:z00}{Q:Unit->z03->Prop}(k:Q () { s with heap:=h.update I (z3o (·.setIfInBounds i v)) }):z02 (z04 prog w) A (setField (.ref I) i v) Q E s:=by
 subst z;obtain⟨o,g,_,d⟩:=x;exact z3p g d (by simpa using hi) k
theorem pW {sl:Int}{v:z00}{nx:Nat}{Q:Option z00->z03->Prop}(x:ItX s.heap I q (.int sl 0) j n ep) (y:K5 s.heap q es ep t) (hf:t.fits es.size=true) (hn:es.size=n)
  (hx:∀ (B:z0a) (E2:z00->z03->Prop) (R:Option (z00×Nat)->z03->Prop),R (some (v,nx)) s->z02 (z04 prog w) B (z2X q sl.toNat j ep) R E2 s)
  (k:∀ h',z14 I s.heap h'->ItX h' I q (.int nx 0) (j+1) n ep->Q (some v) { s with heap:=h' }):z02 (z04 prog w) A (z0M (.ref I)) Q E s:=by
 obtain⟨o,g,c,d⟩:=id x;obtain⟨oq,gq,_,dq⟩:=y;unfold z0M;refine z01 (z3W (z2x (name:=z0F "__next__") x.ty Ly (z1k Ly x.ty Ws ?_ (Zx _))));unfold z1e.«set_iterator.__next__»;refine z01 (z05 (z01 (z5p g d ?_)));dsimp only;refine z01 (z7n gq dq hf ?_);rw[if_neg (by rw[hn];simp),z19,z19];refine z01 (hx _ _ _ ?_);refine z01 (VM (a:=I) rfl x (by decide) (z01 (VM (a:=I) rfl (x.put0 (z0H nx)) (by decide) (z05 ⟨v,rfl,z05 ?_⟩))));exact k _ ((z3X ..).trans (z3X ..)) (x.put0 (z0H nx)).put1
theorem pX {Q:Option z00->z03->Prop}{z:z03}(hh:A.handled=none) (k:∀ h',(∀ b o,z.heap.get? b=some o->h'.get? b=some o)->Q none { z with heap:=h' }) :
  z02 (z04 prog w) A.in1 (z3V (.type "StopIteration") [] >>= λ e=>(raiseNew e:Sem Fin)) (λ fin s'=>∃ v,fin=Fin.done (Flow.ret v)/\z02 (z04 prog w) A (pure (some v)) Q E s')
   (λ e s'=>z02 (z04 prog w) A (z4S e (.type "StopIteration") >>= λ b=>if b=true then pure none else throw e) Q E s') z:=by
 refine z01 ?_;simp only[z3V,z5o];refine z01 (z1P ?_ (by size_fits));refine z01 (m:=z5I _ _) (z4r (a:=z15) (by first | rfl | (simp only[z5I];rfl)) (z1P ?_ (by size_fits)));unfold raiseNew;refine z01 (wpAny_handled ?_);rw[show A.in1.handled=none from hh];refine z01 (z05 (wpAny_throw ?_));have ty:∀ (h0:Heap) (ob:Obj),ob.cls=.type "StopIteration"->ob.isFreed=false->z6Y { z with heap:=h0.push ob } (.ref h0.objs.size) "StopIteration":=λ h0 ob c f=>⟨ob,z0l _ f,c⟩;refine z01 (z34 (T:="StopIteration") (b:=true) (ty _ _ rfl rfl) z73 ?_);refine z05 (k _ λ b o e=>?_);exact z0d _ (z0d _ e)
theorem pZ {sl:Int}{Q:Option z00->z03->Prop}(hh:A.handled=none) (x:ItX s.heap I q (.int sl 0) j n ep) (y:K5 s.heap q es ep t) (hf:t.fits es.size=true) (hn:es.size=n)
  (hx:∀ (B:z0a) (E2:z00->z03->Prop) (R:Option (z00×Nat)->z03->Prop),R none s->z02 (z04 prog w) B (z2X q sl.toNat j ep) R E2 s)
  (k:∀ h',(∀ b o,b≠I->s.heap.get? b=some o->h'.get? b=some o)->Q none { s with heap:=h' }):z02 (z04 prog w) A (z0M (.ref I)) Q E s:=by
 obtain⟨o,g,c,d⟩:=id x;obtain⟨oq,gq,_,dq⟩:=y;unfold z0M;refine z01 (z3W (z2x (name:=z0F "__next__") x.ty Ly (z1k Ly x.ty Ws ?_ (Zx _))));unfold z1e.«set_iterator.__next__»;refine z01 (z05 (z01 (z5p g d ?_)));dsimp only;refine z01 (z7n gq dq hf ?_);rw[if_neg (by rw[hn];simp),z19,z19];refine z01 (hx _ _ _ (z01 (VM (a:=I) rfl x (by decide) (pX hh λ h' kp=>k h' λ b o nb e=>kp b o ?_))));exact (z13 _ _ (z0n nb)).trans e
end
end PV
namespace PV
open PySem L2
theorem J0 (a:Str):ltS a a=false:=by
 unfold ltS;exact decide_eq_false (List.lt_irrefl _)
theorem QB {a b:Str}(h1:ltS a b=true) (h2:ltS b c=true):ltS a c=true:=by
 unfold ltS at *;exact decide_eq_true (List.lt_trans (of_decide_eq_true h1) (of_decide_eq_true h2))
theorem Zy {a b:Str}(h1:ltS a b=false) (h2:a≠b):ltS b a=true:=by
 unfold ltS at *;have h1':=of_decide_eq_false h1;have h3:b.cps.toList<=a.cps.toList:=z9r.mp h1'
 rcases Decidable.em (b.cps.toList<a.cps.toList) with h | h
 ·exact decide_eq_true h
 ·exfalso;have h4:a.cps.toList<=b.cps.toList:=z9r.mp h;have e:a.cps.toList=b.cps.toList:=List.le_antisymm h4 h3;apply h2;cases a;cases b;simp at e;rw[e]
def Up (l:List Str):Prop:=l.Pairwise λ a b=>ltS a b=true
theorem R8 (x y:Str):∀ l:List Str,y∈insS x l↔y=x∨y∈l
 | []=>by simp[insS]
 | z::r=>by
  unfold insS;split
  ·simp
  ·split
   ·rename_i _ e;subst e;simp
   ·simp[R8 x y r];constructor
    ·rintro (h | h | h)
     ·exact .inr (.inl h)
     ·exact .inl h
     ·exact .inr (.inr h)
    ·rintro (h | h | h)
     ·exact .inr (.inl h)
     ·exact .inl h
     ·exact .inr (.inr h)
theorem Zz (x:Str):∀ {l:List Str},Up l->Up (insS x l)
 | [],_=>by simp[insS,Up]
 | z::r,h=>by
  obtain⟨h1,h2⟩:=z22.mp h;unfold insS;split
  ·rename_i hlt;exact z22.mpr ⟨λ y hy=>by
    rcases z0j.mp hy with rfl | hy
    ·exact hlt
    ·exact QB hlt (h1 y hy),h⟩
  ·rename_i hn;split
   ·exact h
   ·rename_i hne;refine z22.mpr ⟨λ y hy=>?_,Zz x h2⟩
    rcases (R8 x y r).mp hy with rfl | hy
    ·exact Zy (by simpa using hn) hne
    ·exact h1 y hy
theorem Oa (l:List Str):Up (Ft l):=by
 unfold Ft
 induction l with
 | nil=>exact z5t
 | cons x r ih=>exact Zz x ih
theorem Lz (y:Str) (l:List Str):y∈Ft l↔y∈l:=by
 unfold Ft
 induction l with
 | nil=>simp
 | cons x r ih=>rw[z5J,R8,ih];simp
theorem jV {l:List Str}(h:Up l):l.Nodup:=h.imp λ {a b} hab e=>by
 subst e;rw[J0] at hab;cases hab
theorem sub_len:∀ {l m:List Str},l.Nodup->(∀ x∈l,x∈m)->l.length<=m.length
 | [],_,_,_=>z18 _
 | x::r,m,h,hs=>by
  obtain⟨h1,h2⟩:=z2l.mp h;have hx:x∈m:=hs x z0L;have:=sub_len (l:=r) (m:=m.erase x) h2 λ y hy=>(z5v (λ e=>by subst e;exact h1 hy)).mpr (hs y (z0y _ hy));rw[z5w hx] at this;have hp:0<m.length:=z5x hx;simp;omega
theorem YM:∀ {l m:List Str},Up l->Up m->(∀ x,x∈l↔x∈m)->l=m
 | [],[],_,_,_=>rfl
 | [],y::s,_,_,h=>by have:=(h y).mpr z0L;simp at this
 | x::r,[],_,_,h=>by have:=(h x).mp z0L;simp at this
 | x::r,y::s,h1,h2,h=>by
  obtain⟨a1,a2⟩:=z22.mp h1;obtain⟨b1,b2⟩:=z22.mp h2;have e:x=y:=by
   rcases z0j.mp ((h x).mp z0L) with e | hx
   ·exact e
   ·rcases z0j.mp ((h y).mpr z0L) with e | hy
    ·exact e.symm
    ·have:=QB (a1 y hy) (b1 x hx);rw[J0] at this;cases this
  subst e;have:r=s:=YM a2 b2 λ z=>by
   constructor
   ·intro hz
    rcases z0j.mp ((h z).mp (z0y _ hz)) with e | q
    ·subst e;have:=a1 z hz;rw[J0] at this;cases this
    ·exact q
   ·intro hz
    rcases z0j.mp ((h z).mpr (z0y _ hz)) with e | q
    ·subst e;have:=b1 z hz;rw[J0] at this;cases this
    ·exact q
  rw[this]
end PV
namespace PV
open PySem PySem.Spec
theorem Z0:z9p "set_iterator" "__iter__" "set_iterator.__iter__":=
 .of (owner:="set_iterator") (n:="__iter__") (by rw[typeLookup_type,z9q];kernel_rfl) .(34) .(34) .(34) (by first | exact .inl .(34) | exact .inr .(34)) (by rw[z2U];kernel_rfl)
theorem jW:entryFor table "set_iterator.__iter__"=some z1e.«dict_keyiterator.__iter__»:=entryFor_alias (id':="dict_keyiterator.__iter__") (by kernel_rfl) rfl .(34) (by kernel_rfl)
theorem p_ (a:z00):z2T "set_iterator.__iter__" ⟨[a],[]⟩:=by
 unfold z2T;rw[signature?_of (id:="set_iterator.__iter__") (n:=['_','_','r','e','t','i','_','_']) (o:=['r','o','t','a','r','e','t','i','_','t','e','s']) (by kernel_rfl) jU]
 kernel_rfl
theorem VN:entryFor table "set.__iter__"=some z1e.«frozenset.__iter__»:=entryFor_alias (id':="frozenset.__iter__") (by kernel_rfl) rfl .(34) (by kernel_rfl)
section
variable {A:z0a}{I T:Addr}{first:z00}{t:SetTable}
theorem IK {α:Type}:∀ {l:List α}{i:Nat}(h:i<l.length),(l[i]::l.eraseIdx i).Perm l
 | x::r,0,_=>z4F _
 | x::r,i+1,h=>(z9h x (r[i]'(by simpa using h)) _).trans (z5F x (IK (by simpa using h)))
theorem jX {src:Source}{Q:Nat->z03->Prop}(hn:n≠0) (k:∀ i d,i<n->Q i { s with drawn:=d }):z02 M A (choose src n) Q E s:=λ Γ p _=>by
 show Sem.wp M Γ (.choose src n .pure) _ _ p s;rw[Sem.wp_choose];exact⟨hn,k _ _ (z5B _ (z9d hn))⟩
theorem R9 {α:Type}{M:Model}:∀ (m:Nat) (xs:List α) (s:z03) {Q:List α->z03->Prop},xs.length=m->(∀ ys d,ys.Perm xs->Q ys { s with drawn:=d })->z02 M A (drawOrder m xs) Q E s
 | 0,xs,s,Q,hl,k=>by
  have:xs=[]:=z2C.mp hl;subst this;exact z05 (k [] s.drawn (z4F _))
 | m+1,[],s,Q,hl,k=>by simp at hl
 | m+1,x::r,s,Q,hl,k=>by
  show z02 M A (choose .order (x::r).length >>= _) Q E s;refine z01 (jX (by simp) λ i d hi=>?_);have hg:(x::r)[i]?=some (x::r)[i]:=by simp
  simp only[hg];refine z01 (R9 m ((x::r).eraseIdx i) _ (by rw[z9s,if_pos hi];simp at hl ⊢;omega) λ ys d2 hp=>z05 (k _ d2 ?_));exact (z5F _ hp).trans (IK hi)
theorem T9 {α:Type}(f:Nat->Nat) (xs:Array α):(z2Y f xs).toList.Perm xs.toList:=by
 have go:∀ (m k:Nat) (l:List α) (out:Array α),l.length=m->(z7o f m k l out).toList.Perm (out.toList++l):=by
  intro m
  induction m with
  | zero=>intro k l out hl;have:l=[]:=z2C.mp hl;subst this;simp[z7o]
  | succ m ih=>
   intro k l out hl;have hi:f k%l.length<l.length:=z5B _ (by omega);have hg:l[f k%l.length]?=some l[f k%l.length]:=by simp[hi]
   unfold z7o;simp only[hg];refine (ih _ _ _ (by rw[z9s,if_pos hi];omega)).trans ?_;rw[Array.toList_push,z6Q];exact List.Perm.append_left _ (IK hi)
 have:=go xs.size 0 xs.toList #[] (by simp);simpa [z2Y] using this
theorem K5.keep (y:K5 h q es ep t) (e:∀ o,h.get? q=some o->h'.get? q=some o):K5 h' q es ep t:=let ⟨o,g,r⟩:=y;⟨o,e o g,r⟩
theorem ItX.keep (x:ItX h I q first j n ep) (e:∀ o,h.get? I=some o->h'.get? I=some o):ItX h' I q first j n ep:=let ⟨o,g,r⟩:=x;⟨o,e o g,r⟩
theorem qC (x:ItX s.heap I q first j n ep) (k:Q (.ref I) s):z02 (z04 prog w) A (z2t (.ref I)) Q E s:=by
 refine z74 x.ty Z0 (z1k Z0 x.ty jW ?_ (p_ _));show z02 _ _ (ret (.ref I)) _ _ s;exact z05 ⟨_,rfl,"set_iterator",_,x.ty,Ly.lookup,k⟩
end
section
variable {A:z0a}{I T:Addr}{first:z00}{t:SetTable}
end
section
variable {A:z0a}{I T:Addr}
theorem jY {Q:Bool->z03->Prop}(ty:s.TypeIs (.ref q) "set") (k:Q false s):z02 (z04 prog w) A (z9t (.ref q)) Q E s:=by
 unfold z9t;refine z01 (z2q ty F.slot_set_len.lookup ?_);generalize nm:("set.__len__":String)=sid
 wp_delta
 rw[show splitId sid=some ("set","__len__") by subst nm;decide +kernel];subst nm;refine z01 (z34 (T:="set") (b:=true) ty (by rw[z2U];kernel_rfl) ?_);refine wpAny_ite_split (λ z=>absurd z (by decide)) λ _=>wpAny_ite_split (λ _=>z01 (z4k ty (z05 k))) λ z=>absurd .(34) z
end
end PV
namespace PV
open PySem PySem.Spec L2
section
variable {A:z0a}{I T:Addr}{first:z00}{t:SetTable}
structure FQ (w:z0k) (es:Array (Int×z00)) (t:SetTable) (qs:List .(38)):Prop where
 ent:es.toList=qs.map λ x=>(hP x.1,z0b x.2)
 rise:Rise t.place.toList
 len:t.place.size=es.size
 fits:t.fits es.size=true
 led:btx w=false->t.led=true
 pln:t.plain=true
 sz:qs.length<=18
theorem FP.toQ {qs:List .(38)}(f:FP prog w h es t qs):FQ w es t qs:=by
 have l:=f.tab.len;rw[z06,z0_,z0_] at l;exact⟨f.ent,f.tab.rise,l,f.fits,f.led,f.pln,by rcases f.msk with ⟨_,z⟩ | ⟨_,z⟩<;>omega⟩
def SetQ (w:z0k) (h:Heap) (a:Addr) (qs:List .(38)):Prop:=∃ es t,ObX h a es t/\FQ w es t qs
theorem SetQ.keep {qs:List .(38)}(x:SetQ w h a qs) (e:∀ o,h.get? a=some o->h'.get? a=some o):SetQ w h' a qs:=by
 obtain⟨es,t,⟨o,ep,g,q⟩,f⟩:=x;exact⟨es,t,⟨o,ep,e o g,q⟩,f⟩
theorem Wt (xs:Array Nat) (hr:Rise xs.toList) {v i:Nat}(hi:i<=xs.size) (h1:∀ a (h:a<xs.size),a<i->xs[a]<v) (h2:∀ a (h:a<xs.size),i<=a->v<=xs[a]):z4H xs v=i:=by
 obtain⟨b0,b1,b2⟩:=OD xs hr v;generalize z4H xs v=b at b0 b1 b2
 rcases z5u b i with c | c | c
 ·have:=b2 b (by omega) (z07 _);have:=h1 b (by omega) c;omega
 ·exact c
 ·have:=b1 i (by omega) c;have:=h2 i (by omega) (z07 _);omega
theorem YQ (xs:Array Nat) (hr:Rise xs.toList) {i:Nat}(hi:i<=xs.size):z4H xs (if i=0 then 0 else xs.getD (i-1) 0+1)=i:=by
 have mono:∀ a b (ha:a<xs.size) (hb:b<xs.size),a<b->xs[a]<xs[b]:=λ a b ha hb hab=>by
  have:=z3Z.mp hr a b (by simpa using ha) (by simpa using hb) hab;simpa using this
 by_cases h0:i=0
 ·rw[if_pos h0];exact Wt xs hr hi (λ a h hai=>by omega) λ a h _=>z18 _
 ·have hp:i-1<xs.size:=by omega
  rw[if_neg h0,show xs.getD (i-1) 0=xs[i-1] by simp[hp]];refine Wt xs hr hi (λ a h hai=>?_) λ a h hia=>?_
  ·by_cases e:a=i-1
   ·subst e;omega
   ·have:=mono a (i-1) h hp (by omega);omega
  ·have:=mono (i-1) a hp h (by omega);omega
theorem jZ {sl:Nat->Nat}(hne:q≠I) (hf:t.fits es.size=true) (hL:vs.length=es.size)
  (hx:∀ (i:Nat) (z:z03),i<=es.size->K5 z.heap q es ep t->(∃ v,vs[i]?=some v/\i<es.size/\∀ (B:z0a) (E2:z00->z03->Prop) (R:Option (z00×Nat)->z03->Prop),R (some (v,sl (i+1))) z->z02 (z04 prog w) B (z2X q (sl i) i ep) R E2 z)
   ∨ (es.size<=i/\∀ (B:z0a) (E2:z00->z03->Prop) (R:Option (z00×Nat)->z03->Prop),R none z->z02 (z04 prog w) B (z2X q (sl i) i ep) R E2 z)) :
  ∀ A':z0a,A'.handled=none->z1E prog w A' I [I,q] [I] vs.length (λ i v=>vs[i]?=some v) (λ i h=>ItX h I q (.int (sl i) 0) i es.size ep/\K5 h q es ep t):=λ A' hh=>{
 sub:=λ b m=>by simp at m;simp[m]
 frame:=λ i h h' st e=>⟨st.1.keep (e I (by simp)),st.2.keep (e q (by simp))⟩
 item:=λ i z Q E2 hi st k=>by
  rcases hx i z (by omega) st.2 with ⟨v,hv,_,nx⟩ | ⟨hle,_⟩
  ·refine pW st.1 st.2 hf rfl (λ B E3 R y=>by rw[z19];exact nx B E3 R y) λ h' sb it=>k v h' z.toks hv ⟨it,st.2.keep λ o g=>(sb.2 q hne).trans g⟩ λ b o nb g=>(sb.2 b λ e=>nb (by simp[e])).trans g
  ·omega
 done:=λ z Q E2 st k=>by
  rcases hx vs.length z (by omega) st.2 with ⟨v,_,hlt,_⟩ | ⟨_,nx⟩
  ·omega
  ·exact pZ hh st.1 st.2 hf rfl (λ B E3 R y=>by rw[z19];exact nx B E3 R y) λ h' kp=>k h' z.toks λ b o nb g=>kp b o (λ e=>nb (by simp[e])) g
 self:=λ i z Q E2 st k=>qC st.1 k }
def ItP (prog:z0s) (w:z0k) (s:z03) (q:Addr) (qs:List .(38)) (I:Addr) (h':Heap):Prop:=∃ (L:List .(38)) (fp:List Addr) (Sx:Nat->Heap->Prop),L.Perm qs/\s.heap.objs.size<=I/\(∀ b∈fp,b=q∨s.heap.objs.size<=b)/\.(2) ∧
 (∀ A':z0a,A'.handled=none->z1E prog w A' I fp [I] L.length (λ i v=>(L.map λ x=>z0b x.2)[i]?=some v) Sx)/\Sx 0 h'
theorem cG {qs:List .(38)}(x:SetQ w s.heap q qs) (k:∀ I h',ItP prog w s q qs I h'->Q (.ref I) { s with heap:=h' }):z02 (z04 prog w) A (z2t (.ref q)) Q E s:=by
  obtain⟨es,t,⟨o,ep,g,ex,d⟩,f⟩:=x;have ty:s.TypeIs (.ref q) "set":=⟨o,g,ex.1⟩;have y:K5 s.heap q es ep t:=⟨o,g,ex,d⟩;have lq:q<s.heap.objs.size:=z0f g;have hlen:es.size=qs.length:=by have:=congrArg z0P f.ent;simpa using this
  refine z74 ty z9u (z1k z9u ty VN ?_ (F.args_set_iter_1 _));unfold z1e.«frozenset.__iter__»;refine z01 (show z02 _ _ (pure q) _ _ s from z05 ?_);refine z01 (show z02 _ _ (setEntries q >>= λ r=>pure r.size) _ _ s from z01 (z7n g d f.fits (z05 ?_)));have fin:∀ (fst:z00),(∀ h',h'=s.heap.push { cls:=.type "set_iterator",data:=.fields #[fst,.int 0 0,.ref q,.int es.size 0,.int ep 0] }->ItX h' s.heap.objs.size q fst 0 es.size ep->K5 h' q es ep t->ItP prog w s q qs s.heap.objs.size h') ->
      z02 (z04 prog w) A.in1 (do ret (<-newFields "set_iterator" [fst,z0H 0,.ref q,z0H es.size,z0H (<-setEpoch q)])) (λ fin z=>∃ v,fin=.done (.ret v)/\∃ T' r,z.TypeIs v T'/\z6y (.type T') "__next__"=pure (some r)/\Q v z) E s:=λ fst w1=>by
    refine z01 (wpAny_setEpoch_of g d f.fits (z01 (z1P (z05 ⟨_,rfl,"set_iterator",_,⟨_,z0l _ rfl,rfl⟩,Ly.lookup,k _ _ (w1 _ rfl ⟨_,z0l _ rfl,rfl,rfl⟩ (y.keep λ o' g'=>z0d _ g'))⟩))))
  have dr:∀ {R:Bool->z03->Prop},R false s->z02 (z04 prog w) A.in1 (setDrawn q) R E s:=λ {R} hr=>by
    unfold setDrawn;refine z01 (z2E g d f.fits ?_);refine z01 (show z02 _ A.in1 z5K _ E s from z01 (z3Y (z05 (z05 ?_))));show R (!(z04 prog w).w.params.followText "set-order"&&(!t.plain&&decide (es.size > 1))) s;rw[f.pln];simpa using hr
  refine z01 (dr ?_);simp only[z0G,if_false];have foot:∀ b∈[s.heap.objs.size,q],b=q∨s.heap.objs.size<=b:=λ b m=>by simp at m;rcases m with m | m;exact .inr (z6f m.symm);exact .inl m
  cases bq:btx w with
  | true=>
    refine z01 (z05 (fin _ λ h' eh it sa=>?_));subst eh;obtain⟨L,eL,pL⟩:=Wq (f:=λ x:Pr5×Addr=>(hP x.1,z0b x.2)) (l:=(z2Y (w.params.setOrder q ep) es).toList) (m:=qs) (by rw[<-f.ent];exact T9 _ es);have eV:(L.map λ x=>z0b x.2)=(z2Y (w.params.setOrder q ep) es).toList.map (·.2):=by rw[eL,z0p];rfl
    have pz:(z2Y (w.params.setOrder q ep) es).size=es.size:=by have:=(T9 (w.params.setOrder q ep) es).length_eq;simpa using this
    refine⟨L,[s.heap.objs.size,q],(λ i h=>ItX h s.heap.objs.size q (.int (((λ _=>0:Nat->Nat) i:Nat):Int) 0) i es.size ep/\K5 h q es ep t),pL,z07 _,foot,λ b o z=>z0d _ z,?_,it,sa⟩;have lv:(L.map λ x=>z0b x.2).length=L.length:=z06 ..;rw[<-lv];refine jZ (sl:=λ _=>0) (es:=es) (t:=t) (ep:=ep) (z0i lq) f.fits (by rw[lv,pL.length_eq,hlen]) λ i z hie ⟨oz,gz,_,dz⟩=>?_;have run:∀ (B:z0a) (E2:z00->z03->Prop) (R:Option (z00×Nat)->z03->Prop),R (((z2Y (w.params.setOrder q ep) es)[i]?).map λ e=>(e.2,0)) z->z02 (z04 prog w) B (z2X q 0 i ep) R E2 z:=λ B E2 R y2=>by
      unfold z2X setWalk;refine z01 (z2E gz dz f.fits ?_);refine z01 (show z02 _ B z5K _ E2 z from z01 (z3Y (z05 ?_)));rw[show (z04 prog w).w.params.followText "set-order"=true from bq];dsimp only;rw[if_pos rfl,if_neg (by simp)];refine z01 (z01 (z2E gz dz f.fits (z01 (show z02 _ B z5K _ E2 z from z01 (z3Y (z05 ?_))))));rw[show (z04 prog w).w.params.followText "set-order"=true from bq];dsimp only;rw[if_pos rfl];exact z01 (z3Y (z05 (z05 y2)))
    by_cases hi:i<es.size
    · have hz:i<(z2Y (w.params.setOrder q ep) es).size:=by omega
      refine .inl ⟨(z2Y (w.params.setOrder q ep) es)[i].2,?_,hi,λ B E2 R y2=>run B E2 R ?_⟩
      · rw[eV,z0o]
        simp[hz]
      · rw[z5q hz]
        exact y2
    · refine .inr ⟨by omega,λ B E2 R y2=>run B E2 R ?_⟩
      rw[z72 (by omega)];exact y2
  | false=>
    have hled:t.led=true:=f.led bq;refine z01 (z05 (fin _ λ h' eh it sa=>?_));subst eh;refine⟨qs,[s.heap.objs.size,q],(λ i h=>ItX h s.heap.objs.size q (.int (((λ i=>if i=0 then 0 else t.place.getD (i-1) 0+1:Nat->Nat) i:Nat):Int) 0) i es.size ep/\K5 h q es ep t),z4F _,z07 _,foot,λ b o z=>z0d _ z,?_,it,sa⟩;have lv:(qs.map λ x=>z0b x.2).length=qs.length:=z06 ..;rw[<-lv];refine jZ (sl:=λ i=>if i=0 then 0 else t.place.getD (i-1) 0+1) (es:=es) (t:=t) (ep:=ep) (z0i lq) f.fits (by rw[lv,hlen]) λ i z hie ⟨oz,gz,_,dz⟩=>?_;have run:∀ (sl:Nat) (B:z0a) (E2:z00->z03->Prop) (R:Option (z00×Nat)->z03->Prop),R (match es[z4H t.place sl]?,t.place[z4H t.place sl]? with | some (_,x),some j=>some (x,j+1) | _,_=>none) z->z02 (z04 prog w) B (z2X q sl i ep) R E2 z:=λ sl B E2 R y2=>by
      unfold z2X;refine z01 (z2E gz dz f.fits ?_);refine z01 (show z02 _ B z5K _ E2 z from z01 (z3Y (z05 ?_)));rw[show (z04 prog w).w.params.followText "set-order"=false from bq];dsimp only;rw[if_neg z0D];split
      · rename_i hd
        have hd':(!t.plain&&decide (es.size > 1))=true:=hd;rw[f.pln] at hd';simp at hd'
      · refine z01 (show z02 _ B (if (!t.led&&!es.isEmpty)=true then z7i "set:maker-not-led" else pure ()) _ E2 z from ?_)
        rw[if_neg (by rw[hled];simp)];exact z05 (z05 y2)
    have eb:=YQ t.place f.rise (i:=i) (by rw[f.len];exact hie)
    by_cases hi:i<es.size
    · have hp:i<t.place.size:=by rw[f.len];exact hi
      refine .inl ⟨es[i].2,?_,hi,λ B E2 R y2=>run _ B E2 R ?_⟩
      · have ev:(qs.map λ x=>z0b x.2)=es.toList.map (·.2):=by rw[f.ent,z0p];rfl
        rw[ev,z0o];simp[hi]
      · rw[eb,z5q hi,z5q hp]
        have:(if i+1=0 then 0 else t.place.getD (i+1-1) 0+1)=t.place[i]+1:=by
          rw[if_neg (by omega),Nat.add_sub_cancel];simp[hp]
        rw[this] at y2;exact y2
    · refine .inr ⟨by omega,λ B E2 R y2=>run _ B E2 R ?_⟩
      rw[eb,z72 (by omega)];exact y2
end
section
variable {A:z0a}{I T:Addr}
theorem SetQ.ty {qs:List .(38)}(x:SetQ w s.heap q qs):s.TypeIs (.ref q) "set":=let ⟨_,_,⟨o,_,g,ex,_⟩,_⟩:=x;⟨o,g,ex.1⟩
theorem VP {ks:List .(38)}{Q:List z00->z03->Prop}(hh:A.handled=none) (x:SetQ w s.heap q ks) (hz:ks.length<=4000)
  (k:∀ (L:List .(38)) (h':Heap) (tk:Nat),L.Perm ks->s.heap.objs.size<=h'.objs.size->.(2)->Q (L.map λ x=>z0b x.2) { s with heap:=h',toks:=tk }) :
  z02 (z04 prog w) A (z3u (.ref q)) Q E s:=by
 obtain⟨lq⟩:Nonempty (q<s.heap.objs.size):=let ⟨_,_,⟨_,_,g,_⟩,_⟩:=x;⟨z0f g⟩;unfold z3u;refine z01 (z5H (z1A z7p (show z02 _ _ (do again (.builtin "list.__iadd__" ⟨[<-newList [],.ref q],[]⟩)) _ _ s from ?_)));refine z01 (z3_ (z05 ⟨z79 _ .(34),z1A z7q (show z02 _ _ (z4I .(5) (.ref q) .(5)) _ _ _ from ?_)⟩));have x1:SetQ w (s.heap.push { cls:=.type "list",data:=.seq ([]:List z00).toArray }) q ks:=x.keep λ o g=>z0d _ g;unfold z4I;refine z01 (z4k (T:="set") (SetQ.ty (s:={ s with heap:=s.heap.push { cls:=.type "list",data:=.seq ([]:List z00).toArray } }) x1) ?_);have nr:z9v .(5) (.ref q)=false:=by simp[z9v,z2H lq]
 rw[if_neg (by rw[nr];decide)];refine z01 (cG (s:={ s with heap:=s.heap.push { cls:=.type "list",data:=.seq ([]:List z00).toArray } }) x1 λ I h' ⟨L,fp,Sx,hL,leI,hfp,kp,W,st⟩=>?_);have x2:SetQ w h' q ks:=x1.keep λ o g=>kp q o g;refine z01 (wpAny_holding (jY (s:={ s with heap:=h' }) (SetQ.ty (s:={ s with heap:=h' }) x2) ?_));have gS:h'.get? s.heap.objs.size=some { cls:=.type "list",dict:=none,data:=.seq #[] 0,slots:=#[] }:=kp _ _ (z0l _ rfl);have szL:(s.heap.push { cls:=.type "list",data:=.seq ([]:List z00).toArray }).objs.size=s.heap.objs.size+1:=z1w _ _;have nS:s.heap.objs.size∉fp:=λ m=>by
  rcases hfp _ m with z | z
  ·exact absurd z (z2H lq)
  ·have z':(s.heap.push { cls:=.type "list",data:=.seq ([]:List z00).toArray }).objs.size<=s.heap.objs.size:=z;rw[szL] at z';exact absurd z' (Nat.not_succ_le_self _)
 have leI':s.heap.objs.size+1<=I:=by rw[<-szL];exact leI
 rw[if_pos .(34)];refine z01 (z33 (z01 (show z02 _ _ (z3T s.heap.objs.size (·.push .none) >>= λ _=>z3T s.heap.objs.size (·.pop)) _ _ _ from z01 (z2S gS rfl ?_))));have g1:=z1F (z1Y (·.push z15)) gS rfl;refine z2S (hz:=by seq_fits) g1 rfl ?_;have g2:=z1F (z1Y (·.pop)) g1 rfl;have oth:∀ b o,b≠s.heap.objs.size->h'.get? b=some o->((h'.update s.heap.objs.size (z1Y (·.push z15))).update s.heap.objs.size (z1Y (·.pop))).get? b=some o:=λ b o nb g=>(z13 _ _ (z0n nb)).trans ((z13 _ _ (z0n nb)).trans g);have st2:=(W A hh).frame 0 _ _ st λ b m o g=>oth b o (λ z=>nS (z▸m)) g;refine z05 ⟨z1_ PySem.F.plain_extend_loop _,codeAny_extend_loopS (W _ (by simp[hh])).toS (z0E (by rw[hL.length_eq];exact hz) (by decide)) s.heap.objs.size nS _ L.length 0 { s with heap:=(h'.update s.heap.objs.size (z1Y (·.push z15))).update s.heap.objs.size (z1Y (·.pop)) } #[] _ rfl (z18 _) st2 g2 (ItemsOf.nil _) λ s' acc c' hm gS' ha=>?_⟩;rw[Moved.eq_with hm];show z02 _ A (load s.heap.objs.size >>= _) _ _ _;have ev:acc.toList=L.map λ x=>z0b x.2:=by
  apply z8x;intro i;have hl:acc.toList.length=L.length:=by rw[z0_];exact ha.1
  by_cases c:i<L.length
  ·have ga:acc.toList[i]?=some (acc.toList[i]'(by omega)):=z0C (by omega);rw[ga];exact (ha.2 i _ (by rw[<-z7g];exact ga)).symm
  ·rw[z2Q (by omega),z2Q (by rw[z06];omega)]
 refine z01 (z4a gS' (z05 (ev▸k L s'.heap s'.toks hL (z3F (z0f gS')) λ b o g=>?_)));have lb:b<s.heap.objs.size:=z0f g;refine hm.heap b o (λ m=>?_) (oth b o (z0i lb) (kp b o (z0d _ g)))
 rcases z0j.mp m with z | z
 ·exact absurd z (z0i lb)
 ·exact absurd (z2c.mp z) (z0i (z0X lb (Nat.le_of_succ_le leI')))
theorem Wu {qs:List .(38)}(hh:A.handled=none) (x:SetQ w s.heap q qs) (isp:∀ x∈qs,IsP prog w s.heap x.1 x.2) (nd:(qs.map (·.1)).Nodup)
  (k:∀ (L:List .(38)) (e:Nat) (l:Addr) (h':Heap) (tk:Nat),L.Perm qs->(L.map λ x=>cod x.1).Pairwise (·<·)->h'.get? l=some (z2Z "list" (L.map λ x=>z0b x.2).toArray e)->s.heap.objs.size<=l->.(2)->Q (.ref l) { s with heap:=h',toks:=tk }) :
  z02 (z04 prog w) A (call (.builtin "sorted") [.ref q]) Q E s:=by
 have sz:qs.length<=18:=let ⟨_,_,_,f⟩:=x;f.sz;refine z7r z7s z7t z7u (z7v _) ?_;unfold z1e.«sorted»;refine z01 (m:=z7w "sorted" 1 1 _) (z05 (z01 (VP (A:=A.in1) hh x (by omega) λ L h1 tk hL le kp=>?_)));have hlen:(L.map λ x=>z0b x.2).length<=60:=by rw[z06,hL.length_eq];omega
 refine z01 (z3_ ?_ (z0E hlen (by decide)));have gl:(h1.push { cls:=.type "list",data:=.seq (L.map λ x=>z0b x.2).toArray }).get? h1.objs.size=some (z2Z "list" (L.map λ x=>z0b x.2).toArray 0):=z0l _ rfl;refine z01 (wpAny_holding (z1k z7x ⟨_,gl,rfl⟩ z7y (R7 gl (λ x hx=>(isp x (hL.mem_iff.mp hx)).keep λ o g=>z0d _ (kp _ o g)) ((hL.map (·.1)).nodup_iff.mpr nd) (by rw[hL.length_eq];omega) λ L2 p2 s2=>⟨_,rfl,?_⟩) (z7z _)));obtain⟨c,hc⟩:=z7A (out:=(L2.map λ x=>z0b x.2).toArray) gl;refine z05 ⟨_,rfl,k L2 c _ _ tk (p2.trans hL) s2 hc le λ b o g=>?_⟩;have lb:=z0f (kp b o g);rw[z7B (z0i lb) (by rw[z1w];exact z2n lb)];exact z0d _ (kp b o g)
end
end PV
namespace PV
open PySem PySem.Spec
theorem Ob:∀ {r:List Str}{p:Str},z9w p r=true->(p::r).Nodup->Up (p::r)
 | [],p,_,_=>by simp[Up]
 | x::r,p,h,nd=>by
  unfold z9w at h;rw[z0U] at h;obtain⟨h1,h2⟩:=h;obtain⟨n1,n2⟩:=z2l.mp nd;have u:=Ob h2 n2;have lt:ltS p x=true:=Zy (by unfold ltS;simpa [PyProof.Rows.ltCps_eq] using h1) (λ e=>n1 (by rw[<-e];exact z0L));refine z22.mpr ⟨λ y m=>?_,u⟩
  rcases z0j.mp m with e | m
  ·rw[e];exact lt
  ·exact QB lt ((z22.mp u).1 y m)
theorem VR {l:List Str}(h:PyProof.Rows.sortedS l=true) (nd:l.Nodup):Up l:=by
 cases l with
 | nil=>exact z5t
 | cons p r=>exact Ob h nd
section
variable {A:z0a}
end
open L2
section
variable {a:Expr}{fa:FE}
theorem T_:∀ {xs:List Str}{us:List z00},z5L us xs->Vals (xs.map V.str) us
 | _,_,.nil=>.nil
 | _,_,.cons _ u r=>.cons ⟨u,rfl⟩ (T_ r)
theorem jb {zs:List Str}(r:RepL G H xs ds) (h:Mg ds=some zs):xs=zs.map V.str:=WW r h
end
end PV
namespace PV
open PySem L2
end PV
namespace PV
open PySem PySem.Spec L2
open PyProof.Rows hiding St
section
variable {a b c:Expr}{fa fb fc:FE}{px:Pos}
end
section
variable {a b c:Expr}{fa fb fc:FE}{es:List Expr}{fs:FA}
theorem vr (i:Nat) {x:Str}(hN:X.N[i]?=some x:=by rfl) (hv:Vis X.env.scope x:=by first | exact z0K rfl | exact z0v (z0K rfl) | exact z0v (z0v rfl)) (hd:.(3)=false:=by decide) (hcd:.(27)=false:=by decide):PF X G (.Name x pos) (vF i):=ut i (pv i hN hv hd hcd)
theorem vp (i:Nat) {x:Str}(hN:X.N[i]?=some x:=by rfl) (hv:Vis X.env.scope x:=by first | exact z0K rfl | exact z0v (z0K rfl) | exact z0v (z0v rfl)) (hd:.(3)=false:=by decide) (hcd:.(27)=false:=by decide):PU X G (.Name x pos) (vF i):=PF.pu (vr i hN hv hd hcd)
theorem vq (i:Nat) {x:Str}(hN:X.N[i]?=some x:=by rfl) (hv:Vis X.env.scope x:=by first | exact z0K rfl | exact z0v (z0K rfl) | exact z0v (z0v rfl)) (hd:.(3)=false:=by decide) (hcd:.(27)=false:=by decide):PU X G (.Name x pos) (vU i):=uv i (pv i hN hv hd hcd)
theorem pU {f:FE}(h:PF X G e f):PU X G e f:=PF.pu h
theorem iP {i j}:PU X G (.Constant (.int i) j pos) (kF (.int i)):=PF.pu PQ
theorem iX {k:Nat}(hr:Room k X.A) (ha:PU X G a fa) (hb:PU X G b fb) (hG:G.K=X.K:=by rfl) (hs:Nh b:=by exact λ _ _=>rfl):PF X G (.Subscript a b pos) (bF ixE fa fb):=vK (Hg hr) hG ha hb hs
theorem iD (ha:PU X G a fa) (hb:PU X G b fb) (hG:G.K=X.K:=by rfl) (hs:Nh b:=by exact λ _ _=>rfl):PF X G (.Subscript a b pos) (bF ixD fa fb):=xX hG ha hb hs
theorem bAdd (ha:PU X G a fa) (hb:PU X G b fb) (hG:G.K=X.K:=by rfl):PF X G (.BinOp a .Add b pos) (bF addD fa fb):=Gp oE (by rw[<-hG];exact oF) ha hb
theorem bSub (ha:PU X G a fa) (hb:PU X G b fb):PF X G (.BinOp a .Sub b pos) (bF subD fa fb):=Gp ue nu ha hb
theorem bMul (ha:PU X G a fa) (hb:PU X G b fb):PF X G (.BinOp a .Mult b pos) (bF mulD fa fb):=Gp n6 n8 ha hb
theorem bDiv (ha:PU X G a fa) (hb:PU X G b fb):PF X G (.BinOp a .FloorDiv b pos) (bF Hv fa fb):=Gp m9 fH ha hb
theorem bMod (ha:PU X G a fa) (hb:PU X G b fb):PF X G (.BinOp a .Mod b pos) (bF modD fa fb):=Gp uf n_ ha hb
theorem cEq {k:Nat}(hr:Room k X.A) (ha:PU X G a fa) (hb:PU X G b fb) (hG:G.K=X.K:=by rfl):PF X G (.Compare a [.Eq] [b] pos) (bF (eqD false) fa fb):=Ur (fQ hG hr.unitsW) (Xy false) ha hb (Kl _)
theorem tEq {k:Nat}(hr:Room k X.A) (ha:PU X G a fa) (hb:PU X G b fb) (hG:G.K=X.K:=by rfl):PFT X G (.Compare a [.Eq] [b] pos) (blF (bF (eqD false) fa fb)):=Hw (fQ hG hr.unitsW) (Xy false) ha hb (Kl _)
theorem tNe {k:Nat}(hr:Room k X.A) (ha:PU X G a fa) (hb:PU X G b fb) (hG:G.K=X.K:=by rfl):PFT X G (.Compare a [.NotEq] [b] pos) (blF (bF (eqD true) fa fb)):=Hw (vD hG hr.unitsW) (Xy true) ha hb (Kl _)
theorem cIn {k:Nat}(hr:Room k X.A) (ha:PU X G a fa) (hb:PU X G b fb) (hG:G.K=X.K:=by rfl) (hm:z0Z .In b=false:=by with_unfolding_all rfl):PF X G (.Compare a [.In] [b] pos) (bF (inF false) fa fb):=Ur ((fO.or (X4 (Hg hr))).or (gM hG hr.units)) (by rw[<-hG];exact U5 false) ha hb hm
theorem tIn {k:Nat}(hr:Room k X.A) (ha:PU X G a fa) (hb:PU X G b fb) (hG:G.K=X.K:=by rfl) (hm:z0Z .In b=false:=by with_unfolding_all rfl):PFT X G (.Compare a [.In] [b] pos) (blF (bF (inF false) fa fb)):=Hw ((fO.or (X4 (Hg hr))).or (gM hG hr.units)) (by rw[<-hG];exact U5 false) ha hb hm
theorem tNi {k:Nat}(hr:Room k X.A) (ha:PU X G a fa) (hb:PU X G b fb) (hG:G.K=X.K:=by rfl) (hm:z0Z .NotIn b=false:=by with_unfolding_all rfl):PFT X G (.Compare a [.NotIn] [b] pos) (blF (bF (inF true) fa fb)):=Hw ((bV.or (bw (Hg hr))).or (cB hG hr.units)) (by rw[<-hG];exact U5 true) ha hb hm
theorem tLt (ha:PU X G a fa) (hb:PU X G b fb):PFT X G (.Compare a [.Lt] [b] pos) (blF (bF ltD fa fb)):=Hw rQ fJ ha hb (Kl _)
theorem tGt (ha:PU X G a fa) (hb:PU X G b fb):PFT X G (.Compare a [.Gt] [b] pos) (blF (bF gtD fa fb)):=Hw xM uy ha hb (Kl _)
theorem tGe (ha:PU X G a fa) (hb:PU X G b fb):PFT X G (.Compare a [.GtE] [b] pos) (blF (bF geD fa fb)):=Hw xN uz ha hb (Kl _)
theorem sF (hN:X.N.Nodup) (i:Nat) {x:Str}{p:Pos}(ha:PF X G a fa) (hi:X.N[i]?=some x:=by rfl) (hx:Loc X.env.scope x:=by first | exact z0K rfl | exact z0v rfl) (hs:z1o a (some (.Name x p)) pos.line X.env=pure false:=by rfl)
  (hf:X.fn x=true∨X.env.scope.names.lookup x=some .local :=by first | exact .inl rfl | exact .inr rfl | assumption):PSD X G (.Assign [.Name x p] a pos) (setF i fa):=oO (λ _ h=>dM hN hi hx h hs hf) ha
theorem sW (hN:X.N.Nodup) (i:Nat) {x:Str}{p:Pos}(ha:PN X G a fa) (hi:X.N[i]?=some x:=by rfl) (hx:Loc X.env.scope x:=by first | exact z0K rfl | exact z0v rfl) (hs:z1o a (some (.Name x p)) pos.line X.env=pure false:=by rfl)
  (hf:X.fn x=true∨X.env.scope.names.lookup x=some .local :=by first | exact .inl rfl | exact .inr rfl | assumption) (hi0:i≠0:=by decide):PSD X G (.Assign [.Name x p] a pos) (setW i fa):=gC (λ _ h=>dM hN hi hx h hs hf) ha hi0
theorem gN (hN:X.N.Nodup) (i:Nat) {x:Str}(hi:X.N[i]?=some x:=by rfl) (hx:Loc X.env.scope x:=by first | exact z0K rfl | exact z0v rfl) (hf:X.fn x=true∨X.env.scope.names.lookup x=some .local :=by first | exact .inl rfl | exact .inr rfl | assumption):PG X (.Name x pos) (Hd i):=Qu hN hi hx hf
theorem cO {t:Str}(hN:X.N=N) (hs:X.env.scope=sc) (h:ZG N sc scope t=true:=by decide +kernel):RX X scope t:=bj hN hs h
abbrev nT (N:List Str) (t:Str):List Str:=N++[t]
structure Dx (K:z08) (mg:Str->Option z00) (x:Str) (st:Stmt) (ps:List Str) where
 f:Addr
 fd:z2k
 F:FunD K x x st f fd
 B:Binds K fd ps []
 m:mg x=some (.ref f)
abbrev DOk (P:z0s) (w:z0k) (base:Heap) {K:z08}{mg:Str->Option z00}{x:Str}{st:Stmt}{ps:List Str}(d:Dx K mg x st ps) (k:Nat) (sp:Sp):Prop:=FnOk P w K mg base CX0 k d.f d.fd ps sp
theorem fX {k:Nat}{p:Pos}{d:Dx X.K X.mg x st ps}(F:FnOk X.prog X.w X.K X.mg X.base CX0 k d.f d.fd ps (spD G g)) (hr:Room k' X.A) (ha:PFA X G (a::es) fs) (hle:k<=k':=by omega) (hg:Gl X x:=by rfl) (hdb:.(3)=false:=by decide)
  (he:z09 (a::es) X.env=.(7)::z09 es X.env:=by rfl) (hpl:.(37).any (·.1)=false:=by rfl):PF X G (.Call (.Name x p) (a::es) [] pos) (Am g fs):=xZ F (hr.mono hle) hg d.m d.F.kp d.B ha hdb he hpl
end
section
variable {K:z08}{f:Addr}{dV kV:z00}
theorem fnX {base:Heap}{k:Nat}{b:FS}(d:Dx G.K mg x st ps) (S:FnScope N ps (Ab st))
  (hb:∀ (cdv:z00) (A:z0a) (outer:List Env) (s:z03) (H:Hp) (E:XK),Room k (A.deeper (z1D x (Ab st) s.heap.objs.size d.f cdv))->PSDs (cxOf CX0 P w G.K mg base N x (Ab st) d.f cdv A outer s H E).nox G (Bw st) b) (hl:ps.length<=N.length:=by decide) :
  FnOk P w G.K mg base CX0 (k+1) d.f d.fd ps (spD G (runF N.length ps.length b)):=x_ d.F S hl hb
def dx (X:K.In h) (N:h.Ns z0T mg) (a:z40 K z0T x=some (some (.ref f))) (l:K.lookup f=some ⟨oc,od,.func (z1y x x (Ec st) (Bw st) (Ab st) .none kV doc pm an cdv ct),osl⟩) (c:z2N K cdv x=true) (k:z1K K (.ref f)=true)
  (b:∀ (kV doc pm:z00) (an:Option Addr) (cdv ct:z00) (us:List z00),us.length=ps.length->z4g (z1y x x (Ec st) (Bw st) (Ab st) .none kV doc pm an cdv ct) ⟨us,[]⟩=pure (ps.zip us)):Dx K mg x st ps:=⟨f,_,pH l c k,(RV l c k).binds b,z2_ X N a⟩
structure Ix (K:z08) (C:Addr) (qual:Str) (st:Stmt) (ps:List Str) where
 f:Addr
 fd:z2k
 F:Fun K "__init__" qual st f fd
 B:Binds K fd ps []
 mM:Mk K C f
def ix (X:K.In h) (m:z6e K C=true) (kc:z1K K (.ref C)=true) (a:z17 K (.ref C) "__init__"=some (some (.ref f))) (i:z3L K (.ref f)=true) (l:K.lookup f=some ⟨oc,od,.func (z1y "__init__" qual (Ec st) (Bw st) (Ab st) .none kV doc pm an cdv ct),osl⟩) (c:z2N K cdv qual=true) (k:z1K K (.ref f)=true)
  (b:∀ (kV doc pm:z00) (an:Option Addr) (cdv ct:z00) (us:List z00),us.length=ps.length->z4g (z1y "__init__" qual (Ec st) (Bw st) (Ab st) .none kV doc pm an cdv ct) ⟨us,[]⟩=pure (ps.zip us)):Ix K C qual st ps:=⟨f,_,RV l c k,(RV l c k).binds b,m,a,i,kc⟩
structure Sx (mg:Str->Option z00) (x:Str) (f:Tok->z00) where
 t:Tok
 m:mg x=some (f t)
structure Kx (G:Gx) (mg:Str->Option z00) (x:Str) (c:D) where
 a:Addr
 m:mg x=some (.ref a)
 r:Rep G (λ _=>none) (.ref a) c
def sx {t:Tok}{f:Tok->z00}(X:K.In h) (N:h.Ns z0T mg) (a:z40 K z0T x=some (some (f t))):Sx mg x f:=⟨t,z2_ X N a⟩
def gx1 (K:z08) (cn:Str) (C:Addr):Gx:={ K:=K,cl:=λ c=>if c=cn then some C else none }
theorem cls (X:K.In h) (pg:z4d K C z3M=true) (hd:z57 K C=true) (po:z6c K C=true) (sa:z17 K (.ref C) "__setattr__"=some (some (.builtin "object.__setattr__"))):Cls K C:=⟨pg,hd,po,sa⟩
theorem rtx {cn:Str}{g:Addr}{its:Array z00}{xs:List Str}(X:K.In h) (l:K.lookup g=some ⟨.type "tuple",od,.seq its n,osl⟩) (hz:its.size<=sizeLine) (r:Vals (xs.map V.str) its.toList):Rep (gx1 K cn C) (λ _=>none) (.ref g) (.tup (xs.map .str)):=Tw l hz r
def kx {cn:Str}{g:Addr}{n:Nat}{its:Array z00}{xs:List Str}(X:K.In h) (N:h.Ns z0T mg) (a:z40 K z0T x=some (some (.ref g))) (l:K.lookup g=some ⟨.type "tuple",od,.seq its n,osl⟩) (hz:its.size<=sizeLine) (r:Vals (xs.map V.str) its.toList):Kx (gx1 K cn C) mg x (.tup (xs.map .str)):=⟨g,z2_ X N a,rtx X l hz r⟩
theorem yx {ds:List z00}(X:K.In h) (b:Binds K fd ps ds):Binds K fd ps ds:=b
end
end PV
namespace PV
open PySem L2
def Wv:D->Option D
 | .int i=>if 0<=i/\i<=1000000 then some (.lst (rngD i.toNat)) else none
 | _=>none
theorem Z1 {α:Type}(f:α->Bool):∀ l:List α,blsD (l.map λ x=>.bl (f x))=some (l.map f)
 | []=>rfl
 | x::r=>by rw[z0c,blsD,Z1 f r];rfl
end PV
namespace PV
open PySem PySem.Spec L2
open PyProof.Rows hiding St
section
variable {a:Expr}{fa:FE}{es:List Expr}{fs:FA}
theorem cH:Cv X (.type "range") (λ xs H Q=>∃ i:Int,xs=[.int i]/\∀ l,H l=none->Q (.ref l) (upd H l (.rng 0 i))):=by
 intro π s σ H xs us Q I r h;obtain⟨i,rfl,q⟩:=h;obtain⟨u,rfl,ru⟩:=r.one;obtain⟨t,rfl⟩:=ru;refine call_range_1 ?_;exact⟨.ref s.heap.objs.size,_,I.laid (λ b o e=>z0d _ e) (z07 _) (show BL X.prog X.w _ _ _ (.rng 0 i) from⟨_,_,_,z0l _ rfl⟩),rfl,q _ (I.hok.fresh (z07 _))⟩
theorem Z2:∀ {xs:List V}{us:List z00},us.length=xs.length->(∀ (j:Nat) x u,xs[j]?=some x->us[j]?=some u->RelV x u)->Vals xs us
 | [],us,hl,_=>by
  rw[z4v hl];exact .nil
 | x::r,[],hl,_=>by simp at hl
 | x::r,u::us,hl,h=>.cons (h 0 x u rfl rfl) (Z2 (by simpa using hl) λ j y v a b=>h (j+1) y v (by simpa using a) (by simpa using b))
theorem TX (hc:X.calm=true):Cv X (.type "list") (λ xs H Q=>∃ (p:Addr) (n:Nat),xs=[.ref p]/\H p=some (.rng 0 n)/\n<=1000000/\∀ l,H l=none->Q (.ref l) (upd H l (.lst ((z0e n).map λ (k:Nat)=>V.int k)))):=by
 intro π s σ H xs us Q I r h;obtain⟨p,n,rfl,e,hn,q⟩:=h;obtain⟨u,rfl,ru⟩:=r.one;cases ru;obtain⟨t,u,v,hr⟩:=(show BL X.prog X.w H s.heap p (.rng 0 n) from I.hok p _ e);have rs:z84 0 n 1=(n:Int):=by rw[rangeSize_one];split<;>omega
 refine call_list_range (I.ok.hd hc) hr (small_one (by decide) (by decide) (by omega) (by omega)) rs (by omega) λ h' tk acc c' kp hnew hi=>?_;have va:Vals ((z0e n).map λ (k:Nat)=>V.int k) acc.toList:=by
  refine Z2 (by simp[hi.1]) λ j x u hx hu=>?_;obtain⟨tk,rfl⟩:=hi.2 j u (by simpa using hu);have hj:j<n:=by
   have:=(z1s.mp hu).1;rw[z0_,hi.1] at this;exact this
  rw[z0o,z4B hj] at hx;cases hx;exact⟨tk,by simp⟩
 exact⟨.ref s.heap.objs.size,_,I.laid (t':=tk) kp (z07 _) (show BL X.prog X.w _ h' _ (.lst _) from⟨by rw[z06,z2B];exact z0E hn (by decide),acc.toList,c',va,by simpa using hnew⟩),rfl,q _ (I.hok.fresh (z07 _))⟩
theorem jc:z0x "range"=some (.type "range"):=by decide +kernel
theorem qD {p q:Pos}(hg:Gl X "list") (hm:X.mg "list"=none) (hg2:Gl X "range") (hm2:X.mg "range"=none) (ha:PU X G a fa) (hc:X.calm=true:=by rfl) (he:z09 [a] X.env=[.(7)]:=by rfl)
  (he2:z09 [.Call (.Name "range" q) [a] [] pos2] X.env=[(false,eval (.Call (.Name "range" q) [a] [] pos2) X.env)]:=by rfl) :
  PN X G (.Call (.Name "list" p) [.Call (.Name "range" q) [a] [] pos2] [] pos) (uF Wv fa):=λ A=>Bu (Gm (TX hc) hg hm Nv (Bo (Gm cH hg2 hm2 jc (Bo (@ha A) Cw he) (by decide) (by decide) he rfl) Cw he2) (by decide) (by decide) he2 rfl) λ σ H Q ⟨ρ,d,o,e,k⟩=>by
 obtain⟨dx,e1,e2⟩:=Gw e;refine⟨ρ,dx,o,e1,λ v H1 s1 r1=>?_⟩;unfold Wv at e2;split at e2
 ·rename_i i;split at e2
  ·rename_i hi;cases e2;rw[r1.int];refine⟨i,rfl,λ l hl=>⟨l,i.toNat,rfl,by rw[Aj,z7f hi.1],by omega,λ m hm2=>?_⟩⟩;have o1:=(o.mono s1);have n1:l≠m:=λ z=>by rw[<-z,Aj] at hm2;cases hm2
   have hm1:H1 m=none:=by rw[Ak (z0n n1)] at hm2;exact hm2
   refine k m _ (s1.trans ((Al hl _).trans (Al hm2 _))) (s1.free hm1) ⟨(z0e i.toNat).map λ (k:Nat)=>V.int k,Aj,by simp[rngD],λ j x d h1 h2=>?_⟩;unfold rngD at h2;rw[z0o] at h1 h2;cases q:(z0e i.toNat)[j]? with
   | none=>rw[q] at h1;cases h1
   | some z=>rw[q] at h1 h2;cases h1;cases h2;exact .int z
  ·cases e2
 ·cases e2
theorem qF {p q:Pos}(hg:Gl X "list") (hm:X.mg "list"=none) (hg2:Gl X "range") (hm2:X.mg "range"=none) (ha:PU X G a fa) (hc:X.calm=true:=by rfl) (he:z09 [a] X.env=[.(7)]:=by rfl)
  (he2:z09 [.Call (.Name "range" q) [a] [] pos2] X.env=[(false,eval (.Call (.Name "range" q) [a] [] pos2) X.env)]:=by rfl) :
  PF X G (.Call (.Name "list" p) [.Call (.Name "range" q) [a] [] pos2] [] pos) (uF Wv fa):=PN.pf (qD hg hm hg2 hm2 ha hc he he2)
end
end PV
namespace PV
open PySem L2
end PV
namespace PV
open PySem PySem.Spec L2
open PyProof.Rows hiding St
section
variable {a b c:Expr}{fa fb fc:FE}
end
end PV
namespace PV
open PySem PySem.Spec
section
variable {A:z0a}{T:String}{r d:Addr}{P:Nat->z00->Prop}{OK:Heap->Prop}
theorem Ww {R:List z00->z03->Prop}(K:z8P prog w T r d n P OK) (hh:A.handled=none) (hok:OK s.heap) (hn:n<=sizeLine)
  (h:∀ (h':Heap) (tk:Nat) (acc:Array z00),.(2)->s.heap.objs.size<=h'.objs.size->ItemsOf P acc n->R acc.toList { s with heap:=h',toks:=tk }) :
  z02 (z04 prog w) A (z3u (.ref r)) R E s:=by
 obtain⟨hr,hd⟩:=K.there _ hok;have gS:(s.heap.push { cls:=.type "list",data:=.seq ([]:List z00).toArray }).get? s.heap.objs.size=some { cls:=.type "list",data:=.seq #[] }:=z0l _ rfl;unfold z3u;refine z01 (z5H (z1A z7p ?_));rw[z2o PySem.F.plain_proto_collect _];show z02 _ A.in1 (newList [] >>= λ l=>again (.builtin "list.__iadd__" ⟨[l,.ref r],[]⟩)) _ _ s;refine z01 (z1P (z05 ⟨z1_ z9x _,z1A z7q ?_⟩));rw[z2o z9x _];show z02 _ A.in1 (z4I .(5) (.ref r) .(5)) _ _ _;have key:=PySem.W.kdl_extend (A:=A) (s:={ s with heap:=s.heap.push { cls:=.type "list",data:=.seq ([]:List z00).toArray } }) K
  (R:=λ q s'=>∃ (h':Heap) (tk:Nat) (acc':Array z00) (c':Nat),q=.ok (.ret .(5))/\s'={ s with heap:=h',toks:=tk }/\.(2)/\h'.get? s.heap.objs.size=some { cls:=.type "list",dict:=none,data:=.seq acc' c',slots:=#[] }/\ItemsOf P acc' n)
  hh (K.keep _ _ hok λ b _ o e=>z0d _ e) s.heap.objs.size (z2H hr) (z2H hd) .(5) 0 gS
  (λ h' tk acc' c' hk hS' hi=>⟨h',tk,acc',c',rfl,rfl,λ b o e=>hk b o (z0i (z0f e)) (z0d _ e),hS',hi⟩) hn
 refine z1t key (λ fin s' x=>?_) λ e s' x=>?_
 ·cases fin with
  | done f=>
   obtain⟨h',tk,acc',c',e,rfl,hk,hS',hi⟩:=x;cases e;show z02 _ A (load s.heap.objs.size >>= _) _ _ _;exact z01 (z4a hS' (z05 (h h' tk acc' hk (z3F (z0f hS')) hi)))
  | again c=>
   refine⟨x.1,z2J x.2 λ r2 s2 y=>?_⟩;obtain⟨h',tk,acc',c',e,rfl,hk,hS',hi⟩:=y;cases e;show z02 _ A (load s.heap.objs.size >>= _) _ _ _;exact z01 (z4a hS' (z05 (h h' tk acc' hk (z3F (z0f hS')) hi)))
 ·obtain⟨h',tk,acc',c',e,_⟩:=x;cases e
end
section
variable {A:z0a}
theorem cI {ks:List Str}{v:z00}(nd:ks.Nodup) (h60:ks.length<=60)
  (hc:∀ (R:List z00->z03->Prop) (E':z00->z03->Prop),(∀ (vs:List z00) (h':Heap) (tk:Nat),z5L vs ks->s.heap.objs.size<=h'.objs.size->.(2)->R vs { s with heap:=h',toks:=tk })->z02 (z04 prog w) A.in1 (z3u v) R E' s)
  (k:∀ (its:List z00) (e:Nat) (l:Addr) (h':Heap) (tk:Nat),z5L its (Ft ks)->h'.get? l=some (z2Z "list" its.toArray e)->s.heap.objs.size<=l->.(2)->Q (.ref l) { s with heap:=h',toks:=tk }) :
  z02 (z04 prog w) A (call (.builtin "sorted") [v]) Q E s:=by
 refine z7r z7s z7t z7u (z7v _) ?_;unfold z1e.«sorted»;refine z01 (m:=z7w "sorted" 1 1 _) (z05 (z01 (hc _ _ λ vs h1 tk hS le kp=>?_)));have hlen:vs.length<=60:=by rw[hS.length];exact h60
 refine z01 (z3_ ?_ (z0E hlen (by decide)));have gl:(h1.push { cls:=.type "list",data:=.seq vs.toArray }).get? h1.objs.size=some (z2Z "list" vs.toArray 0):=z0l _ rfl;refine z01 (wpAny_holding (z1k z7x ⟨_,gl,rfl⟩ z7y (PyProof.Rows.list_sort_treeK PyProof.Rows.strKind_oneLt gl hS.keysOf (λ a b r e=>PyProof.Rows.keyKind_strs (by rw[<-e];exact hS)) (by omega) λ st a1 a2=>⟨_,rfl,?_⟩) (z7z _)));obtain⟨ss,o1,o2,o3⟩:=PyProof.Rows.sorted_out_str hS a1 a2;have e:ss=Ft ks:=YM (VR o3 (o2.nodup_iff.mpr nd)) (Oa ks) λ y=>by rw[Lz,o2.mem_iff]
 subst e;obtain⟨c,hc⟩:∃ c,(PyProof.Rows.sortedHeap (h1.push { cls:=.type "list",data:=.seq vs.toArray }) h1.objs.size vs ((z7C st).map (·.2))).get? h1.objs.size=some (z2Z "list" ((z7C st).map (·.2)).toList.toArray c):=by
  obtain⟨c,hc⟩:=z7A (out:=(z7C st).map (·.2)) gl;exact⟨c,by rw[hc,Array.toArray_toList]⟩
 refine z05 ⟨_,rfl,k _ c _ _ tk o1 hc le λ b o g=>?_⟩;have lb:=z0f (kp b o g);rw[z7B (z0i lb) (by rw[z1w];exact z2n lb)];exact z0d _ (kp b o g)
end
open L2
section
variable {a:Expr}{fa:FE}{p:Pos}
theorem Oc:∀ {zs:List Str}{us:List z00},Vals (zs.map V.str) us->z5L us zs
 | [],_,.nil=>.nil
 | _::_,_,.cons r t=>by obtain⟨u,rfl⟩:=r;exact .cons _ _ (Oc t)
theorem Mi (hc:X.calm=true):Cv X (.builtin "sorted") (λ xs H Q=>∃ p kvs zs,xs=[.ref p]/\Rd H p (.dK kvs)/\kvs.map (λ q=>kV q.1)=zs.map V.str/\zs.Nodup/\zs.length<=60/\∀ l,H l=none->Q (.ref l) (upd H l (.lst ((Ft zs).map V.str)))):=by
 intro π s σ H xs us Q I r h;obtain⟨p,kvs,zs,rfl,e,ez,nd,hz,k⟩:=h;obtain⟨u,rfl,ru⟩:=r.one;cases ru;obtain⟨z,hd,vs,rel,dd⟩:=Nm I.hok e;obtain⟨ep,dd⟩:=dd.dictAt;have hl:kvs.length=vs.length:=rel.length;refine cI (ks:=zs) nd hz (λ R E' hR=>Ww (z8K (knd:=Ao X.prog X.w) (kvs:=vs) (ep:=ep) hd) (I.ok.hd hc) dd (by omega) λ h' tk acc kp le hi=>hR _ h' tk ?_ le kp) λ its e2 l h' tk hS g le kp=>?_
 ·have va:Vals (kvs.map λ q=>kV q.1) acc.toList:=by
   refine U3 (P:=X.prog) (w:=X.w) (by simp[hi.1,hl]) λ j u hu=>?_;obtain⟨k,x,h1,h2⟩:=hi.2 j u (by simpa using hu);have hj:j<kvs.length:=by rw[hl];exact (z1s.mp h1).1
   refine⟨kvs[j],by simp[hj],?_⟩;rw[(Ls rel (by simp[hj]) h1).1];exact h2
  rw[ez] at va;exact Oc va
 ·have hv:=T_ hS;refine⟨.ref l,_,I.laid (a:=l) (o:=.lst ((Ft zs).map V.str)) (t':=tk) kp le ⟨?_,its,e2,hv,g⟩,rfl,k l (I.hok.fresh le)⟩;rw[z06];have:=sub_len (jV (Oa zs)) (m:=zs) λ y m=>(Lz y zs).mp m;exact z0E this (z0E hz (by decide))
def sdkL (kds:List (Key×D)):Option D:=(Mg (kds.map λ p=>kDt p.1)).bind λ zs=>if zs.Nodup/\zs.length<=60 then some (.lst ((Ft zs).map .str)) else none
def sdkD:D->Option D
 | .dk kds=>sdkL kds
 | _=>none
theorem Z3:SndC G (λ xs H Q=>∃ p kvs zs,xs=[.ref p]/\Rd H p (.dK kvs)/\kvs.map (λ q=>kV q.1)=zs.map V.str/\zs.Nodup/\zs.length<=60/\∀ l,H l=none->Q (.ref l) (upd H l (.lst ((Ft zs).map V.str)))) sdkD:=by
 intro A H x dx d Q lv r e k;cases dx with
 | dk kds=>
  have e:sdkL kds=some d:=e;obtain⟨p,kvs,rfl,h1,h2,h3⟩:=r.dk;unfold sdkL at e;cases ez:Mg (kds.map λ p=>kDt p.1) with
  | none=>rw[ez] at e;cases e
  | some zs=>
   rw[ez] at e;have e':(if zs.Nodup/\zs.length<=60 then some (D.lst ((Ft zs).map .str)) else none)=some d:=e;split at e'
   ·rename_i hz;cases e';refine⟨p,kvs,zs,rfl,h1,jb (G:=G) (H:=hid A H) (gJ h2) ez,hz.1,hz.2,λ l hl=>k _ _ (Al hl _) (DY lv hl ⟨by simp,λ i v d h1 h2=>?_⟩)⟩;rw[z0o] at h1 h2;cases q:(Ft zs)[i]? with
    | none=>rw[q] at h1;cases h1
    | some z=>rw[q] at h1 h2;cases h1;cases h2;exact .str z
   ·cases e'
 | _=>cases e
end
end PV
namespace PV
open PySem PySem.Spec L2 EX
open PyProof.Rows hiding St
def CX1 (P:z0s) (w:z0k):CXT:=λ outer H s E v s'=>∃ (e:Addr) (H':Hp),v=.ref e/\s'.os=s.os/\z2i s'.gens/\Un (frs outer) [] H H' s.heap s'.heap/\HOk P w H' s'.heap/\E v none H'
structure Exc (G:Gx) (He H:Hp) (e:Addr) (tb:Option Addr) (c:Str) (gs:List (Str×D)):Prop where
 ex:∃ C od fs,G.xcl c=some C/\H e=some (excO e C od tb)/\XdA H od fs/\FsV fs gs/\∀ dx,od=some dx->He dx=none
 same:Same He H
 new:He e=none
 tbk:∀ T,tb=some T->H T=some (tbO T .none)/\He T=none
section
variable {e:Addr}{tb:Option Addr}{gs:List (Str×D)}
end
def Rz (X:Cx) (G:Gx) (A0:List Addr) (He:Hp) (c:Str) (gs:List (Str×D)) (ρ:Rho):Prop:=∀ π σ H1 H s e tb,Inv X π σ H s->OkS G A0 He σ H1 ρ->Exc G H1 H e tb c gs->X.xe (.ref e) s
def excOf:D->Option (Str×List (Str×D))
 | .exc c gs=>some (c,gs)
 | _=>none
def RzO (X:Cx) (G:Gx) (A0:List Addr) (He:Hp) (d:D) (ρ:Rho):Prop:=∀ c gs,excOf d=some (c,gs)->Rz X G A0 He c gs ρ
def tFZ (X:Cx) (G:Gx) (A0:List Addr) (He:Hp) (f:FE):TE:=λ σ H Q=>∃ ρ d A,OkW G A0 He A σ H ρ/\f ρ=some d/\(∀ v H',Same H H'->Rep G (hid A H') v d->Q v H')/\RzO X G A0 He d ρ
def PFZ (X:Cx) (G:Gx) (e:Expr) (f:FE):Prop:=∀ ⦃A0⦄ He,PE X e (tFZ X G A0 He f)
section
variable {a b c:Expr}{fa fb fc:FE}{rest:List Stmt}{g gs gb:FS}
end
def jd (X:Cx) (σ:St):XK:=λ v _ H'=>∀ π s',Inv X π σ H' s'->X.xe v s'
def XW (G:Gx) (He:Hp) (d:D) (E:XK):Prop:=∀ c gs,excOf d=some (c,gs)->∀ e T H',Exc G He H' e (some T) c gs->E (.ref e) none H'
def spZ (G:Gx) (g:List D->Option D):Sp:=λ vs H Q E=>∃ A ds d,(∀ a∈A,Nt (H a))/\RepL G (hid A H) vs ds/\g ds=some d/\(∀ v H',Same H H'->Rep G (hid A H') v d->Q v H')/\XW G H d E
section
variable {k:Nat}{f:Addr}{sp:Sp}{p:Pos}{o:Expr}{es:List Expr}{ta:TE}{t:TA}
theorem qG {Q:VK}{vs:List V}(F:FnOk X.prog X.w X.K X.mg X.base (CX1 X.prog X.w) k f fd ps sp) (hr:Room k X.A) (hb:Binds X.K fd ps [])
  (I:Inv X π σ H s) (r:Vals vs us) (h:sp vs H Q (jd X σ)):z02 .(0) X.A (call (.ref f) us) (EP X π σ Q) X.xe s:=by
 have hl:us.length=ps.length:=by rw[<-r.length];exact F.len _ _ _ _ h
 have hb':=hb s us I.kIn (by rw[z1d];exact hl);rw[z1d] at hb';refine z59 (z2J (F.run X.A X.stack s H ⟨us,[]⟩ us vs Q _ hr I.env0 hb' r h) λ r s' hq=>?_);cases r with
 | error v=>
  obtain⟨e,H',rfl,q1,q2,q3,q4,q5⟩:=hq;exact q5 π s' (I.call' q1 q3 q4 q2 λ _ z=>nomatch z)
 | ok fl=>
  cases fl with
  | ret u=>exact I.after hq
  | next=>exact z1n hq
  | brk=>exact z1n hq
  | cont=>exact z1n hq
def vo (X:Cx) (C:Addr) (m:Str) (sp:Sp) (ta:TE) (t:TA):TE:=λ σ H Q=>ta σ H λ x H1=>∃ a dx fs,x=.ref a/\H1 a=some (.ins C dx fs)/\fs.lookup m=none/\t σ H1 λ vs H2=>sp (x::vs) H2 Q (jd X σ)
theorem je {pl:Sem Bool}(he:PE X o ta) (c:Cls X.K C) (hm:Meth X.K C m f) (F:FnOk X.prog X.w X.K X.mg X.base (CX1 X.prog X.w) k f fd ps sp) (hr:Room k X.A) (hb:Binds X.K fd ps []) (ha:PA X (e::es) t)
  (hst:z09 (e::es) X.env=(false,eval e X.env)::z09 es X.env:=by rfl) (hpl:.(37).any (·.1)=false:=by rfl)
  (ht:eval (.Call (.Attribute o m apos) (e::es) [] pos) X.env=(do
   let ov <-eval o X.env
   z1W apos.atName
   let (f,first) <-z1v [ov] (z28 ov m pl)
   z29 pos f first (z0z pos (z09 (e::es) X.env)) (z1x pos (z1f [] X.env))):=by rfl) :
  PE X (.Call (.Attribute o m apos) (e::es) [] pos) (vo X C m sp ta t):=by
 intro π s σ H Q I h;refine z58 (pl:=pl) (thn (he π s σ H _ I h) λ u s1 ⟨x,H1,I1,rx,a,dx,fs,ex,ea,l,q⟩=>?_) ht;subst ex;obtain rfl:u=z0b a:=rx;refine Jt I1 ea c hm l ?_;refine z5a (first:=[.ref a]) (h₀:=X.base) I.ok.mod.kin hm.kp (thn (ha pos π s1 σ H1 _ I1 q) λ us s2 ⟨vs,H2,I2,r,q2⟩=>⟨I2.kIn,?_⟩) hst hpl;exact qG (us:=.ref a::us) (vs:=.ref a::vs) F hr hb I2 (.cons rfl r) q2
end
section
variable {a ob:Expr}{es:List Expr}{fs:FA}{fo:FE}{p:Pos}
theorem yK (w:OkW G A0 He A σ H1 ρ) (kx:RzO X G A0 He d ρ):XW G H1 d (jd X σ):=λ c gs z e T H' x π s' I=>kx c gs z π σ H1 H' s' e (some T) I ⟨A,w⟩ x
def Dd (c m:Str):D->Bool
 | .ob c' gs=>c'==c&&(gs.lookup m).isNone
 | _=>false
def Du (c m:Str) (g:List D->Option D) (fo:FE) (fs:FA):FE:=λ ρ=>(fo ρ).bind λ o=>if Dd c m o=true then (fs ρ).bind λ ds=>g (o::ds) else none
theorem L_ {fs:List (Str×V)}{gs:List (Str×D)}(h:fs.map (·.1)=gs.map (·.1)) (n:gs.lookup m=none):fs.lookup m=none:=by
 induction fs generalizing gs with
 | nil=>rfl
 | cons p r ih=>
  cases gs with
  | nil=>cases h
  | cons q t=>
   obtain⟨a,b⟩:=p;obtain⟨a',b'⟩:=q;simp only[z0c,z4U] at h;obtain⟨rfl,h2⟩:=h;simp only[z0m] at n ⊢;split at n
   ·cases n
   ·exact ih h2 n
theorem jf {k:Nat}{f:Addr}{pl:Sem Bool}(ho:PF X G ob fo) (hc:G.cl c=some C) (cl:Cls X.K C) (hm:Meth X.K C m f) (F:FnOk X.prog X.w X.K X.mg X.base (CX1 X.prog X.w) k f fd ps (spZ G g)) (hr:Room k X.A) (hb:Binds X.K fd ps []) (ha:PFA X G (a::es) fs)
  (hst:z09 (a::es) X.env=.(7)::z09 es X.env:=by rfl) (hpl:.(37).any (·.1)=false:=by rfl)
  (ht:eval (.Call (.Attribute ob m apos) (a::es) [] pos) X.env=(do
   let ov <-eval ob X.env
   z1W apos.atName
   let (f,first) <-z1v [ov] (z28 ov m pl)
   z29 pos f first (z0z pos (z09 (a::es) X.env)) (z1x pos (z1f [] X.env))):=by rfl) :
  PFZ X G (.Call (.Attribute ob m apos) (a::es) [] pos) (Du c m g fo fs):=λ A0 He π s σ H Q I ⟨ρ,d,A,w,e,k,kx⟩=>by
 refine je (@ho A) cl hm F hr hb (@ha A) hst hpl ht π s σ H Q I ?_;unfold Du at e;cases e0:fo ρ with
 | none=>simp[e0] at e
 | some o=>
  rw[e0] at e;have e':(if Dd c m o=true then (fs ρ).bind λ ds=>g (o::ds) else none)=some d:=e;split at e'
  ·rename_i hob;cases e1:fs ρ with
   | none=>simp[e1] at e'
   | some ds=>
    have e2:g (o::ds)=some d:=by simpa [e1] using e'
    refine⟨ρ,o,w.ok,e0,λ v H1 s1 r1=>?_⟩;cases o with
    | ob c' gs=>
     simp only[Dd,z0U,beq_iff_eq,z3r] at hob;obtain⟨rfl,hn⟩:=hob;cases r1 with
     | ob hC h1 l1 r2=>
      rw[hc] at hC;cases hC;refine⟨_,_,_,rfl,Ar _ _ h1,L_ l1 hn,ρ,ds,(w.mono s1).ok,e1,λ vs H2 s2 r3=>?_⟩;refine⟨A,.ob c' gs::ds,d,((w.mono s1).mono s2).ok.live,.cons (Rep.mono (.ob hc h1 l1 r2) (Az s2)) r3,e2,λ v H3 s3 r4=>k v H3 ((s1.trans s2).trans s3) r4,yK ((w.mono s1).mono s2) kx⟩
    | _=>simp[Dd] at hob
  ·cases e'
end
end PV
namespace EX
open PySem PySem.W PyProof.Rows PySem.Calls
section
variable {A:z0a}{g:Array GenState}{d:Drawn}{t:Nat}{os:OsState}{R:z2u->z03->Prop}
variable {nm q:Str}{N:Addr}{bs bm bmB:List z00}{hdct:Bool}{sn:List Str}{sub:List z00}{ab:Bool}{col:Option Bool}{dd:Option Addr}{k0 k1 k2 k3 k5:Option z00}{B newId initId:String}
end
end EX
namespace EX
open PySem PySem.W PySem.Spec PyProof.Rows PySem.Calls
section
variable {A:z0a}{K:Frag}{x:Addr}{ox:Obj}{od:Option Obj}{name:Str}{v:z00}
open Builtin Builtin.ObjectAttr in
end
end EX
namespace EX
open PySem PySem.Spec L2
open PyProof.Rows hiding St
abbrev bmV:List z00:=[.type "ValueError",.type "Exception",.type "BaseException",.type "object"]
def excX (K:z08) (C:Addr):Bool:=match K.lookup C with
 | some ⟨.type "type",_,.cls cd,sl⟩=>(match cd.mro,sl.toList with
  | .ref C'::bm,[_,_,_,_,some (.builtin n),_]=>C'==C&&n=="ValueError.__new__"&&!cd.hasDel&&PySem.W.tailIn K bmV bm
  | _,_=>false)
 | _=>false
structure XC (K:z08) (C R:Addr):Prop where
 obj:excX K C=true
 sa:z17 K (.ref C) "__setattr__"=some (some (.builtin "object.__setattr__"))
 ga:z17 K (.ref C) "__getattribute__"=some (some (.builtin "BaseException.__getattribute__"))
 gt:z17 K (.ref C) "__getattr__"=some none
 cd:(PySem.W.clsIn K C).any (λ cd=>cd.mro==[.ref C,.ref R,.type "ValueError",.type "Exception",.type "BaseException",.type "object"]&&cd.hasDict)=true
section
variable {e R dx:Addr}{tb:Option Addr}{A:z0a}
end
section
variable {a b:Expr}{es:List Expr}{t:TA}{p:Pos}{R:Addr}
end
section
variable {o value:Expr}{ta tv:TE}
end
section
variable {R fi:Addr}{k:Nat}{c:V->Prop}
end
section
variable {A:z0a}{K:z08}
end
end EX
namespace PV
open PySem PySem.Spec L2 EX
open PyProof.Rows hiding St
section
variable {a:Expr}{fa:FE}{np cpos:Pos}{R fi:Addr}{k:Nat}{cx cn:Str}{c:V->Prop}{ok:D->Bool}
end
end PV
namespace EX
open PySem PySem.Spec L2
open PyProof.Rows hiding St
section
variable {e R:Addr}{K:z08}
abbrev Cx.tr (X:Cx) (E:z00->z03->Prop) (pn:zP):Cx:={ X with xe:=E,pn:=pn }
end
end EX
namespace PV
open PySem PySem.Spec L2 EX
open PyProof.Rows hiding St
section
end
end PV
namespace EX
open PySem PySem.W PySem.Spec PyProof.Rows PySem.Calls
section
variable {A:z0a}{K:Frag}{x:Addr}{ox:Obj}{od:Option Obj}
end
end EX
namespace PV
open PySem PySem.Spec L2 EX
open PyProof.Rows hiding St
section
variable {a sp:Expr}{es:List Expr}{fa:FE}{p:Pos}{cs ns:List Str}{cv:List z00}{R:Addr}{Cs:List Addr}
end
structure Mx (K:z08) (C:Addr) (m qual:Str) (st:Stmt) (ps:List Str) where
 f:Addr
 fd:z2k
 F:Fun K m qual st f fd
 B:Binds K fd ps []
 me:Meth K C m f
structure Rx (K:z08) (mg:Str->Option z00) (rn:Str) where
 R:Addr
 m:mg rn=some (.ref R)
 x:excX K R=true
 h1:z6g K (.ref R) "__getattribute__"=some (some (.builtin "type.__getattribute__"))
 h2:z9y K R (.type "type")=true
 h3:z9z K (.ref R) (.type "type") "__init__"=some (.val (.builtin "ValueError.__init__"))
section
variable {a ob:Expr}{es:List Expr}{fs:FA}{fa fo:FE}{p np cpos:Pos}
theorem mZ {k:Nat}{d:Mx X.K C m qual st ps}{pl:Sem Bool}(hc:G.cl c=some C) (cl:Cls X.K C) (F:FnOk X.prog X.w X.K X.mg X.base (CX1 X.prog X.w) k d.f d.fd ps (spZ G g)) (hr:Room k' X.A) (ho:PF X G ob fo) (ha:PFA X G (a::es) fs) (hle:k<=k':=by omega)
  (hst:z09 (a::es) X.env=.(7)::z09 es X.env:=by rfl) (hpl:.(37).any (·.1)=false:=by rfl)
  (ht:eval (.Call (.Attribute ob m apos) (a::es) [] pos) X.env=(do
   let ov <-eval ob X.env
   z1W apos.atName
   let (f,first) <-z1v [ov] (z28 ov m pl)
   z29 pos f first (z0z pos (z09 (a::es) X.env)) (z1x pos (z1f [] X.env))):=by rfl) :
  PFZ X G (.Call (.Attribute ob m apos) (a::es) [] pos) (Du c m g fo fs):=jf ho hc cl d.me F (hr.mono hle) d.B ha hst hpl ht
theorem mO {k:Nat}{d:Mx X.K C m qual st ps}{pl:Sem Bool}(hc:G.cl c=some C) (cl:Cls X.K C) (F:FnOk X.prog X.w X.K X.mg X.base CX0 k d.f d.fd ps (spD G g)) (hr:Room k' X.A) (ho:PF X G ob fo) (hle:k<=k':=by omega)
  (ht:eval (.Call (.Attribute ob m apos) [] [] pos) X.env=(do
   let ov <-eval ob X.env
   z1W apos.atName
   let (f,first) <-z1v [ov] (z28 ov m pl)
   z29 pos f first (z0z pos (z09 [] X.env)) (z1x pos (z1f [] X.env))):=by rfl) :
  PF X G (.Call (.Attribute ob m apos) [] [] pos) (Du c m g fo nilA):=λ A=>Bu (du (@ho A) cl d.me F (hr.mono hle) d.B .nil WD ht) λ σ H Q ⟨ρ,dd,o,e,k⟩=>by
 unfold Du at e;cases e0:fo ρ with
 | none=>simp[e0] at e
 | some oo=>
  rw[e0] at e;have e':(if Dd c m oo=true then (nilA ρ).bind λ ds=>g (oo::ds) else none)=some dd:=e;split at e'
  ·rename_i hob;have e2:g [oo]=some dd:=e';refine⟨ρ,oo,o,e0,λ v H1 s1 r1=>?_⟩;cases oo with
   | ob c' gs=>
    simp only[Dd,z0U,beq_iff_eq,z3r] at hob;obtain⟨rfl,hn⟩:=hob;cases r1 with
    | ob hC h1 l1 r2=>
     rw[hc] at hC;cases hC;exact⟨_,_,_,rfl,Ar _ _ h1,L_ l1 hn,A,[.ob c' gs],dd,(o.mono s1).live,.cons (.ob hc h1 l1 r2) .nil,e2,λ v H3 s3 r4=>k v H3 (s1.trans s3) r4⟩
   | _=>simp[Dd] at hob
  ·cases e'
end
section
variable {base:Heap}{k:Nat}{b:FS}
end
section
variable {K:z08}{cn:Str}{f R:Addr}{dV kV:z00}{l:List (Str×Addr)}
def mx (X:K.In h) (a:z17 K (.ref C) m=some (some (.ref f))) (i:z3L K (.ref f)=true) (lk:K.lookup f=some ⟨oc,od,.func (z1y m qual (Ec st) (Bw st) (Ab st) .none kV doc pm an cdv ct),osl⟩) (c:z2N K cdv qual=true) (k:z1K K (.ref f)=true)
  (b:∀ (kV doc pm:z00) (an:Option Addr) (cdv ct:z00) (us:List z00),us.length=ps.length->z4g (z1y m qual (Ec st) (Bw st) (Ab st) .none kV doc pm an cdv ct) ⟨us,[]⟩=pure (ps.zip us)):Mx K C m qual st ps:=⟨f,_,RV lk c k,(RV lk c k).binds b,a,i,k⟩
def rx (X:K.In h) (N:h.Ns z0T mg) (a:z40 K z0T x=some (some (.ref R))) (e:excX K R=true) (h1:z6g K (.ref R) "__getattribute__"=some (some (.builtin "type.__getattribute__"))) (h2:z9y K R (.type "type")=true)
  (h3:z9z K (.ref R) (.type "type") "__init__"=some (.val (.builtin "ValueError.__init__"))):Rx K mg x:=⟨R,z2_ X N a,e,h1,h2,h3⟩
end
end PV
namespace PV
open PySem PySem.Spec L2
open PyProof.Rows hiding St
def yL:R2:=λ x y H Q=>∃ a kvs k b,y=.ref a/\Rd H a (.dT kvs)/\x=.ref b/\H b=some (.tup (k.map kV))/\Q (.bl (valV kvs k).isSome) H
def inTO (ds:Option (List D)) (y:Option D):Option D:=ds.bind λ ds=>y.bind λ y=>match y with
 | .dt kds=>if ds.length<=sizeLine then (Ks ds).map λ k=>.bl (getK k kds).isSome else none
 | _=>none
def inTF (fs:FA) (fb:FE):FE:=λ ρ=>inTO (fs ρ) (fb ρ)
section
variable {b:Expr}{fb:FE}{es:List Expr}{fs:FA}
theorem qH (hu:X.A.units+1<z0h):OpR X (z0B .In) yL:=by
 intro π s σ H x y v u Q I rx ry h;obtain⟨a,kvs,k,b,rfl,e,rfl,eb,q⟩:=h;cases ry;exact d_in hu I (.inr ⟨kvs,k,b,e,rfl,eb,rfl⟩) rx λ s' I'=>⟨.bl _,H,I',rfl,q⟩
theorem jg {x1} {k:Nat}(hr:Room k X.A) (ha:PFA X G es fs) (hb:PU X G b fb) (hm:z0Z .In b=false:=by with_unfolding_all rfl):PF X G (.Compare (.Tuple es x1 p1) [.In] [b] pos) (inTF fs fb):=λ A=>Bu (Yx (qH (Hg hr)) (Xn (@ha A)) (@hb A) hm) λ σ H Q ⟨ρ,d,o,e,k⟩=>by
 unfold inTF inTO at e;cases e1:fs ρ with
 | none=>simp[e1] at e
 | some ds=>
  cases e2:fb ρ with
  | none=>simp[e1,e2] at e
  | some y=>
   rw[e1,e2] at e;cases y with
   | dt kds=>
    have e':(if ds.length<=sizeLine then (Ks ds).map λ k=>D.bl (getK k kds).isSome else none)=some d:=e;split at e'
    ·rename_i hz;cases e3:Ks ds with
     | none=>simp[e3] at e'
     | some ks=>
      rw[e3] at e';cases e';refine⟨ρ,ds,o,e1,λ xs H1 s1 r1=>⟨by rw[r1.1];exact hz,λ p hp=>?_⟩⟩;have ex:=Ph r1 e3;have s2:Same H1 (upd H1 p (.tup xs)):=Al hp _;refine⟨ρ,.dt kds,o.mono (s1.trans s2),e2,λ v H3 s3 r3=>?_⟩;obtain⟨a,kvs,rfl,h1,h2,r⟩:=r3.dt;have h3:=(Lq (k:=ks) h2 r).2;refine⟨a,kvs,ks,p,rfl,h1,rfl,by rw[s3 _ _ Aj,ex],?_⟩;rw[h3];exact k _ H3 ((s1.trans s2).trans s3) (.bl _)
    ·cases e'
   | _=>cases e
end
structure Ax (mg:Str->Option z00) (x:Str) where
 a:Addr
 m:mg x=some (.ref a)
def ax {K:z08}{h:Heap}{mg:Str->Option z00}{x:Str}{C:Addr}(X:K.In h) (N:h.Ns z0T mg) (a:z40 K z0T x=some (some (.ref C))):Ax mg x:=⟨C,z2_ X N a⟩
end PV
namespace PV
open PySem PySem.Spec L2 EX
open PyProof.Rows hiding St
section
variable {a b c:Expr}{fa fb fc:FE}{px rp p:Pos}{es:List Expr}{fs:FA}{h:FZ}{hs:FZA}
end
section
variable {k:Nat}{f:Addr}{sp:Sp}{o:Expr}{ta:TE}
end
section
variable {b:Expr}{rp p:Pos}{es:List Expr}{fs:FA}
end
section
variable {K:z08}{base:Heap}{k:Nat}{f:Addr}{sp sp':Sp}
end
section
variable {a b:Expr}{es:List Expr}{fs:FA}{rp p:Pos}{h:FZ}
end
end PV
namespace PV
open PySem PySem.Spec L2
open PyProof.Rows hiding St
end PV
namespace L2
end L2
namespace PV
open PySem PySem.Spec L2
section
variable {es l1 l2:List Expr}{a b c:Expr}
theorem Qh {k j}:z09 (.Constant k j pos::es) env=(false,eval (.Constant k j pos) env)::z09 es env:=rfl
theorem Q8 {x}:z09 (.Name x pos::es) env=(false,eval (.Name x pos) env)::z09 es env:=rfl
theorem Et {o}:z09 (.BinOp a o b pos::es) env=(false,eval (.BinOp a o b pos) env)::z09 es env:=rfl
theorem Ai:z09 (.Subscript a b pos::es) env=(false,eval (.Subscript a b pos) env)::z09 es env:=rfl
theorem Br {x}:z09 (.Attribute a x pos::es) env=(false,eval (.Attribute a x pos) env)::z09 es env:=rfl
theorem K6 {x}:z09 (.Tuple l1 x pos::es) env=(false,eval (.Tuple l1 x pos) env)::z09 es env:=rfl
theorem Ey {k}:z09 (.Call a l1 k pos::es) env=(false,eval (.Call a l1 k pos) env)::z09 es env:=rfl
theorem G9 {g sc}:z09 (.ListComp a g sc pos::es) env=(false,eval (.ListComp a g sc pos) env)::z09 es env:=rfl
end
section
variable {es:List Expr}{fs:FA}
theorem iS {i j} (h:PFA X G es fs):PFA X G (.Constant (.str i) j pos::es) (Aa (kF (.str i)) fs):=Ae uw h Qh
theorem iI {i j} (h:PFA X G es fs):PFA X G (.Constant (.int i) j pos::es) (Aa (kF (.int i)) fs):=Ae PQ h Qh
end
section
variable {cs:List Str}{R:Addr}{cn:Str}
end
open PyProof.Rows hiding St
section
variable {a b:Expr}{fs:FA}{px py pt:Pos}
end
end PV
namespace PV
open PySem PySem.Spec L2 EX
open PyProof.Rows hiding St
section
variable {a:Expr}{fa:FE}{np cpos p:Pos}{gb:FS}{es:List Expr}{fs:FA}
end
end PV
namespace EX
open PySem PySem.W PySem.Spec PyProof.Rows PySem.Calls
section
variable {A:z0a}{K:Frag}{x:Addr}{ox:Obj}{name:Str}{v:z00}
open Builtin Builtin.ObjectAttr in
end
end EX
namespace EX
open PySem PySem.Spec L2
open PyProof.Rows hiding St
section
variable {e R dx:Addr}{tb:Option Addr}{A:z0a}
end
section
variable {o value:Expr}{ta tv:TE}
end
section
variable {R fi:Addr}{k:Nat}{g:Str}{c:V->V->Prop}
end
end EX
namespace PV
open PySem PySem.Spec L2 EX
open PyProof.Rows hiding St
structure Xx2 (G:Gx) (mg:Str->Option z00) (R:Addr) (cn f g qual:Str) (st:Stmt) (ps:List Str) where
 C:Addr
 fi:Addr
 fd:z2k
 gc:G.xcl cn=some C
 xc:XC G.K C R
 hi:z17 G.K (.ref C) "__init__"=some (some (.ref fi))
 hf:z3L G.K (.ref fi)=true
 kp:z1K G.K (.ref C)=true
 na:Bd G.K C f
 nb:Bd G.K C g
 m:mg cn=some (.ref C)
 F:Fun G.K "__init__" qual st fi fd
 B:Binds G.K fd ps []
section
variable {a b:Expr}{fs:FA}{np cpos:Pos}{R:Addr}{cn g:Str}{x:Xx2 G X.mg R cn f g qual st ps}{k:Nat}
end
end PV
namespace EX
open PySem PySem.Spec L2
open PyProof.Rows hiding St
section
variable {R:Addr}
end
end EX
namespace PV
open PySem PySem.Spec L2 EX
open PyProof.Rows hiding St
section
variable {a:Expr}{fa:FE}{np cpos:Pos}{R:Addr}{cn:Str}
end
section
variable {K:z08}{cn:Str}{f R:Addr}{kV:z00}{l:List (Str×Addr)}
end
theorem scO {P:List Str}(a:sc.kind=.function:=by rfl) (b:sc.isCoroutine=false:=by rfl) (c:sc.isGenerator=false:=by rfl) (d:N.Nodup:=by decide +kernel) (e:N.take P.length=P:=by rfl)
  (f:∀ x∈P,sc.names.lookup x=some .local ∨sc.names.lookup x=some .cell :=by decide +kernel) (g:∀ y∈sc.names,y.2≠.free :=by decide +kernel):FnScope N P sc:=⟨a,b,c,d,e,f,g⟩
theorem pav {es:List Expr}{fs:FA}{px:Pos}(i:Nat) (h:PFA X G es fs) (hN:X.N[i]?=some x:=by rfl) (hv:Vis X.env.scope x:=by first | exact z0K rfl | exact z0v (z0K rfl) | exact z0v (z0v rfl)) (hd:.(3)=false:=by decide) (hcd:.(27)=false:=by decide):PFA X G (.Name x px::es) (Aa (vF i) fs):=Ae (vr i hN hv hd hcd) h Q8
section
variable {K:z08}{cn:Str}{R f:Addr}{l:List (Str×Addr)}{cs ns:List Str}{cv:List z00}
end
theorem tU {α:Type}{us:List α}(h:us.length=1):∃ a,us=[a]:=by
 cases us with
 | nil=>cases h
 | cons a r=>exact⟨a,by rw[z4v (z4J h)]⟩
theorem tV {α:Type}{us:List α}(h:us.length=2):∃ a b,us=[a,b]:=by
 cases us with
 | nil=>cases h
 | cons z r=>
  obtain⟨a,rfl⟩:=tU (z4J h);exact⟨z,a,rfl⟩
theorem tW {α:Type}{us:List α}(h:us.length=3):∃ a b c,us=[a,b,c]:=by
 cases us with
 | nil=>cases h
 | cons z r=>
  obtain⟨a,b,rfl⟩:=tV (z4J h);exact⟨z,a,b,rfl⟩
theorem tX {α:Type}{us:List α}(h:us.length=4):∃ a b c d,us=[a,b,c,d]:=by
 cases us with
 | nil=>cases h
 | cons z r=>
  obtain⟨a,b,c,rfl⟩:=tW (z4J h);exact⟨z,a,b,c,rfl⟩
theorem yM {α:Type}{us:List α}(h:us.length=5):∃ a b c d e,us=[a,b,c,d,e]:=by
 cases us with
 | nil=>cases h
 | cons z r=>
  obtain⟨a,b,c,d,rfl⟩:=tX (z4J h);exact⟨z,a,b,c,d,rfl⟩
abbrev EO:=Sum (Rho×Ef) (D×Rho)
abbrev FEz:=Rho->Ef->Option EO
open Classical in
section
variable {a b k it:Expr}{fa fb fk:FE}{p px:Pos}{rest:List Stmt}{g gs:FEz}{gp:FS}{ta tb:FTE}{tp:FT}
end
section
variable {k:Nat}{f:Addr}{sp:Sp}{p:Pos}{o:Expr}{es:List Expr}{ta:TE}{t:TA}
end
section
variable {a b:Expr}{fa fb:FE}{p:Pos}{es:List Expr}{fs:FA}
end
section
open PySem PySem.Spec L2
end
open PySem PySem.Spec L2 EX
open PyProof.Rows hiding St
section
variable {a sp k v:Expr}{es:List Expr}{fa fk fv:FE}{p:Pos}{cv:List z00}{b:Bool}
end
section
variable {a ob:Expr}{es:List Expr}{fs:FA}{fo:FE}{p:Pos}
theorem mA {k:Nat}{d:Mx X.K C m qual st ps}{pl:Sem Bool}(hc:G.cl c=some C) (cl:Cls X.K C) (F:FnOk X.prog X.w X.K X.mg X.base CX0 k d.f d.fd ps (spD G g)) (hr:Room k' X.A) (ho:PF X G ob fo) (ha:PFA X G (a::es) fs) (hle:k<=k':=by omega)
  (hst:z09 (a::es) X.env=.(7)::z09 es X.env:=by rfl) (hpl:.(37).any (·.1)=false:=by rfl)
  (ht:eval (.Call (.Attribute ob m apos) (a::es) [] pos) X.env=(do
   let ov <-eval ob X.env
   z1W apos.atName
   let (f,first) <-z1v [ov] (z28 ov m pl)
   z29 pos f first (z0z pos (z09 (a::es) X.env)) (z1x pos (z1f [] X.env))):=by rfl) :
  PF X G (.Call (.Attribute ob m apos) (a::es) [] pos) (Du c m g fo fs):=λ A=>Bu (Yz (@ho A) cl d.me F (hr.mono hle) d.B .nil WD (@ha A) hst hpl ht) λ σ H Q ⟨ρ,dd,o,e,k⟩=>by
 unfold Du at e;cases e0:fo ρ with
 | none=>simp[e0] at e
 | some oo=>
  rw[e0] at e;have e':(if Dd c m oo=true then (fs ρ).bind λ ds=>g (oo::ds) else none)=some dd:=e;split at e'
  ·rename_i hob;cases e1:fs ρ with
   | none=>simp[e1] at e'
   | some ds=>
    have e2:g (oo::ds)=some dd:=by simpa [e1] using e'
    refine⟨ρ,oo,o,e0,λ v H1 s1 r1=>?_⟩;cases oo with
    | ob c' gs=>
     simp only[Dd,z0U,beq_iff_eq,z3r] at hob;obtain⟨rfl,hn⟩:=hob;cases r1 with
     | ob hC h1 l1 r2=>
      rw[hc] at hC;cases hC;refine⟨_,_,_,rfl,Ar _ _ h1,L_ l1 hn,ρ,ds,o.mono s1,e1,λ vs H2 s2 r3=>?_⟩;refine⟨A,.ob c' gs::ds,dd,((o.mono s1).mono s2).live,?_,e2,λ v H3 s3 r4=>k v H3 ((s1.trans s2).trans s3) r4⟩;rw[z1d];exact .cons (Rep.mono (.ob hc h1 l1 r2) (Az s2)) r3
    | _=>simp[Dd] at hob
  ·cases e'
end
end PV
namespace PV
open PySem PySem.Spec L2
abbrev Wx (w:z0k) (q:Addr) (rs:List .(38)):HO:=.ext λ h=>SetQ w h q rs
abbrev rfs (qs:List .(38)):List V:=qs.map λ x=>V.ref x.2
def AtP (X:Cx) (H:Hp) (qs:List .(38)):Prop:=∀ x∈qs,In5 x.1/\TupAt X.K H x.2 ((kk x.1).map kV)
section
theorem VV (val:Nat->Pr5):∀ {n:Nat}{y:Pr5},y∈metP val n↔∃ i,i<n/\val i=y
 | 0,y=>by simp[metP]
 | n+1,y=>by
  rw[P_];unfold addQ;have ih:=VV val (n:=n) (y:=y);split
  ·rename_i h;rw[ih];constructor
   ·rintro⟨i,hi,e⟩;exact⟨i,by omega,e⟩
   ·rintro⟨i,hi,e⟩
    by_cases c:i=n
    ·subst c;obtain⟨j,hj,ej⟩:=(VV val (n:=i) (y:=val i)).mp h;exact⟨j,hj,ej.trans e⟩
    ·exact⟨i,by omega,e⟩
  ·rw[z0Y,ih,z2c];constructor
   ·rintro (⟨i,hi,e⟩ | e)
    ·exact⟨i,by omega,e⟩
    ·exact⟨n,by omega,e.symm⟩
   ·rintro⟨i,hi,e⟩
    by_cases c:i=n
    ·subst c;exact .inr e.symm
    ·exact .inl ⟨i,by omega,e⟩
theorem Z4 {qs:List .(38)}(I:Inv X π σ H s) (h:AtP X H qs):∀ x∈qs,IsP X.prog X.w s.heap x.1 x.2:=λ x hx=>⟨(h x hx).1,tup_is I (h x hx).2⟩
theorem Wy {qs:List .(38)}(r:Vals (rfs qs) us) (i:Nat) (v:z00) (h:us[i]?=some v):v=.ref (qs.getD i ((0,0),0)).2:=by
 have e:us=(qs.map (·.2)).map z0b:=Q6 (bs:=qs.map (·.2)) (by rw[z0p];exact r);rw[e,z0p,z0o] at h;obtain⟨x,hx,rfl⟩:=z1T.mp h;simp[hx]
theorem prsL {qs:List .(38)}(i:Inv X π σ H s) (h:SqL X.K H p (rfs qs)):PrsAt X.prog X.w "list" p qs.length (λ i=>(qs.getD i ((0,0),0)).2) s.heap:=by
 obtain⟨its,r,pl,_⟩:=i.list h;obtain⟨o,g,c,m,d⟩:=pl.isList;have hl:=r.length;rw[z06] at hl;refine⟨λ z e=>⟨o,e o g,c⟩,by rw[z2U];kernel_rfl,by rw[z2U];kernel_rfl,by decide,z0f g,λ A E z Q hh e lt k=>?_⟩;have il:z.heap.IsList p its.toArray:=⟨o,e o g,c,m,d⟩;refine z54 il (k _ (λ i h=>h.IsListIter z.heap.objs.size p i/\h.IsList p its.toArray) (λ i v=>its.toArray[i]?=some v) (λ A' h'=>by rw[hl,<-z0r];exact z3U h' _ p (z0i lt) its.toArray) ⟨⟨_,z0l _ rfl,rfl,rfl⟩,il.push _⟩ λ i v q=>Wy r i v (by simpa using q))
theorem prsT {qs:List .(38)}(i:Inv X π σ H s) (h:SqT X.K H p (rfs qs)):PrsAt X.prog X.w "tuple" p qs.length (λ i=>(qs.getD i ((0,0),0)).2) s.heap:=by
 obtain⟨its,r,pl,_⟩:=i.tuple h;obtain⟨o,g,c,m,d⟩:=(show s.heap.IsTuple p its.toArray from pl);have hl:=r.length;rw[z06] at hl;refine⟨λ z e=>⟨o,e o g,c⟩,by rw[z2U];kernel_rfl,by rw[z2U];kernel_rfl,by decide,z0f g,λ A E z Q hh e lt k=>?_⟩;have il:z.heap.IsTuple p its.toArray:=⟨o,e o g,c,m,d⟩;refine z4c il (k _ (λ i h=>h.IsTupleIter z.heap.objs.size p i/\h.IsTuple p its.toArray) (λ i v=>its.toArray[i]?=some v) (λ A' h'=>by rw[hl,<-z0r];exact Walks.tuple h' _ p (z0i lt) its.toArray) ⟨⟨_,z0l _ rfl,rfl,rfl⟩,il.at λ o' g'=>z0d _ g'⟩ λ i v q=>Wy r i v (by simpa using q))
def tY (X:Cx):List V->Hp->VK->Prop:=λ xs H Q=>∃ p qs,xs=[.ref p]/\(SqL X.K H p (rfs qs)∨SqT X.K H p (rfs qs))/\AtP X H qs/\qs.length<=17/\∀ l rs,H l=none->(rs.map (·.1)).Nodup->(∀ x∈rs,x∈qs)->(∀ x∈qs,x.1∈rs.map (·.1))->Q (.ref l) (upd H l (Wx X.w l rs))
theorem cJ (hu:X.A.units+64<z0h) (hc:X.calm=true):Cv X (.type "set") (tY X):=by
 intro π s σ H xs us Q I r h;obtain⟨p,qs,rfl,hs,at_,hz,k⟩:=h;obtain⟨u,rfl,ru⟩:=vals1 r;cases ru;have isp:=Z4 I at_;have go:∀ {T:String},PrsAt X.prog X.w T p qs.length (λ i=>(qs.getD i ((0,0),0)).2) s.heap->z02 .(0) X.A (call (.type "set") [.ref p]) (EP X π σ Q) X.xe s:=λ t=>by
  refine pQ (B:=λ b=>b∈qs.map (·.2)) (val:=λ i=>(qs.getD i ((0,0),0)).1) (by omega) (I.ok.hd hc) t (λ i hi=>?_) hz (λ i hi=>?_) (λ b hb=>?_) λ h' tk x kp=>?_
  ·rw[show qs.getD i ((0,0),0)=qs[i] by simp[hi]];exact isp _ (z1b hi)
  ·rw[show qs.getD i ((0,0),0)=qs[i] by simp[hi]];exact z0g.mpr ⟨_,z1b hi,rfl⟩
  ·obtain⟨y,hy,rfl⟩:=z0g.mp hb;obtain⟨_,o,_,_,g,_⟩:=isp y hy;exact z0f g
  ·obtain⟨es,t,rs,ob,f,pm,bq⟩:=x;have sub:∀ x∈rs,x∈qs:=λ x hx=>by
    obtain⟨y,hy,e⟩:=z0g.mp (bq x hx);have iy:=(isp y hy).keep (g:=h') λ o g=>kp _ o g;have ix:=f.isp x hx;rw[<-e] at ix;have:=vd (ix.2.inj iy.2);rw[show x=y from z3d this e.symm];exact hy
   refine⟨.ref s.heap.objs.size,_,I.laid (a:=s.heap.objs.size) (o:=Wx X.w s.heap.objs.size rs) (t':=tk) kp (z07 _) ⟨⟨es,t,ob,f.toQ⟩,?_,λ h1 h2 x1 e=>x1.keep e⟩,rfl,k _ rs I.fresh f.nd sub λ x hx=>?_⟩
   ·obtain⟨o,_,g,_⟩:=ob;exact⟨o,g⟩
   ·obtain⟨i,hi,e⟩:=z3s.mp hx;exact pm.mem_iff.mpr ((VV _).mpr ⟨i,hi,by simp[hi,e]⟩)
 rcases hs with hs | hs
 ·exact go (prsL I hs)
 ·exact go (prsT I hs)
def R_ (X:Cx):List V->Hp->VK->Prop:=λ xs H Q=>∃ p rs,xs=[.ref p]/\(H p=some (Wx X.w p rs)∨((SqL X.K H p (rfs rs)∨SqT X.K H p (rfs rs))/\rs.length<=60))/\AtP X H rs/\(rs.map (·.1)).Nodup/\∀ l ts,H l=none->ts.Perm rs->(ts.map λ x=>cod x.1).Pairwise (·<·)->Q (.ref l) (upd H l (.lst (rfs ts)))
theorem SJ:∀ (qs:List .(38)),Vals (rfs qs) (qs.map λ x=>z0b x.2)
 | []=>.nil
 | x::r=>.cons rfl (SJ r)
theorem Wz {A:z0a}{l:Addr}{T:String}{Q:List z00->z03->Prop}(hT:T="list"∨T="tuple") (ho:s.heap.get? l=some o) (hc:o.cls=.type T) (hd:o.data=.seq vs.toArray n) (hz:vs.length<=1000)
  (k:∀ h',s.heap.objs.size<=h'.objs.size->.(2)->Q vs { s with heap:=h' }):z02 (z04 prog w) A (z3u (.ref l)) Q E s:=by
 unfold z3u;refine z01 (z5H (z1A z7p (show z02 _ _ (do again (.builtin "list.__iadd__" ⟨[<-newList [],.ref l],[]⟩)) _ _ s from ?_)));refine z01 (z3_ (z05 ⟨z79 _ .(34),z1A z7q (show z02 _ _ (z4I .(5) (.ref l) .(5)) _ _ { s with heap:=s.heap.push (z2Z "list" #[] 0) } from ?_)⟩));have ho':(s.heap.push (z2Z "list" #[] 0)).get? l=some o:=z0d _ ho;unfold z4I;refine z01 (z4k (T:=T) ⟨o,ho',hc⟩ ?_);rw[if_pos (by rcases hT with rfl | rfl<;>simp)];refine z01 (z9A ho' hd (z01 (z9A (xs:=#[]) (n:=0) (z0l _ rfl) rfl ?_)));rw[if_neg (by simp)];refine z01 (PyProof.Rows.listUpdate_at (xs:=#[]) (n:=0) (z0l _ rfl) rfl ?_ (z18 _) (by simp only[Array.size_append,z0r,z2y,z1p];omega));refine z05 (show z02 (z04 prog w) A (load s.heap.objs.size >>= _) Q E _ from z01 (z4a (PyProof.Rows.get?_update_seq (z0l _ rfl) _) ?_));show z02 _ _ (pure ((#[]:Array z00)++vs.toArray).toList) Q E _;rw[show ((#[]:Array z00)++vs.toArray).toList=vs by simp];refine z05 (k _ (by rw[Heap.size_update,z1w];exact z1N _) λ b o g=>?_);rw[Heap.get?_update_ne _ _ _ _ (z0i (z0f g))];exact z0d _ g
theorem Oe (hc:X.calm=true):Cv X (.builtin "sorted") (R_ X):=by
 intro π s σ H xs us Q I r h;obtain⟨p,rs,rfl,hp,at_,nd,k⟩:=h;obtain⟨u,rfl,ru⟩:=vals1 r;cases ru;have isp:=Z4 I at_
 rcases hp with hp | ⟨hp,hz⟩
 ·obtain⟨x,_,_⟩:=(show BL X.prog X.w H s.heap p (Wx X.w p rs) from I.hok p _ hp);have sz:rs.length<=18:=let ⟨_,_,_,f⟩:=x;f.sz;refine Wu (I.ok.hd hc) x isp nd λ L e l h' tk hL hS g le kp=>?_;exact⟨.ref l,_,I.laid (a:=l) (o:=.lst (rfs L)) (t':=tk) kp le ⟨by rw[z06,hL.length_eq,z1p];omega,_,e,SJ L,g⟩,rfl,k l L (I.hok.fresh le) hL hS⟩
 ·have go:∀ {T:String}{o:Obj}{n:Nat},(T="list"∨T="tuple")->s.heap.get? p=some o->o.cls=.type T->o.data=.seq (rs.map λ x=>z0b x.2).toArray n->z02 .(0) X.A (call (.builtin "sorted") [.ref p]) (EP X π σ Q) X.xe s:=λ {T o n} hT ho hcl hd=>by
   refine z7r z7s z7t z7u (z7v _) ?_;unfold z1e.«sorted»;refine z01 (m:=z7w "sorted" 1 1 _) (z05 (z01 (Wz hT ho hcl hd (by rw[z06];omega) λ h1 le kp=>?_)));refine z01 (z3_ ?_ (by rw[z06,z1p];omega));have gl:(h1.push { cls:=.type "list",data:=.seq (rs.map λ x=>z0b x.2).toArray }).get? h1.objs.size=some (z2Z "list" (rs.map λ x=>z0b x.2).toArray 0):=z0l _ rfl;refine z01 (wpAny_holding (z1k z7x ⟨_,gl,rfl⟩ z7y (R7 gl (λ x hx=>(isp x hx).keep λ o g=>z0d _ (kp _ o g)) nd (by omega) λ L2 p2 s2=>⟨_,rfl,?_⟩) (z7z _)));obtain⟨c,hcc⟩:=z7A (out:=(L2.map λ x=>z0b x.2).toArray) gl;refine z05 ⟨_,rfl,.ref h1.objs.size,_,I.laid (a:=h1.objs.size) (o:=.lst (rfs L2)) (t':=s.toks) (λ b o g=>?_) le ⟨by rw[z06,p2.length_eq,z1p];omega,_,c,SJ L2,hcc⟩,rfl,k _ L2 (I.hok.fresh le) p2 s2⟩;have lb:=z0f (kp b o g);rw[z7B (z0i lb) (by rw[z1w];exact z2n lb)];exact z0d _ (kp b o g)
  have ei:∀ {its:List z00},Vals (rfs rs) its->its=rs.map λ x=>z0b x.2:=λ {its} r=>by
   have:=Q6 (bs:=rs.map (·.2)) (us:=its) (by rw[z0p];exact r);rw[this,z0p];rfl
  rcases hp with hp | hp
  ·obtain⟨its,r,pl,_⟩:=I.list hp;obtain⟨o,g,c,m,d⟩:=pl.isList;exact go (.inl rfl) g c (by rw[<-ei r];exact d)
  ·obtain⟨its,r,pl,_⟩:=I.tuple hp;obtain⟨o,g,c,m,d⟩:=(show s.heap.IsTuple p its.toArray from pl);exact go (.inr rfl) g c (by rw[<-ei r];exact d)
end
def insP (p:Pr5):List Pr5->List Pr5
 | []=>[p]
 | q::r=>if cod p<cod q then p::q::r else if cod p=cod q then q::r else q::insP p r
def Aq (ps:List Pr5):List Pr5:=ps.foldr insP []
abbrev SrtP (l:List Pr5):Prop:=(l.map cod).Pairwise (·<·)
theorem SM {p x:Pr5}(hp:In5 p):∀ {l:List Pr5},(∀ q∈l,In5 q)->(x∈insP p l↔x=p∨x∈l)
 | [],_=>by simp[insP]
 | q::r,h=>by
  have ih:=SM (x:=x) hp (l:=r) λ y hy=>h y (by simp[hy]);unfold insP;split
  ·simp
  ·split
   ·rename_i _ e;have:p=q:=Zv hp (h q (by simp)) e;subst this;simp
   ·rw[z0j,ih,z0j];constructor
    ·rintro (a | a | a)
     ·exact .inr (.inl a)
     ·exact .inl a
     ·exact .inr (.inr a)
    ·rintro (a | a | a)
     ·exact .inr (.inl a)
     ·exact .inl a
     ·exact .inr (.inr a)
theorem W0 {p:Pr5}(hp:In5 p):∀ {l:List Pr5},(∀ q∈l,In5 q)->SrtP l->SrtP (insP p l)
 | [],_,_=>by simp[insP,SrtP]
 | q::r,h,s=>by
  have hr:∀ y∈r,In5 y:=λ y hy=>h y (by simp[hy]);have s':(∀ y∈r,cod q<cod y)/\SrtP r:=by
   rw[SrtP,z0c,z22] at s;exact⟨λ y hy=>s.1 _ (z0g.mpr ⟨y,hy,rfl⟩),s.2⟩
  have ih:=W0 hp hr s'.2;unfold insP;split
  ·rename_i c;rw[SrtP,z0c,z22];refine⟨λ y hy=>?_,s⟩;obtain⟨z,hz,rfl⟩:=z0g.mp hy
   rcases z0j.mp hz with rfl | hz
   ·exact c
   ·exact z8p c (s'.1 z hz)
  ·split
   ·exact s
   ·rename_i c1 c2;rw[SrtP,z0c,z22];refine⟨λ y hy=>?_,ih⟩;obtain⟨z,hz,rfl⟩:=z0g.mp hy
    rcases (SM hp hr).mp hz with rfl | hz
    ·omega
    ·exact s'.1 z hz
theorem Og:∀ {ps:List Pr5},(∀ p∈ps,In5 p)->SrtP (Aq ps)/\∀ x,x∈Aq ps↔x∈ps
 | [],_=>⟨by simp[Aq,SrtP],λ x=>by simp[Aq]⟩
 | p::r,h=>by
  have hr:∀ y∈r,In5 y:=λ y hy=>h y (by simp[hy]);obtain⟨a,b⟩:=Og hr;have hs:∀ q∈Aq r,In5 q:=λ q hq=>hr q ((b q).mp hq);exact⟨W0 (h p (by simp)) hs a,λ x=>by show x∈insP p (Aq r)↔_;rw[SM (h p (by simp)) hs,b,z0j]⟩
theorem Z5:∀ {l m:List Pr5},SrtP l->SrtP m->(∀ x,x∈l↔x∈m)->l=m
 | [],[],_,_,_=>rfl
 | [],y::m,_,_,h=>absurd ((h y).mpr (by simp)) (by simp)
 | x::l,[],_,_,h=>absurd ((h x).mp (by simp)) (by simp)
 | x::l,y::m,a,b,h=>by
  rw[SrtP,z0c,z22] at a b;have a1:∀ z∈l,cod x<cod z:=λ z hz=>a.1 _ (z0g.mpr ⟨z,hz,rfl⟩);have b1:∀ z∈m,cod y<cod z:=λ z hz=>b.1 _ (z0g.mpr ⟨z,hz,rfl⟩);have e:x=y:=by
   rcases z0j.mp ((h x).mp (by simp)) with z | z
   ·exact z
   ·rcases z0j.mp ((h y).mpr (by simp)) with w | w
    ·exact w.symm
    ·have:=b1 x z;have:=a1 y w;omega
  subst e;have:=Z5 a.2 b.2 λ z=>by
   have hz:=h z;rw[z0j,z0j] at hz;constructor
   ·intro c
    rcases hz.mp (.inr c) with d | d
    ·subst d;have:=a1 z c;omega
    ·exact d
   ·intro c
    rcases hz.mpr (.inr c) with d | d
    ·subst d;have:=b1 z c;omega
    ·exact d
  rw[this]
abbrev prT (p:Pr5):D:=.tup [.int (p.1:Int),.int (p.2:Int)]
def tssL (ds:List D):Option D:=(prsD ds).bind λ ps=>if ps.length<=17 then some (.tup ((Aq ps).map prT)) else none
def tssD:D->Option D
 | .lst ds=>tssL ds
 | .tup ds=>tssL ds
 | _=>none
def tslL (ds:List D):Option D:=(prsD ds).bind λ ps=>if ps.length<=17/\ps.Nodup then some (.tup ((Aq ps).map prT)) else none
def tslD:D->Option D
 | .lst ds=>tslL ds
 | .tup ds=>tslL ds
 | _=>none
section
variable {a:Expr}{fa:FE}
theorem pairs_at {H:Hp}:∀ {ks:List Pr5}{bs:List Addr},z2h (λ k c=>TupAt X.K H c (k.map kV)) (kks ks) bs->(∀ p∈ks,In5 p)->∃ qs:List .(38),bs=qs.map (·.2)/\ks=qs.map (·.1)/\AtP X H qs
 | [],_,.nil,_=>⟨[],rfl,rfl,λ x hx=>by cases hx⟩
 | k::ks,_,.cons r t,h=>by
  obtain⟨qs,e1,e2,e3⟩:=pairs_at t λ p hp=>h p (by simp[hp]);refine⟨(k,_)::qs,by rw[z0c,<-e1],by rw[z0c,<-e2],λ x hx=>?_⟩
  rcases z0j.mp hx with rfl | hx
  ·exact⟨h k (by simp),r⟩
  ·exact e3 x hx
theorem K7 {qs:List .(38)}(s:Same H H') (h:AtP X H qs):AtP X H' qs:=λ x hx=>by
 obtain⟨a,b⟩:=h x hx;refine⟨a,?_⟩
 rcases b with (z | ⟨o,z⟩) | z
 ·exact .inl (.inl (s _ _ z))
 ·exact .inl (.inr ⟨o,s _ _ z⟩)
 ·exact .inr z
theorem qI {ts:List .(38)}(hG:G.K=X.K) (h:AtP X (hid A H) ts):RepL G (hid A H) (rfs ts) ((ts.map (·.1)).map prT):=by
 refine⟨by simp,λ i x d h1 h2=>?_⟩;rw[z0o] at h1;rw[z0p,z0o] at h2;cases e:ts[i]? with
 | none=>rw[e] at h1;cases h1
 | some y=>
  rw[e] at h1 h2;cases h1;cases h2;obtain⟨_,t⟩:=h y (z3c e);rw[<-hG] at t;refine .tup (xs:=[.int (y.1.1:Int),.int (y.1.2:Int)]) t rfl λ j x d h1 h2=>?_
  match j,h1,h2 with
  | 0,h1,h2=>cases h1;cases h2;exact .int _
  | 1,h1,h2=>cases h1;cases h2;exact .int _
  | j+2,h1,_=>simp at h1
theorem UG {qs ts:List .(38)}{ps:List Pr5}(e:ps=qs.map (·.1)) (i5:∀ p∈ps,In5 p) (hS:(ts.map λ x=>cod x.1).Pairwise (·<·)) (hm:∀ x,x∈ts.map (·.1)↔x∈ps):ts.map (·.1)=Aq ps:=by
 obtain⟨s1,s2⟩:=Og i5;refine Z5 ?_ s1 λ x=>by rw[hm,s2]
 rw[SrtP,z0p];exact hS
theorem Z6 {H2:Hp}{l:Addr}{ts:List .(38)}{ps:List Pr5}{Q:VK}(hG:G.K=X.K) (o:Okp G A σ H ρ) (s2:Same H H2) (at_:AtP X (hid A H2) ts) (hl:H2 l=none) (et:ts.map (·.1)=Aq ps)
  (k:∀ v H',Same H H'->Rep G (hid A H') v (.tup ((Aq ps).map prT))->Q v H'):(∃ p ys,[V.ref l]=[.ref p]/\((SqL X.K (upd H2 l (.lst (rfs ts))) p ys/\∀ m,upd H2 l (.lst (rfs ts)) m=none->Q (.ref m) (upd (upd H2 l (.lst (rfs ts))) m (.tup ys)))∨(SqT X.K (upd H2 l (.lst (rfs ts))) p ys/\Q (.ref p) (upd H2 l (.lst (rfs ts)))))):=by
 refine⟨l,rfs ts,rfl,.inl ⟨.of Aj,λ m hm=>k _ _ ?_ ?_⟩⟩
 ·exact (s2.trans (Al hl _)).trans (Al hm _)
 ·have s3:Same H (upd H2 l (.lst (rfs ts))):=s2.trans (Al hl _);refine Ds (o.mono s3).live hm ?_;rw[<-et];exact qI hG (K7 (Az (Al hl _)) at_)
theorem vy {y z:Str}{p q r pos3:Pos}(hu:X.A.units+64<z0h) (hc:X.calm=true) (hG:G.K=X.K) (hg:Gl X z) (hm:X.mg z=none) (hv:z0x z=some (.type "tuple")) (hg1:Gl X x) (hm1:X.mg x=none) (hv1:z0x x=some (.builtin "sorted")) (hg2:Gl X y) (hm2:X.mg y=none) (hv2:z0x y=some (.type "set")) (ha:PU X G a fa)
  (hn:z≠"__name__":=by decide) (hdb:(z==("__debug__":Str))=false:=by decide) (hn1:x≠"__name__":=by decide) (hdb1:.(3)=false:=by decide) (hn2:y≠"__name__":=by decide) (hdb2:(y==("__debug__":Str))=false:=by decide) (he:z09 [a] X.env=[.(7)]:=by rfl)
  (he1:z09 [.Call (.Name y q) [a] [] pos2] X.env=[(false,eval (.Call (.Name y q) [a] [] pos2) X.env)]:=by rfl) (he2:z09 [.Call (.Name x p) [.Call (.Name y q) [a] [] pos2] [] pos3] X.env=[(false,eval (.Call (.Name x p) [.Call (.Name y q) [a] [] pos2] [] pos3) X.env)]:=by rfl) :
  PF X G (.Call (.Name z r) [.Call (.Name x p) [.Call (.Name y q) [a] [] pos2] [] pos3] [] pos) (uF tssD fa):=λ A=>Bu (Gm Ma hg hm hv (Bo (Km (Oe hc) hg1 hm1 hv1 (Bo (Gm (cJ hu hc) hg2 hm2 hv2 (Bo (@ha A) Cw he) hn2 hdb2 he rfl) Cw he1) hn1 hdb1 he1 rfl) Cw he2) hn hdb he2 rfl) λ σ H Q ⟨ρ,d,o,e,k⟩=>by
 obtain⟨dx,e1,e2⟩:=Gw e;refine⟨ρ,dx,o,e1,λ v H1 s1 r1=>?_⟩;have core:∀ (ds:List D) (pp:Addr) (xs:List V),tssL ds=some d->v=.ref pp->(SqL G.K H1 pp xs∨SqT G.K H1 pp xs)->RepL G (hid A H1) xs ds->tY X [v] H1 λ x2 H2=>R_ X [x2] H2 λ x3 H3=>(∃ p ys,[x3]=[.ref p]/\((SqL X.K H3 p ys/\∀ l,H3 l=none->Q (.ref l) (upd H3 l (.tup ys)))∨(SqT X.K H3 p ys/\Q (.ref p) H3))):=λ ds pp xs e3 ev hs rr=>by
  unfold tssL at e3;obtain⟨ps,ez,e4⟩:=z4E.mp e3;split at e4
  ·rename_i hz;cases e4;obtain⟨i5,bs,rfl,pr⟩:=Q7 rr ez;rw[hG] at pr;obtain⟨qs,eb,eq,at0⟩:=pairs_at pr i5;have er:bs.map V.ref=rfs qs:=by rw[eb,z0p];rfl
   have at1:AtP X H1 qs:=K7 Ar at0;refine⟨pp,qs,by rw[ev],by rw[<-hG,<-er];exact hs,at1,by rw[eq,z06] at hz;exact hz,λ l rs hl nd sub all=>⟨l,rs,rfl,.inl Aj,K7 (Al hl _) λ x hx=>at1 x (sub x hx),nd,λ m ts hm per srt=>?_⟩⟩;have s2:Same H (upd H1 l (Wx X.w l rs)):=s1.trans (Al hl _);refine Z6 (ps:=ps) hG o s2 (λ x hx=>K7 (Az (Al hl _)) at0 x (sub x (per.mem_iff.mp hx))) hm (UG eq i5 srt λ x=>?_) k;constructor
   ·intro hx;obtain⟨y,hy,rfl⟩:=z0g.mp hx;rw[eq];exact z0g.mpr ⟨y,sub y (per.mem_iff.mp hy),rfl⟩
   ·intro hx;rw[eq] at hx;obtain⟨y,hy,rfl⟩:=z0g.mp hx;obtain⟨z,hz,ez⟩:=z0g.mp (all y hy);exact z0g.mpr ⟨z,per.mem_iff.mpr hz,ez⟩
  ·cases e4
 unfold tssD at e2;split at e2
 ·obtain⟨pp,xs,ev,hs,r⟩:=r1.lst;exact core _ pp xs e2 ev (.inl hs) r
 ·obtain⟨pp,xs,ev,hs,r⟩:=r1.tup;exact core _ pp xs e2 ev (.inr hs) r
 ·cases e2
theorem vz {z:Str}{p r pos3:Pos}(hc:X.calm=true) (hG:G.K=X.K) (hg:Gl X z) (hm:X.mg z=none) (hv:z0x z=some (.type "tuple")) (hg1:Gl X x) (hm1:X.mg x=none) (hv1:z0x x=some (.builtin "sorted")) (ha:PU X G a fa)
  (hn:z≠"__name__":=by decide) (hdb:(z==("__debug__":Str))=false:=by decide) (hn1:x≠"__name__":=by decide) (hdb1:.(3)=false:=by decide) (he:z09 [a] X.env=[.(7)]:=by rfl)
  (he2:z09 [.Call (.Name x p) [a] [] pos3] X.env=[(false,eval (.Call (.Name x p) [a] [] pos3) X.env)]:=by rfl) :
  PF X G (.Call (.Name z r) [.Call (.Name x p) [a] [] pos3] [] pos) (uF tslD fa):=λ A=>Bu (Gm Ma hg hm hv (Bo (Km (Oe hc) hg1 hm1 hv1 (Bo (@ha A) Cw he) hn1 hdb1 he rfl) Cw he2) hn hdb he2 rfl) λ σ H Q ⟨ρ,d,o,e,k⟩=>by
 obtain⟨dx,e1,e2⟩:=Gw e;refine⟨ρ,dx,o,e1,λ v H1 s1 r1=>?_⟩;have core:∀ (ds:List D) (pp:Addr) (xs:List V),tslL ds=some d->v=.ref pp->(SqL G.K H1 pp xs∨SqT G.K H1 pp xs)->RepL G (hid A H1) xs ds->R_ X [v] H1 λ x3 H3=>(∃ p ys,[x3]=[.ref p]/\((SqL X.K H3 p ys/\∀ l,H3 l=none->Q (.ref l) (upd H3 l (.tup ys)))∨(SqT X.K H3 p ys/\Q (.ref p) H3))):=λ ds pp xs e3 ev hs rr=>by
  unfold tslL at e3;obtain⟨ps,ez,e4⟩:=z4E.mp e3;split at e4
  ·rename_i hz;cases e4;obtain⟨i5,bs,rfl,pr⟩:=Q7 rr ez;rw[hG] at pr;obtain⟨qs,eb,eq,at0⟩:=pairs_at pr i5;have er:bs.map V.ref=rfs qs:=by rw[eb,z0p];rfl
   have at1:AtP X H1 qs:=K7 Ar at0;have lz:qs.length<=17:=by have:=hz.1;rw[eq,z06] at this;exact this
   refine⟨pp,qs,by rw[ev],.inr ⟨by rw[<-hG,<-er];exact hs,by omega⟩,at1,by rw[<-eq];exact hz.2,λ m ts hm per srt=>?_⟩;refine Z6 (ps:=ps) hG o s1 (λ x hx=>at0 x (per.mem_iff.mp hx)) hm (UG eq i5 srt λ x=>?_) k;rw[eq];exact (per.map (·.1)).mem_iff
  ·cases e4
 unfold tslD at e2;split at e2
 ·obtain⟨pp,xs,ev,hs,r⟩:=r1.lst;exact core _ pp xs e2 ev (.inl hs) r
 ·obtain⟨pp,xs,ev,hs,r⟩:=r1.tup;exact core _ pp xs e2 ev (.inr hs) r
 ·cases e2
end
open PyProof.Rows hiding St
def mnN (val:Nat->Int):Nat->Int
 | 0=>val 0
 | k+1=>if val (k+1)<mnN val k then val (k+1) else mnN val k
def W2 (x y:D):Option D:=match x with
 | .lst ds=>(Fl ds).map λ ns=>if ns=[] then y else .int (mnN (λ i=>ns.getD i 0) (ns.length-1))
 | _=>none
section
variable {A:z0a}{R:z2u->z03->Prop}{I:Addr}{wr:List Addr}{P:Nat->z00->Prop}{Sx:Nat->Heap->Prop}
theorem Va:(toString "min"++toString ".loop":String)="min.loop":=by decide
theorem qJ (W:z1E prog w A.in1 I fp wr n P Sx) (bt:Nat->Nat->Bool) (hcmp:CmpOf prog w A.in1 .Lt P bt) (S:Addr) (nS:S∉fp) :
  ∀ (k j:Nat) (s:z03) (vb:z00) (c:Nat),k=n-(j+1)->j+1<=n->Sx (j+1) s.heap->P (z0Q bt j) vb->s.heap.get? S=some { cls:=.type "list",dict:=none,data:=.seq #[vb,vb] c,slots:=#[] } ->
  (∀ v h' tk,P (z0Q bt (n-1)) v->.(36)->R (.ok (.ret v)) { s with heap:=h',toks:=tk })->z11 (z04 prog w) A (.builtin "min.loop" ⟨[.ref I,.none,.ref S],kw⟩) R s:=by
 have nW:S∉wr:=λ h=>nS (W.sub _ h);intro k
 induction k with
 | zero=>
  intro j s vb c hk hj hst hb hS hR;have en:j+1=n:=by omega
  refine z1A z7D (by
   rw[z2o z3v _];show z02 _ A.in1 (z2R (.ref S) >>= _) _ _ s;refine z01 (z1S hS rfl ?_);show z02 _ A.in1 (tryCatch (z0M (.ref I)) _ >>= _) _ _ s;refine z01 (z2p (W.done s _ _ (by rw[<-en];exact hst) λ h1 tk kp=>?_));have hS1:=kp S _ nW hS;show z02 _ A.in1 (z3T S (λ _=>#[]) >>= _) _ _ _;refine z01 (z2S hS1 rfl (z01 (z2D (z05 ?_))));exact hR vb _ tk (by rw[<-en];exact hb) λ b o nb nbS e=>(z13 _ _ (z0n nbS)).trans (kp b o nb e))
 | succ k ih=>
  intro j s vb c hk hj hst hb hS hR;have hlt:j+1<n:=by omega
  refine z1A z7D (by
   rw[z2o z3v _];show z02 _ A.in1 (z2R (.ref S) >>= _) _ _ s;refine z01 (z1S hS rfl ?_);show z02 _ A.in1 (tryCatch (z0M (.ref I)) _ >>= _) _ _ s;refine z01 (z2p (W.item (j+1) s _ _ hlt hst λ v h1 tk hP st1 kp=>?_));have hS1:=kp S _ nW hS;show z02 _ A.in1 (tryCatch (z1v [v,v] (richCompare .Lt v vb >>= _)) _ >>= _) _ _ _;refine z01 (z2p (wpAny_holding (z01 (hcmp (j+1) (z0Q bt j) v vb _ _ _ hP hb ?_))));refine z01 (wpAny_holding (z1I (z01 (z2D (z05 ?_)))));cases q:bt (j+1) (z0Q bt j) with
   | true=>
    simp only[if_true];refine z01 (z2S hS1 rfl (z01 (z2D ?_)));rw[Va];refine z05 ⟨z1_ z3v _,ih (j+1) _ v _ (by omega) hlt .(29) (by simp only[z0Q,q,if_true];exact hP) (z1F _ hS1 rfl)
     λ v2 h2 tk2 hP2 kp2=>hR v2 h2 tk2 hP2 λ b o nb nbS e=>kp2 b o nb nbS ((z13 _ _ (z0n nbS)).trans (kp b o nb e))⟩
   | false=>
    simp only[z0G,if_false];refine z01 (z2D ?_);rw[Va];exact z05 ⟨z1_ z3v _,ih (j+1) _ vb c (by omega) hlt st1 (by simp only[z0Q,q,z0G,if_false];exact hb) hS1 λ v2 h2 tk2 hP2 kp2=>hR v2 h2 tk2 hP2 λ b o nb nbS e=>kp2 b o nb nbS (kp b o nb e)⟩)
theorem jh (W:z1E prog w A.in1 I fp wr n P Sx) (bt:Nat->Nat->Bool) (hcmp:CmpOf prog w A.in1 .Lt P bt) (S:Addr) (nS:S∉fp) {s:z03}{c:Nat}{nm:Str}{dv:z00}(hst:Sx 0 s.heap)
  (hS:s.heap.get? S=some { cls:=.type "list",dict:=none,data:=.seq #[] c,slots:=#[] })
  (hR:0<n->∀ v h' tk,P (z0Q bt (n-1)) v->.(36)->R (.ok (.ret v)) { s with heap:=h',toks:=tk })
  (h0:n=0->∀ h' tk,(∀ b o,b∉wr->s.heap.get? b=some o->h'.get? b=some o)->R (.ok (.ret dv)) { s with heap:=h',toks:=tk }) :
  z11 (z04 prog w) A (.builtin "min.loop" ⟨[.ref I,.none,.ref S],[(nm,dv)]⟩) R s:=by
 have nW:S∉wr:=λ h=>nS (W.sub _ h);refine z1A z7D (by
  rw[z2o z3v _];show z02 _ A.in1 (z2R (.ref S) >>= _) _ _ s;refine z01 (z1S hS rfl ?_);show z02 _ A.in1 (tryCatch (z0M (.ref I)) _ >>= _) _ _ s
  by_cases hn:0<n
  ·refine z01 (z2p (W.item 0 s _ _ hn hst λ v h1 tk hP st1 kp=>?_));have hS1:=kp S _ nW hS;show z02 _ A.in1 (z3T S (λ _=>#[v,v]) >>= _) _ _ _;refine z01 (z2S hS1 rfl ?_);rw[Va];exact z05 ⟨z1_ z3v _,qJ W bt hcmp S nS _ 0 _ v _ rfl hn .(29) hP (z1F _ hS1 rfl)
    λ v2 h2 tk2 hP2 kp2=>hR hn v2 h2 tk2 hP2 λ b o nb nbS e=>kp2 b o nb nbS ((z13 _ _ (z0n nbS)).trans (kp b o nb e))⟩
  ·have en:n=0:=by omega
   refine z01 (z2p (W.done s _ _ (by rw[en];exact hst) λ h1 tk kp=>?_));exact z01 (z33 (z05 (h0 en h1 tk kp))))
end
section
variable {A:z0a}{l:Addr}{xs:Array (Int×Tok)}
theorem cL (a v:z00):z2T "min" ⟨[a],[(z0F "default",v)]⟩:=by unfold z2T;kernel_rfl
theorem cM {dv:z00}(hh:A.handled=none) (hl:s.heap.IsList l (z0A xs))
  (h1:0<xs.size->∀ v h' tk,(z0A xs)[z0Q (λ i j=>decide (z0R xs i<z0R xs j)) (xs.size-1)]?=some v->.(2)->Q v { s with heap:=h',toks:=tk })
  (h0:xs.size=0->∀ h' tk,.(2)->Q dv { s with heap:=h',toks:=tk }) :
  z02 (z04 prog w) A (call (.builtin "min") [.ref l] [(z0F "default",dv)]) Q E s:=by
 refine z8D PySem.F.kind_min PySem.F.plain_min PySem.F.entry_min (cL _ _) ?_;show z02 _ A.in1 (z5m "min" ["key","default"] 0 ⟨[],[(z0F "default",dv)]⟩ >>= _) _ _ s;refine z01 (z4r (show z5m "min" ["key","default"] 0 ⟨[],[(z0F "default",dv)]⟩=pure [none,some dv] from rfl) (z01 (z05 ?_)));refine z01 (iter_intList hl λ s2 e st hfp hlI=>?_);subst e;refine z01 (z1P ?_);have nS:.(14).objs.size∉[s.heap.objs.size,l]:=λ hm=>z1l _ (hfp _ hm);have W:z1E prog w A.in1.in1 s.heap.objs.size [s.heap.objs.size,l] [s.heap.objs.size] (z0A xs).size (λ i v=>(z0A xs)[i]?=some v) (λ i h=>h.IsListIter s.heap.objs.size l i/\h.IsList l (z0A xs)):=z3U (A:=A.in1.in1) hh _ l hlI (z0A xs);have W1:z1E prog w A.in1 s.heap.objs.size [s.heap.objs.size,l] [s.heap.objs.size] (z0A xs).size (λ i v=>(z0A xs)[i]?=some v) (λ i h=>h.IsListIter s.heap.objs.size l i/\h.IsList l (z0A xs)):=z3U (A:=A.in1) hh _ l hlI (z0A xs);have sz:(z0A xs).size=xs.size:=by simp[z0A]
 have up:∀ b o,s.heap.get? b=some o->(.(14).push { cls:=.type "list",data:=.seq ([]:List z00).toArray }).get? b=some o:=λ b o e=>z0d _ (z0d _ e);rw[Va];refine z05 ⟨z1_ z3v _,jh W1 (λ i j=>decide (z0R xs i<z0R xs j)) (CmpOf.ints_lt (z0R xs) (λ _ _=>z4s)) _ nS (W1.frame 0 _ _ st λ b hb o e=>z0d _ e) (z0l _ rfl) (λ hn v h' tk hP kp=>?_) (λ hn h' tk kp=>?_)⟩
 ·refine h1 (by rw[<-sz];exact hn) v h' tk (by rw[sz] at hP;exact hP) λ b o e=>kp b o ?_ ?_ (up b o e)
  ·intro hm;exact absurd (z0f e) (by rw[z2c.mp hm];exact z1l _)
  ·intro z;have q:b<s.heap.objs.size:=z0f e;rw[z1w] at z;exact absurd (z▸q) (z1Z.mpr (z1N _))
 ·refine h0 (by rw[<-sz];exact hn) h' tk λ b o e=>kp b o ?_ (up b o e);intro hm;exact absurd (z0f e) (by rw[z2c.mp hm];exact z1l _)
end
theorem W3 (val:Nat->Int):∀ k,val (z0Q (λ i j=>decide (val i<val j)) k)=mnN val k
 | 0=>rfl
 | k+1=>by
  have ih:=W3 val k;unfold z0Q mnN
  by_cases h:val (k+1)<mnN val k
  ·rw[if_pos (by rw[ih];exact decide_eq_true h),if_pos h]
  ·rw[if_neg (by rw[ih];simpa using h),if_neg h];exact ih
theorem UJ {f g:Nat->Int}:∀ {k:Nat},(∀ i,i<=k->f i=g i)->mnN f k=mnN g k
 | 0,h=>h 0 (z07 _)
 | k+1,h=>by
  unfold mnN;rw[h (k+1) (z07 _),UJ λ i hi=>h i (z5l hi)]
def yN (K:z08):V->V->Hp->VK->Prop:=λ x y H Q=>∃ p ns,x=.ref p/\SqL K H p (ns.map V.int)/\Q (if ns=[] then y else .int (mnN (λ i=>ns.getD i 0) (ns.length-1))) H
section
variable {a b:Expr}{fa fb:FE}{p kpos:Pos}
theorem qK (hc:X.calm=true) {π:zP}{s:z03}{σ:St}{H:Hp}{x y:V}{v u:z00}{Q:VK}(I:Inv X π σ H s) (rx:RelV x v) (ry:RelV y u) (h:yN X.K x y H Q) :
  z02 .(0) X.A (call (.builtin "min") [v] [(z0F "default",u)]) (EP X π σ Q) X.xe s:=by
 obtain⟨q,ns,rfl,hs,k⟩:=h;cases rx;obtain⟨its,rv,pl,hz⟩:=I.list hs;obtain⟨xs,e1,e2,e3⟩:=Ri rv;have hl:s.heap.IsList q (z0A xs):=by rw[<-e1];exact pl.isList
 refine cM (I.ok.hd hc) hl (λ hn w h' tk hP kp=>?_) (λ hn h' tk kp=>?_)
 ·have nn:ns≠[]:=λ z=>by rw[z] at e2;exact absurd hn (by rw[e2];exact z1l _)
  rw[if_neg nn] at k;obtain⟨t,rfl⟩:=z4s hP;refine⟨.int _,H,I.kept kp,⟨t,?_⟩,k⟩;have hle:=Jw (λ i j=>decide (z0R xs i<z0R xs j)) (xs.size-1);have q:=W3 (z0R xs) (xs.size-1);rw[q,e2];congr 1;have hpos:0<ns.length:=z6T.mpr nn;exact UJ λ i hi=>e3 i (by omega)
 ·have nn:ns=[]:=by
   rw[hn] at e2;exact z2C.mp e2.symm
  rw[if_pos nn] at k;exact⟨y,H,I.kept kp,ry,k⟩
theorem qL (hc:X.calm=true) (hG:G.K=X.K) (hg:Gl X x) (hm:X.mg x=none) (hv:z0x x=some (.builtin "min")) (ha:PU X G a fa) (hb:PF X G b fb) (hn:x≠"__name__":=by decide) (hdb:.(3)=false:=by decide)
  (he:z09 [a] X.env=[.(7)]:=by rfl) (hk:z1f [⟨some (z0F "default"),b,kpos⟩] X.env=[(some (z0F "default"),eval b X.env)]:=by rfl) :
  PF X G (.Call (.Name x p) [a] [⟨some (z0F "default"),b,kpos⟩] pos) (bF W2 fa fb):=λ A π s σ H Q I h=>by
 obtain⟨ρ,d,o,e,k⟩:=h;obtain⟨dx,dy,e1,e2,e3⟩:=Np e;refine z3O (Kh I hg hm hv ?_ hn hdb);have hA:=Bo (X:=X) (@ha A) Cw he pos π s σ H (λ vs H1=>∃ v,vs=[v]/\Same H H1/\RepT G A H1 v dx) I ⟨ρ,dx,o,e1,λ v H1 s1 r1=>⟨v,rfl,s1,r1⟩⟩;refine callWith_kw (thn hA λ us s1 ⟨vs,H1,I1,rv,v,ev,s1',r1⟩=>?_) (by rw[he];rfl) (by rw[he];rfl) (by rw[hk];rfl) (by rw[hk];rfl);subst ev;have hK:=Y0 (X:=X) (nm:=some (z0F "default")) (kpos:=kpos) (@hb A) d7 pos π s1 σ H1 (λ vs H2=>∃ v,vs=[v]/\Same H1 H2/\Rep G (hid A H2) v dy) I1 ⟨ρ,dy,o.mono s1',e2,λ v H2 s2 r2=>⟨v,rfl,s2,r2⟩⟩;refine thn hK λ ks s2 ⟨ws,H2,I2,rw',y,ey,s2',r2⟩=>?_;subst ey;obtain⟨u,rfl,ru⟩:=vals1 rv;obtain⟨u2,rfl,ru2⟩:=vals1 rw';rw[hk];have s0:=s1'.trans s2';unfold W2 at e3;cases dx with
 | lst ds=>
  simp only at e3;cases ei:Fl ds with
  | none=>simp[ei] at e3
  | some ns=>
   simp only[ei,z1z] at e3;obtain⟨q,xs,rfl,h1,rr⟩:=(r1.mono s2').lst;have ex:=ints_rep rr ei;subst ex;refine qK hc I2 ru ru2 ⟨q,ns,rfl,by rw[<-hG];exact h1,?_⟩
   by_cases nn:ns=[]
   ·rw[if_pos nn] at e3 ⊢;cases e3;exact k _ H2 s0 r2
   ·rw[if_neg nn] at e3 ⊢;cases e3;exact k _ H2 s0 (.int _)
 | _=>cases e3
end
def tZ (K:z08):R2:=λ x y H Q=>∃ a b xs ys,x=.ref a/\y=.ref b/\SqT K H a xs/\SqT K H b ys/\ys≠[]/\xs.length+ys.length<=sizeLine ∧
 (xs=[]->Q (.ref b) H)/\∀ p,H p=none->Q (.ref p) (upd H p (.tup (xs++ys)))
def catU:D->D->Option D
 | .tup ds,.tup es=>if es≠[]/\ds.length+es.length<=1000 then some (.tup (ds++es)) else none
 | _,_=>none
section
theorem qM:OpR X (z1u .Add) (tZ X.K):=by
 intro π s σ H x y v u Q I rx ry h;obtain⟨a,b,xs,ys,rfl,rfl,ha,hb,hy,hz,q1,q2⟩:=h;cases rx;cases ry;obtain⟨its,r1,p1,_⟩:=I.tuple ha;obtain⟨its2,r2,p2,_⟩:=I.tuple hb
 by_cases hv:its=[]
 ·obtain⟨⟨cls,dd,data,sl⟩,ho,hc,n,hd⟩:=id p1;obtain⟨⟨cls2,dd2,data2,sl2⟩,ho2,hc2,n2,hd2⟩:=id p2;simp only at hc hd hc2 hd2;subst hc hd hc2 hd2;exact z5b ⟨_,ho,rfl⟩ ⟨_,ho2,rfl⟩ z6q z6r z6s z6t (z6u _ _)
   (tuple_addW0 a b its.toArray its2.toArray n n2 dd dd2 sl sl2 (by simp[hv])) ⟨ho,ho2,⟨.ref b,H,I,rfl,q1 (r1.nil_iff.mp hv)⟩⟩
 ·refine HT.nF p1 p2 hv (λ z=>absurd (r2.nil_iff.mp z) hy) (λ z=>?_) (by rw[<-r1.length,<-r2.length];exact hz);refine⟨.ref s.heap.objs.size,_,I.laid (t':=s.toks) (o:=.tup (xs++ys)) (λ b ob q=>z0d _ q) (z07 _) ?_,rfl,q2 _ (I.hok.fresh (z07 _))⟩;exact⟨by rw[z0N];exact hz,_,r1.append r2,z6A _ _⟩
theorem ji:Dk G (tZ G.K) catU:=by
 intro A H x y dx dy d Q lv rx ry h k;unfold catU at h;split at h
 ·rename_i ds es;split at h
  ·rename_i hz;cases h;obtain⟨l,xs,rfl,h1,r1⟩:=rx.tup;obtain⟨m,zs,rfl,h2,r2⟩:=ry.tup;refine⟨l,m,xs,zs,rfl,rfl,h1,h2,λ z=>hz.1 ?_,by rw[r1.1,r2.1,z1p];omega,λ z=>?_,λ p hp=>k _ _ (Al hp _) (Ds lv hp (r1.append r2))⟩
   ·rw[z] at r2;exact z2C.mp r2.1.symm
   ·have:ds=[]:=by
     rw[z] at r1;exact z2C.mp r1.1.symm
    rw[this,z1G] at k
    rcases ry with ry | ⟨a,e,ry⟩
    ·exact k _ H .(21) ry
    ·exact ry.elim
  ·cases h
 ·cases h
end
end PV
namespace PV
open PySem PySem.Spec L2 EX
open PyProof.Rows hiding St
abbrev Mu:=List (Addr×D)
abbrev KM:=Out->Mu->Prop
abbrev FM:=Rho->Mu->KM->Prop
section
variable {Hb:Hp}{μ:Mu}
end
abbrev FXM:=Rho->Mu->(D->Mu->Prop)->Prop
section
variable {Hb:Hp}{μ:Mu}
end
section
variable {a b c:Expr}{fa fb fc:FE}{rest:List Stmt}{gp:FS}{g gs gb:FM}{h:FXM}
end
section
variable {a b c:Expr}{fa fb fc:FE}{p:Pos}{es:List Expr}{fs:FA}{g:FM}
end
theorem boot_enumerate:z0x "enumerate"=some (.type "enumerate"):=by decide +kernel
section
variable {a:Expr}{fa:FE}{p:Pos}{ta:TA}
def revI (f:FE):FI:=λ ρ=>match f ρ with | some (.lst ds)=>some ds.reverse | _=>none
def Ite (K:z08) (a:Addr):It:=
 ⟨λ i H=>∃ xs x,SqL K H a xs/\xs[i]?=some x,λ i H x H'=>∃ T y,H T=none/\(∀ xs,SqL K H a xs->xs[i]?=some y)/\x=.ref T/\H'=upd H T (.tup [.int i,y]),λ i H=>∃ xs,SqL K H a xs/\xs.length<=i⟩
theorem cP {K:z08}(a it e:Addr) (hne:e≠it) :
  Turn P w K (.Tuple elts x1 tp) (Ite K a) [e,it] e (λ i h=>(∃ old,z2e h e it ((i:Nat):Int) old)/\h.IsListIter it a i) where
 mem:=by simp
 obj:=λ i h st b hb=>by
  obtain⟨⟨old,st1⟩,o,eo,c,d⟩:=st
  rcases z0j.mp hb with z | z
  ·subst z;exact⟨_,st1,λ v z=>by
    have z':z52 _=z53 v:=z;cases z'⟩
  ·have z:b=it:=by simpa using z
   subst z;exact⟨o,eo,λ v z=>by rw[d] at z;cases z⟩
 keep:=λ i h h' st k=>⟨let ⟨old,z⟩:=st.1;⟨old,k e (by simp) _ z⟩,st.2.at λ o z=>k it (by simp) o z⟩
 item:=by
  intro X hP hw hK hc i π s σ H E I hf st hg;subst hP hw hK;obtain⟨⟨old,st1⟩,st2⟩:=st;obtain⟨xs,x,hq,hx⟩:=hg;obtain⟨its,rv,p,hz⟩:=I.list hq;obtain⟨u,hu,ru⟩:=rv.get hx;obtain⟨f0,f1,f2,f3,f4,f5⟩:=hf e (by simp);obtain⟨g0,g1,g2,g3,g4,g5⟩:=hf it (by simp);have hlt:e<s.heap.objs.size:=z0f st1;have hlt2:it<s.heap.objs.size:=by obtain⟨o,eo,_⟩:=id st2;exact z0f eo
  refine wpAny_pyNext_enum_item st1 st2 p.isList (x:=u) (by simpa using hu) hne λ h1 he1 hit1 ht1 hz1 kk=>?_;refine⟨_,rfl,z9B (s:={ s with heap:=h1,toks:=s.toks+1 }) he1 λ h2 he2 sb=>?_⟩;have hT:H s.heap.objs.size=none:=I.hok.fresh (z07 _);have I1:Inv X π σ (upd H s.heap.objs.size (.tup [.int i,x])) { s with heap:=s.heap.push { cls:=.type "tuple",data:=.seq #[.int i s.toks,u] } }:=
   I.laid (a:=s.heap.objs.size) (t':=s.toks) (λ b u e=>z0d _ e) (z07 _) ⟨by show 2<=sizeLine;decide,[.int i s.toks,u],.cons ⟨_,rfl⟩ (.cons ru .nil),_,z0l _ rfl,rfl,_,rfl⟩
  let hA:=(s.heap.push { cls:=.type "tuple",data:=.seq #[.int i s.toks,u] })
  have hbig:s.heap.objs.size<h1.objs.size:=by omega
  obtain⟨oi,eoi,_⟩:=id hit1;have I2:Inv X π σ (upd H s.heap.objs.size (.tup [.int i,x])) { s with heap:=h2,toks:=s.toks+1 }:=by
   have fr:({ cls:=.type "enumerate",data:=.fields #[.none,.bool false,.ref it,z0H ((i:Nat):Int),.none,old] }:Obj).isFreed=false:=rfl;have gm:=z1F .(4) he2 fr;have go:∀ b,b≠e->(h2.update e .(4)).get? b=h2.get? b:=λ b hb=>z13 _ _ (z0n hb);generalize h2.update e .(4)=hm at gm go;have k1:∀ b o,b≠it->(s.heap.push { cls:=.type "tuple",data:=.seq #[.int i s.toks,u] }).get? b=some o->hm.get? b=some o:=λ b o hb z=>by
    by_cases hbe:b=e
    ·rcases z4u z with ⟨q,_⟩ | q
     ·rw[hbe] at q;exact absurd q (z0i hlt)
     ·rw[hbe] at q ⊢;have:s.heap.get? e=_:=st1;rw[this] at q;cases q;exact gm
    ·rw[go b hbe];refine (sb.2 b hbe).trans ?_
     rcases z4u z with ⟨q,rfl⟩ | q
     ·rw[q];exact ht1
     ·exact kk b o hbe hb q
   have I3:=L2.Inv.turned (t':=s.toks+1) (it:=it) (h':=hm) I1 k1 (by rw[Ak (z0i hlt2)];exact g0) g1 g3 g4 g5;exact L2.Inv.turned (s:={ s with heap:=hm,toks:=s.toks+1 }) (t':=s.toks+1) (it:=e) (h':=h2) I3 (λ b o hb z=>by have z':hm.get? b=some o:=z;rw[go b hb] at z';exact z') (by rw[Ak (z0i hlt)];exact f0) f1 f3 f4 f5
  refine⟨.ref s.heap.objs.size,_,I2,rfl,⟨_,x,hT,λ ys hy=>by rw[I.list_inj hy hq];exact hx,rfl,rfl⟩,⟨⟨u,by simpa using he2⟩,hit1.at λ o z=>(sb.2 it (z0n hne)).trans z⟩,λ b hb=>?_⟩
  rcases z0j.mp hb with z | z
  ·rw[z,Ak (z0i hlt)];exact f0
  ·have z:b=it:=by simpa using z
   rw[z,Ak (z0i hlt2)];exact g0
 done:=by
  intro X hP hw hK hc i π s σ H E I hf st hg;subst hP hw hK;obtain⟨⟨old,st1⟩,st2⟩:=st;obtain⟨xs,hq,hx⟩:=hg;obtain⟨its,rv,p,hz⟩:=I.list hq;obtain⟨g0,g1,g2,g3,g4,g5⟩:=hf it (by simp);have hl:=rv.length;exact wpAny_pyNext_enum_end (I.ok.hd hc) st1 st2 p.isList .(17) λ h' eb=>⟨rfl,I.turned (t':=s.toks) (λ b o hb e=>eb b o hb e) g0 g1 g3 g4 g5⟩
 self:=λ _ _ _ _ _ st h=>let ⟨old,z⟩:=st.1;z5M z h
def yO (K:z08) (ta:TA):TI:=λ σ H R=>ta σ H λ vs H1=>∃ a,vs=[.ref a]/\(∃ xs,SqL K H1 a xs)/\R (Ite K a) H1
theorem qN (hg:Gl X "enumerate") (hm:X.mg "enumerate"=none) (ha:PA X [a] ta) (hs:z09 [a] X.env=[.(7)]:=by rfl):PI X (.Tuple elts x1 tp) (.Call (.Name "enumerate" p) [a] [] pos) (yO X.K ta):=by
 intro π s σ H R I h;refine Call_ (Kh I hg hm boot_enumerate (z55 (thn (ha pos π s σ H _ I h) λ us s1 ⟨vs,H1,I1,r1,q1⟩=>?_) hs rfl));obtain⟨l,e,⟨xs,hq⟩,q⟩:=q1;subst e;cases r1 with
 | cons r rr=>
  cases rr;cases r;obtain⟨its,rv,p,hz⟩:=I1.list hq;refine call_enumerate_list p.isList λ h' he hit hz' kp=>?_;refine z5M he ?_;have I2:Inv X π σ H1 { s1 with heap:=h' }:=I1.kept (t':=s1.toks) kp;refine⟨s1.heap.objs.size+1,[s1.heap.objs.size+1,s1.heap.objs.size],_,_,H1,rfl,I2,cP l s1.heap.objs.size (s1.heap.objs.size+1) (z6G _),⟨⟨_,he⟩,hit⟩,λ b hb=>?_,q⟩;have hb':s1.heap.objs.size<=b:=by
   rcases z0j.mp hb with z | z
   ·rw[z];exact z1N _
   ·have z:b=s1.heap.objs.size:=by simpa using z
    rw[z];exact z07 _
  exact I1.fpOk hb' (I1.hok.fresh hb')
def enD:Nat->List D->List D
 | _,[]=>[]
 | n,d::r=>.tup [.int (n:Nat),d]::enD (n+1) r
theorem J1:∀ (n:Nat) (ds:List D),(enD n ds).length=ds.length
 | _,[]=>rfl
 | n,d::r=>by rw[enD,z0u,z0u,J1]
theorem Vb:∀ (n:Nat) (ds:List D) (i:Nat) (d:D),(enD n ds)[i]?=some d->∃ e,ds[i]?=some e/\d=.tup [.int ((n+i:Nat):Int),e]
 | _,[],i,d,h=>by simp[enD] at h
 | n,x::r,0,d,h=>by simp[enD] at h;exact⟨x,rfl,by rw[<-h];simp⟩
 | n,x::r,i+1,d,h=>by
  simp only[enD,z23] at h ⊢;obtain⟨e,h1,h2⟩:=Vb (n+1) r i d h;exact⟨e,h1,by rw[h2];congr 3;omega⟩
def enI (f:FE):FI:=λ ρ=>match f ρ with | some (.lst ds)=>some (enD 0 ds) | _=>none
theorem jk (h:SqL G.K F1 q xs) (r:RepL G F2 xs ds):Src G (Ite G.K q) (enD 0 ds) F1 F2 where
 go:=λ i H s hi=>⟨xs,xs[i]'(by rw[r.1];rwa [J1] at hi),s.seq h,by rw[J1] at hi;simp[r.1,hi]⟩
 yld:=λ i H x H' d s hd y=>by
  obtain⟨T,z,hT,y2,rfl,rfl⟩:=y;obtain⟨e,he,rfl⟩:=Vb 0 ds i d hd;have rz:Rep G F2 z e:=r.2 i z e (y2 xs (s.seq h)) he;refine⟨Al hT _,λ B lv sm=>?_⟩;rw[z1Q];exact Ds lv hT (.cons (.int _) (.cons (rz.mono sm) .nil))
 stop:=λ i H s hi=>⟨xs,s.seq h,by rw[J1] at hi;rw[r.1];exact hi⟩
theorem jo (hG:G.K=X.K) (hg:Gl X "enumerate") (hm:X.mg "enumerate"=none) (h:PF X G a fa) (hs:z09 [a] X.env=[.(7)]:=by rfl):PFI X G false (.Tuple elts x1 tp) (.Call (.Name "enumerate" p) [a] [] pos) (enI fa):=λ A=>Nr (qN hg hm (Bo (@h A) Cw hs) hs) λ σ H R ⟨ρ,ds,o,e,k⟩=>by
 unfold enI at e;split at e
 ·rename_i ds' e1;cases e;refine⟨ρ,_,o,e1,λ v H1 s1 r1=>?_⟩;cases r1 with
  | lst h l r=>
   rename_i b xs;refine⟨b,rfl,⟨xs,by rw[<-hG];exact Ar.seq h⟩,?_⟩;rw[<-hG];exact k _ H1 s1 (jk h ⟨l,r⟩)
 ·cases e
end
end PV
namespace PV
open PySem PySem.Spec L2
section
variable {A:z0a}
def NxOk (prog:z0s) (w:z0k) (s:z03) (it:Addr) (x:z00) (P:Heap->Prop):Prop:=∀ (B:z0a) (E2:z00->z03->Prop) (R:z00->z03->Prop),(∀ h1,z14 it s.heap h1->P h1->R x { s with heap:=h1 })->z02 (z04 prog w) B (z5N (.ref it)) R E2 s
theorem qO {e:Addr}{x old:z00}{P:Heap->Prop}{Q:Option z00->z03->Prop}(he:z2e s.heap e it i old) (hne:e≠it) (nx:NxOk prog w s it x P) (st:∀ g g',P g->(∀ o,g.get? it=some o->g'.get? it=some o)->P g')
  (k:∀ h',IsEnumOut h' e it ((i:Int)+1) x s.heap.objs.size->P h'->h'.get? s.heap.objs.size=some { cls:=.type "tuple",data:=.seq #[.int i s.toks,x] }->h'.objs.size=s.heap.objs.size+1->(∀ b o,b≠e->b≠it->s.heap.get? b=some o->h'.get? b=some o)->Q (some .(5)) { s with heap:=h',toks:=s.toks+1 }) :
  z02 (z04 prog w) A (z0M (.ref e)) Q E s:=by
 have ty:s.TypeIs (.ref e) "enumerate":=⟨_,he,rfl⟩;have le:e<s.heap.objs.size:=z0f he;unfold z0M;refine z01 (z3W (z2x (name:=z0F "__next__") ty z5O (z1k z5O ty z9C ?_ (z9D _))));obtain⟨hp,gn,dr,tk,os⟩:=s;show z02 _ _ (z30 (.ref e) 2 >>= _) _ _ _;refine z01 (z1O he rfl (x:=.ref it) rfl (z01 (nx _ _ _ λ g1 (sb1:z14 it hp g1) p1=>?_)));have e1:z2e g1 e it i old:=(sb1.2 e hne).trans he;show z02 _ _ (z30 (.ref e) 3 >>= _) _ _ ⟨g1,gn,dr,tk,os⟩;refine z01 (z1O e1 rfl (x:=z0H i) rfl ?_);show z02 _ _ (z30 (.ref e) 4 >>= _) _ _ ⟨g1,gn,dr,tk,os⟩;refine z01 (z1O e1 rfl (x:=.none) rfl ?_);show z02 _ _ (mkInt i >>= _) _ _ ⟨g1,gn,dr,tk,os⟩;refine z01 (wpAny_mkInt ?_);show z02 _ _ (setField (.ref e) 3 (z0H ((i:Int)+1)) >>= _) _ _ ⟨g1,gn,dr,tk+1,os⟩;refine z01 (z4K e1 (by simp) λ g2 (e2:z2e g2 e it ((i:Int)+1) old) (sb2:z14 e g1 g2)=>?_);show z02 _ _ (setField (.ref e) 4 .none >>= _) _ _ ⟨g2,gn,dr,tk+1,os⟩;refine z01 (z4K e2 (by simp) λ g3 (e3:z2e g3 e it ((i:Int)+1) old) (sb3:z14 e g2 g3)=>?_);show z02 _ _ (z5o [.int i tk,x] >>= _) _ _ ⟨g3,gn,dr,tk+1,os⟩;refine z01 (wpAny_newTuple ?_);have z3:g3.objs.size=hp.objs.size:=by rw[sb3.1,sb2.1,sb1.1]
 obtain⟨g4,q4⟩:∃ g4,g4=g3.push { cls:=.type "tuple",data:=.seq #[.int i tk,x] }:=⟨_,rfl⟩;have e4:z2e g4 e it ((i:Int)+1) old:=q4▸z0d _ e3;have t4:g4.get? hp.objs.size=some { cls:=.type "tuple",data:=.seq #[.int i tk,x] }:=by rw[q4,<-z3];exact z0l _ rfl
 have z4:g4.objs.size=hp.objs.size+1:=by rw[q4,z1w,z3]
 have k4:∀ b o,b≠e->b≠it->hp.get? b=some o->g4.get? b=some o:=λ b o be bi q=>by
  rw[q4];exact z0d _ ((sb3.2 b be).trans ((sb2.2 b be).trans ((sb1.2 b bi).trans q)))
 have p4:P g4:=st g1 g4 p1 λ o q=>by
  rw[q4];exact z0d _ ((sb3.2 it (z0n hne)).trans ((sb2.2 it (z0n hne)).trans q))
 show z02 _ _ (z9E (.ref e) >>= _) _ _ ⟨g3.push { cls:=.type "tuple",data:=.seq #[.int i tk,x] },gn,dr,tk+1,os⟩;rw[<-q4,z3];clear q4 e3 sb3 e2 sb2 e1 sb1 p1 z3;unfold z9E;refine z01 (z01 (z1O e4 rfl (x:=.none) rfl (z05 ?_)));simp only[if_true];refine z01 (z33 (z01 (z1O e4 rfl (x:=old) rfl (z01 (z4K e4 (by simp) λ g5 (e5:z2e g5 e it ((i:Int)+1) x) (sb5:z14 e g4 g5)=>?_)))));show z02 _ _ (z9F (.ref e) (.ref hp.objs.size) >>= _) _ _ ⟨g5,gn,dr,tk+1,os⟩;unfold z9F;refine z01 (z01 (z4K e5 (by simp) λ g6 (e6:IsEnumOut g6 e it ((i:Int)+1) x hp.objs.size) (sb6:z14 e g5 g6)=>?_));refine z4K e6 (by simp) λ g7 (e7:IsEnumOut g7 e it ((i:Int)+1) x hp.objs.size) (sb7:z14 e g6 g7)=>?_;have up:∀ b,b≠e->∀ o,g4.get? b=some o->g7.get? b=some o:=λ b be o q=>(sb7.2 b be).trans ((sb6.2 b be).trans ((sb5.2 b be).trans q));refine z01 (z2D (z05 ⟨_,rfl,z05 (k g7 e7 (st g4 g7 p4 (up it (z0n hne))) (up _ (z2H le) _ t4) (by rw[sb7.1,sb6.1,sb5.1,z4]) λ b o be bi q=>up b be o (k4 b o be bi q))⟩))
theorem v4 {t:Addr}{us:Array z00}{x:z00}(hit:s.heap.IsTupleIter it t i) (ht:s.heap.IsTuple t us) (hx:us[i]?=some x):NxOk prog w s it x (λ h=>h.IsTupleIter it t (i+1)):=λ B E2 R k=>by
 obtain⟨o,g,c,d⟩:=id hit;obtain⟨ot,gt,_,nt,dt⟩:=ht;unfold z5N;refine z01 (z2x (name:=z0F "__next__") hit.typeIs z5P (z1k z5P hit.typeIs z9G ?_ (z9H _)));show z02 _ _ (z30 (.ref it) 0 >>= _) _ _ s;refine z01 (z1O g d (x:=.ref t) rfl ?_);show z02 _ _ (if (z0b t==z15)=true then _ else _) _ _ s;rw[if_neg (show ¬ ((z0b t==z15)=true) from z0D)];show z02 _ _ (z30 (.ref it) 1 >>= _) _ _ s;refine z01 (z1O g d (x:=.int i 0) rfl (show z02 _ _ (z2R (.ref t) >>= _) _ _ s from z01 (z1S gt dt ?_)));simp only[z19,hx];refine z01 (z3p g d (by simp) (z05 ⟨x,rfl,z05 (k _ (z3X ..) ?_)⟩));exact⟨_,z1F _ g (z5r (z3q d _)),(z5s ..).trans c,by rw[z3q d];simp[z0H]⟩
theorem jq {t:Addr}{us:Array z00}(hh:A.handled=none) (hit:s.heap.IsTupleIter it t i) (ht:s.heap.IsTuple t us) (hx:us[i]?=none)
  (k:∀ h' v,z4t it s.heap h'->(∃ o,h'.get? v=some o/\o.cls=.type "StopIteration")->E (.ref v) { s with heap:=h' }):z02 (z04 prog w) A (z5N (.ref it)) Q E s:=by
 obtain⟨o,g,c,d⟩:=id hit;obtain⟨ot,gt,_,nt,dt⟩:=ht;unfold z5N;refine z01 (z2x (name:=z0F "__next__") hit.typeIs z5P (z1k z5P hit.typeIs z9G ?_ (z9H _)));show z02 _ _ (z30 (.ref it) 0 >>= _) _ _ s;refine z01 (z1O g d (x:=.ref t) rfl ?_);show z02 _ _ (if (z0b t==z15)=true then _ else _) _ _ s;rw[if_neg (show ¬ ((z0b t==z15)=true) from z0D)];show z02 _ _ (z30 (.ref it) 1 >>= _) _ _ s;refine z01 (z1O g d (x:=.int i 0) rfl (show z02 _ _ (z2R (.ref t) >>= _) _ _ s from z01 (z1S gt dt ?_)));simp only[z19,hx];refine z01 (z33 (z01 (z3p g d (by simp) ?_)));show z02 _ _ (z3V (.type "StopIteration") [] >>= _) _ _ _;refine z01 ?_;simp only[z3V,z5o];refine z01 (z1P ?_ (by size_fits));refine z01 (m:=z5I _ _) (z4r (a:=z15) (by first | rfl | (simp only[z5I];rfl)) (z1P ?_ (by size_fits)));simp only[raiseNew];refine z01 (wpAny_handled ?_);rw[show A.in1.handled=none from hh];exact z01 (z05 (wpAny_throw (k _ _ (((z3X ..).extBut.push _).push _) ⟨_,z0l _ rfl,rfl⟩)))
theorem cQ {e t:Addr}{us:Array z00}{old:z00}{Q:Option z00->z03->Prop}(hh:A.handled=none) (he:z2e s.heap e it i old) (hit:s.heap.IsTupleIter it t i) (ht:s.heap.IsTuple t us) (hx:us[i]?=none)
  (k:∀ h',z4t it s.heap h'->Q none { s with heap:=h' }):z02 (z04 prog w) A (z0M (.ref e)) Q E s:=by
 have ty:s.TypeIs (.ref e) "enumerate":=⟨_,he,rfl⟩;unfold z0M;refine z01 (z3W (z2x (name:=z0F "__next__") ty z5O (z1k z5O ty z9C ?_ (z9D _))));show z02 _ _ (z30 (.ref e) 2 >>= _) _ _ _;refine z01 (z1O he rfl (x:=.ref it) rfl (z01 (jq hh hit ht hx λ h' v eb hv=>?_)));obtain⟨o,g,c⟩:=hv;exact z01 (z34 (T:="StopIteration") (b:=true) ⟨o,g,c⟩ z73 (z05 (k _ eb)))
theorem cR (t:Addr) (us:Array z00) (n:Nat) (dct:Option Addr) (sl:Array (Option z00)):Meets (z1e.«enumerate.__new__» ⟨[.type "enumerate",.ref t],[]⟩) (λ _ R s=>s.heap.get? t=some { cls:=.type "tuple",dict:=dct,data:=.seq us n,slots:=sl } ∧
  R (.ok (.ret (.ref .(13).objs.size))) { s with heap:=.(13).push { cls:=.type "enumerate",data:=.fields #[.none,.bool false,.ref s.heap.objs.size,z0H 0,.none,.none] } }):=.of_wp λ prog w A R s h=>by
 obtain⟨hp,gn,dr,tk,os⟩:=s;obtain⟨g,h⟩:=h;have sb:=sub_enumerate;have il:Heap.IsTuple (Shared.heap ⟨hp,gn,dr,tk,os⟩) t us:=⟨_,g,rfl,n,rfl⟩
 wp_walk using z5Q g
 refine wpAny_stack_any λ st=>z05 ?_;split
 ·rename_i c _ _ _ _ _;cases (c==z2g "enumerate")
  ·wp_walk using z5Q g,z4c il
   exact⟨_,rfl,h⟩
  ·wp_walk using z5Q g,z4c il
   exact⟨_,rfl,h⟩
 ·wp_walk using z5Q g,z4c il
  exact⟨_,rfl,h⟩
theorem YS {t:Addr}{us:Array z00}(ht:s.heap.IsTuple t us)
  (k:∀ h',z2e h' .(6) s.heap.objs.size 0 .none->h'.IsTupleIter s.heap.objs.size t 0->h'.objs.size=s.heap.objs.size+2->.(2)->Q (.ref .(6)) { s with heap:=h' }) :
  z02 (z04 prog w) A (call (.type "enumerate") [.ref t]) Q E s:=by
 obtain⟨⟨c,dct,dt,sl⟩,g,hc,n,hd⟩:=ht;obtain rfl:c=.type "tuple":=hc;obtain rfl:dt=.seq us n:=hd;refine callType_new F.called_enumerate (by decide) (F.typeCall_enumerate_1 _) (F.newCall_enumerate_1 _) (λ ob=>F.args_object_init_2 ob _) F.entry_enumerate_new (cR t us n dct sl) ⟨g,?_⟩;have hz:.(13).objs.size=s.heap.objs.size+1:=z1w ..;show _/\_;rw[hz];have he:z2e (.(13).push { cls:=.type "enumerate",data:=.fields #[.none,.bool false,.ref s.heap.objs.size,z0H 0,.none,.none] }) .(6) s.heap.objs.size 0 .none:=by
  have:=z0l .(13) (o:={ cls:=.type "enumerate",data:=.fields #[.none,.bool false,.ref s.heap.objs.size,z0H 0,.none,.none] }) rfl
  rwa [hz] at this
 exact⟨⟨_,he,rfl⟩,k _ he ⟨_,z0d _ (z0l _ rfl),rfl,rfl⟩ (by rw[z1w,hz]) λ b o x=>z0d _ (z0d _ x)⟩
end
section
variable {a:Expr}{fa:FE}{ta:TA}{p:Pos}
def IteT (K:z08) (a:Addr):It:=
 ⟨λ i H=>∃ xs x,SqT K H a xs/\xs[i]?=some x,λ i H x H'=>∃ T y,H T=none/\(∀ xs,SqT K H a xs->xs[i]?=some y)/\x=.ref T/\H'=upd H T (.tup [.int i,y]),λ i H=>∃ xs,SqT K H a xs/\xs.length<=i⟩
theorem YT {K:z08}(a it e:Addr) (hne:e≠it) :
  Turn P w K (.Tuple elts x1 tp) (IteT K a) [e,it] e (λ i h=>(∃ old,z2e h e it ((i:Nat):Int) old)/\h.IsTupleIter it a i) where
 mem:=by simp
 obj:=λ i h st b hb=>by
  obtain⟨⟨old,st1⟩,o,eo,c,d⟩:=st
  rcases z0j.mp hb with z | z
  ·subst z;exact⟨_,st1,λ v z=>by
    have z':z52 _=z53 v:=z;cases z'⟩
  ·have z:b=it:=by simpa using z
   subst z;exact⟨o,eo,λ v z=>by rw[d] at z;cases z⟩
 keep:=λ i h h' st k=>⟨let ⟨old,z⟩:=st.1;⟨old,k e (by simp) _ z⟩,st.2.at λ o z=>k it (by simp) o z⟩
 item:=by
  intro X hP hw hK hc i π s σ H E I hf st hg;subst hP hw hK;obtain⟨⟨old,st1⟩,st2⟩:=st;obtain⟨xs,x,hq,hx⟩:=hg;obtain⟨its,rv,p,hz⟩:=I.tuple hq;obtain⟨u,hu,ru⟩:=rv.get hx;obtain⟨f0,f1,f2,f3,f4,f5⟩:=hf e (by simp);obtain⟨g0,g1,g2,g3,g4,g5⟩:=hf it (by simp);have hlt:e<s.heap.objs.size:=z0f st1;have hlt2:it<s.heap.objs.size:=by obtain⟨o,eo,_⟩:=id st2;exact z0f eo
  refine qO st1 hne (v4 st2 p (x:=u) (by simpa using hu)) (λ g g' q z=>q.at z) λ h1 he1 hit1 ht1 hz1 kk=>?_;refine⟨_,rfl,z9B (s:={ s with heap:=h1,toks:=s.toks+1 }) he1 λ h2 he2 sb=>?_⟩;have hT:H s.heap.objs.size=none:=I.hok.fresh (z07 _);have I1:Inv X π σ (upd H s.heap.objs.size (.tup [.int i,x])) { s with heap:=s.heap.push { cls:=.type "tuple",data:=.seq #[.int i s.toks,u] } }:=
   I.laid (a:=s.heap.objs.size) (t':=s.toks) (λ b u e=>z0d _ e) (z07 _) ⟨by show 2<=sizeLine;decide,[.int i s.toks,u],.cons ⟨_,rfl⟩ (.cons ru .nil),_,z0l _ rfl,rfl,_,rfl⟩
  let hA:=(s.heap.push { cls:=.type "tuple",data:=.seq #[.int i s.toks,u] })
  have hbig:s.heap.objs.size<h1.objs.size:=by omega
  obtain⟨oi,eoi,_⟩:=id hit1;have I2:Inv X π σ (upd H s.heap.objs.size (.tup [.int i,x])) { s with heap:=h2,toks:=s.toks+1 }:=by
   have fr:({ cls:=.type "enumerate",data:=.fields #[.none,.bool false,.ref it,z0H ((i:Nat):Int),.none,old] }:Obj).isFreed=false:=rfl;have gm:=z1F .(4) he2 fr;have go:∀ b,b≠e->(h2.update e .(4)).get? b=h2.get? b:=λ b hb=>z13 _ _ (z0n hb);generalize h2.update e .(4)=hm at gm go;have k1:∀ b o,b≠it->(s.heap.push { cls:=.type "tuple",data:=.seq #[.int i s.toks,u] }).get? b=some o->hm.get? b=some o:=λ b o hb z=>by
    by_cases hbe:b=e
    ·rcases z4u z with ⟨q,_⟩ | q
     ·rw[hbe] at q;exact absurd q (z0i hlt)
     ·rw[hbe] at q ⊢;have:s.heap.get? e=_:=st1;rw[this] at q;cases q;exact gm
    ·rw[go b hbe];refine (sb.2 b hbe).trans ?_
     rcases z4u z with ⟨q,rfl⟩ | q
     ·rw[q];exact ht1
     ·exact kk b o hbe hb q
   have I3:=L2.Inv.turned (t':=s.toks+1) (it:=it) (h':=hm) I1 k1 (by rw[Ak (z0i hlt2)];exact g0) g1 g3 g4 g5;exact L2.Inv.turned (s:={ s with heap:=hm,toks:=s.toks+1 }) (t':=s.toks+1) (it:=e) (h':=h2) I3 (λ b o hb z=>by have z':hm.get? b=some o:=z;rw[go b hb] at z';exact z') (by rw[Ak (z0i hlt)];exact f0) f1 f3 f4 f5
  refine⟨.ref s.heap.objs.size,_,I2,rfl,⟨_,x,hT,λ ys hy=>by rw[I.tuple_inj hy hq];exact hx,rfl,rfl⟩,⟨⟨u,by simpa using he2⟩,hit1.at λ o z=>(sb.2 it (z0n hne)).trans z⟩,λ b hb=>?_⟩
  rcases z0j.mp hb with z | z
  ·rw[z,Ak (z0i hlt)];exact f0
  ·have z:b=it:=by simpa using z
   rw[z,Ak (z0i hlt2)];exact g0
 done:=by
  intro X hP hw hK hc i π s σ H E I hf st hg;subst hP hw hK;obtain⟨⟨old,st1⟩,st2⟩:=st;obtain⟨xs,hq,hx⟩:=hg;obtain⟨its,rv,p,hz⟩:=I.tuple hq;obtain⟨g0,g1,g2,g3,g4,g5⟩:=hf it (by simp);have hl:=rv.length;exact cQ (I.ok.hd hc) st1 st2 p .(17) λ h' eb=>⟨rfl,I.turned (t':=s.toks) (λ b o hb e=>eb b o hb e) g0 g1 g3 g4 g5⟩
 self:=λ _ _ _ _ _ st h=>let ⟨old,z⟩:=st.1;z5M z h
def v5 (K:z08) (ta:TA):TI:=λ σ H R=>ta σ H λ vs H1=>∃ a,vs=[.ref a]/\(∃ xs,SqT K H1 a xs)/\R (IteT K a) H1
theorem jr (hg:Gl X "enumerate") (hm:X.mg "enumerate"=none) (ha:PA X [a] ta) (hs:z09 [a] X.env=[.(7)]:=by rfl):PI X (.Tuple elts x1 tp) (.Call (.Name "enumerate" p) [a] [] pos) (v5 X.K ta):=by
 intro π s σ H R I h;refine PyProof.Rows.Call_ (Kh I hg hm boot_enumerate (z55 (thn (ha pos π s σ H _ I h) λ us s1 ⟨vs,H1,I1,r1,q1⟩=>?_) hs rfl));obtain⟨l,e,⟨xs,hq⟩,q⟩:=q1;subst e;cases r1 with
 | cons r rr=>
  cases rr;cases r;obtain⟨its,rv,p,hz⟩:=I1.tuple hq;refine YS p λ h' he hit hz' kp=>?_;refine z5M he ?_;have I2:Inv X π σ H1 { s1 with heap:=h' }:=I1.kept (t':=s1.toks) kp;refine⟨s1.heap.objs.size+1,[s1.heap.objs.size+1,s1.heap.objs.size],_,_,H1,rfl,I2,YT l s1.heap.objs.size (s1.heap.objs.size+1) (z6G _),⟨⟨_,he⟩,hit⟩,λ b hb=>?_,q⟩;have hb':s1.heap.objs.size<=b:=by
   rcases z0j.mp hb with z | z
   ·rw[z];exact z1N _
   ·have z:b=s1.heap.objs.size:=by simpa using z
    rw[z];exact z07 _
  exact I1.fpOk hb' (I1.hok.fresh hb')
def enIT (f:FE):FI:=λ ρ=>match f ρ with | some (.tup ds)=>some (enD 0 ds) | _=>none
theorem cT (h:SqT G.K F1 q xs) (r:RepL G F2 xs ds):Src G (IteT G.K q) (enD 0 ds) F1 F2 where
 go:=λ i H s hi=>⟨xs,xs[i]'(by rw[r.1];rwa [J1] at hi),Dj s h,by rw[J1] at hi;simp[r.1,hi]⟩
 yld:=λ i H x H' d s hd y=>by
  obtain⟨T,z,hT,y2,rfl,rfl⟩:=y;obtain⟨e,he,rfl⟩:=Vb 0 ds i d hd;have rz:Rep G F2 z e:=r.2 i z e (y2 xs (Dj s h)) he;refine⟨Al hT _,λ B lv sm=>?_⟩;rw[z1Q];exact Ds lv hT (.cons (.int _) (.cons (rz.mono sm) .nil))
 stop:=λ i H s hi=>⟨xs,Dj s h,by rw[J1] at hi;rw[r.1];exact hi⟩
theorem cU (hG:G.K=X.K) (hg:Gl X "enumerate") (hm:X.mg "enumerate"=none) (h:PF X G a fa) (hs:z09 [a] X.env=[.(7)]:=by rfl):PFI X G false (.Tuple elts x1 tp) (.Call (.Name "enumerate" p) [a] [] pos) (enIT fa):=λ A=>Nr (jr hg hm (Bo (@h A) Cw hs) hs) λ σ H R ⟨ρ,ds,o,e,k⟩=>by
 unfold enIT at e;split at e
 ·rename_i ds' e1;cases e;refine⟨ρ,_,o,e1,λ v H1 s1 r1=>?_⟩;cases r1 with
  | tup h l r=>
   rename_i b xs;refine⟨b,rfl,⟨xs,by rw[<-hG];exact Dj Ar h⟩,?_⟩;rw[<-hG];exact k _ H1 s1 (cT h ⟨l,r⟩)
 ·cases e
end
open PyProof.Rows (isTrue_and isTrue_not isTrue_and_nil envOfC)
section
variable {a:Expr}{fa:FE}{p:Pos}
def enIB (f:FE):FI:=λ ρ=>match f ρ with | some (.lst ds)=>some (enD 0 ds) | some (.tup ds)=>some (enD 0 ds) | _=>none
theorem cV (hG:G.K=X.K) (hg:Gl X "enumerate") (hm:X.mg "enumerate"=none) (h:PF X G a fa) (hs:z09 [a] X.env=[.(7)]:=by rfl):PFI X G false (.Tuple elts x1 tp) (.Call (.Name "enumerate" p) [a] [] pos) (enIB fa):=λ A=>Nr (piOr (jo hG hg hm h hs (A:=A)) (cU hG hg hm h hs (A:=A))) λ σ H R ⟨ρ,ds,o,e,k⟩=>by
 unfold enIB at e;split at e
 ·rename_i ds' e1;exact .inl ⟨ρ,ds,o,by unfold enI;rw[e1];exact e,k⟩
 ·rename_i ds' e1;exact .inr ⟨ρ,ds,o,by unfold enIT;rw[e1];exact e,k⟩
 ·cases e
end
def J2 (P:z0s) (w:z0k) (m:Addr) (xs:List (List (List Key)×Addr×z00)):Heap->Prop:=λ h=>∃ o es ep,h.get? m=some o/\o.ExactDict/\o.data=.dict es ep/\es.toList=xs.map (z47 (PV.RG (Ao P w)))/\(xs.map (·.1)).Nodup
structure Pres (P:z0s) (w:z0k) (K:z08) (f:Str) (H:Hp) (a b m:Addr) (F:List (List Key)->Int) (xs:List (List (List Key)×Addr×z00)) (ks:List (List Key)):Prop where
 at_:∃ C dx fs,H a=some (.ins C dx fs)/\Cls K C/\Bd K C f/\fs.lookup f=some (.ref m)
 sm:(m==z16)=false
 ext:H m=some (.ext (J2 P w m xs))
 al:∀ q∈xs,MemK K H q.1 q.2.1/\Kin q.1/\RelV (.int (F q.1)) q.2.2
 ky:MemK K H ks b
 pr:(z0I xs ks).isSome=true
def spP (P:z0s) (w:z0k) (K:z08) (f:Str):Sp:=λ vs H Q _=>∃ a b m F xs ks,vs=[.ref a,.ref b]/\Pres P w K f H a b m F xs ks/\Q (.int (F ks)) H
def tP (P:z0s) (w:z0k) (K:z08) (f:Str):TS:=λ D σ H=>∃ a b m F xs ks,σ[0]?=some (some (.ref a))/\σ[1]?=some (some (.ref b))/\Pres P w K f H a b m F xs ks/\D.rt (.int (F ks)) H
section
theorem QC {m:Addr}{xs:List (List (List Key)×Addr×z00)}(I:Inv X π σ H s) (h:Pres X.prog X.w X.K f H a b m F xs ks):s.heap.DictOfH (nK X) m xs:=by
 obtain⟨⟨o,es,ep,g,ex,d,e,nd⟩,_,_⟩:=(show BL X.prog X.w H s.heap m (.ext (J2 X.prog X.w m xs)) from I.hok m _ h.ext);exact⟨o,es,ep,g,ex,d,e,λ q hq=>Lx I (h.al q hq).1,nd⟩
theorem jt {m:Addr}(hN:X.N[i]?=some x) (hv:Vis X.env.scope x) (hd:.(3)=false) (hcd:.(27)=false)
  (hb:z1q (.Name x p1) f X.env (eval (.Name x p1) X.env)=eval (.Name x p1) X.env) (I:Inv X π σ H s) (h1:σ[i]?=some (some (.ref a))) (h:∃ C dx fs,H a=some (.ins C dx fs)/\Cls X.K C/\Bd X.K C f/\fs.lookup f=some (.ref m)) (k:∀ tk,Q (.ref m) { s with toks:=tk }):z02 .(0) X.A (eval (.Attribute (.Name x p1) f p2) X.env) Q E s:=by
 obtain⟨C,dx,fs,h2,c,n,l⟩:=h;refine Uk hb (H_ hN hv hd hcd I h1 λ u r=>?_);obtain rfl:u=z0b a:=r;obtain⟨mA,O,r,_,_,_⟩:=Li I.hok h2;obtain⟨u,hu,ru⟩:=RelO.some_of (v:=.ref m) (o:=mA f) (by rw[<-l];exact r f);obtain rfl:u=z0b m:=ru;exact Uj I.kIn O (c.get f) c.hd n hu (O_ (v:=.ref m) rfl) (k _)
theorem qP {y:Str}{p14 p15:Pos}(hu:X.A.units+64<z0h) (hN:X.N[0]?=some x) (hv:Vis X.env.scope x) (hN2:X.N[1]?=some y) (hv2:Vis X.env.scope y)
  (hm:z0Z .NotIn (.Attribute (.Name x p2) f p3)=false:=by rfl) (hsl:NoSl (.Name y p13):=by intro _ _;rfl)
  (hd:.(3)=false:=by decide) (hcd:.(27)=false:=by decide) (hd2:(y==("__debug__":Str))=false:=by decide) (hcd2:(y==("__classdict__":Str))=false:=by decide)
  (hb:∀ p,z1q (.Name x p) f X.env (eval (.Name x p) X.env)=eval (.Name x p) X.env:=by intro _;rfl) :
  PSs X [.If (.Compare (.Name y p1) [.NotIn] [.Attribute (.Name x p2) f p3] p4) body [] p10,.Return .(24) p15] (tP X.prog X.w X.K f):=λ π s σ H D I ⟨a,b,m,F,xs,ks,h0,h1,h,k⟩=>by
 refine z26 (z48 (z3H (H_ hN2 hv2 hd2 hcd2 I h1 λ u r=>jt hN hv hd hcd (hb _) I h0 h.at_ λ tk=>?_) hm));obtain rfl:u=z0b b:=r;have I1:=I.tok tk;refine z9e (knd:=nK X) (by show X.A.units+1+1<z0h;omega) (Lx I1 h.ky) h.sm (QC I1 h) (z1I ?_);rw[h.pr];show z02 _ _ (z1J [] X.env) _ _ _;refine z1U ?_;have I2:∀ tk,Inv X π σ H { s with toks:=tk }:=λ tk=>I.tok tk;refine z26 (thn (?_:z02 .(0) X.A (exec (.Return .(24) p15) X.env) (SP X π D) X.xe _) λ fl s1 q=>?_)
 ·refine z50 (Y5 z6U.lookup hsl (jt hN hv hd hcd (hb _) (I2 _) h0 h.at_ λ tk2=>H_ hN2 hv2 hd2 hcd2 (I2 tk2) h1 λ u r=>⟨(QC (I2 tk2) h).typeIs,?_⟩));obtain rfl:u=z0b b:=r;exact Zt (F:=F) (by omega) (I2 tk2) h.ky (QC (I2 tk2) h) h.al h.pr λ u tk3 ru=>⟨.int (F ks),σ,H,I2 tk3,ru,k⟩
 ·cases fl with
  | next=>
   obtain⟨σ',H2,I3,q⟩:=q;exact Lh (X:=X) π s1 σ' H2 D I3 q
  | ret v=>exact q
  | brk=>exact q
  | cont=>exact q
theorem fn_P {K:z08}{base:Heap}{f:Addr}{k:Nat}{fl:Str}(F:Fun K x qual st f fd) (S:FnScope N ps (Ab st)) (hl:ps.length=2)
  (hb:∀ (cdv:z00) (A:z0a) (outer:List Env) (s:z03) (H:Hp) (E:XK),Room k (A.deeper (z1D qual (Ab st) s.heap.objs.size f cdv))->PSs (cxOf CX0 P w K mg base N qual (Ab st) f cdv A outer s H E).nox (Bw st) (tP P w K fl)) :
  FnOk P w K mg base CX0 (k+1) f fd ps (spP P w K fl):=by
 refine F.ok S (λ vs H Q E h=>?_) (λ cdv A outer s H vs Q E hr h=>?_)
 ·obtain⟨a,b,m,F,xs,ks,rfl,_⟩:=h;rw[hl];rfl
 ·obtain⟨a,b,m,F,xs,ks,rfl,h,q⟩:=h;exact⟨_,hb cdv A outer s H E hr,a,b,m,F,xs,ks,rfl,rfl,h,q⟩
def memB (i:Nat) (f:Str) (j:Nat) (ft:FT) (c mth:Str) (fr:FE):FS:=λ ρ=>match uF (fldD f) (vF i) ρ,(vF j ρ).bind keyP,ft ρ with
 | some (.mem F),some ps,some true=>retF fr ρ
 | some (.mem F),some ps,some false=>if F (kks ps)=0/\(vF i ρ).map (Dd c mth)=some true then some (.rt (.int 0) ρ) else none
 | _,_,_=>none
theorem W4 {K:z08}{m:Addr}{o:HO}(hn:∀ u,H m=some u->¬ Tu u) (h:MemK K H ks b):MemK K (upd H m o) ks b:=by
 have tp:∀ {c:Addr}{xs:List V},TupAt K H c xs->TupAt K (upd H m o) c xs:=λ {c xs} z=>by
  rcases z with (z | ⟨u,z⟩) | z
  ·exact .inl (.inl (by rw[Ak (λ e=>hn (.tup xs) (by rw[<-e];exact z) trivial)];exact z))
  ·exact .inl (.inr ⟨u,by rw[Ak (λ e=>hn (.frz u (.tup xs)) (by rw[<-e];exact z) trivial)];exact z⟩)
  ·exact .inr z
 obtain⟨bs,h1,h2⟩:=h;exact⟨bs,tp h1,Paired.mapP h2 λ _ _ z=>tp z⟩
theorem W5 {m:Addr}{o u:HO}(h:H m=some u):upd (upd H m o) m u=H:=by
 funext c;unfold upd;split
 ·rename_i e;rw[e,h]
 ·rfl
theorem ju {y mth:Str}{sf:Stmt}{psf:List Str}{k0:Nat}{test:Expr}{q1 q2 q3 q4 q5:Pos}{jj:Nat}{pl:Sem Bool}{d:Mx X.K C mth qual sf psf}(hu:X.A.units+64<z0h) (hG:G.K=X.K) (hcl:∀ c C,G.cl c=some C->Cls X.K C/\Bd X.K C f) (hc:G.cl c=some C) (hN:X.N[i]?=some x) (hv:Vis X.env.scope x) (hN2:X.N[j]?=some y) (hv2:Vis X.env.scope y) (ht:PFT X G test ft)
    (F2:FnOk X.prog X.w X.K X.mg X.base CX0 k0 d.f d.fd psf (spP X.prog X.w X.K f)) (hr:Room k0 X.A)
    (hret:PSD X G (.Return (some .(39)) q5) (retF fr))
    (hs:z1o (.Constant (.int 0) jj p9) (some (.Subscript (.Attribute (.Name x p5) f p6) (.Name y p7) p8)) p10.line X.env=pure false:=by rfl) (hm:z0Z .NotIn (.Attribute (.Name x p2) f p3)=false:=by rfl)
    (hd:.(3)=false:=by decide) (hcd:.(27)=false:=by decide) (hd2:(y==("__debug__":Str))=false:=by decide) (hcd2:(y==("__classdict__":Str))=false:=by decide)
    (hb:∀ p,z1q (.Name x p) f X.env (eval (.Name x p) X.env)=eval (.Name x p) X.env:=by intro _;rfl)
    (hst:z09 [.Name y q3] X.env=(false,eval (.Name y q3) X.env)::z09 [] X.env:=by rfl) (hpl:(z0z q4 (z09 [] X.env)).any (·.1)=false:=by rfl)
    (hcall:eval .(39) X.env=(do
      let ov <-eval (.Name x q1) X.env
      z1W q2.atName
      let (f,first) <-z1v [ov] (z28 ov mth pl)
      z29 q4 f first (z0z q4 (z09 [.Name y q3] X.env)) (z1x q4 (z1f [] X.env))):=by rfl) :
    PSDs X G [.If (.BoolOp .And [.Compare (.Name y p1) [.NotIn] [.Attribute (.Name x p2) f p3] p4,.UnaryOp .Not test p11] p12) [.Assign [.Subscript (.Attribute (.Name x p5) f p6) (.Name y p7) p8] (.Constant (.int 0) jj p9) p10] [] p13,.Return (some .(39)) q5] (memB i f j ft c mth fr):=λ A0 He π s σ H D I ⟨ρ,o,⟨A,w⟩,e,k⟩=>by
  unfold memB at e;split at e
  · rename_i F ps ef ek et
    refine Ad (jK hu hG hcl hN hv hN2 hv2 ht hs hm hd hcd hd2 hcd2 hb) (Af hret) (A0:=A0) He π s σ H D I ⟨ρ,o,⟨A,w⟩,?_,k⟩;unfold seqF memZ;rw[ef,ek,et];simp only[true_or,if_true];exact e
  · rename_i F ps ef ek et
    split at e
    · rename_i hF
      obtain⟨hF,hob⟩:=hF;cases e;obtain⟨dk,ek1,ek2⟩:=z4E.mp ek;obtain⟨m,fm⟩:=jH (X:=X) hG hcl w.ok ef;obtain⟨b,hb1,mk,kin⟩:=K4 (X:=X) hG w.ok ek1 ek2;obtain⟨od,eo,hob⟩:=z1T.mp hob;have hobj:∃ a C' dx fs,σ[i]?=some (some (.ref a))/\H a=some (.ins C' dx fs)/\Cls X.K C'/\Bd X.K C' f/\fs.lookup f=some (.ref m)/\C'=C/\fs.lookup mth=none:=by
        have hz:ρ[i]?=some (.fz od):=by
          unfold vF at eo;split at eo
          · rename_i z hz;cases eo;exact hz
          · cases eo
        obtain⟨v,g1,g2⟩:=w.ok.fz i od hz;obtain⟨a,C',dx,fs,a1,a2,a3,a4,a5⟩:=fm.at_;cases od with
        | ob c' gs=>
          simp only[Dd,z0U,beq_iff_eq,z3r] at hob;obtain⟨rfl,hn⟩:=hob;cases g2 with
          | @ob a' C2 dx2 _ fs2 _ t1 t2 t3 t4=>
            rw[a1] at g1;cases g1;have t2':=Ar _ _ t2;rw[a2] at t2';cases t2';rw[hc] at t1;cases t1;exact⟨a,C,dx,fs,a1,a2,a3,a4,a5,rfl,L_ t3 hn⟩
        | _=>simp[Dd] at hob
      obtain⟨a,C',dx,fs,a1,a2,a3,a4,a5,rfl,a6⟩:=hobj;have rest:∀ (H':Hp) (s':z03) (xs:List (List (List Key)×Addr×z00)),Same H H'->Inv X π σ H' s'->s'.heap.DictOfH (nK X) m xs->(∀ q∈xs,MemK X.K H' q.1 q.2.1/\Kin q.1/\RelV (.int (F q.1)) q.2.2)->(z0I xs (kks ps)).isSome=true ->
          z02 .(0) X.A (z1J [.Return (some .(39)) q5] X.env) (SP X π D) X.xe s':=λ H' s' xs sm I' dd al pr=>by
        have hm':H' m=some (.mem F X.K):=sm _ _ fm.mem;have ntu:∀ u,H' m=some u->¬ Tu u:=λ u e z=>by rw[hm'] at e;cases e;exact z
        obtain⟨hs1,_⟩:=YJ I' hm';obtain⟨o',es,ep,g,ex,dt,ee,is,nd⟩:=id dd;have ph:J2 X.prog X.w m xs s'.heap:=⟨o',es,ep,g,ex,dt,ee,nd⟩;have I2:Inv X π σ (upd H' m (.ext (J2 X.prog X.w m xs))) s':=I'.write (x:=m) (e:=m) (o:=.ext (J2 X.prog X.w m xs)) (h':=s'.heap) (t':=s'.toks) (by rw[hm'];exact trivial) (.inl rfl) (λ _ _ _ z=>z) ⟨o',g⟩
          ⟨ph,⟨o',g⟩,λ h1 h2 ⟨o,es,ep,z1,z2⟩ kk=>⟨o,es,ep,kk _ z1,z2⟩⟩
        have ha2:upd H' m (.ext (J2 X.prog X.w m xs)) a=some (.ins C' dx fs):=by
          rw[Ak (λ e=>by have:=sm _ _ a2;rw[e,hm'] at this;cases this)];exact sm _ _ a2
        have P2:Pres X.prog X.w X.K f (upd H' m (.ext (J2 X.prog X.w m xs))) a b m F xs (kks ps):=⟨⟨C',dx,fs,ha2,a3,a4,a5⟩,hs1,Aj,λ q hq=>⟨W4 ntu (al q hq).1,(al q hq).2⟩,W4 ntu (Hu sm mk),pr⟩;have key:=Yz (pl:=pl) (Xc hN hv hd hcd) a3 d.me F2 hr d.B .nil WD (Bo (Xc hN2 hv2 hd2 hcd2) Cw hst) hst hpl hcall π s' σ _ (λ v H3=>v=.int 0/\H3=upd H' m (.ext (J2 X.prog X.w m xs))) I2 ⟨_,a1,a,dx,fs,rfl,ha2,a6,_,hb1,a,b,m,F,xs,kks ps,rfl,P2,by rw[hF],rfl⟩;have one:z02 .(0) X.A (exec (.Return (some .(39)) q5) X.env) (SP X π D) X.xe s':=by
          refine z50 (thn key λ u s1 q=>?_);obtain⟨v,H3,I3,ru,ev,eH⟩:=q;subst ev eH;obtain⟨⟨o4,es4,ep4,z1,z2,z3,z4,z5⟩,_,_⟩:=(show BL X.prog X.w _ s1.heap m (.ext (J2 X.prog X.w m xs)) from I3.hok m _ Aj);have I4:=I3.write (x:=m) (e:=m) (o:=.mem F X.K) (h':=s1.heap) (t':=s1.toks) (by rw[Aj];exact trivial) (.inl rfl) (λ _ _ _ z=>z) ⟨o4,z1⟩ (by
            rw[W5 hm'];exact⟨hs1,xs,al,o4,es4,ep4,z1,z2,z3,z4,z5⟩)
          rw[W5 hm'] at I4;exact⟨.int 0,σ,H',I4,ru,k (.int 0) σ H' A (w.mono sm) (.int 0)⟩
        refine z26 (thn one λ fl s1 q=>?_);cases fl with
        | next=>
          obtain⟨σ',H2,I2,q⟩:=q;exact Lh (X:=X) π s1 σ' H2 D I2 q
        | ret v=>exact q
        | brk=>exact q
        | cont=>exact q
      have put:∀ (H':Hp) (s':z03),Same H H'->Inv X π σ H' s'->z02 .(0) X.A (z1J [.Assign [.Subscript (.Attribute (.Name x p5) f p6) (.Name y p7) p8] (.Constant (.int 0) jj p9) p10] X.env) (λ fl s'=>fl=.next/\∃ H2 xs,Same H H2/\Inv X π σ H2 s'/\s'.heap.DictOfH (nK X) m xs/\(∀ q∈xs,MemK X.K H2 q.1 q.2.1/\Kin q.1/\RelV (.int (F q.1)) q.2.2)/\(z0I xs (kks ps)).isSome=true) X.xe s':=λ H' s' sm I'=>by
        refine z26 (z5g (z65 ?_) hs);have I2:=I'.tok (s'.toks+1);refine M7 hN hv hd hcd (hb _) I2 (fm.mono sm) λ tk3=>H_ hN2 hv2 hd2 hcd2 (I2.tok tk3) hb1 λ u r=>?_;obtain rfl:u=z0b b:=r;refine mem_set (F:=F) (by omega) (I2.tok tk3) (sm _ _ fm.mem) (Hu sm mk) kin (by rw[hF];exact⟨_,rfl⟩) λ xs' s2 I3 dd' al' pr'=>?_;exact z1U ⟨rfl,H',xs',sm,I3,dd',al',pr'⟩
      refine z26 (thn (Q:=λ fl s'=>fl=.next/\∃ H2 xs,Same H H2/\Inv X π σ H2 s'/\s'.heap.DictOfH (nK X) m xs/\(∀ q∈xs,MemK X.K H2 q.1 q.2.1/\Kin q.1/\RelV (.int (F q.1)) q.2.2)/\(z0I xs (kks ps)).isSome=true) (z48 (z3I (z3H (H_ hN2 hv2 hd2 hcd2 I hb1 λ u r=>M7 hN hv hd hcd (hb _) I fm λ tk=>?_) hm))) λ fl s1 q=>?_)
      · obtain rfl:u=z0b b:=r
        refine P0 (F:=F) (by omega) (I.tok tk) fm.mem mk λ xs tk2 dd al=>z1I ?_;have I2:=(I.tok tk).tok tk2;cases pr:(z0I xs (kks ps)).isSome with
        | true=>
          show z02 _ _ (z1J [] X.env) _ _ _;exact z1U ⟨rfl,H,xs,Same.refl H,I2,dd,al,pr⟩
        | false=>
          show z02 _ _ (z2G _ _ _) _ _ _;refine z3I (z67 (thn (@ht A π _ σ H (λ b H1=>Same H H1/\b=false) I2 ⟨ρ,_,w.ok,et,λ H1 s1=>⟨s1,rfl⟩⟩) λ b s1 ⟨H1,I1,sm,eb⟩=>?_));subst eb;refine z66 ?_;show z02 _ _ (z1J [_] X.env) _ _ _;exact put H1 s1 sm I1
      · obtain⟨rfl,H2,xs,sm,I2,dd,al,pr⟩:=q
        exact rest H2 s1 xs sm I2 dd al pr
    · cases e
  · cases e
end
def gxL (K:z08) (l:List (Str×Addr)):Gx:={ K:=K,cl:=λ c=>l.lookup c }
section
variable {K:z08}{a b:Str}{C1 C2:Addr}{l:List (Str×Addr)}
theorem jw:(gxL K ((a,C)::l)).cl a=some C:=by
 show z0m a ((a,C)::l)=some C;rw[z0q,beq_self_eq_true]
theorem v6 (e:(b==a)=false) (h:(gxL K l).cl b=some C):(gxL K ((a,C1)::l)).cl b=some C:=by
 show z0m b ((a,C1)::l)=some C;rw[z0q,e];exact h
def FlOk (K:z08) (l:List (Str×Addr)) (x:Str):Prop:=∀ c C,l.lookup c=some C->Cls K C/\Bd K C x
theorem fl_n:FlOk K [] x:=λ _ _ h=>by cases h
theorem fl_c (cl:Cls K C) (n:z17 K (.ref C) x=some none) (h:FlOk K l x):FlOk K ((a,C)::l) x:=λ c C' e=>by
 rw[z0q] at e;split at e
 ·cases e;exact⟨cl,n⟩
 ·exact h _ _ e
theorem M8 (X:K.In h) (f:FlOk K l x):∀ c C',(gxL K l).cl c=some C'->Cls K C'/\Bd K C' x:=λ c C' h=>f c C' h
def kxL {g:Addr}{n:Nat}{its:Array z00}{xs:List Str}(X:K.In h) (N:h.Ns z0T mg) (a:z40 K z0T x=some (some (.ref g))) (lk:K.lookup g=some ⟨.type "tuple",od,.seq its n,osl⟩) (hz:its.size<=sizeLine) (r:Vals (xs.map V.str) its.toList):Kx (gxL K l) mg x (.tup (xs.map .str)):=⟨g,z2_ X N a,Tw lk hz r⟩
end
end PV
namespace PV
open PySem PySem.Spec L2
open PyProof.Rows hiding St
def Z7:D->Option D
 | .lst ds=>(Fl ds).bind λ ns=>if ns=[] then none else some (.int (mxN (λ i=>ns.getD i 0) (ns.length-1)))
 | _=>none
def idxD:D->D->Option D
 | .lst ds,.int i=>(Fl ds).bind λ ns=>if i∈ns then some (.int (ns.idxOf i:Nat)) else none
 | _,_=>none
def rMx1 (K:z08):List V->Hp->VK->Prop:=λ xs H Q=>∃ (p:Addr) (ns:List Int),xs=[.ref p]/\SqL K H p (ns.map V.int)/\ns≠[]/\Q (.int (mxN (λ i=>ns.getD i 0) (ns.length-1))) H
section
variable {a b:Expr}{fa fb:FE}
theorem cW (hc:X.calm=true) (hG:G.K=X.K):Cv X (.builtin "max") (rMx1 G.K):=by
 rw[hG];intro π s σ H xs us Q I r h;obtain⟨p,ns,rfl,hs,nn,k⟩:=h;obtain⟨u,rfl,ru⟩:=vals1 r;cases ru;obtain⟨its,rv,pl,hz⟩:=I.list hs;obtain⟨ys,e1,e2,e3⟩:=Ri rv;have hl:s.heap.IsList p (z0A ys):=by rw[<-e1];exact pl.isList
 have hpos:0<ns.length:=z6T.mpr nn;refine max_intList (I.ok.hd hc) hl (by omega) λ v h' tk hP kp=>?_;obtain⟨t,rfl⟩:=z4s hP;refine⟨.int _,H,I.kept kp,⟨t,?_⟩,k⟩;have hle:=Jw (λ i j=>decide (z0R ys i > z0R ys j)) (ys.size-1);have q:=Rh (z0R ys) (ys.size-1);rw[q,e2];congr 1;exact Pb λ i hi=>e3 i (by omega)
theorem jz:SndC G (rMx1 G.K) Z7:=by
 intro A H x dx d Q lv rx h k;unfold Z7 at h;split at h
 ·rename_i ds;cases ei:Fl ds with
  | none=>simp[ei] at h
  | some ns=>
   simp only[ei,z0J] at h;split at h
   ·cases h
   ·rename_i nn;cases h;obtain⟨q,xs,rfl,h1,rr⟩:=rx.lst;have ex:=ints_rep rr ei;subst ex;exact⟨q,ns,rfl,h1,nn,k _ H .(21) (.int _)⟩
 ·cases h
theorem j5 {A:z0a}{l:Addr}{i:Int}{t:Tok}(hl:s.heap.IsList l vs.toArray) (hi:z3e vs ns)
  (hz:ns.length<=sizeLine) (hm:i∈ns) (h:Q (.int (ns.idxOf i:Nat) s.toks) { s with toks:=s.toks+1 }) :
  z02 (z04 prog w) A (call (.builtin "list.index") [.ref l,.int i t]) Q E s:=by
 obtain⟨⟨c0,d0,q0,sl⟩,ho,h1,n,h2⟩:=id hl;cases h1;cases h2;have e:=hi.length;have hj:=z9I.mpr hm;rw[z1p] at hz;exact z6E z9J ⟨_,ho,rfl⟩ PySem.F.entry_list_index (PySem.F.args_list_index_2 _ _)
  (PySem.SeqAt.list_indexAt l vs.toArray n d0 sl (.int i t) (isInt i) (ns.idxOf i) (by rw[z0r,e];exact hj) (by omega)
   (by show isInt i vs[ns.idxOf i]=true;rw[isInt_at i hi _ (by omega) hj,z9K hj];simp)
   (λ m hm' hlt=>by show isInt i vs[m]=false;rw[isInt_at i hi m (by simpa using hm') (by omega)];exact ne_of_lt_idxOf hlt _))
  ⟨ho,λ y hy=>(eq_isInt i t hi y (by simpa using hy)).at _ _,h⟩
theorem j6 (hG:G.K=X.K) (ha:PU X G a fa) (hb:PF X G b fb) (m1:z1q a "index" X.env (eval a X.env)=eval a X.env:=by rfl)
    (m2:((z0z pos (z09 [b] X.env)).all (λ x=>!x.1)&&(z1x pos (z1f [] X.env)).all (λ x=>x.1.isSome)&&decide (([b]:List Expr).length+([]:List z2K).length+(if ([]:List z2K).isEmpty then 0 else 1)<30))=true:=by rfl)
    (m3:(apos.endLine==pos.line)=true:=by rfl) (m4:z0z pos (z09 [b] X.env)=[(false,eval b X.env)]:=by rfl):PF X G (.Call (.Attribute a "index" apos) [b] [] pos) (bF idxD fa fb):=λ A π s σ H Q I h=>by
  obtain⟨ρ,d,o,e,k⟩:=h;obtain⟨dx,dy,e1,e2,e3⟩:=Np e;refine z8H m1 m2 m3 z8F z9J PySem.F.type_list_index (thn (@ha A π s σ H (λ v H1=>Same H H1/\RepT G A H1 v dx) I ⟨ρ,dx,o,e1,λ v H1 s1 r1=>⟨s1,r1⟩⟩) λ u s1 ⟨x,H1,I1,rx,s1',r1⟩=>?_);cases dx with
  | lst ds=>
   cases dy with
   | int i=>
    simp only[idxD] at e3;cases ei:Fl ds with
    | none=>simp[ei] at e3
    | some ns=>
      simp only[ei,z0J] at e3;split at e3
      · rename_i hm
        cases e3;obtain⟨q,xs,rfl,h1,rr⟩:=r1.lst;have ex:=ints_rep rr ei;subst ex;cases rx;obtain⟨its,rv,pl,hz⟩:=I1.list (by rw[<-hG];exact h1);refine⟨pl.isList.typeIs,λ b' q'=>?_,?_⟩
        · cases q'
          obtain⟨ob,n,h1,h2,h3,h4⟩:=pl;exact⟨ob,h1,h3⟩
        rw[m4];refine z8l rfl (z8m (z8c (thn (@hb A π s1 σ H1 (λ v H2=>Same H1 H2/\Rep G (hid A H2) v (.int i)) I1 ⟨ρ,.int i,o.mono s1',e2,λ v H2 s2 r2=>⟨s2,r2⟩⟩) λ iv s2 ⟨y,H2,I2,ry,s2',r2⟩=>z8b ?_)));cases r2;obtain⟨tk,rfl⟩:=ry;obtain⟨q2,xs2,eq2,h2,rr2⟩:=(r1.mono s2').lst;cases eq2;have ex2:=ints_rep rr2 ei;subst ex2;obtain⟨its2,rv2,pl2,hz2⟩:=I2.list (by rw[<-hG];exact h2);rw[z06] at hz2;exact j5 pl2.isList (intsAre_of rv2) hz2 hm ⟨.int _,H2,I2.tok _,⟨_,rfl⟩,k _ H2 (s1'.trans s2') (.int _)⟩
      · cases e3
   | _=>cases e3
  | _=>cases e3
end
end PV
namespace PV
open PySem PySem.Spec L2 EX
open PyProof.Rows hiding St
section
open PySem.MeetsSeq PySem.SeqAt
end
section
end
section
variable {a:Expr}{fa:FE}{px rp p:Pos}{h:FZ}
end
def bd2:D->Option (List D)
 | .tup [a,b]=>some [a,b]
 | _=>none
def UL (src:FI) (ga:FT) (fe:FE):FE:=JT bd2 src ga fe
section
variable {t u:Str}{elt iter:Expr}{ifs:List Expr}{pt:Pos}{k1:Nat}
theorem bnd2 {N:Nat}:Bnd G N 2 bd2 (gTup G.K 2 (V2 (Hd N) (V2 (Hd (N+1)) gNil))):=λ A σ os H x d es Q hl ho e r k=>by
 unfold bd2 at e;split at e
 ·rename_i a b;cases e;cases r with
  | tup h l q=>
   rename_i c xs;obtain⟨x,ys,rfl,r1,r2⟩:=(show RepL G (hid A H) xs [a,b] from⟨l,q⟩).uncons;obtain⟨y,zs,rfl,r3,r4⟩:=r2.uncons;have e0:=r4.nil_inv;subst e0
   match os,ho with
   | [o1,o2],_=>
   refine⟨c,[x,y],rfl,Dj Ar h,rfl,x,[y],rfl,?_⟩;refine⟨y,[],rfl,rfl,?_⟩;have z:((σ++[o1,o2]).set N (some x)).set (N+1) (some y)=σ++[some x,some y]:=by
    rw[<-hl,z6P _ _ (z07 _),z3l];show (σ++[some x,o2]).set (σ.length+1) (some y)=_;rw[z6P _ _ (z1N _),show σ.length+1-σ.length=1 by omega];rfl
   show Q (((σ++[o1,o2]).set N (some x)).set (N+1) (some y)) H;rw[z];exact k [x,y] rfl (.cons r1 (.cons r3 .nil))
 ·cases e
theorem gTwo {N':List Str}(hG:G.K=X.K) (eN:Cy [t,u] X.N++[t,u]=N') (c:CompOkL X scope [t,u]) (hc:X.calm=true) (s2:z03) (H2:Hp) (fp:List Addr):PG (CW X scope N' s2 H2 fp) (.Tuple [.Name t p1,.Name u p2] k1 pt) (gTup G.K 2 (V2 (Hd X.N.length) (V2 (Hd (X.N.length+1)) gNil))):=by
 subst eN;rw[hG];have at0:(Cy [t,u] X.N++[t,u])[X.N.length]?=some t:=by unfold Cy;rw[z1X (by rw[z06];exact z07 _),z06,z3l];rfl
 have at1:(Cy [t,u] X.N++[t,u])[X.N.length+1]?=some u:=by unfold Cy;rw[z1X (by rw[z06];exact z1N _),z06,Nat.add_sub_cancel_left];rfl
 have lt:=z5h (env:=X.env) (c.tl t (by simp));have lu:=z5h (env:=X.env) (c.tl u (by simp));exact dJ hc (RK (Qu c.nd at0 (.inl lt) (.inr lt)) (RK (Qu c.nd at1 (.inl lu) (.inr lu)) Yt rfl) rfl) rfl rfl
theorem j7 (N':List Str) (eN:Cy [t,u] X.N++[t,u]=N') (c:CompOkL X scope [t,u]) (hc:X.calm=true) (hG:G.K=X.K) (hi:PFI X G true (.Tuple [.Name t p1,.Name u p2] k1 pt) iter src)
  (hI:∀ s2 H2 fp,PFTs (CW X scope N' s2 H2 fp) G ifs ga) (hE:∀ s2 H2 fp,PF (CW X scope N' s2 H2 fp) G elt fe) (hs:∀ x,z3b iter X.env x=pure x:=by intro _;rfl):PN X G (.ListComp elt [⟨.Tuple [.Name t p1,.Name u p2] k1 pt,iter,ifs,0⟩] scope pos) (UL src ga fe):=
 λ A=>WT N' eN c hc hi (gTwo hG eN c hc) bnd2 hI hE hs A
theorem cO2 {t u:Str}(hN:X.N=N) (hs:X.env.scope=sc) (h:Nx N sc scope [t,u]=true:=by decide +kernel):CompOkL X scope [t,u]:=Rm hN hs h
end
end PV
namespace K62
open PySem L2 PV
abbrev cs (x:Str):List Nat:=x.cps.toList
def LET:Str:="abcdefghijklmnopqrstuvwxyz"
def IsL (x:Str):Prop:=∀ c∈cs x,c∈cs LET
def KEPT:List Str:=["not","and","or","some","all"]
structure Wd (x:Str):Prop where
 lo:1<=x.length
 hi:x.length<=8
 isL:IsL x
 kept:x∉KEPT
structure Wl where
 n:Nat
 ms:List (Str×List Nat)
 ts:List .(43)
abbrev iN (t:Nat):D:=.int (t:Int)
abbrev pN (q:Nat×Nat):D:=.tup [.int (q.1:Int),.int (q.2:Int)]
def lM (l:List Nat):D:=.lst (l.map iN)
def lT (l:List (Nat×Nat)):D:=.lst (l.map pN)
def eM (ms:List (Str×List Nat)):List (Key×D):=ms.map λ p=>(.inr p.1,lM p.2)
def eT (ts:List .(43)):List (Key×D):=ts.map λ p=>(.inr p.1,lT p.2)
def kM (l:List Nat):D:=.dk (l.map λ (t:Nat)=>((.inl (t:Int):Key),.bl true))
def kT (l:List (Nat×Nat)):D:=.dt (l.map λ q=>([(.inl (q.1:Int):Key),.inl (q.2:Int)],.bl true))
def oM (ms:List (Str×List Nat)):List (Key×D):=ms.map λ p=>(.inr p.1,kM p.2)
def oT (ts:List .(43)):List (Key×D):=ts.map λ p=>(.inr p.1,kT p.2)
def wob (W:Wl):D:=.ob "World" [("size",.int W.n),("marked",.dk (oM W.ms)),("tied",.dk (oT W.ts))]
structure WOk (W:Wl):Prop where
 n5:W.n<=5
 m3:W.ms.length<=3
 t3:W.ts.length<=3
 mw:∀ p∈W.ms,Wd p.1
 tw:∀ p∈W.ts,Wd p.1
 nd:(W.ms.map (·.1)++W.ts.map (·.1)).Nodup
 ml:∀ p∈W.ms,p.2.Nodup/\p.2.length<=100/\∀ t∈p.2,t<W.n
 tl:∀ p∈W.ts,p.2.Nodup/\p.2.length<=100/\∀ q∈p.2,q.1<W.n/\q.2<W.n
def wd (W:Wl):D:=.lst [.int (W.n:Int),.dk (eM W.ms),.dk (eT W.ts)]
def lN (os:List Nat):D:=.lst (os.map iN)
abbrev Pr:=Nat×Nat
def mk (W:Wl) (w:Str) (i:Nat):Bool:=match W.ms.find? (λ p=>p.1=w) with | some p=>decide (i∈p.2) | none=>false
def tk (W:Wl) (w:Str) (i j:Nat):Bool:=match W.ts.find? (λ p=>p.1=w) with | some p=>decide ((i,j)∈p.2) | none=>false
abbrev mw (W:Wl):List Str:=W.ms.map (·.1)
abbrev tw (W:Wl):List Str:=W.ts.map (·.1)
def SN (W V:Wl) (q:Pr):Bool:=(mw W).all λ w=>mk W w q.1==mk V w q.2
def KJ (W V:Wl) (p q:Pr):Bool:=(tw W).all λ w=>tk W w p.1 q.1==tk V w p.2 q.2
def goB (W V:Wl) (p q:Pr):Bool:=(decide (p.1=q.1)==decide (p.2=q.2))&&(KJ W V p q&&KJ W V q p)
def fwB (W V:Wl) (ps:List Pr) (q:Pr):Bool:=(SN W V q&&KJ W V q q)&&ps.all λ p=>goB W V p q
def unp (n:Nat) (xs:List Nat):List Nat:=(z0e n).filter λ t=>decide (t∉xs)
def endl (W V:Wl):Nat:=max W.n V.n+1
def bst (l:List Nat):Nat:=l.foldr max 0
def stp (W V:Wl) (R:List Pr->Nat) (ps:List Pr):Nat:=
 let fs:=unp W.n (ps.map (·.1))
 let ss:=unp V.n (ps.map (·.2))
 let rw:=λ q:Pr=>if fwB W V ps q then R (Aq (ps++[q])) else 0
 min (endl W V) (1+((fs.map λ f=>bst (ss.map λ s=>rw (f,s)))++ss.map λ s=>bst (fs.map λ f=>rw (f,s))).foldr min (endl W V))
def rkN (W V:Wl):Nat->List Pr->Nat
 | 0,_=>0
 | n+1,ps=>stp W V (rkN W V n) ps
def afS (W V:Wl) (ps:List Pr):Bool:=ps.all λ p=>(SN W V p&&KJ W V p p)&&ps.all (goB W V p)
def rkF (W V:Wl) (ps:List Pr):Nat:=if afS W V ps then rkN W V 6 ps else 0
def unk1:List Key->Pr
 | [.inl i,.inl j]=>(i.toNat,j.toNat)
 | _=>(0,0)
def FW (W V:Wl) (ks:List (List Key)):Int:=(rkF W V (ks.map unk1):Nat)
open Classical in
noncomputable def FF (a b:D):List (List Key)->Int:=if h:∃ x:Wl×Wl,a=wob x.1/\b=wob x.2 then FW (choose h).1 (choose h).2 else λ _=>0
noncomputable def Phi (ρ:Rho):Option (List (List Key)->Int):=match vF 1 ρ,vF 2 ρ with
 | some a,some b=>some (FF a b)
 | _,_=>none
end K62
namespace K62
open PySem PySem.Spec L2 PV EX
open PyProof.Rows hiding St
noncomputable section
def c_KEPT_TEXTS:D:=(.tup ((["not","and","or","some","all"]:List Str).map .str))
def Fz:FT:=blF (bF (eqD false) (bF Y7 (bF shrD (vF 3) (bF addD (bF mulD (kF (.int 5)) (vF 5)) (vF 9))) .(12)) .(12))
def K8:FE:=vF 9
def F_:FS:=putF 4 (bF ixE (vF 1) (vF 5)) (BW (rngI (vF 0)) (Fz) (K8))
def GC:FT:=blF (bF (eqD false) (bF Y7 (bF shrD (vF 3) (bF addD (bF addD (bF addD (kF (.int 15)) (bF mulD (kF (.int 25)) (vF 5))) (bF mulD (kF (.int 5)) (vF 8))) (vF 9))) .(12)) .(12))
def IV:FE:=tupF (Aa (vF 8) (Aa (vF 9) (nilA)))
def GD:FS:=setF 7 (bF addD (vF 7) (BW (rngI (vF 0)) (GC) (IV)))
def GF:FS:=seqF (setF 7 (lstF (nilA))) (seqF (forS (rngI (vF 0)) (Cr 8) (GD)) (putF 6 (bF ixE (vF 2) (vF 5)) (vF 7)))
def J3:FS:=seqF (setW 4 (kF (.dk []))) (seqF (forS (rngI (uF lenE (vF 1))) (Cr 5) (F_)) (seqF (setW 6 (kF (.dk []))) (seqF (forS (rngI (uF lenE (vF 2))) (Cr 5) (GF)) (fzS [4,6] (retF (lstF (Aa (vF 0) (Aa (vF 4) (Aa (vF 6) (nilA))))))))))
def Eh:List D->Option D:=runF 9 4 J3
def HN:FE:=bF ixE (vF 1) (vF 5)
def Ez:FS:=putF 2 (vF 3) (BW (seqA (bF ixE (bF ixE (vF 0) .(12)) (vF 3))) (allT) (HN))
def HQ:FE:=tupF (Aa (bF ixE (vF 1) (bF ixE (vF 5) .(28))) (Aa (bF ixE (vF 1) (bF ixE (vF 5) .(12))) (nilA)))
def E_:FS:=putF 4 (vF 3) (BW (seqA (bF ixE (bF ixE (vF 0) (kF (.int 2))) (vF 3))) (allT) (HQ))
def JV:FS:=seqF (setW 2 (kF (.dk []))) (seqF (forS (seqA (bF ixE (vF 0) .(12))) (Cr 3) (Ez)) (seqF (setW 4 (kF (.dk []))) (seqF (forS (seqA (bF ixE (vF 0) (kF (.int 2)))) (Cr 3) (E_)) (fzS [2,4] (retF (lstF (Aa (bF ixE (vF 0) .(28)) (Aa (vF 2) .(42)))))))))
def Gy:List D->Option D:=runF 5 2 JV
def Bf:FT:=blF (bF (eqD true) (vF 2) (lstF (nilA)))
def Bt:FS:=seqF (setF 4 (bF modD (vF 0) (uF lenD (vF 2)))) (seqF (setF 0 (bF Hv (vF 0) (uF lenD (vF 2)))) (seqF (mutF appL 3 (bF ixD (vF 2) (vF 4))) (setF 2 (bF addD (slF (vF 2) (noO) (someO (vF 4))) (slF (vF 2) (someO (bF addD (vF 4) .(12))) (noO))))))
def J4:FS:=seqF (setF 2 (uF Wv (vF 1))) (seqF (setW 3 (lstF (nilA))) (seqF (Gn (Bf) (Bt) 60) (fzS [3] (retF (vF 3)))))
def Hn:List D->Option D:=runF 5 2 J4
def IW:FT:=blF (bF (eqD true) (vF 2) (vF 1))
def Ia:FE:=vF 2
def J5:FS:=seqF (ifS (blF (bF (inF false) (vF 1) (vF 0))) (retF (BW (seqA (vF 0)) (IW) (Ia))) (nxF)) (retF (bF addD (vF 0) (lstF (Aa (vF 1) (nilA)))))
def Dg:List D->Option D:=runF 2 2 J5
def DP:FS:=seqF (asgF (vF 0) (tupG 3 (BX 2 (BX 3 (BX 4 (nilG)))))) (seqF (setF 5 (bF modD (vF 1) (bF maxD (vF 2) .(12)))) (seqF (setF 6 (bF modD (bF Hv (vF 1) (kF (.int 5))) (bF maxD (vF 2) .(12)))) (seqF (ifS (orT (blF (bF (eqD false) (vF 2) .(28))) (blF (bF (eqD false) (bF addD (uF lenE (vF 3)) (uF lenE (vF 4))) .(28)))) (retF (vF 0)) (nxF)) (seqF (setF 7 (bF modD (bF Hv (vF 1) (kF (.int 25))) (bF addD (uF lenE (vF 3)) (uF lenE (vF 4))))) (seqF (setW 8 (uF Tz (vF 3))) (seqF (setW 9 (uF Tz (vF 4))) (seqF (ifS (blF (bF ltD (vF 7) (uF lenE (vF 3)))) (seqF (setF 10 (bF ixE (uF Ku (vF 3)) (vF 7))) (putF 8 (vF 10) (Am (Dg) (Aa (bF ixE (vF 3) (vF 10)) (Aa (vF 5) (nilA)))))) (seqF (setF 10 (bF ixE (uF Ku (vF 4)) (bF subD (vF 7) (uF lenE (vF 3))))) (putF 9 (vF 10) (Am (Dg) (Aa (bF ixE (vF 4) (vF 10)) (Aa (tupF (Aa (vF 5) (Aa (vF 6) (nilA)))) (nilA))))))) (fzS [8,9] (retF (lstF (Aa (vF 2) (Aa (vF 8) (Aa (vF 9) (nilA))))))))))))))
def CK:List D->Option D:=runF 11 2 DP
def Ei:FS:=seqF (asgF (vF 0) (tupG 4 (BX 1 (BX 2 (BX 3 (BX 4 (nilG))))))) (seqF (setF 5 (bF modD (bF mulD (vF 2) (kF (.int 27182818284590452353602874713526624977572470936999595749669))) (bF shlD .(12) (kF (.int 90))))) (seqF (ifS (blF (bF (eqD false) (bF modD (vF 1) (kF (.int 3))) (kF (.int 2)))) (setF 5 (bF modD (vF 2) (bF shlD .(12) (kF (.int 90))))) (nxF)) (seqF (setF 6 (bF modD (bF mulD (bF Hv (vF 1) (kF (.int 3))) (kF (.int 1000000007))) (kF (.int 2147483647)))) (seqF (setF 7 (bF ixE (lstF (Aa (kF (.int 2)) (Aa (kF (.int 3)) (Aa .(12) (Aa (kF (.int 3)) (Aa (kF (.int 4)) (Aa (kF (.int 2)) (Aa (kF (.int 3)) (Aa .(28) (Aa (kF (.int 4)) (Aa (kF (.int 2)) (Aa (kF (.int 3)) (Aa (kF (.int 5)) (nilA)))))))))))))) (bF modD (vF 6) (kF (.int 12))))) (seqF (setF 8 (slF (lstF (Aa (kF (.str "red")) (Aa (kF (.str "o")) (Aa (kF (.str "redo")) (nilA))))) (noO) (someO (bF modD (bF Hv (vF 6) (kF (.int 12))) (kF (.int 3)))))) (seqF (setF 9 (slF (lstF (Aa (kF (.str "near")) (Aa (kF (.str "n")) (Aa (kF (.str "under")) (nilA))))) (noO) (someO (bF modD (bF Hv (vF 6) (kF (.int 36))) (kF (.int 3)))))) (seqF (setF 10 (Am (Eh) (Aa (vF 7) (Aa (vF 8) (Aa (vF 9) (Aa (vF 5) (nilA))))))) (seqF (setF 11 (bF modD (vF 3) (kF (.int 5)))) (seqF (ifS (blF (bF (eqD false) (vF 11) .(28))) (retF (lstF (Aa (vF 10) (Aa (Am (Eh) (Aa (bF modD (bF Hv (vF 3) (kF (.int 5))) (kF (.int 5))) (Aa (vF 8) (Aa (vF 9) (Aa (bF modD (vF 4) (bF shlD .(12) (kF (.int 90)))) (nilA)))))) (nilA))))) (nxF)) (seqF (ifS (blF (bF (eqD false) (vF 11) .(12))) (retF (lstF (Aa (vF 10) (Aa (Am (Eh) (Aa (bF minD (bF addD (vF 7) .(12)) (kF (.int 4))) (Aa (vF 8) (Aa (vF 9) (Aa (vF 5) (nilA)))))) (nilA))))) (nxF)) (seqF (setF 12 (Am (Gy) (Aa (vF 10) (Aa (Am (Hn) (Aa (bF Hv (vF 3) (kF (.int 5))) (Aa (vF 7) (nilA)))) (nilA))))) (seqF (ifS (blF (bF (eqD false) (vF 11) (kF (.int 2)))) (retF (lstF (Aa (vF 10) (Aa (vF 12) (nilA))))) (nxF)) (retF (lstF (Aa (vF 10) (Aa (Am (CK) (Aa (vF 12) (Aa (bF Hv (vF 4) (kF (.int 3))) (nilA)))) (nilA)))))))))))))))))
def Ce:List D->Option D:=runF 13 1 Ei
def Ib:FS:=ifS (blF (bF gtD (vF 0) (vF 1))) (badF) (nxF)
def Bg:List D->Option D:=runF 2 2 Ib
def GJ:FS:=ifS (orT (blF (bF ltD (vF 1) .(28))) (blF (bF geD (vF 1) (vF 0)))) (badF) (nxF)
def A_:List D->Option D:=runF 2 2 GJ
def FJ:FS:=seqF (Er (Am (A_) (Aa (vF 0) (Aa (vF 3) (nilA))))) (putF 2 (vF 3) (kF (.bl true)))
def JW:FS:=seqF (setW 2 (kF (.dk []))) (seqF (forS (seqA (vF 1)) (Cr 3) (FJ)) (fzS [2] (retF (vF 2))))
def Dm:List D->Option D:=runF 4 2 JW
def GK:FS:=seqF (Er (Am (A_) (Aa (vF 0) (Aa (vF 3) (nilA))))) (seqF (Er (Am (A_) (Aa (vF 0) .(42)))) (WY 2 (Aa (vF 3) .(42)) (kF (.bl true))))
def J6:FS:=seqF (setW 2 (kF (.dt []))) (seqF (forS (seqA (vF 1)) (tupG 2 (BX 3 (BX 4 (nilG)))) (GK)) (fzS [2] (retF (vF 2))))
def Ej:List D->Option D:=runF 5 2 J6
def G_:FE:=bF (inF false) (vF 1) (kF (.str "abcdefghijklmnopqrstuvwxyz"))
def QD:FS:=seqF (ifS (orT (blF (bF (inF false) (vF 0) (kF c_KEPT_TEXTS))) (orT (blF (bF (eqD false) (uF lenE (vF 0)) .(28))) (blF (bF gtD (uF lenE (vF 0)) (kF (.int 8)))))) (retF (kF (.bl false))) (nxF)) (retF (uF allD (BW (seqA (vF 0)) (allT) (G_))))
def Ek:List D->Option D:=runF 1 1 QD
def CN:FEs:=Fx (ifE (Rr (notT (trF (Am (Ek) .(42)))))) (Qf "marked" (vF 4) (Am (Dm) (Aa (vF 1) (Aa (vF 5) (nilA)))))
def CP:FEs:=Fx (ifE (orTE (Rr (notT (trF (Am (Ek) .(42))))) (inTE "marked" (vF 4)))) (Qf "tied" (vF 4) (Am (Ej) (Aa (vF 1) (Aa (vF 6) (nilA)))))
def Gr:FEs:=Fx (pureE (Er (Am (Bg) (Aa (vF 1) (Aa (kF (.int 5)) (nilA)))))) (Fx (pureE (Er (Am (Bg) (Aa (uF lenE (vF 2)) (Aa (kF (.int 3)) (nilA)))))) (Fx (pureE (Er (Am (Bg) (Aa (uF lenE (vF 3)) (Aa (kF (.int 3)) (nilA)))))) (Fx (Hz "size" (vF 1)) (Fx (Qe "marked" (kF (.dk []))) (Fx (Qe "tied" (kF (.dk []))) (Fx (forE (Pk (vF 2)) (tupG 2 (BX 4 (BX 5 (nilG)))) (CN)) (Fx (forE (Pk (vF 3)) (tupG 2 (BX 4 (BX 6 (nilG)))) (CP)) (nilE))))))))
def B_:Addr->List D->Option Ef:=runI 7 4 Gr
def Fi:FS:=retF (uF sdkD (uF (fldD "marked") (vF 0)))
def CQ:List D->Option D:=runF 1 1 Fi
def GP:FS:=retF (uF sdkD (uF (fldD "tied") (vF 0)))
def Cg:List D->Option D:=runF 1 1 GP
def HR:FS:=ifS (orT (blF (bF (eqD true) (Du "World" "mark_words" (CQ) (vF 0) nilA) (Du "World" "mark_words" (CQ) (vF 1) nilA))) (blF (bF (eqD true) (Du "World" "tie_words" (Cg) (vF 0) nilA) (Du "World" "tie_words" (Cg) (vF 1) nilA)))) (badF) (nxF)
def FN:List D->Option D:=runF 2 2 HR
def Bs:FS:=seqF (Er (Am (A_) (Aa (uF (fldD "size") (vF 0)) (Aa (vF 3) (nilA))))) (Er (Am (A_) (Aa (uF (fldD "size") (vF 1)) .(42))))
def Dh:FS:=seqF (Er (Am (FN) (Aa (vF 0) (Aa (vF 1) (nilA))))) (forS (seqA (vF 2)) (tupG 2 (BX 3 (BX 4 (nilG)))) (Bs))
def BK:List D->Option D:=runF 5 3 Dh
def GQ:FS:=ifS (blF (bF (eqD true) (bF (inF false) (bF ixE (vF 2) .(28)) (bF ixE (uF (fldD "marked") (vF 0)) (vF 3))) (bF (inF false) (bF ixE (vF 2) .(12)) (bF ixE (uF (fldD "marked") (vF 1)) (vF 3))))) (retF (kF (.bl false))) (nxF)
def HS:FS:=seqF (forS (seqA (uF (fldD "marked") (vF 0))) (Cr 3) (GQ)) (retF (kF (.bl true)))
def Fb:List D->Option D:=runF 4 3 HS
def GR:FS:=ifS (blF (bF (eqD true) (inTF (Aa (bF ixE (vF 2) .(28)) (Aa (bF ixE (vF 3) .(28)) (nilA))) (bF ixE (uF (fldD "tied") (vF 0)) (vF 4))) (inTF (Aa (bF ixE (vF 2) .(12)) (Aa (bF ixE (vF 3) .(12)) (nilA))) (bF ixE (uF (fldD "tied") (vF 1)) (vF 4))))) (retF (kF (.bl false))) (nxF)
def HW:FS:=seqF (forS (seqA (uF (fldD "tied") (vF 0))) (Cr 4) (GR)) (retF (kF (.bl true)))
def CV:List D->Option D:=runF 5 4 HW
def JX:FS:=seqF (ifS (blF (bF (eqD true) (bF (eqD false) (bF ixE (vF 2) .(28)) (bF ixE (vF 3) .(28))) (bF (eqD false) (bF ixE (vF 2) .(12)) (bF ixE (vF 3) .(12))))) (retF (kF (.bl false))) (nxF)) (retF (andF (Am (CV) (Aa (vF 0) (Aa (vF 1) (Aa (vF 2) (Aa (vF 3) (nilA)))))) (Am (CV) (Aa (vF 0) (Aa (vF 1) (Aa (vF 3) (Aa (vF 2) (nilA))))))))
def Gz:List D->Option D:=runF 4 4 JX
def Eu:FE:=Am (Gz) (Aa (vF 0) (Aa (vF 1) (Aa (vF 4) (Aa (vF 3) (nilA)))))
def JB:FS:=seqF (ifS (orT (notT (trF (Am (Fb) (Aa (vF 0) (Aa (vF 1) (Aa (vF 3) (nilA))))))) (notT (trF (Am (CV) (Aa (vF 0) (Aa (vF 1) (Aa (vF 3) (Aa (vF 3) (nilA))))))))) (retF (kF (.bl false))) (nxF)) (retF (uF allD (BW (seqA (vF 2)) (allT) (Eu))))
def Dv:List D->Option D:=runF 4 4 JB
def HB:FE:=Am (Dv) (Aa (vF 0) (Aa (vF 1) (Aa (slF (vF 2) (noO) (someO (vF 3))) .(42))))
def MF:FS:=retF (uF allD (UL (enIB (vF 2)) (allT) (HB)))
def El:List D->Option D:=runF 3 3 MF
def YW:FS:=seqF (Er (Am (BK) (Aa (vF 0) (Aa (vF 1) (Aa (vF 2) (nilA)))))) (retF (Am (El) (Aa (vF 0) (Aa (vF 1) (Aa (vF 2) (nilA))))))
def Vc:List D->Option D:=runF 3 3 YW
def Bh:FS:=ifS (andT (blF (bF ltD (uF lenE (vU 3)) (kF (.int 4)))) (andT (blF (bF gtD (uF (fldD "size") (vF 0)) .(28))) (blF (bF gtD (uF (fldD "size") (vF 1)) .(28))))) (seqF (setF 5 (tupF (Aa (bF modD (bF Hv (vF 4) (kF (.int 4))) (uF (fldD "size") (vF 0))) (Aa (bF modD (bF Hv (vF 4) (kF (.int 20))) (uF (fldD "size") (vF 1))) (nilA))))) (ifS (orT (blF (bF (eqD false) (bF modD (vF 4) (kF (.int 4))) .(28))) (trF (Am (Vc) (Aa (vF 0) (Aa (vF 1) (Aa (bF addD (vU 3) (lstF (Aa (vF 5) (nilA)))) (nilA))))))) (mutF appL 3 (vF 5)) (nxF))) (nxF)
def J7:FS:=seqF (setW 3 (lstF (nilA))) (seqF (forS (seqA (vF 2)) (Cr 4) (Bh)) (fzS [3] (retF (vF 3))))
def Ho:List D->Option D:=runF 6 3 J7
def JC:FS:=seqF (ifS (blF (bF ltD (vF 1) (uF lenD (vF 0)))) (retF (bF ixD (vF 0) (vF 1))) (nxF)) (retF .(28))
def Dw:List D->Option D:=runF 2 2 JC
def J8:FT:=blF (bF (inF true) (vF 2) (vF 1))
def J9:FE:=vF 2
def M9:FS:=retF (BW (rngI (vF 0)) (J8) (J9))
def Ie:List D->Option D:=runF 2 2 M9
def GX (rec_Ranks_rank_of_fitting:List D->Option D):FS:=seqF (ifS (notT (trF (Am (Dv) (Aa (uF (fldD "one") (vF 0)) (Aa (uF (fldD "other") (vF 0)) (Aa (vF 1) (Aa (vF 2) (nilA)))))))) (retF .(28)) (nxF)) (retF (Du "Ranks" "rank_of_fitting" (rec_Ranks_rank_of_fitting) (vF 0) (Aa (uF tslD (bF catU (vF 1) (tupF (Aa (vF 2) (nilA))))) (nilA))))
def Bj (rec_Ranks_rank_of_fitting:List D->Option D):List D->Option D:=runF 3 3 (GX rec_Ranks_rank_of_fitting)
def Eo (rec_Ranks_rank_of_fitting:List D->Option D):FE:=Du "Ranks" "rank_with" (Bj rec_Ranks_rank_of_fitting) (vF 0) (Aa (vF 1) (Aa (vF 3) (nilA)))
def GZ (rec_Ranks_rank_of_fitting:List D->Option D):FS:=retF (bF WF (BW (seqA (vF 2)) (allT) ((Eo rec_Ranks_rank_of_fitting))) .(28))
def Av (rec_Ranks_rank_of_fitting:List D->Option D):List D->Option D:=runF 3 3 (GZ rec_Ranks_rank_of_fitting)
def Dy (rec_Ranks_rank_of_fitting:List D->Option D):FE:=bF ixE (vF 7) .(28)
def Dz (rec_Ranks_rank_of_fitting:List D->Option D):FE:=bF ixE (vF 7) .(12)
def D_ (rec_Ranks_rank_of_fitting:List D->Option D):FE:=tupF (Aa (vF 5) (Aa (vF 7) (nilA)))
def Ci (rec_Ranks_rank_of_fitting:List D->Option D):FS:=mutF appL 4 (Du "Ranks" "best_rank" (Av rec_Ranks_rank_of_fitting) (vF 0) (Aa (vF 1) (Aa (BW (seqA (vF 3)) (allT) ((D_ rec_Ranks_rank_of_fitting))) (nilA))))
def EY (rec_Ranks_rank_of_fitting:List D->Option D):FE:=tupF (Aa (vF 7) (Aa (vF 6) (nilA)))
def Cj (rec_Ranks_rank_of_fitting:List D->Option D):FS:=mutF appL 4 (Du "Ranks" "best_rank" (Av rec_Ranks_rank_of_fitting) (vF 0) (Aa (vF 1) (Aa (BW (seqA (vF 2)) (allT) ((EY rec_Ranks_rank_of_fitting))) (nilA))))
def Fj (rec_Ranks_rank_of_fitting:List D->Option D):FS:=seqF (setF 2 (Am (Ie) (Aa (uF (fldD "size") (uF (fldD "one") (vF 0))) (Aa (BW (seqA (vF 1)) (allT) ((Dy rec_Ranks_rank_of_fitting))) (nilA))))) (seqF (setF 3 (Am (Ie) (Aa (uF (fldD "size") (uF (fldD "other") (vF 0))) (Aa (BW (seqA (vF 1)) (allT) ((Dz rec_Ranks_rank_of_fitting))) (nilA))))) (seqF (setW 4 (lstF (nilA))) (seqF (forS (seqA (vF 2)) (Cr 5) ((Ci rec_Ranks_rank_of_fitting))) (seqF (forS (seqA (vF 3)) (Cr 6) ((Cj rec_Ranks_rank_of_fitting))) (retF (bF minD (uF (fldD "endless") (vF 0)) (bF addD .(12) (bF W2 (vU 4) (uF (fldD "endless") (vF 0))))))))))
def CT (rec_Ranks_rank_of_fitting:List D->Option D):List D->Option D:=runF 7 2 (Fj rec_Ranks_rank_of_fitting)
def Bb (rec_Ranks_rank_of_fitting:List D->Option D):FS:=memR 0 "reckoned" 1 (Du "Ranks" "least_rank" (CT rec_Ranks_rank_of_fitting) (vF 0) (Aa (vF 1) (nilA)))
def Ag:Nat->List D->Option D
 | 0=>λ _=>none
 | n+1=>runF 2 2 (Bb (Ag n))
def Fe:FS:=seqF (setF 2 (uF tssD (vF 1))) (memB 0 "reckoned" 2 (trF (Am (El) (Aa (uF (fldD "one") (vF 0)) (Aa (uF (fldD "other") (vF 0)) (Aa (vF 2) (nilA)))))) "Ranks" "rank_of_fitting" (Du "Ranks" "rank_of_fitting" (Ag 8) (vF 0) (Aa (vF 2) (nilA))))
def Bm:List D->Option D:=runF 3 2 Fe
def QF:FS:=retF (ifF (blF (bF (eqD false) (vF 0) .(28))) (tupF (Aa (vF 1) (Aa (vF 2) (nilA)))) (tupF (Aa (vF 2) (Aa (vF 1) (nilA)))))
def MJ:List D->Option D:=runF 3 3 QF
def Ig:FS:=retF (ifF (blF (bF (eqD false) (vF 1) .(28))) (uF (fldD "size") (uF (fldD "one") (vF 0))) (uF (fldD "size") (uF (fldD "other") (vF 0))))
def DQ:List D->Option D:=runF 2 2 Ig
def JZ:FE:=Am (MJ) (Aa (vF 1) (Aa (vF 2) (Aa (vF 3) (nilA))))
def K9:FS:=retF (BW (rngI (Am (DQ) (Aa (vF 0) (Aa (bF subD .(12) (vF 1)) (nilA))))) (allT) (JZ))
def HD:List D->Option D:=runF 3 3 K9
def Gs:FE:=Du "Ranks" "rank_of" (Bm) (vF 0) (Aa (bF addD (vF 1) (lstF .(42))) (nilA))
def Ih:FS:=retF (BW (seqA (Am (HD) (Aa (vF 0) (Aa (vF 2) (Aa (vF 3) (nilA)))))) (allT) (Gs))
def Ga:List D->Option D:=runF 4 4 Ih
def Hq:FS:=seqF (Er (Am (A_) (Aa (Am (DQ) (Aa (vF 0) (Aa (vF 2) (nilA)))) (Aa (vF 3) (nilA))))) (seqF (setF 4 (Am (Ga) (Aa (vF 0) (Aa (vF 1) (Aa (vF 2) (Aa (vF 3) (nilA))))))) (retF (ifF (blF (bF gtD (uF lenE (vF 4)) .(28))) (bF idxD (vF 4) (uF Z7 (vF 4))) (kF .non))))
def Gb:List D->Option D:=runF 5 4 Hq
def Gu:FEs:=Fx (Hz "one" (vF 1)) (Fx (Hz "other" (vF 2)) (Fx (Hz "reckoned" (memE Phi)) (Fx (Hz "endless" (bF addD (bF maxD (uF (fldD "size") (vF 1)) (uF (fldD "size") (vF 2))) .(12))) (nilE))))
def CG:Addr->List D->Option Ef:=runI 3 3 Gu
def Vd:FS:=seqF (Er (Am (BK) (Aa (vF 0) (Aa (vF 1) (Aa (vF 2) (nilA)))))) (retF (Am (Gb) (Aa (mkI "Ranks" (CG) (Aa (vF 0) (Aa (vF 1) (nilA)))) (Aa (uF Ku (vF 2)) (Aa (vF 3) .(42))))))
def J_:List D->Option D:=runF 5 5 Vd
def Gd:FS:=seqF (setF 2 (Du "Ranks" "rank_of" (Bm) (vF 0) (Aa (vF 1) (nilA)))) (retF (ifF (blF (bF (eqD false) (vF 2) (uF (fldD "endless") (vF 0)))) (kF .non) (vF 2)))
def Ck:List D->Option D:=runF 3 2 Gd
def YX:FS:=seqF (Er (Am (BK) (Aa (vF 0) (Aa (vF 1) (Aa (vF 2) (nilA)))))) (retF (Du "Ranks" "told_rank" (Ck) (mkI "Ranks" (CG) (Aa (vF 0) (Aa (vF 1) (nilA)))) (Aa (vF 2) (nilA))))
def Ve:List D->Option D:=runF 3 3 YX
def G3:FS:=seqF (setF 4 (Am (Ve) (Aa (vF 0) (Aa (vF 1) (Aa (bF addD (vF 2) (lstF (Aa (vF 3) (nilA)))) (nilA)))))) (seqF (ifS (blF (uF (isND false) (vF 4))) (retF (kF (.int 99))) (nxF)) (retF (vF 4)))
def Dn:List D->Option D:=runF 5 4 G3
def HX:FS:=retF (andF (uF (isiD "int") (vF 0)) (andF (notF (uF (isiD "bool") (vF 0))) (andF (bF leD .(28) (vF 0)) (bF ltD (vF 0) (vF 1)))))
def Ff:List D->Option D:=runF 2 2 HX
def G4:FS:=ifS (blF (bF gtD (Am (Dn) (Aa (vF 0) (Aa (vF 1) (Aa (vF 2) (Aa (bF ixE (lstF (Aa (tupF (Aa (vF 4) (Aa (vF 8) (nilA)))) (Aa (tupF (Aa (vF 8) .(42))) (nilA)))) (vF 3)) (nilA)))))) (vF 7))) (retF (kF (.bl false))) (nxF)
def JD:FS:=seqF (setF 5 (Am (J_) (Aa (vF 0) (Aa (vF 1) (Aa (vF 2) (Aa (vF 3) .(42))))))) (seqF (setF 6 (lstF (Aa (uF (fldD "size") (vF 0)) (Aa (uF (fldD "size") (vF 1)) (nilA))))) (seqF (ifS (blF (bF (eqD false) (bF ixE (vF 6) (bF subD .(12) (vF 3))) .(28))) (retF (uF (isND false) (vF 5))) (nxF)) (seqF (ifS (notT (trF (Am (Ff) (Aa (vF 5) (Aa (bF ixE (vF 6) (bF subD .(12) (vF 3))) (nilA)))))) (retF (kF (.bl false))) (nxF)) (seqF (setF 7 (Am (Dn) (Aa (vF 0) (Aa (vF 1) (Aa (vF 2) (Aa (bF ixE (lstF (Aa (tupF (Aa (vF 4) (Aa (vF 5) (nilA)))) (Aa (tupF (Aa (vF 5) .(42))) (nilA)))) (vF 3)) (nilA))))))) (seqF (forS (rngI (bF ixE (vF 6) (bF subD .(12) (vF 3)))) (Cr 8) (G4)) (retF (bF (eqD false) (Am (J_) (Aa (vF 0) (Aa (vF 1) (Aa (vF 2) (Aa (vF 3) .(42)))))) (vF 5))))))))
def HF:List D->Option D:=runF 9 5 JD
def Q9:FE:=Am (Dw) (Aa (vF 0) (Aa (vF 11) (nilA)))
def Oh:FS:=seqF (setF 9 (bF modD (vF 8) (kF (.int 2)))) (ifS (blF (bF gtD (bF ixE (vF 7) (vF 9)) .(28))) (seqF (setF 10 (bF modD (bF Hv (vF 8) (kF (.int 2))) (bF ixE (vF 7) (vF 9)))) (ifS (notT (trF (Am (HF) (Aa (vF 3) (Aa (vF 4) (Aa (vF 5) (Aa (vF 9) (Aa (vF 10) (nilA))))))))) (retF (kF (.bl false))) (nxF))) (nxF))
def j8:FS:=seqF (asgF (Am (Ce) (Aa (BW (rngI (kF (.int 4))) (allT) (Q9)) (nilA))) (tupG 2 (BX 1 (BX 2 (nilG))))) (seqF (setF 3 (mkI "World" (B_) (Aa (bF ixE (vF 1) .(28)) (Aa (bF ixE (vF 1) .(12)) (Aa (bF ixE (vF 1) (kF (.int 2))) (nilA)))))) (seqF (setF 4 (mkI "World" (B_) (Aa (bF ixE (vF 2) .(28)) (Aa (bF ixE (vF 2) .(12)) (Aa (bF ixE (vF 2) (kF (.int 2))) (nilA)))))) (seqF (setF 5 (Am (Ho) (Aa (vF 3) (Aa (vF 4) (Aa (slF (vF 0) (someO (kF (.int 5))) (someO (kF (.int 10)))) (nilA)))))) (seqF (setF 6 (uF Ku (vF 5))) (seqF (setF 7 (lstF (Aa (bF ixE (vF 1) .(28)) (Aa (bF ixE (vF 2) .(28)) (nilA))))) (seqF (forS (seqA (bF addD (lstF (Aa (Am (Dw) (Aa (vF 0) (Aa (kF (.int 4)) (nilA)))) (nilA))) (slF (vF 0) (someO (kF (.int 10))) (someO (kF (.int 16)))))) (Cr 8) (Oh)) (retF (bF (eqD false) (vF 5) (vF 6)))))))))
def W6:List D->Option D:=runF 11 1 j8
end
def top (i:Nat):Stmt:=PySem.Challenge.pw_twinrounds_k62_reply.main.body.getD i (.Pass ⟨0,0,0,0⟩)
abbrev Hr:Stmt:=top 41
abbrev G5:Stmt:=top 43
abbrev Oi:Stmt:=top 42
abbrev KC:Stmt:=top 44
abbrev K_:Stmt:=top 45
abbrev Oj:Stmt:=top 46
abbrev LC:Stmt:=top 14
abbrev JF:Stmt:=top 15
abbrev Mj:Stmt:=top 16
abbrev Ol:Stmt:=top 17
abbrev QG:Stmt:=top 13
abbrev Jg:Stmt:=inClass (top 18) 0
abbrev Ii:Stmt:=inClass (top 18) 3
abbrev JG:Stmt:=inClass (top 18) 4
abbrev KN:Stmt:=top 20
abbrev Ge:Stmt:=top 21
abbrev KQ:Stmt:=top 22
abbrev KR:Stmt:=top 23
abbrev Ml:Stmt:=top 24
abbrev LK:Stmt:=top 25
abbrev QH:Stmt:=top 26
abbrev j9:Stmt:=top 27
abbrev Om:Stmt:=top 47
abbrev Qi:Stmt:=top 40
abbrev M_:Stmt:=top 29
abbrev JH:Stmt:=inClass (top 30) 3
abbrev Gf:Stmt:=inClass (top 30) 4
abbrev Bp:Stmt:=inClass (top 30) 5
abbrev Fp:Stmt:=inClass (top 30) 2
abbrev KY:Stmt:=inClass (top 30) 1
abbrev UT:Stmt:=top 34
abbrev LQ:Stmt:=top 33
abbrev LR:Stmt:=top 35
abbrev Ij:Stmt:=top 36
abbrev Oo:Stmt:=top 37
abbrev Jh:Stmt:=inClass (top 30) 0
abbrev Z8:Stmt:=top 38
abbrev JK:Stmt:=inClass (top 30) 6
abbrev j_:Stmt:=top 31
abbrev Mm:Stmt:=top 49
abbrev KZ:Stmt:=top 48
abbrev Qj:Stmt:=top 50
abbrev kE:Stmt:=top 51
set_option genInjectivity false in
structure Tx (G:Gx) (mg:Str->Option z00) where
 C_World:Addr
 gc_World:G.cl "World"=some C_World
 cl_World:Cls G.K C_World
 mC_World:mg "World"=some (.ref C_World)
 C_Ranks:Addr
 gc_Ranks:G.cl "Ranks"=some C_Ranks
 cl_Ranks:Cls G.K C_Ranks
 mC_Ranks:mg "Ranks"=some (.ref C_Ranks)
 x__law_world:Dx G.K mg "_law_world" Hr ["_law_size","_law_marks","_law_ties","_law_bits"]
 x__law_turned:Dx G.K mg "_law_turned" G5 ["_law_world_here","_law_order_here"]
 x__law_order:Dx G.K mg "_law_order" Oi ["_law_cell_here","_law_size"]
 x__law_other:Dx G.K mg "_law_other" KC ["_law_row","_law_item"]
 x__law_changed:Dx G.K mg "_law_changed" K_ ["_law_world_here","_law_cell_here"]
 x__law_twins:Dx G.K mg "_law_twins" Oj ["_law_cells"]
 x_refuse_above:Dx G.K mg "refuse_above" LC ["number","most"]
 x_refuse_no_thing:Dx G.K mg "refuse_no_thing" JF ["size","thing"]
 x_kept_things:Dx G.K mg "kept_things" Mj ["size","things"]
 x_kept_pairs:Dx G.K mg "kept_pairs" Ol ["size","pairs"]
 x_is_word:Dx G.K mg "is_word" QG ["text"]
 x_World___init__:Ix G.K C_World "World.__init__" Jg ["self","size","marks","ties"]
 x_World_mark_words:Mx G.K C_World "mark_words" "World.mark_words" Ii ["self"]
 x_World_tie_words:Mx G.K C_World "tie_words" "World.tie_words" JG ["self"]
 x_refuse_unlike:Dx G.K mg "refuse_unlike" KN ["one","other"]
 x_refuse_strange_pairs:Dx G.K mg "refuse_strange_pairs" Ge ["one","other","pairs"]
 x_bear_the_same:Dx G.K mg "bear_the_same" KQ ["one","other","pair"]
 x_lead_the_same:Dx G.K mg "lead_the_same" KR ["one","other","pair","further"]
 x_go_together:Dx G.K mg "go_together" Ml ["one","other","pair","further"]
 x_fits_with:Dx G.K mg "fits_with" LK ["one","other","pairs","further"]
 x_all_fit:Dx G.K mg "all_fit" QH ["one","other","pairs"]
 x_fits:Dx G.K mg "fits" j9 ["one","other","pairs"]
 x__law_pairs:Dx G.K mg "_law_pairs" Om ["_law_here","_law_there","_law_cells"]
 x__law_cell:Dx G.K mg "_law_cell" Qi ["_law_script","_law_k"]
 x_unpaired:Dx G.K mg "unpaired" M_ ["size","paired"]
 x_Ranks_rank_with:Mx G.K C_Ranks "rank_with" "Ranks.rank_with" JH ["self","pairs","further"]
 x_Ranks_best_rank:Mx G.K C_Ranks "best_rank" "Ranks.best_rank" Gf ["self","pairs","choices"]
 x_Ranks_least_rank:Mx G.K C_Ranks "least_rank" "Ranks.least_rank" Bp ["self","pairs"]
 x_Ranks_rank_of_fitting:Mx G.K C_Ranks "rank_of_fitting" "Ranks.rank_of_fitting" Fp ["self","pairs"]
 x_Ranks_rank_of:Mx G.K C_Ranks "rank_of" "Ranks.rank_of" KY ["self","pairs"]
 x_pair_of:Dx G.K mg "pair_of" UT ["side","thing","replied"]
 x_size_of_side:Dx G.K mg "size_of_side" LQ ["ranks","side"]
 x_new_pairs:Dx G.K mg "new_pairs" LR ["ranks","side","thing"]
 x_ranks_behind:Dx G.K mg "ranks_behind" Ij ["ranks","pairs","side","thing"]
 x_best_reply:Dx G.K mg "best_reply" Oo ["ranks","pairs","side","thing"]
 x_Ranks___init__:Ix G.K C_Ranks "Ranks.__init__" Jh ["self","one","other"]
 x_reply:Dx G.K mg "reply" Z8 ["one","other","pairs","side","thing"]
 x_Ranks_told_rank:Mx G.K C_Ranks "told_rank" "Ranks.told_rank" JK ["self","pairs"]
 x_rank:Dx G.K mg "rank" j_ ["one","other","pairs"]
 x__law_height:Dx G.K mg "_law_height" Mm ["_law_here","_law_there","_law_row","_law_both"]
 x__law_is_thing:Dx G.K mg "_law_is_thing" KZ ["_law_found","_law_size"]
 x__law_good:Dx G.K mg "_law_good" Qj ["_law_here","_law_there","_law_row","_law_side","_law_thing"]
 x_law:Dx G.K mg "law" kE ["_law_script"]
 z_all:mg "all"=none
 z_bool:mg "bool"=none
 z_dict:mg "dict"=none
 z_enumerate:mg "enumerate"=none
 z_int:mg "int"=none
 z_isinstance:mg "isinstance"=none
 z_len:mg "len"=none
 z_list:mg "list"=none
 z_max:mg "max"=none
 z_min:mg "min"=none
 z_range:mg "range"=none
 z_set:mg "set"=none
 z_sorted:mg "sorted"=none
 z_tuple:mg "tuple"=none
 s_MOST_LETTERS:Sx mg "MOST_LETTERS" (.int 8)
 s_LETTERS:Sx mg "LETTERS" (.str "abcdefghijklmnopqrstuvwxyz")
 s_MOST_THINGS:Sx mg "MOST_THINGS" (.int 5)
 s_MOST_WORDS:Sx mg "MOST_WORDS" (.int 3)
 fl_size:∀ c C,G.cl c=some C->Cls G.K C/\Bd G.K C "size"
 fl_marked:∀ c C,G.cl c=some C->Cls G.K C/\Bd G.K C "marked"
 fl_tied:∀ c C,G.cl c=some C->Cls G.K C/\Bd G.K C "tied"
 fl_other:∀ c C,G.cl c=some C->Cls G.K C/\Bd G.K C "other"
 fl_one:∀ c C,G.cl c=some C->Cls G.K C/\Bd G.K C "one"
 fl_endless:∀ c C,G.cl c=some C->Cls G.K C/\Bd G.K C "endless"
 fl_reckoned:∀ c C,G.cl c=some C->Cls G.K C/\Bd G.K C "reckoned"
 c_KEPT_TEXTS:Kx G mg "KEPT_TEXTS" K62.c_KEPT_TEXTS
section
variable {base:Heap}
abbrev Di:List Str:=["_law_size","_law_marks","_law_ties","_law_bits","_law_some","_law_k","_law_others","_law_found","_law_thing"]
theorem Bx:FnScope Di ["_law_size","_law_marks","_law_ties","_law_bits"] (Ab Hr):=scO
theorem Ja (T:Tx G mg):DOk P w base T.x__law_world 1 (spD G Eh):=
 fnX (k:=0) (N:=Di) (b:=J3) T.x__law_world Bx λ _ _ _ _ _ _ hr=>Ad (sW Bx.nd 4 (Rn)) (Ad (Df z1c rfl (Hk rfl T.z_range (pU (BJ ((BZ rfl).or Be) Ca rfl T.z_len Dt (vp 1)))) (C_ (gN Bx.nd 5)) (Af (Jx (Hg hr) (pv 4) (iX hr (vp 1) (vp 5)) (Cu ["_law_size","_law_marks","_law_ties","_law_bits","_law_some","_law_k","_law_others","_law_found","","_law_thing"] (by show Ep "_law_thing" Di++(["_law_thing"]:List Str)=_;decide +kernel) (cO (N:=Di) (sc:=Ab Hr) rfl rfl) rfl (Hk rfl T.z_range (vp 0)) (λ _ _ _=>Nu (tEq hr (pU (Gp dW WL (pU (Gp dU Y9 (vp 3) (pU (bAdd (pU (bMul (iP) (vp 5))) (vp 9))))) (iP))) (iP))) (λ _ _ _=>vr 9))))) (Ad (sW Bx.nd 6 (Rn)) (Ad (Df z1c rfl (Hk rfl T.z_range (pU (BJ ((BZ rfl).or Be) Ca rfl T.z_len Dt (vp 2)))) (C_ (gN Bx.nd 5)) (Ad (sF Bx.nd 7 (Cq (Ac))) (Ad (Df z1c rfl (Hk rfl T.z_range (vp 0)) (C_ (gN Bx.nd 8)) (Af (sF Bx.nd 7 (bAdd (vp 7) (pU (Cu (nT Di "_law_to") (by show Ep "_law_to" Di++(["_law_to"]:List Str)=_;decide +kernel) (cO (N:=Di) (sc:=Ab Hr) rfl rfl) rfl (Hk rfl T.z_range (vp 0)) (λ _ _ _=>Nu (tEq hr (pU (Gp dW WL (pU (Gp dU Y9 (vp 3) (pU (bAdd (pU (bAdd (pU (bAdd (iP) (pU (bMul (iP) (vp 5))))) (pU (bMul (iP) (vp 8))))) (vp 9))))) (iP))) (iP))) (λ _ _ _=>Gq (pav 8 (pav 9 (Ac)))))))))) (Af (Jx (Hg hr) (pv 6) (iX hr (vp 2) (vp 5)) (vr 7)))))) (Af (My [4,6] (Ah (Cq (pav 0 (pav 4 (pav 6 (Ac)))))))))))
abbrev By:List Str:=["_law_world_here","_law_order_here","_law_some","_law_word","_law_others"]
theorem Ea:FnScope By ["_law_world_here","_law_order_here"] (Ab G5):=scO
theorem SQ (T:Tx G mg):DOk P w base T.x__law_turned 1 (spD G Gy):=
 fnX (k:=0) (N:=By) (b:=JV) T.x__law_turned Ea λ _ _ _ _ _ _ hr=>Ad (sW Ea.nd 2 (Rn)) (Ad (Df z1c rfl (BP rfl (iX hr (vp 0) (iP))) (C_ (gN Ea.nd 3)) (Af (Jx (Hg hr) (pv 2) (vr 3) (Cu (nT By "_law_thing") (by show Ep "_law_thing" By++(["_law_thing"]:List Str)=_;decide +kernel) (cO (N:=By) (sc:=Ab G5) rfl rfl) rfl (PFI.top (BP rfl (iX hr (pU (iX hr (vp 0) (iP))) (vp 3)))) (λ _ _ _=>DG) (λ _ _ _=>iX hr (vp 1) (vp 5)))))) (Ad (sW Ea.nd 4 (Rn)) (Ad (Df z1c rfl (BP rfl (iX hr (vp 0) (iP))) (C_ (gN Ea.nd 3)) (Af (Jx (Hg hr) (pv 4) (vr 3) (Cu (nT By "_law_both") (by show Ep "_law_both" By++(["_law_both"]:List Str)=_;decide +kernel) (cO (N:=By) (sc:=Ab G5) rfl rfl) rfl (PFI.top (BP rfl (iX hr (pU (iX hr (vp 0) (iP))) (vp 3)))) (λ _ _ _=>DG) (λ _ _ _=>Gq (Ae (iX hr (vp 1) (pU (iX hr (vp 5) (iP)))) (Ae (iX hr (vp 1) (pU (iX hr (vp 5) (iP)))) (Ac) Ai) Ai)))))) (Af (My [2,4] (Ah (Cq (Ae (iX hr (vp 0) (iP)) (pav 2 (pav 4 (Ac))) Ai))))))))
abbrev Oq:List Str:=["_law_cell_here","_law_size","_law_left","_law_found","_law_at"]
theorem Do:FnScope Oq ["_law_cell_here","_law_size"] (Ab Oi):=scO
theorem TY (T:Tx G mg):DOk P w base T.x__law_order 1 (spD G Hn):=
 fnX (k:=0) (N:=Oq) (b:=J4) T.x__law_order Do λ _ _ _ _ _ _ hr=>Ad (sF Do.nd 2 (qF rfl T.z_list rfl T.z_range (vp 1))) (Ad (sW Do.nd 3 (X3 (Ac))) (Ad (bW 60 z1c (tNe hr (vp 2) (pU (Cq (Ac)))) (Ad (sF Do.nd 4 (bMod (vp 0) (pU (BJ (BZ rfl) Qx rfl T.z_len Dt (vp 2))))) (Ad (sF Do.nd 0 (bDiv (vp 0) (pU (BJ (BZ rfl) Qx rfl T.z_len Dt (vp 2))))) (Ad (Qy (pv 3) (iD (vp 2) (vp 4))) (Af (sF Do.nd 2 (bAdd (pU (Hx rfl (vp 2) (Kq) (Fv (vp 4)))) (pU (Hx rfl (vp 2) (Fv (pU (bAdd (vp 4) (iP)))) (Kq)))))))))) (Af (My [3] (Ah (vr 3))))))
abbrev Gg:List Str:=["_law_row","_law_item"]
theorem Tc:FnScope Gg ["_law_row","_law_item"] (Ab KC):=scO
theorem Mp (T:Tx G mg):DOk P w base T.x__law_other 1 (spD G Dg):=
 fnX (k:=0) (N:=Gg) (b:=J5) T.x__law_other Tc λ _ _ _ _ _ _ hr=>Ad (Bv (tIn hr (vp 1) (vp 0)) (Af (Ah (Cu (nT Gg "_law_one") (by show Ep "_law_one" Gg++(["_law_one"]:List Str)=_;decide +kernel) (cO (N:=Gg) (sc:=Ab KC) rfl rfl) rfl (PFI.top (BP rfl (vr 0))) (λ _ _ _=>Nu (tNe hr (vp 2) (vp 1))) (λ _ _ _=>vr 2)))) (Bc)) (Af (Ah (bAdd (vp 0) (pU (Cq (pav 1 (Ac)))))))
abbrev La:List Str:=["_law_world_here","_law_cell_here","_law_size","_law_some","_law_others","_law_here","_law_there","_law_at","_law_marked","_law_tied","_law_word"]
theorem Ay:FnScope La ["_law_world_here","_law_cell_here"] (Ab K_):=scO
theorem Qo (T:Tx G mg):DOk P w base T.x__law_changed 2 (spD G CK):=
 fnX (k:=1) (N:=La) (b:=DP) T.x__law_changed Ay λ _ _ _ _ _ _ hr=>Ad (U0 (Jy rfl rfl (Ba (gN Ay.nd 2) (Ba (gN Ay.nd 3) (Ba (gN Ay.nd 4) (Hy))))) (vr 0)) (Ad (sF Ay.nd 5 (bMod (vp 1) (pU (Kr (O8 rfl) Rc rfl T.z_max Rk (vp 2) (iP))))) (Ad (sF Ay.nd 6 (bMod (pU (bDiv (vp 1) (iP))) (pU (Kr (O8 rfl) Rc rfl T.z_max Rk (vp 2) (iP))))) (Ad (Bv (PFW.pt (Mw (tEq hr (vp 2) (iP)) (Ht (tEq hr (pU (bAdd (pU (BJ ((BZ rfl).or Be) Ca rfl T.z_len Dt (vp 3))) (pU (BJ ((BZ rfl).or Be) Ca rfl T.z_len Dt (vp 4))))) (iP))))) (Af (Ah (vr 0))) (Bc)) (Ad (sF Ay.nd 7 (bMod (pU (bDiv (vp 1) (iP))) (pU (bAdd (pU (BJ ((BZ rfl).or Be) Ca rfl T.z_len Dt (vp 3))) (pU (BJ ((BZ rfl).or Be) Ca rfl T.z_len Dt (vp 4))))))) (Ad (sW Ay.nd 8 (ZL rfl T.z_dict ZF (vp 3))) (Ad (sW Ay.nd 9 (ZL rfl T.z_dict ZF (vp 4))) (Ad (Bv (tLt (vp 7) (pU (BJ ((BZ rfl).or Be) Ca rfl T.z_len Dt (vp 3)))) (Ad (sF Ay.nd 10 (iX hr (pU (Lj ((Hi.or (Hl rfl)).or (Hm rfl)) Lw rfl T.z_list Nv (vp 3))) (vp 7))) (Af (Jx (Hg hr) (pv 8) (vr 10) (fX (Mp T) hr (Ae (iX hr (vp 3) (vp 10)) (pav 5 (Ac)) Ai))))) (Ad (sF Ay.nd 10 (iX hr (pU (Lj ((Hi.or (Hl rfl)).or (Hm rfl)) Lw rfl T.z_list Nv (vp 4))) (pU (bSub (vp 7) (pU (BJ ((BZ rfl).or Be) Ca rfl T.z_len Dt (vp 3))))))) (Af (Jx (Hg hr) (pv 9) (vr 10) (fX (Mp T) hr (Ae (iX hr (vp 4) (vp 10)) (Ae (Gq (pav 5 (pav 6 (Ac)))) (Ac) K6) Ai)))))) (Af (My [8,9] (Ah (Cq (pav 2 (pav 8 (pav 9 (Ac)))))))))))))))
abbrev Ot:List Str:=["_law_cells","_law_one","_law_two","_law_three","_law_four","_law_bits","_law_number","_law_size","_law_marks","_law_ties","_law_first","_law_kind","_law_second"]
theorem Aw:FnScope Ot ["_law_cells"] (Ab Oj):=scO
theorem Td (T:Tx G mg):DOk P w base T.x__law_twins 3 (spD G Ce):=
 fnX (k:=2) (N:=Ot) (b:=Ei) T.x__law_twins Aw λ _ _ _ _ _ _ hr=>Ad (U0 (Jy rfl rfl (Ba (gN Aw.nd 1) (Ba (gN Aw.nd 2) (Ba (gN Aw.nd 3) (Ba (gN Aw.nd 4) (Hy)))))) (vr 0)) (Ad (sF Aw.nd 5 (bMod (pU (bMul (vp 2) (iP))) (pU (Gp Us Ut (iP) (iP))))) (Ad (Bv (tEq hr (pU (bMod (vp 1) (iP))) (iP)) (Af (sF Aw.nd 5 (bMod (vp 2) (pU (Gp Us Ut (iP) (iP)))))) (Bc)) (Ad (sF Aw.nd 6 (bMod (pU (bMul (pU (bDiv (vp 1) (iP))) (iP))) (iP))) (Ad (sF Aw.nd 7 (iX hr (pU (Cq (iI (iI (iI (iI (iI (iI (iI (iI (iI (iI (iI (iI (Ac))))))))))))))) (pU (bMod (vp 6) (iP))))) (Ad (sF Aw.nd 8 (Hx rfl (pU (Cq (iS (iS (iS (Ac)))))) (Kq) (Fv (pU (bMod (pU (bDiv (vp 6) (iP))) (iP)))))) (Ad (sF Aw.nd 9 (Hx rfl (pU (Cq (iS (iS (iS (Ac)))))) (Kq) (Fv (pU (bMod (pU (bDiv (vp 6) (iP))) (iP)))))) (Ad (sF Aw.nd 10 (fX (Ja T) hr (pav 7 (pav 8 (pav 9 (pav 5 (Ac))))))) (Ad (sF Aw.nd 11 (bMod (vp 3) (iP))) (Ad (Bv (tEq hr (vp 11) (iP)) (Af (Ah (Cq (pav 10 (Ae (fX (Ja T) hr (Ae (bMod (pU (bDiv (vp 3) (iP))) (iP)) (pav 8 (pav 9 (Ae (bMod (vp 4) (pU (Gp Us Ut (iP) (iP)))) (Ac) Et))) Et)) (Ac) Ey))))) (Bc)) (Ad (Bv (tEq hr (vp 11) (iP)) (Af (Ah (Cq (pav 10 (Ae (fX (Ja T) hr (Ae (Kr (Th rfl) WQ rfl T.z_min Xz (pU (bAdd (vp 7) (iP))) (iP)) (pav 8 (pav 9 (pav 5 (Ac)))) Ey)) (Ac) Ey))))) (Bc)) (Ad (sF Aw.nd 12 (fX (SQ T) hr (pav 10 (Ae (fX (TY T) hr (Ae (bDiv (vp 3) (iP)) (pav 7 (Ac)) Et)) (Ac) Ey)))) (Ad (Bv (tEq hr (vp 11) (iP)) (Af (Ah (Cq (pav 10 (pav 12 (Ac)))))) (Bc)) (Af (Ah (Cq (pav 10 (Ae (fX (Qo T) hr (pav 12 (Ae (bDiv (vp 4) (iP)) (Ac) Et))) (Ac) Ey)))))))))))))))))
abbrev Lb:List Str:=["number","most"]
theorem Qp:FnScope Lb ["number","most"] (Ab LC):=scO
theorem HY (T:Tx G mg):DOk P w base T.x_refuse_above 1 (spD G Bg):=
 fnX (k:=0) (N:=Lb) (b:=Ib) T.x_refuse_above Qp λ _ _ _ _ _ _ hr=>Af (Bv (tGt (vp 0) (vp 1)) (Af (Jd)) (Bc))
abbrev JL:List Str:=["size","thing"]
theorem NB:FnScope JL ["size","thing"] (Ab JF):=scO
theorem Bq (T:Tx G mg):DOk P w base T.x_refuse_no_thing 1 (spD G A_):=
 fnX (k:=0) (N:=JL) (b:=GJ) T.x_refuse_no_thing NB λ _ _ _ _ _ _ hr=>Af (Bv (PFW.pt (Mw (tLt (vp 1) (iP)) (Ht (tGe (vp 1) (vp 0))))) (Af (Jd)) (Bc))
abbrev Mq:List Str:=["size","things","kept","thing"]
theorem Ik:FnScope Mq ["size","things"] (Ab Mj):=scO
theorem SX (T:Tx G mg):DOk P w base T.x_kept_things 2 (spD G Dm):=
 fnX (k:=1) (N:=Mq) (b:=JW) T.x_kept_things Ik λ _ _ _ _ _ _ hr=>Ad (sW Ik.nd 2 (Rn)) (Ad (Df z1c rfl (BP rfl (vr 1)) (C_ (gN Ik.nd 3)) (Ad (Cz (fX (Bq T) hr (pav 0 (pav 3 (Ac))))) (Af (Jx (Hg hr) (pv 2) (vr 3) (KH))))) (Af (My [2] (Ah (vr 2)))))
abbrev Ou:List Str:=["size","pairs","kept","one","other"]
theorem G6:FnScope Ou ["size","pairs"] (Ab Ol):=scO
theorem Te (T:Tx G mg):DOk P w base T.x_kept_pairs 2 (spD G Ej):=
 fnX (k:=1) (N:=Ou) (b:=J6) T.x_kept_pairs G6 λ _ _ _ _ _ _ hr=>Ad (sW G6.nd 2 (xm)) (Ad (Df z1c rfl (BP rfl (vr 1)) (Jy rfl rfl (Ba (gN G6.nd 3) (Ba (gN G6.nd 4) (Hy)))) (Ad (Cz (fX (Bq T) hr (pav 0 (pav 3 (Ac))))) (Ad (Cz (fX (Bq T) hr (pav 0 (pav 4 (Ac))))) (Af (gK (Hg hr) (pv 2) (pav 3 (pav 4 (Ac))) (KH)))))) (Af (My [2] (Ah (vr 2)))))
abbrev Ji:List Str:=["text"]
theorem YZ:FnScope Ji ["text"] (Ab QG):=scO
theorem Sd (T:Tx G mg):DOk P w base T.x_is_word 1 (spD G Ek):=
 fnX (k:=0) (N:=Ji) (b:=QD) T.x_is_word YZ λ _ _ _ _ _ _ hr=>Ad (Bv (PFW.pt (Mw (tIn hr (vp 0) (pU (JS (Lg (v:=.ref T.c_KEPT_TEXTS.a) rfl T.c_KEPT_TEXTS.m rfl) T.c_KEPT_TEXTS.r))) (Mw (tEq hr (pU (BJ ((BZ rfl).or Be) Ca rfl T.z_len Dt (vp 0))) (iP)) (Ht (tGt (pU (BJ ((BZ rfl).or Be) Ca rfl T.z_len Dt (vp 0))) (pU (JS (Lg (v:=(.int 8)) rfl T.s_MOST_LETTERS.m ⟨_,rfl⟩) (.int _)))))))) (Af (Ah (KH))) (Bc)) (Af (Ah (BJ (Pq rfl) U4 rfl T.z_all X8 (pU (Cu (nT Ji "letter") (by show Ep "letter" Ji++(["letter"]:List Str)=_;decide +kernel) (cO (N:=Ji) (sc:=Ab QG) rfl rfl) rfl (PFI.top (BP rfl (vr 0))) (λ _ _ _=>DG) (λ _ _ _=>cIn hr (vp 1) (pU (JS (Lg (v:=(.str "abcdefghijklmnopqrstuvwxyz")) rfl T.s_LETTERS.m ⟨_,rfl⟩) (.str _)))))))))
abbrev Jj:List Str:=["self","size","marks","ties","word","things","pairs"]
theorem Cm:FnScope Jj ["self","size","marks","ties"] (Ab Jg):=scO
theorem JM (T:Tx G mg):FnOk P w G.K mg base CX0 3 T.x_World___init__.f T.x_World___init__.fd ["self","size","marks","ties"] (spI G "World" B_):=
 fn_I (c:="World") (k:=2) (N:=Jj) (b:=Gr) T.x_World___init__.F Cm (by decide) λ cdv A outer s H E hr=>Dl (Ru (Cz (fX (HY T) hr (pav 1 (Ae (JS (Lg (v:=(.int 5)) rfl T.s_MOST_THINGS.m ⟨_,rfl⟩) (.int _)) (Ac) Q8)))) U_) (Dl (Ru (Cz (fX (HY T) hr (Ae (BJ ((BZ rfl).or Be) Ca rfl T.z_len Dt (vp 2)) (Ae (JS (Lg (v:=(.int 3)) rfl T.s_MOST_WORDS.m ⟨_,rfl⟩) (.int _)) (Ac) Q8) Ey))) U_) (Dl (Ru (Cz (fX (HY T) hr (Ae (BJ ((BZ rfl).or Be) Ca rfl T.z_len Dt (vp 3)) (Ae (JS (Lg (v:=(.int 3)) rfl T.s_MOST_WORDS.m ⟨_,rfl⟩) (.int _)) (Ac) Q8) Ey))) U_) (Dl (K3 T.fl_size (pv 0) (vr 1)) (Dl (Wj T.fl_marked (pv 0) Rn) (Dl (Wj T.fl_tied (pv 0) Rn) (Dl (Zh z1c rfl (T3 (top:=false) (vr 2)) (Jy rfl rfl (Ba (gN Cm.nd 4) (Ba (gN Cm.nd 5) (Hy)))) (iu (Q3 (by decide) (Q3 (by decide) (ir)))) (Wh (ik (Wi (Jv (Hj (pU (fX (Sd T) hr (pav 4 (Ac)))) rfl))) (Af Jd)) (Zg (Wk (Hg hr) T.fl_marked (pv 0) (vr 4) (fX (SX T) hr (pav 1 (pav 5 (Ac)))))))) (Dl (Zh z1c rfl (T3 (top:=false) (vr 3)) (Jy rfl rfl (Ba (gN Cm.nd 4) (Ba (gN Cm.nd 6) (Hy)))) (iu (Q3 (by decide) (Q3 (by decide) (ir)))) (Wh (ik (PWE.pt (vQ (Wi (Jv (Hj (pU (fX (Sd T) hr (pav 4 (Ac)))) rfl))) (pD (vR (Hg hr) T.fl_marked (pv 0) (vr 4))))) (Af Jd)) (Zg (Wk (Hg hr) T.fl_tied (pv 0) (vr 4) (fX (Te T) hr (pav 1 (pav 6 (Ac)))))))) (Zi))))))))
abbrev Il:List Str:=["self"]
theorem MP:FnScope Il ["self"] (Ab Ii):=scO
theorem Hh (T:Tx G mg):FnOk P w G.K mg base CX0 1 T.x_World_mark_words.f T.x_World_mark_words.fd ["self"] (spD G CQ):=
 fn_D (k:=0) (N:=Il) (b:=Fi) T.x_World_mark_words.F MP (by decide) λ _ _ _ _ _ _ hr=>Af (Ah (BJ (Mi rfl) Z3 rfl T.z_sorted Ln (pU (BR T.fl_marked (vp 0)))))
abbrev JN:List Str:=["self"]
theorem NK:FnScope JN ["self"] (Ab JG):=scO
theorem Im (T:Tx G mg):FnOk P w G.K mg base CX0 1 T.x_World_tie_words.f T.x_World_tie_words.fd ["self"] (spD G Cg):=
 fn_D (k:=0) (N:=JN) (b:=GP) T.x_World_tie_words.F NK (by decide) λ _ _ _ _ _ _ hr=>Af (Ah (BJ (Mi rfl) Z3 rfl T.z_sorted Ln (pU (BR T.fl_tied (vp 0)))))
abbrev Ka:List Str:=["one","other"]
theorem QJ:FnScope Ka ["one","other"] (Ab KN):=scO
theorem QK (T:Tx G mg):DOk P w base T.x_refuse_unlike 2 (spD G FN):=
 fnX (k:=1) (N:=Ka) (b:=HR) T.x_refuse_unlike QJ λ _ _ _ _ _ _ hr=>Af (Bv (PFW.pt (Mw (tNe hr (pU (mO T.gc_World T.cl_World (Hh T) hr (vr 0))) (pU (mO T.gc_World T.cl_World (Hh T) hr (vr 1)))) (Ht (tNe hr (pU (mO T.gc_World T.cl_World (Im T) hr (vr 0))) (pU (mO T.gc_World T.cl_World (Im T) hr (vr 1))))))) (Af (Jd)) (Bc))
abbrev Gh:List Str:=["one","other","pairs","first","second"]
theorem DR:FnScope Gh ["one","other","pairs"] (Ab Ge):=scO
theorem DW (T:Tx G mg):DOk P w base T.x_refuse_strange_pairs 3 (spD G BK):=
 fnX (k:=2) (N:=Gh) (b:=Dh) T.x_refuse_strange_pairs DR λ _ _ _ _ _ _ hr=>Ad (Cz (fX (QK T) hr (pav 0 (pav 1 (Ac))))) (Af (Df z1c rfl (BP rfl (vr 2)) (Jy rfl rfl (Ba (gN DR.nd 3) (Ba (gN DR.nd 4) (Hy)))) (Ad (Cz (fX (Bq T) hr (Ae (BR T.fl_size (vp 0)) (pav 3 (Ac)) Br))) (Af (Cz (fX (Bq T) hr (Ae (BR T.fl_size (vp 1)) (pav 4 (Ac)) Br)))))))
abbrev Kc:List Str:=["one","other","pair","word"]
theorem Jk:FnScope Kc ["one","other","pair"] (Ab KQ):=scO
theorem QL (T:Tx G mg):DOk P w base T.x_bear_the_same 1 (spD G Fb):=
 fnX (k:=0) (N:=Kc) (b:=HS) T.x_bear_the_same Jk λ _ _ _ _ _ _ hr=>Ad (Df z1c rfl (BP rfl (BR T.fl_marked (vp 0))) (C_ (gN Jk.nd 3)) (Af (Bv (tNe hr (pU (cIn hr (pU (iX hr (vp 2) (iP))) (pU (iX hr (pU (BR T.fl_marked (vp 0))) (vp 3))))) (pU (cIn hr (pU (iX hr (vp 2) (iP))) (pU (iX hr (pU (BR T.fl_marked (vp 1))) (vp 3)))))) (Af (Ah (KH))) (Bc)))) (Af (Ah (KH)))
abbrev Kd:List Str:=["one","other","pair","further","word"]
theorem Jl:FnScope Kd ["one","other","pair","further"] (Ab KR):=scO
theorem Gv (T:Tx G mg):DOk P w base T.x_lead_the_same 1 (spD G CV):=
 fnX (k:=0) (N:=Kd) (b:=HW) T.x_lead_the_same Jl λ _ _ _ _ _ _ hr=>Ad (Df z1c rfl (BP rfl (BR T.fl_tied (vp 0))) (C_ (gN Jl.nd 4)) (Af (Bv (tNe hr (pU (jg hr (Ae (iX hr (vp 2) (iP)) (Ae (iX hr (vp 3) (iP)) (Ac) Ai) Ai) (pU (iX hr (pU (BR T.fl_tied (vp 0))) (vp 4))))) (pU (jg hr (Ae (iX hr (vp 2) (iP)) (Ae (iX hr (vp 3) (iP)) (Ac) Ai) Ai) (pU (iX hr (pU (BR T.fl_tied (vp 1))) (vp 4)))))) (Af (Ah (KH))) (Bc)))) (Af (Ah (KH)))
abbrev Mr:List Str:=["one","other","pair","further"]
theorem Sg:FnScope Mr ["one","other","pair","further"] (Ab Ml):=scO
theorem Sh (T:Tx G mg):DOk P w base T.x_go_together 2 (spD G Gz):=
 fnX (k:=1) (N:=Mr) (b:=JX) T.x_go_together Sg λ _ _ _ _ _ _ hr=>Ad (Bv (tNe hr (pU (cEq hr (pU (iX hr (vp 2) (iP))) (pU (iX hr (vp 3) (iP))))) (pU (cEq hr (pU (iX hr (vp 2) (iP))) (pU (iX hr (vp 3) (iP)))))) (Af (Ah (KH))) (Bc)) (Af (Ah (Uu (fX (Gv T) hr (pav 0 (pav 1 (pav 2 (pav 3 (Ac)))))) (fK (fX (Gv T) hr (pav 0 (pav 1 (pav 3 (pav 2 (Ac))))))))))
abbrev HH:List Str:=["one","other","pairs","further"]
theorem Vf:FnScope HH ["one","other","pairs","further"] (Ab LK):=scO
theorem Ov (T:Tx G mg):DOk P w base T.x_fits_with 3 (spD G Dv):=
 fnX (k:=2) (N:=HH) (b:=JB) T.x_fits_with Vf λ _ _ _ _ _ _ hr=>Ad (Bv (PFW.pt (Mw (Jv (Hj (pU (fX (QL T) hr (pav 0 (pav 1 (pav 3 (Ac)))))) rfl)) (Ht (Jv (Hj (pU (fX (Gv T) hr (pav 0 (pav 1 (pav 3 (pav 3 (Ac))))))) rfl))))) (Af (Ah (KH))) (Bc)) (Af (Ah (BJ (Pq rfl) U4 rfl T.z_all X8 (pU (Cu (nT HH "pair") (by show Ep "pair" HH++(["pair"]:List Str)=_;decide +kernel) (cO (N:=HH) (sc:=Ab LK) rfl rfl) rfl (PFI.top (BP rfl (vr 2))) (λ _ _ _=>DG) (λ _ _ _=>fX (Sh T) hr (pav 0 (pav 1 (pav 4 (pav 3 (Ac)))))))))))
abbrev MK:List Str:=["one","other","pairs"]
theorem Yb:FnScope MK ["one","other","pairs"] (Ab QH):=scO
theorem Sq (T:Tx G mg):DOk P w base T.x_all_fit 4 (spD G El):=
 fnX (k:=3) (N:=MK) (b:=MF) T.x_all_fit Yb λ _ _ _ _ _ _ hr=>Af (Ah (BJ (Pq rfl) U4 rfl T.z_all X8 (pU (PN.pf (j7 ["one","other","pairs","at","pair"] (by show Cy ["at","pair"] MK++(["at","pair"]:List Str)=_;decide +kernel) (cO2 (N:=MK) (sc:=Ab QH) rfl rfl) rfl rfl (PFI.top (cV rfl rfl T.z_enumerate (vr 2))) (λ _ _ _=>DG) (λ _ _ _=>fX (Ov T) hr (pav 0 (pav 1 (Ae (Hx rfl (vp 2) (Kq) (Fv (vp 3))) (pav 4 (Ac)) Ai)))))))))
abbrev kI:List Str:=["one","other","pairs"]
theorem qQ:FnScope kI ["one","other","pairs"] (Ab j9):=scO
theorem qR (T:Tx G mg):DOk P w base T.x_fits 5 (spD G Vc):=
 fnX (k:=4) (N:=kI) (b:=YW) T.x_fits qQ λ _ _ _ _ _ _ hr=>Ad (Cz (fX (DW T) hr (pav 0 (pav 1 (pav 2 (Ac)))))) (Af (Ah (fX (Sq T) hr (pav 0 (pav 1 (pav 2 (Ac)))))))
abbrev Ox:List Str:=["_law_here","_law_there","_law_cells","_law_row","_law_cell_here","_law_both"]
theorem G7:FnScope Ox ["_law_here","_law_there","_law_cells"] (Ab Om):=scO
theorem Tf (T:Tx G mg):DOk P w base T.x__law_pairs 6 (spD G Ho):=
 fnX (k:=5) (N:=Ox) (b:=J7) T.x__law_pairs G7 λ _ _ _ _ _ _ hr=>Ad (sW G7.nd 3 (X3 (Ac))) (Ad (Df z1c rfl (BP rfl (vr 2)) (C_ (gN G7.nd 4)) (Af (Bv (PFW.pt (Y_ (tLt (pU (BJ ((BZ rfl).or Be) Ca rfl T.z_len Dt (vq 3))) (iP)) (Y_ (tGt (pU (BR T.fl_size (vp 0))) (iP)) (Xw (tGt (pU (BR T.fl_size (vp 1))) (iP)))))) (Ad (sF G7.nd 5 (Gq (Ae (bMod (pU (bDiv (vp 4) (iP))) (pU (BR T.fl_size (vp 0)))) (Ae (bMod (pU (bDiv (vp 4) (iP))) (pU (BR T.fl_size (vp 1)))) (Ac) Et) Et))) (Af (Bv (PFW.pt (Mw (tEq hr (pU (bMod (vp 4) (iP))) (iP)) (Ht (Hj (pU (fX (qR T) hr (pav 0 (pav 1 (Ae (bAdd (vq 3) (pU (Cq (pav 5 (Ac))))) (Ac) Et))))) rfl)))) (Af (Qy (pv 3) (vr 5))) (Bc)))) (Bc)))) (Af (My [3] (Ah (vr 3)))))
abbrev Qk:List Str:=["_law_script","_law_k"]
theorem Vg:FnScope Qk ["_law_script","_law_k"] (Ab Qi):=scO
theorem Oz (T:Tx G mg):DOk P w base T.x__law_cell 1 (spD G Dw):=
 fnX (k:=0) (N:=Qk) (b:=JC) T.x__law_cell Vg λ _ _ _ _ _ _ hr=>Ad (Bv (tLt (vp 1) (pU (BJ (BZ rfl) Qx rfl T.z_len Dt (vp 0)))) (Af (Ah (iD (vp 0) (vp 1)))) (Bc)) (Af (Ah (PQ)))
abbrev Io:List Str:=["size","paired"]
theorem W7:FnScope Io ["size","paired"] (Ab M_):=scO
theorem Ql (T:Tx G mg):DOk P w base T.x_unpaired 1 (spD G Ie):=
 fnX (k:=0) (N:=Io) (b:=M9) T.x_unpaired W7 λ _ _ _ _ _ _ hr=>Af (Ah (Cu (nT Io "thing") (by show Ep "thing" Io++(["thing"]:List Str)=_;decide +kernel) (cO (N:=Io) (sc:=Ab M_) rfl rfl) rfl (Hk rfl T.z_range (vp 0)) (λ _ _ _=>Nu (tNi hr (vp 2) (vp 1))) (λ _ _ _=>vr 2)))
abbrev JP:List Str:=["self","pairs","further"]
theorem NP:FnScope JP ["self","pairs","further"] (Ab JH):=scO
theorem NQ (T:Tx G mg) {m:Nat}{rec_Ranks_rank_of_fitting:List D->Option D}(hm:3<=m) (hrec:FnOk P w G.K mg base CX0 m T.x_Ranks_rank_of_fitting.f T.x_Ranks_rank_of_fitting.fd ["self","pairs"] (spD G rec_Ranks_rank_of_fitting)):FnOk P w G.K mg base CX0 (m+1) T.x_Ranks_rank_with.f T.x_Ranks_rank_with.fd ["self","pairs","further"] (spD G (Bj rec_Ranks_rank_of_fitting)):=
 fn_D (k:=m+0) (N:=JP) (b:=GX rec_Ranks_rank_of_fitting) T.x_Ranks_rank_with.F NP (by decide) λ _ _ _ _ _ _ hr=>Ad (Bv (Jv (Hj (pU (fX (Ov T) hr (Ae (BR T.fl_one (vp 0)) (Ae (BR T.fl_other (vp 0)) (pav 1 (pav 2 (Ac))) Br) Br))) rfl)) (Af (Ah (PQ))) (Bc)) (Af (Ah (mA T.gc_Ranks T.cl_Ranks (hrec) hr (vr 0) (Ae (vz rfl rfl rfl T.z_tuple Wg rfl T.z_sorted Ln (pU (Gp qM ji (vp 1) (pU (Gq (pav 2 (Ac))))))) (Ac) Ey))))
abbrev Cp:List Str:=["self","pairs","choices"]
theorem NT:FnScope Cp ["self","pairs","choices"] (Ab Gf):=scO
theorem Ip (T:Tx G mg) {m:Nat}{rec_Ranks_rank_of_fitting:List D->Option D}(hm:3<=m) (hrec:FnOk P w G.K mg base CX0 m T.x_Ranks_rank_of_fitting.f T.x_Ranks_rank_of_fitting.fd ["self","pairs"] (spD G rec_Ranks_rank_of_fitting)):FnOk P w G.K mg base CX0 (m+2) T.x_Ranks_best_rank.f T.x_Ranks_best_rank.fd ["self","pairs","choices"] (spD G (Av rec_Ranks_rank_of_fitting)):=
 fn_D (k:=m+1) (N:=Cp) (b:=GZ rec_Ranks_rank_of_fitting) T.x_Ranks_best_rank.F NT (by decide) λ _ _ _ _ _ _ hr=>Af (Ah (oV rfl rfl rfl T.z_max Rk (pU (Cu (nT Cp "further") (by show Ep "further" Cp++(["further"]:List Str)=_;decide +kernel) (cO (N:=Cp) (sc:=Ab Gf) rfl rfl) rfl (PFI.top (BP rfl (vr 2))) (λ _ _ _=>DG) (λ _ _ _=>mA T.gc_Ranks T.cl_Ranks (NQ T (by omega) (hrec)) hr (vr 0) (pav 1 (pav 3 (Ac)))))) (PQ)))
abbrev An:List Str:=["self","pairs","firsts","seconds","reached","first","second"]
theorem Bk:FnScope An ["self","pairs"] (Ab Bp):=scO
theorem MT (T:Tx G mg) {m:Nat}{rec_Ranks_rank_of_fitting:List D->Option D}(hm:3<=m) (hrec:FnOk P w G.K mg base CX0 m T.x_Ranks_rank_of_fitting.f T.x_Ranks_rank_of_fitting.fd ["self","pairs"] (spD G rec_Ranks_rank_of_fitting)):FnOk P w G.K mg base CX0 (m+3) T.x_Ranks_least_rank.f T.x_Ranks_least_rank.fd ["self","pairs"] (spD G (CT rec_Ranks_rank_of_fitting)):=
 fn_D (k:=m+2) (N:=An) (b:=Fj rec_Ranks_rank_of_fitting) T.x_Ranks_least_rank.F Bk (by decide) λ _ _ _ _ _ _ hr=>Ad (sF Bk.nd 2 (fX (Ql T) hr (Ae (BR T.fl_size (pU (BR T.fl_one (vp 0)))) (Ae (Cu (nT An "pair") (by show Ep "pair" An++(["pair"]:List Str)=_;decide +kernel) (cO (N:=An) (sc:=Ab Bp) rfl rfl) rfl (PFI.top (BP rfl (vr 1))) (λ _ _ _=>DG) (λ _ _ _=>iX hr (vp 7) (iP))) (Ac) G9) Br))) (Ad (sF Bk.nd 3 (fX (Ql T) hr (Ae (BR T.fl_size (pU (BR T.fl_other (vp 0)))) (Ae (Cu (nT An "pair") (by show Ep "pair" An++(["pair"]:List Str)=_;decide +kernel) (cO (N:=An) (sc:=Ab Bp) rfl rfl) rfl (PFI.top (BP rfl (vr 1))) (λ _ _ _=>DG) (λ _ _ _=>iX hr (vp 7) (iP))) (Ac) G9) Br))) (Ad (sW Bk.nd 4 (X3 (Ac))) (Ad (Df z1c rfl (BP rfl (vr 2)) (C_ (gN Bk.nd 5)) (Af (Qy (pv 4) (mA T.gc_Ranks T.cl_Ranks (Ip T (by omega) (hrec)) hr (vr 0) (pav 1 (Ae (Cu ["self","pairs","firsts","seconds","reached","first","","second"] (by show Ep "second" An++(["second"]:List Str)=_;decide +kernel) (cO (N:=An) (sc:=Ab Bp) rfl rfl) rfl (PFI.top (BP rfl (vr 3))) (λ _ _ _=>DG) (λ _ _ _=>Gq (pav 5 (pav 7 (Ac))))) (Ac) G9)))))) (Ad (Df z1c rfl (BP rfl (vr 3)) (C_ (gN Bk.nd 6)) (Af (Qy (pv 4) (mA T.gc_Ranks T.cl_Ranks (Ip T (by omega) (hrec)) hr (vr 0) (pav 1 (Ae (Cu ["self","pairs","firsts","seconds","reached","","second","first"] (by show Ep "first" An++(["first"]:List Str)=_;decide +kernel) (cO (N:=An) (sc:=Ab Bp) rfl rfl) rfl (PFI.top (BP rfl (vr 2))) (λ _ _ _=>DG) (λ _ _ _=>Gq (pav 7 (pav 6 (Ac))))) (Ac) G9)))))) (Af (Ah (Kr (Th rfl) WQ rfl T.z_min Xz (pU (BR T.fl_endless (vp 0))) (pU (bAdd (iP) (pU (qL rfl rfl rfl T.z_min Xz (vq 4) (BR T.fl_endless (vp 0)))))))))))))
abbrev DX:List Str:=["self","pairs"]
theorem Ew:FnScope DX ["self","pairs"] (Ab Fp):=scO
theorem Ex (T:Tx G mg):∀ n:Nat,FnOk P w G.K mg base CX0 (n*4+3) T.x_Ranks_rank_of_fitting.f T.x_Ranks_rank_of_fitting.fd ["self","pairs"] (spD G (Ag n))
 | 0=>oZ
 | n+1=>(fn_D (k:=n*4+6) (N:=DX) (b:=Bb (Ag n)) T.x_Ranks_rank_of_fitting.F Ew (by decide) λ _ _ _ _ _ _ hr=>jJ hr.units rfl T.fl_reckoned rfl .(9) rfl .(9) (mA T.gc_Ranks T.cl_Ranks (MT T (by omega) (Ex T n)) hr (vr 0) (pav 1 (Ac)))).mono (by omega)
theorem Iz (T:Tx G mg):FnOk P w G.K mg base CX0 1 T.x_Ranks_rank_of_fitting.f T.x_Ranks_rank_of_fitting.fd ["self","pairs"] (spP P w G.K "reckoned"):=
 fn_P (k:=0) (N:=DX) T.x_Ranks_rank_of_fitting.F Ew rfl λ _ _ _ _ _ _ hr=>qP hr.units rfl .(9) rfl .(9)
abbrev Ke:List Str:=["self","pairs","known"]
theorem Jm:FnScope Ke ["self","pairs"] (Ab KY):=scO
theorem Jo (T:Tx G mg):FnOk P w G.K mg base CX0 36 T.x_Ranks_rank_of.f T.x_Ranks_rank_of.fd ["self","pairs"] (spD G Bm):=
 fn_D (k:=35) (N:=Ke) (b:=Fe) T.x_Ranks_rank_of.F Jm (by decide) λ _ _ _ _ _ _ hr=>Ad (sF Jm.nd 2 (vy hr.units rfl rfl rfl T.z_tuple Wg rfl T.z_sorted Ln rfl T.z_set vJ (vp 1))) (ju (d:=T.x_Ranks_rank_of_fitting) hr.units rfl T.fl_reckoned T.gc_Ranks rfl .(9) rfl .(9) (Hj (pU (fX (Sq T) hr (Ae (BR T.fl_one (vp 0)) (Ae (BR T.fl_other (vp 0)) (pav 2 (Ac)) Br) Br))) rfl) (Iz T) (hr.mono (by omega)) (Ah (mA T.gc_Ranks T.cl_Ranks (Ex T 8) hr (vr 0) (pav 2 (Ac)))))
abbrev UV:List Str:=["side","thing","replied"]
theorem Yc:FnScope UV ["side","thing","replied"] (Ab UT):=scO
theorem Yd (T:Tx G mg):DOk P w base T.x_pair_of 1 (spD G MJ):=
 fnX (k:=0) (N:=UV) (b:=QF) T.x_pair_of Yc λ _ _ _ _ _ _ hr=>Af (Ah (ZC (tEq hr (vp 0) (iP)) (Gq (pav 1 (pav 2 (Ac)))) (Gq (pav 2 (pav 1 (Ac))))))
abbrev Ld:List Str:=["ranks","side"]
theorem Qq:FnScope Ld ["ranks","side"] (Ab LQ):=scO
theorem Kf (T:Tx G mg):DOk P w base T.x_size_of_side 1 (spD G DQ):=
 fnX (k:=0) (N:=Ld) (b:=Ig) T.x_size_of_side Qq λ _ _ _ _ _ _ hr=>Af (Ah (ZC (tEq hr (vp 1) (iP)) (BR T.fl_size (pU (BR T.fl_one (vp 0)))) (BR T.fl_size (pU (BR T.fl_other (vp 0))))))
abbrev HJ:List Str:=["ranks","side","thing"]
theorem Vh:FnScope HJ ["ranks","side","thing"] (Ab LR):=scO
theorem Vi (T:Tx G mg):DOk P w base T.x_new_pairs 2 (spD G HD):=
 fnX (k:=1) (N:=HJ) (b:=K9) T.x_new_pairs Vh λ _ _ _ _ _ _ hr=>Af (Ah (Cu (nT HJ "replied") (by show Ep "replied" HJ++(["replied"]:List Str)=_;decide +kernel) (cO (N:=HJ) (sc:=Ab LR) rfl rfl) rfl (Hk rfl T.z_range (pU (fX (Kf T) hr (pav 0 (Ae (bSub (iP) (vp 1)) (Ac) Et))))) (λ _ _ _=>DG) (λ _ _ _=>fX (Yd T) hr (pav 1 (pav 2 (pav 3 (Ac)))))))
abbrev Eb:List Str:=["ranks","pairs","side","thing"]
theorem Qs:FnScope Eb ["ranks","pairs","side","thing"] (Ab Ij):=scO
theorem Qt (T:Tx G mg):DOk P w base T.x_ranks_behind 37 (spD G Ga):=
 fnX (k:=36) (N:=Eb) (b:=Ih) T.x_ranks_behind Qs λ _ _ _ _ _ _ hr=>Af (Ah (Cu (nT Eb "pair") (by show Ep "pair" Eb++(["pair"]:List Str)=_;decide +kernel) (cO (N:=Eb) (sc:=Ab Ij) rfl rfl) rfl (PFI.top (BP rfl (fX (Vi T) hr (pav 0 (pav 2 (pav 3 (Ac))))))) (λ _ _ _=>DG) (λ _ _ _=>mA T.gc_Ranks T.cl_Ranks (Jo T) hr (vr 0) (Ae (bAdd (vp 1) (pU (Cq (pav 4 (Ac))))) (Ac) Et))))
abbrev O3:List Str:=["ranks","pairs","side","thing","behind"]
theorem Ms:FnScope O3 ["ranks","pairs","side","thing"] (Ab Oo):=scO
theorem Tg (T:Tx G mg):DOk P w base T.x_best_reply 38 (spD G Gb):=
 fnX (k:=37) (N:=O3) (b:=Hq) T.x_best_reply Ms λ _ _ _ _ _ _ hr=>Ad (Cz (fX (Bq T) hr (Ae (fX (Kf T) hr (pav 0 (pav 2 (Ac)))) (pav 3 (Ac)) Ey))) (Ad (sF Ms.nd 4 (fX (Qt T) hr (pav 0 (pav 1 (pav 2 (pav 3 (Ac))))))) (Af (Ah (ZC (tGt (pU (BJ ((BZ rfl).or Be) Ca rfl T.z_len Dt (vp 4))) (iP)) (j6 rfl (vp 4) (BJ (cW rfl rfl) jz rfl T.z_max Rk (vp 4))) (fG)))))
abbrev Jp:List Str:=["self","one","other"]
theorem O4:FnScope Jp ["self","one","other"] (Ab Jh):=scO
theorem JQ (T:Tx G mg):FnOk P w G.K mg base CX0 1 T.x_Ranks___init__.f T.x_Ranks___init__.fd ["self","one","other"] (spI G "Ranks" CG):=
 fn_I (c:="Ranks") (k:=0) (N:=Jp) (b:=Gu) T.x_Ranks___init__.F O4 (by decide) λ cdv A outer s H E hr=>Dl (K3 T.fl_one (pv 0) (vr 1)) (Dl (K3 T.fl_other (pv 0) (vr 2)) (Dl (K3 T.fl_reckoned (pv 0) (vh rfl)) (Dl (K3 T.fl_endless (pv 0) (bAdd (pU (Kr (O8 rfl) Rc rfl T.z_max Rk (pU (BR T.fl_size (vp 1))) (pU (BR T.fl_size (vp 2))))) (iP))) (Zi))))
abbrev Z9:List Str:=["one","other","pairs","side","thing"]
theorem kJ:FnScope Z9 ["one","other","pairs","side","thing"] (Ab Z8):=scO
theorem W8 (T:Tx G mg):DOk P w base T.x_reply 39 (spD G J_):=
 fnX (k:=38) (N:=Z9) (b:=Vd) T.x_reply kJ λ _ _ _ _ _ _ hr=>Ad (Cz (fX (DW T) hr (pav 0 (pav 1 (pav 2 (Ac)))))) (Af (Ah (fX (Tg T) hr (Ae (U9 T.gc_Ranks T.x_Ranks___init__.mM (JQ T) (hr.mono (by omega)) rfl T.mC_Ranks T.x_Ranks___init__.B (pav 0 (pav 1 (Ac)))) (Ae (Lj ((Hi.or (Hl rfl)).or (Hm rfl)) Lw rfl T.z_list Nv (vp 2)) (pav 3 (pav 4 (Ac))) Ey) Ey))))
abbrev JR:List Str:=["self","pairs","reached"]
theorem Ir:FnScope JR ["self","pairs"] (Ab JK):=scO
theorem NZ (T:Tx G mg):FnOk P w G.K mg base CX0 37 T.x_Ranks_told_rank.f T.x_Ranks_told_rank.fd ["self","pairs"] (spD G Ck):=
 fn_D (k:=36) (N:=JR) (b:=Gd) T.x_Ranks_told_rank.F Ir (by decide) λ _ _ _ _ _ _ hr=>Ad (sF Ir.nd 2 (mA T.gc_Ranks T.cl_Ranks (Jo T) hr (vr 0) (pav 1 (Ac)))) (Af (Ah (ZC (tEq hr (vp 2) (pU (BR T.fl_endless (vp 0)))) (fG) (vr 2))))
abbrev kO:List Str:=["one","other","pairs"]
theorem qT:FnScope kO ["one","other","pairs"] (Ab j_):=scO
theorem qU (T:Tx G mg):DOk P w base T.x_rank 38 (spD G Ve):=
 fnX (k:=37) (N:=kO) (b:=YX) T.x_rank qT λ _ _ _ _ _ _ hr=>Ad (Cz (fX (DW T) hr (pav 0 (pav 1 (pav 2 (Ac)))))) (Af (Ah (mA T.gc_Ranks T.cl_Ranks (NZ T) hr (U9 T.gc_Ranks T.x_Ranks___init__.mM (JQ T) (hr.mono (by omega)) rfl T.mC_Ranks T.x_Ranks___init__.B (pav 0 (pav 1 (Ac)))) (pav 2 (Ac)))))
abbrev Mt:List Str:=["_law_here","_law_there","_law_row","_law_both","_law_found"]
theorem Le:FnScope Mt ["_law_here","_law_there","_law_row","_law_both"] (Ab Mm):=scO
theorem Lf (T:Tx G mg):DOk P w base T.x__law_height 39 (spD G Dn):=
 fnX (k:=38) (N:=Mt) (b:=G3) T.x__law_height Le λ _ _ _ _ _ _ hr=>Ad (sF Le.nd 4 (fX (qU T) hr (pav 0 (pav 1 (Ae (bAdd (vp 2) (pU (Cq (pav 3 (Ac))))) (Ac) Et))))) (Ad (Bv (o_ (vp 4)) (Af (Ah (PQ))) (Bc)) (Af (Ah (vr 4))))
abbrev Kg:List Str:=["_law_found","_law_size"]
theorem QM:FnScope Kg ["_law_found","_law_size"] (Ab KZ):=scO
theorem QQ (T:Tx G mg):DOk P w base T.x__law_is_thing 1 (spD G Ff):=
 fnX (k:=0) (N:=Kg) (b:=HX) T.x__law_is_thing QM λ _ _ _ _ _ _ hr=>Af (Ah (Uu (gA oX rfl rfl T.z_isinstance Mh rfl T.z_int vI (vp 0)) (Uu (u0 (gA gB rfl rfl T.z_isinstance Mh rfl T.z_bool oY (vp 0))) (Uu (Ur xK ux (iP) (vp 0) (Kl _)) (fK (Ur rQ fJ (vp 0) (vp 1) (Kl _)))))))
abbrev Qm:List Str:=["_law_here","_law_there","_law_row","_law_side","_law_thing","_law_found","_law_sizes","_law_most","_law_partner"]
theorem Gi:FnScope Qm ["_law_here","_law_there","_law_row","_law_side","_law_thing"] (Ab Qj):=scO
theorem Vj (T:Tx G mg):DOk P w base T.x__law_good 40 (spD G HF):=
 fnX (k:=39) (N:=Qm) (b:=JD) T.x__law_good Gi λ _ _ _ _ _ _ hr=>Ad (sF Gi.nd 5 (fX (W8 T) hr (pav 0 (pav 1 (pav 2 (pav 3 (pav 4 (Ac)))))))) (Ad (sF Gi.nd 6 (Cq (Ae (BR T.fl_size (vp 0)) (Ae (BR T.fl_size (vp 1)) (Ac) Br) Br))) (Ad (Bv (tEq hr (pU (iX hr (vp 6) (pU (bSub (iP) (vp 3))))) (iP)) (Af (Ah (vO (vp 5)))) (Bc)) (Ad (Bv (Jv (Hj (pU (fX (QQ T) hr (pav 5 (Ae (iX hr (vp 6) (pU (bSub (iP) (vp 3)))) (Ac) Ai)))) rfl)) (Af (Ah (KH))) (Bc)) (Ad (sF Gi.nd 7 (fX (Lf T) hr (pav 0 (pav 1 (pav 2 (Ae (iX hr (pU (Cq (Ae (Gq (pav 4 (pav 5 (Ac)))) (Ae (Gq (pav 5 (pav 4 (Ac)))) (Ac) K6) K6))) (vp 3)) (Ac) Ai)))))) (Ad (Df z1c rfl (Hk rfl T.z_range (pU (iX hr (vp 6) (pU (bSub (iP) (vp 3)))))) (C_ (gN Gi.nd 8)) (Af (Bv (tGt (pU (fX (Lf T) hr (pav 0 (pav 1 (pav 2 (Ae (iX hr (pU (Cq (Ae (Gq (pav 4 (pav 8 (Ac)))) (Ae (Gq (pav 8 (pav 4 (Ac)))) (Ac) K6) K6))) (vp 3)) (Ac) Ai)))))) (vp 7)) (Af (Ah (KH))) (Bc)))) (Af (Ah (cEq hr (pU (fX (W8 T) hr (pav 0 (pav 1 (pav 2 (pav 3 (pav 4 (Ac)))))))) (vp 5)))))))))
abbrev W9:List Str:=["_law_script","_law_first","_law_second","_law_here","_law_there","_law_row","_law_kept","_law_sizes","_law_cell_here","_law_side","_law_thing"]
theorem Iu:FnScope W9 ["_law_script"] (Ab kE):=scO
theorem v7 (T:Tx G mg):DOk P w base T.x_law 41 (spD G W6):=
 fnX (k:=40) (N:=W9) (b:=j8) T.x_law Iu λ _ _ _ _ _ _ hr=>Ad (U0 (Jy rfl rfl (Ba (gN Iu.nd 1) (Ba (gN Iu.nd 2) (Hy)))) (fX (Td T) hr (Ae (Cu (nT W9 "_law_k") (by show Ep "_law_k" W9++(["_law_k"]:List Str)=_;decide +kernel) (cO (N:=W9) (sc:=Ab kE) rfl rfl) rfl (Hk rfl T.z_range (iP)) (λ _ _ _=>DG) (λ _ _ _=>fX (Oz T) hr (pav 0 (pav 11 (Ac))))) (Ac) G9))) (Ad (sF Iu.nd 3 (U9 T.gc_World T.x_World___init__.mM (JM T) (hr.mono (by omega)) rfl T.mC_World T.x_World___init__.B (Ae (iX hr (vp 1) (iP)) (Ae (iX hr (vp 1) (iP)) (Ae (iX hr (vp 1) (iP)) (Ac) Ai) Ai) Ai))) (Ad (sF Iu.nd 4 (U9 T.gc_World T.x_World___init__.mM (JM T) (hr.mono (by omega)) rfl T.mC_World T.x_World___init__.B (Ae (iX hr (vp 2) (iP)) (Ae (iX hr (vp 2) (iP)) (Ae (iX hr (vp 2) (iP)) (Ac) Ai) Ai) Ai))) (Ad (sF Iu.nd 5 (fX (Tf T) hr (pav 3 (pav 4 (Ae (Hx rfl (vp 0) (Fv (iP)) (Fv (iP))) (Ac) Ai))))) (Ad (sF Iu.nd 6 (Lj ((Hi.or (Hl rfl)).or (Hm rfl)) Lw rfl T.z_list Nv (vp 5))) (Ad (sF Iu.nd 7 (Cq (Ae (iX hr (vp 1) (iP)) (Ae (iX hr (vp 2) (iP)) (Ac) Ai) Ai))) (Ad (Df z1c rfl (BP rfl (bAdd (pU (Cq (Ae (fX (Oz T) hr (pav 0 (iI (Ac)))) (Ac) Ey))) (pU (Hx rfl (vp 0) (Fv (iP)) (Fv (iP)))))) (C_ (gN Iu.nd 8)) (Ad (sF Iu.nd 9 (bMod (vp 8) (iP))) (Af (Bv (tGt (pU (iX hr (vp 7) (vp 9))) (iP)) (Ad (sF Iu.nd 10 (bMod (pU (bDiv (vp 8) (iP))) (pU (iX hr (vp 7) (vp 9))))) (Af (Bv (Jv (Hj (pU (fX (Vj T) hr (pav 3 (pav 4 (pav 5 (pav 9 (pav 10 (Ac)))))))) rfl)) (Af (Ah (KH))) (Bc)))) (Bc))))) (Af (Ah (cEq hr (vp 5) (vp 6))))))))))
end
abbrev gx (K:z08) (C_World C_Ranks:Addr):Gx:=gxL K [("World",C_World),("Ranks",C_Ranks)]
def t6 (K:z08):Sp:=λ vs H Q _=>∃ (a:Addr) (ns:List Int),vs=[.ref a]/\SqL K H a (ns.map V.int)/\ns.length<=63/\(∀ i∈ns,z1r i<=1048576)/\∀ H',Q (.bl true) H'
theorem v8 (ht:∀ ns:List Int,ns.length<=63->(∀ i∈ns,z1r i<=1048576)->W6 [.lst (ns.map .int)]=some (.bl true)) {K:z08}{C_World C_Ranks:Addr}(vs:List V) (H:Hp) (Q:VK) (E:XK) (h:t6 K vs H Q E):spD (gx K C_World C_Ranks) W6 vs H Q E:=by
 obtain⟨a,ns,rfl,hs,hl,hbt,k⟩:=h;refine⟨[],[.lst (ns.map .int)],.bl true,(λ _ z=>nomatch z),RepL.cons ?_ RepL.nil,ht ns hl hbt,λ v H2 _ r=>?_⟩
 ·have e:hid [] H=H:=by funext b;exact CJ (λ z=>nomatch z)
  rw[e];refine .lst hs (by simp) λ i x d h1 h2=>?_;rw[z0o] at h1 h2;cases e2:ns[i]? with
  | none=>rw[e2] at h1;cases h1
  | some z=>rw[e2] at h1 h2;cases h1;cases h2;exact .int z
 ·cases r;exact k H2
end K62
section
open PySem L2 PV
local macro_rules | `(tactic| w_up) => `(tactic| (rw [List.map_cons, Fo, e_tg, K1, Kz]; simp only [List.set_cons_zero, List.set_cons_succ]))
local macro_rules | `(tactic| simp only [cK, $ls,*] $[$l:location]?) => `(tactic| simp only [Es, e_nx, e_rt, sO, e_if, sS, sU, ZV, U7, sV, gY, gZ, ZW, e_b, e_bs, e_u, e_us, gf, ZX, gj, ZZ, gk, sZ, gr, gw, g8, YC, g_, h_, iB, e_bl, su, iC, Za, Zb, tD, iG, iH, iJ, iK, Zc, iM, Zd, tG, iQ, iR, e_sl, tH, tK, Ze, Wf, e_v, e_vs, e_vU, tL, e_k, Rp, Rq, Mz, iT, iU, iV, Kw, iW, DK, Je, e_tr, iZ, Zf, tO, ie, Px, Fo, Ed, K1, e_tg, Kz, List.length_cons, List.length_nil, List.map_cons, List.map_nil, List.cons_append, List.nil_append, List.replicate_succ, List.replicate_zero, List.getElem?_cons_zero, List.getElem?_cons_succ, List.set_cons_zero, List.set_cons_succ, Nat.reduceAdd, Nat.reduceSub, Nat.reduceEqDiff, Nat.zero_add, truB, Bool.not_true, Bool.not_false, decide_true, decide_false, List.append_nil, Int.reduceLT, Int.reduceLE, Int.reduceNeg, Int.reduceEq, Int.reduceToNat, Nat.reduceLeDiff, $ls,*] $[$l:location]?)
local macro_rules | `(tactic| simp only [cK]) => `(tactic| simp only [cK, e_nx])
local macro_rules | `(tactic| simp only [kC, $ls,*] $[$l:location]?) => `(tactic| simp only [$ls,*, Es, e_nx, e_rt, sO, e_if, sS, sU, ZV, U7, sV, gY, gZ, ZW, e_b, e_bs, e_u, e_us, gf, ZX, gj, ZZ, gk, sZ, gr, gw, g8, YC, g_, h_, iB, e_bl, su, iC, Za, Zb, tD, iG, iH, iJ, iK, Zc, iM, Zd, tG, iQ, iR, e_sl, tH, tK, Ze, Wf, e_v, e_vs, e_vU, tL, e_k, Rp, Rq, Mz, iT, iU, iV, Kw, iW, DK, Je, e_tr, iZ, Zf, tO, ie, Px, Fo, Ed, K1, e_tg, Kz, List.length_cons, List.length_nil, List.map_cons, List.map_nil, List.cons_append, List.nil_append, List.replicate_succ, List.replicate_zero, List.getElem?_cons_zero, List.getElem?_cons_succ, List.set_cons_zero, List.set_cons_succ, Nat.reduceAdd, Nat.reduceSub, Nat.reduceEqDiff, Nat.zero_add, truB, Bool.not_true, Bool.not_false, decide_true, decide_false, List.append_nil, Int.reduceLT, Int.reduceLE, Int.reduceNeg, Int.reduceEq, Int.reduceToNat, Nat.reduceLeDiff] $[$l:location]?)
local macro_rules | `(tactic| simp only [kiC, $ls,*] $[$l:location]?) => `(tactic| simp only [kC, $ls,*, Fw, Dq, Kv, Pu, T4, We, ZR, gU, Qd, ZS] $[$l:location]?)
local macro_rules | `(tactic| simp only [dK, $ls,*] $[$l:location]?) => `(tactic| simp only [cK, N6, Zj, Zk, DN, Eg, Q4, N8, Rw, M4, vV, pI, yC, yD, vW, N_, Ry, $ls,*] $[$l:location]?)
local macro_rules | `(tactic| simp only [ciK, $ls,*] $[$l:location]?) => `(tactic| simp only [cK, Fw, Dq, Kv, Pu, T4, We, ZR, gU, Qd, ZS, $ls,*] $[$l:location]?)
local macro_rules | `(tactic| simp only [diK, $ls,*] $[$l:location]?) => `(tactic| simp only [dK, Fw, Dq, Kv, Pu, T4, We, ZR, gU, Qd, ZS, $ls,*] $[$l:location]?)
namespace K62
open PySem L2 PV
theorem Z_ (ns:List Int) (k:Nat):Dw [.lst (ns.map .int),.int (k:Int)]=some (.int (ns.getD k 0)):=by
 by_cases h:k<ns.length
 ·have eg:ns.getD k 0=ns[k]:=by simp[h]
  rw[eg];have e:atI (ns.map D.int) (k:Int)=some (.int ns[k]):=by
   rw[vP (by omega) (by simpa using h)];simp[h]
  simp[Dw,runF,JC,seqF,ifS,blF,bF,vF,uF,Em,lenD,T4,h,retF,ixD,e]
 ·have eg:ns.getD k 0=0:=by simp[z1Z.mp h]
  rw[eg];simp[Dw,runF,JC,seqF,ifS,blF,bF,vF,uF,Em,lenD,T4,h,retF,nxF,kF]
theorem v9 (x:Str):(cs x).length=x.length:=by simp[cs,z6B]
theorem aA (L:List D) (x:D) (h:L.length<=1000):appL (.lst L) x=some (.lst (L++[x])):=by
 unfold appL;show (if L.length<sizeLine then some (D.lst (L++[x])) else none)=_;rw[if_pos (z3k h (by decide))]
theorem Jq (n:Nat) (t:Nat) (h:t<n):A_ [.int (n:Int),.int (t:Int)]=some .non:=by
 have c1:¬ ((t:Int)<0):=by omega
 have c2:¬ ((n:Int)<=t):=by omega
 simp only[ciK,A_,GJ,c1,c2]
theorem kW {t:Nat}(h:t∉l):(.inl (t:Int):Key)∉(l.map λ (t:Nat)=>((.inl (t:Int):Key),D.bl true)).map (·.1):=by
 intro z;rw[z0p] at z;obtain⟨u,hu,e⟩:=z0g.mp z;simp at e;have e':u=t:=by omega
 exact h (e'▸hu)
theorem UW (n:Nat) (x z0:Slot):∀ (r p:List Nat) (z:Slot),(p++r).Nodup->(∀ t∈r,t<n)->(p++r).length<=100 ->
  ∃ z',forF (tgB (Cr 3) FJ) (r.map iN) [.fz .(1),x,.ow (kM p),z]=some (.nx [.fz .(1),x,.ow (kM (p++r)),z'])
 | [],p,z,_,_,_=>⟨z,by rw[z1d];rfl⟩
 | t::r,p,z,nd,hl,hlen=>by
  have nt:t∉p:=by
   intro q;rw[z0W] at nd;exact nd.2.2 t q t (by simp) rfl
  have e1:=Jq n t (hl t (by simp));have e2:Dc (kM p) (.int (t:Int)) (.bl true)=some (kM (p++[t])):=by
   show Dc (.dk _) _ _=_;rw[vX _ _ _ (by simp at hlen ⊢;omega),putL_new (kW nt)];simp[kM]
  have b:FJ [.fz .(1),x,.ow (kM p),.fz (iN t)]=some (.nx [.fz .(1),x,.ow (kM (p++[t])),.fz (iN t)]):=by
   simp only[dK,FJ,e1,e2]
  obtain⟨z',ih⟩:=UW n x z0 r (p++[t]) (.fz (iN t)) (by simpa using nd) (λ u hu=>hl u (by simp[hu])) (by simpa using hlen);refine⟨z',?_⟩
  w_up
  rw[b,Ed,ih];simp
theorem qW (n:Nat) (l:List Nat) (nd:l.Nodup) (hl:∀ t∈l,t<n) (hlen:l.length<=100):Dm [.int (n:Int),lM l]=some (kM l):=by
 obtain⟨z',e⟩:=UW n (.fz (lM l)) .un l [] .un (by simpa using nd) hl (by simpa using hlen);rw[z1G] at e;have e0:(D.dk [])=kM []:=rfl;simp only[dK,Dm,JW,e0,lM,e] at e ⊢
theorem kZ {t:Nat×Nat}{l:List (Nat×Nat)}(h:t∉l):[(.inl (t.1:Int):Key),.inl (t.2:Int)]∉(l.map λ (q:Nat×Nat)=>([(.inl (q.1:Int):Key),.inl (q.2:Int)],D.bl true)).map (·.1):=by
 intro z;rw[z0p] at z;obtain⟨u,hu,e⟩:=z0g.mp z;simp at e;have e':u=t:=by
  obtain⟨a,b⟩:=u;obtain⟨c,d⟩:=t;simp at e ⊢;omega
 exact h (e'▸hu)
theorem Ss (n:Nat) (x:Slot):∀ (r p:List (Nat×Nat)) (z z2:Slot),(p++r).Nodup->(∀ t∈r,t.1<n/\t.2<n)->(p++r).length<=100 ->
  ∃ z' z2',forF (tgB (tupG 2 (BX 3 (BX 4 nilG))) GK) (r.map pN) [.fz .(1),x,.ow (kT p),z,z2]=some (.nx [.fz .(1),x,.ow (kT (p++r)),z',z2'])
 | [],p,z,z2,_,_,_=>⟨z,z2,by rw[z1d];rfl⟩
 | t::r,p,z,z2,nd,hl,hlen=>by
  have nt:t∉p:=by
   intro q;rw[z0W] at nd;exact nd.2.2 t q t (by simp) rfl
  have e1:=Jq n t.1 (hl t (by simp)).1;have e1':=Jq n t.2 (hl t (by simp)).2;have e2:Ny (kT p) [.int (t.1:Int),.int (t.2:Int)] (.bl true)=some (kT (p++[t])):=by
   show Ny (.dt _) _ _=_;rw[vY _ _ _ _ (by simp at hlen ⊢;omega),putL_new (kZ nt)];simp[kT]
  have b:GK [.fz .(1),x,.ow (kT p),.fz (.int (t.1:Int)),.fz (.int (t.2:Int))]=some (.nx [.fz .(1),x,.ow (kT (p++[t])),.fz (.int (t.1:Int)),.fz (.int (t.2:Int))]):=by
   simp only[dK,GK,e1,e1',e2]
  obtain⟨z',z2',ih⟩:=Ss n x r (p++[t]) (.fz (.int (t.1:Int))) (.fz (.int (t.2:Int))) (by simpa using nd) (λ u hu=>hl u (by simp[hu])) (by simpa using hlen);refine⟨z',z2',?_⟩;rw[z0c,Fo,e_tg,N_,Kz];simp only[z1i,z1j];rw[b,Ed,ih];simp
theorem kh (n:Nat) (l:List (Nat×Nat)) (nd:l.Nodup) (hl:∀ t∈l,t.1<n/\t.2<n) (hlen:l.length<=100):Ej [.int (n:Int),lT l]=some (kT l):=by
 obtain⟨z',z2',e⟩:=Ss n (.fz (lT l)) l [] .un .un (by simpa using nd) hl (by simpa using hlen);rw[z1G] at e;have e0:(D.dt [])=kT []:=rfl;simp only[dK,Ej,J6,e0,lT,e] at e ⊢
theorem v_ (c:Nat):inD false (.str ⟨#[c]⟩) (.str LET)=some (.bl (!(z2I LET ⟨#[c]⟩ 0 LET.length 1).isEmpty)):=zE_ _
theorem wA:∀ c∈cs LET,(!(z2I LET ⟨#[c]⟩ 0 LET.length 1).isEmpty)=true:=by decide +kernel
theorem qX (h:x∉KEPT):inF false (.str x) c_KEPT_TEXTS=some (.bl false):=by
 have e:inF false (.str x) c_KEPT_TEXTS=inD false (.str x) (.lst (KEPT.map .str)):=rfl;rw[e,pC];have:(KEPT.any λ y=>y==x)=false:=by
  rw[z86];intro y hy hz;have:=beq_iff_eq.mp hz;exact h (this▸hy)
 rw[this]
theorem wB (x:Str) (h:x.length<=10000000):lenE (.str x)=some (.int x.length):=xx x h
theorem aB (h:Wd x):Ek [.str x]=some (.bl true):=by
 have k:=qX h.kept;have h1:=h.lo;have h2:=h.hi;have l:=wB x (by omega);have c0:¬ ((x.length:Int)=0):=by omega
 have c8:¬ ((8:Int)<x.length):=by omega
 have cc:∀ l:List Nat,(∀ c∈l,c∈cs LET)->Jb [.fz (.str x)] allT G_ (l.map λ c=>.str ⟨#[c]⟩)=some (l.map λ _=>.bl true):=by
  intro l
  induction l with
  | nil=>intro _;rfl
  | cons c r ih=>
   intro hl;have v:G_ ([.fz (.str x)]++[.fz (.str ⟨#[c]⟩)])=some (.bl true):=by
    have e:inF false (.str ⟨#[c]⟩) (.str LET)=some (.bl true):=by
     show inD false (.str ⟨#[c]⟩) (.str LET)=_;rw[v_,wA c (hl c (by simp))]
    have hL:(z0F "abcdefghijklmnopqrstuvwxyz")=LET:=rfl;simp only[cK,G_,hL,e]
   rw[z0c,Jz,iT,v,ih λ d hd=>hl d (by simp[hd])];rfl
 have c1:BW (seqA (vF 0)) allT G_ [.fz (.str x)]=some (.lst ((cs x).map λ _=>.bl true)):=by
  refine Q0 (ds:=(cs x).map λ c=>.str ⟨#[c]⟩) (by rfl) (by rw[z06,v9];omega) (cc (cs x) h.isL)
 have al:∀ l:List Nat,allD (.lst (l.map λ _=>.bl true))=some (.bl true):=by
  intro l;have q:∀ l:List Nat,blsD (l.map λ _=>D.bl true)=some (l.map λ _=>true):=by
   intro l
   induction l with
   | nil=>rfl
   | cons c r ih=>simp[blsD,ih]
  show (blsD (l.map λ _=>D.bl true)).map _=_;rw[q];simp
 simp only[ciK,Ek,QD,k,l,c0,c8,c1,al]
theorem Su (i j:Int) (h:i<=j):Bg [.int i,.int j]=some .non:=by
 have c:¬ (j<i):=by omega
 simp only[ciK,Bg,Ib,c]
abbrev fS (n:Nat):Str×Bool×D:=("size",false,.int (n:Int))
abbrev fM (ms:List (Str×List Nat)):Str×Bool×D:=("marked",true,.dk (oM ms))
abbrev fT (ts:List .(43)):Str×Bool×D:=("tied",true,.dk (oT ts))
theorem q1:(("marked":Str)=="size")=false:=by decide +kernel
theorem q2:(("tied":Str)=="size")=false:=by decide +kernel
theorem q3:(("tied":Str)=="marked")=false:=by decide +kernel
theorem n1:¬ (("size":Str)="marked"):=by decide +kernel
theorem n2:¬ (("size":Str)="tied"):=by decide +kernel
theorem n3:¬ (("marked":Str)="tied"):=by decide +kernel
theorem lkM (n:Nat) (d e:D):z0m ("marked":Str) [fS n,("marked",true,d),("tied",true,e)]=some (true,d):=by
 rw[z0q,q1];show z0m ("marked":Str) [("marked",true,d),("tied",true,e)]=_;rw[z0q,show (("marked":Str)=="marked")=true by decide +kernel]
theorem lkT (n:Nat) (d e:D):z0m ("tied":Str) [fS n,("marked",true,d),("tied",true,e)]=some (true,e):=by
 rw[z0q,q2];show z0m ("tied":Str) [("marked",true,d),("tied",true,e)]=_;rw[z0q,q3];show z0m ("tied":Str) [("tied",true,e)]=_;rw[z0q,show (("tied":Str)=="tied")=true by decide +kernel]
theorem rpM (n:Nat) (d e d':D):repE "marked" d' [fS n,("marked",true,d),("tied",true,e)]=[fS n,("marked",true,d'),("tied",true,e)]:=by
 unfold repE repE;rw[if_neg n1,if_pos rfl]
theorem rpT (n:Nat) (d e e':D):repE "tied" e' [fS n,("marked",true,d),("tied",true,e)]=[fS n,("marked",true,d),("tied",true,e')]:=by
 unfold repE repE repE;rw[if_neg n2,if_neg n3,if_pos rfl]
theorem Iv {α:Type}{w:Str}(f:α->D) {l:List (Str×α)}(h:w∉l.map (·.1)):(.inr w:Key)∉(l.map λ p=>((.inr p.1:Key),f p.2)).map (·.1):=by
 intro z;rw[z0p] at z;obtain⟨u,hu,e⟩:=z0g.mp z;simp at e;exact h (z0g.mpr ⟨u,hu,e⟩)
theorem Sv (n:Nat) (hn:n<=5) (x:Addr) (a b:D) (e:D) (z6:Slot):∀ (r p:List (Str×List Nat)) (z4 z5:Slot),((p++r).map (·.1)).Nodup->(∀ q∈r,Wd q.1/\q.2.Nodup/\q.2.length<=100/\∀ t∈q.2,t<n)->(p++r).length<=3->(∀ d,z4≠.ow d)->(∀ d,z5≠.ow d)->(∀ d,z6≠.ow d) ->
  ∃ z4' z5',(∀ d,z4'≠.ow d)/\(∀ d,z5'≠.ow d)/\I_ (tupG 2 (BX 4 (BX 5 nilG))) CN (r.map λ q=>.tup [.str q.1,lM q.2]) [.fz (.adr x),.fz .(1),.fz a,.fz b,z4,z5,z6] [fS n,fM p,("tied",true,e)]=some ([.fz (.adr x),.fz .(1),.fz a,.fz b,z4',z5',z6],[fS n,fM (p++r),("tied",true,e)])
 | [],p,z4,z5,_,_,_,h4,h5,_=>⟨z4,z5,h4,h5,by rw[z1d];rfl⟩
 | t::r,p,z4,z5,nd,hl,hlen,h4,h5,h6=>by
  obtain⟨w,l⟩:=t;obtain⟨hw,l1,l2,l3⟩:=hl (w,l) (by simp);have nt:w∉p.map (·.1):=by
   intro q;rw[z0S,z0W] at nd;exact nd.2.2 w q w (by simp) rfl
  have e1:=aB hw;have e2:=qW n l l1 l3 l2;have e3:Dc (.dk (oM p)) (.str w) (kM l)=some (.dk (oM (p++[(w,l)]))):=by
   rw[M5 _ _ _ (by simp[oM] at hlen ⊢;omega)];have:(.inr w:Key)∉(oM p).map (·.1):=Iv kM nt;rw[putL_new this];simp[oM]
  have b0:CN [.fz (.adr x),.fz .(1),.fz a,.fz b,.fz (.str w),.fz (lM l),z6] [fS n,fM p,("tied",true,e)]=some ([.fz (.adr x),.fz .(1),.fz a,.fz b,.fz (.str w),.fz (lM l),z6],[fS n,fM (p++[(w,l)]),("tied",true,e)]):=by
   have t0:ifE (Rr (notT (trF (Am (Ek) .(42))))) [.fz (.adr x),.fz .(1),.fz a,.fz b,.fz (.str w),.fz (lM l),z6] [fS n,fM p,("tied",true,e)]=some ([.fz (.adr x),.fz .(1),.fz a,.fz b,.fz (.str w),.fz (lM l),z6],[fS n,fM p,("tied",true,e)]):=by
    have:notT (trF (Am (Ek) .(42))) [.fz (.adr x),.fz .(1),.fz a,.fz b,.fz (.str w),.fz (lM l),z6]=some false:=by simp only[cK,e1]
    unfold ifE Rr;rw[this]
   have t1:Qf "marked" (vF 4) (Am (Dm) (Aa (vF 1) (Aa (vF 5) (nilA)))) [.fz (.adr x),.fz .(1),.fz a,.fz b,.fz (.str w),.fz (lM l),z6] [fS n,fM p,("tied",true,e)]=some ([.fz (.adr x),.fz .(1),.fz a,.fz b,.fz (.str w),.fz (lM l),z6],[fS n,fM (p++[(w,l)]),("tied",true,e)]):=by
    have v1:Am (Dm) (Aa (vF 1) (Aa (vF 5) (nilA))) [.fz (.adr x),.fz .(1),.fz a,.fz b,.fz (.str w),.fz (lM l),z6]=some (kM l):=by simp only[cK,e2]
    have v2:vF 4 [.fz (.adr x),.fz .(1),.fz a,.fz b,.fz (.str w),.fz (lM l),z6]=some (.str w):=rfl;unfold Qf;rw[v1,v2];show (match z0m ("marked":Str) [fS n,fM p,("tied",true,e)] with | some (true,d)=>(Dc d (.str w) (kM l)).map λ d'=>(_,repE "marked" d' [fS n,fM p,("tied",true,e)]) | _=>none)=_;rw[lkM];show (Dc (.dk (oM p)) (.str w) (kM l)).map _=_;rw[e3];show some (_,repE "marked" _ [fS n,fM p,("tied",true,e)])=_;rw[rpM]
   unfold CN;rw[Fy,t0,Dr,t1]
  obtain⟨z4',z5',g4,g5,ih⟩:=Sv n hn x a b e z6 r (p++[(w,l)]) (.fz (.str w)) (.fz (lM l)) (by simpa using nd) (λ u hu=>hl u (by simp[hu])) (by simpa using hlen) (λ d=>by simp) (λ d=>by simp) h6;refine⟨z4',z5',g4,g5,?_⟩;rw[z0c];unfold I_;rw[N_];have no:noOw [.fz (.adr x),.fz .(1),.fz a,.fz b,.fz (.str w),.fz (lM l),z6]=true:=by
   unfold noOw;cases z6 with
   | ow d=>exact absurd rfl (h6 d)
   | un=>rfl
   | fz d=>rfl
  show (if noOw [.fz (.adr x),.fz .(1),.fz a,.fz b,.fz (.str w),.fz (lM l),z6]=true then (CN [.fz (.adr x),.fz .(1),.fz a,.fz b,.fz (.str w),.fz (lM l),z6] _).bind _ else none)=_;rw[if_pos no,b0];show I_ _ _ _ _ _=_;rw[ih];simp
theorem Ua (n:Nat) (hn:n<=5) (x:Addr) (a b:D) (ms:List (Str×List Nat)) (z5:Slot) (h5:∀ d,z5≠.ow d):∀ (r p:List .(43)) (z4 z6:Slot),((p++r).map (·.1)).Nodup->(∀ q∈r,Wd q.1/\q.1∉ms.map (·.1)/\q.2.Nodup/\q.2.length<=100/\∀ t∈q.2,t.1<n/\t.2<n)->(p++r).length<=3->(∀ d,z4≠.ow d)->(∀ d,z6≠.ow d) ->
  ∃ z4' z6',I_ (tupG 2 (BX 4 (BX 6 nilG))) CP (r.map λ q=>.tup [.str q.1,lT q.2]) [.fz (.adr x),.fz .(1),.fz a,.fz b,z4,z5,z6] [fS n,fM ms,fT p]=some ([.fz (.adr x),.fz .(1),.fz a,.fz b,z4',z5,z6'],[fS n,fM ms,fT (p++r)])
 | [],p,z4,z6,_,_,_,h4,h6=>⟨z4,z6,by rw[z1d];rfl⟩
 | t::r,p,z4,z6,nd,hl,hlen,h4,h6=>by
  obtain⟨w,l⟩:=t;obtain⟨hw,nm,l1,l2,l3⟩:=hl (w,l) (by simp);have nt:w∉p.map (·.1):=by
   intro q;rw[z0S,z0W] at nd;exact nd.2.2 w q w (by simp) rfl
  have e1:=aB hw;have e2:=kh n l l1 l3 l2;have e3:Dc (.dk (oT p)) (.str w) (kT l)=some (.dk (oT (p++[(w,l)]))):=by
   rw[M5 _ _ _ (by simp[oT] at hlen ⊢;omega)];have:(.inr w:Key)∉(oT p).map (·.1):=Iv kT nt;rw[putL_new this];simp[oT]
  have e4:getK (.inr w:Key) (oM ms)=none:=Pz (Iv kM nm);have b0:CP [.fz (.adr x),.fz .(1),.fz a,.fz b,.fz (.str w),z5,.fz (lT l)] [fS n,fM ms,fT p]=some ([.fz (.adr x),.fz .(1),.fz a,.fz b,.fz (.str w),z5,.fz (lT l)],[fS n,fM ms,fT (p++[(w,l)])]):=by
   have t0:ifE (orTE (Rr (notT (trF (Am (Ek) .(42))))) (inTE "marked" (vF 4))) [.fz (.adr x),.fz .(1),.fz a,.fz b,.fz (.str w),z5,.fz (lT l)] [fS n,fM ms,fT p]=some ([.fz (.adr x),.fz .(1),.fz a,.fz b,.fz (.str w),z5,.fz (lT l)],[fS n,fM ms,fT p]):=by
    have u1:notT (trF (Am (Ek) .(42))) [.fz (.adr x),.fz .(1),.fz a,.fz b,.fz (.str w),z5,.fz (lT l)]=some false:=by simp only[cK,e1]
    have v2:vF 4 [.fz (.adr x),.fz .(1),.fz a,.fz b,.fz (.str w),z5,.fz (lT l)]=some (.str w):=rfl;have u2:inTE "marked" (vF 4) [.fz (.adr x),.fz .(1),.fz a,.fz b,.fz (.str w),z5,.fz (lT l)] [fS n,fM ms,fT p]=some false:=by
     unfold inTE;rw[v2];show (match z0m ("marked":Str) [fS n,fM ms,fT p] with | some (true,.dk kds)=>(keyD (.str w)).map λ q=>(getK q kds).isSome | _=>none)=_;rw[lkM];show some ((getK (.inr w:Key) (oM ms)).isSome)=_;rw[e4];rfl
    unfold ifE orTE Rr;rw[u1];show (match inTE "marked" (vF 4) _ _ with | some false=>some _ | _=>none)=_;rw[u2]
   have t1:Qf "tied" (vF 4) (Am (Ej) (Aa (vF 1) (Aa (vF 6) (nilA)))) [.fz (.adr x),.fz .(1),.fz a,.fz b,.fz (.str w),z5,.fz (lT l)] [fS n,fM ms,fT p]=some ([.fz (.adr x),.fz .(1),.fz a,.fz b,.fz (.str w),z5,.fz (lT l)],[fS n,fM ms,fT (p++[(w,l)])]):=by
    have v1:Am (Ej) (Aa (vF 1) (Aa (vF 6) (nilA))) [.fz (.adr x),.fz .(1),.fz a,.fz b,.fz (.str w),z5,.fz (lT l)]=some (kT l):=by simp only[cK,e2]
    have v2:vF 4 [.fz (.adr x),.fz .(1),.fz a,.fz b,.fz (.str w),z5,.fz (lT l)]=some (.str w):=rfl;unfold Qf;rw[v1,v2];show (match z0m ("tied":Str) [fS n,fM ms,fT p] with | some (true,d)=>(Dc d (.str w) (kT l)).map λ d'=>(_,repE "tied" d' [fS n,fM ms,fT p]) | _=>none)=_;rw[lkT];show (Dc (.dk (oT p)) (.str w) (kT l)).map _=_;rw[e3];show some (_,repE "tied" _ [fS n,fM ms,fT p])=_;rw[rpT]
   unfold CP;rw[Fy,t0,Dr,t1]
  obtain⟨z4',z6',ih⟩:=Ua n hn x a b ms z5 h5 r (p++[(w,l)]) (.fz (.str w)) (.fz (lT l)) (by simpa using nd) (λ u hu=>hl u (by simp[hu])) (by simpa using hlen) (λ d=>by simp) (λ d=>by simp);refine⟨z4',z6',?_⟩;rw[z0c];unfold I_;have tg:tupG 2 (BX 4 (BX 6 nilG)) (.tup [.str w,lT l]) [.fz (.adr x),.fz .(1),.fz a,.fz b,z4,z5,z6]=some [.fz (.adr x),.fz .(1),.fz a,.fz b,.fz (.str w),z5,.fz (lT l)]:=by rw[N_];rfl
  rw[tg];have no:noOw [.fz (.adr x),.fz .(1),.fz a,.fz b,.fz (.str w),z5,.fz (lT l)]=true:=by
   unfold noOw;cases z5 with
   | ow d=>exact absurd rfl (h5 d)
   | un=>rfl
   | fz d=>rfl
  show (if noOw [.fz (.adr x),.fz .(1),.fz a,.fz b,.fz (.str w),z5,.fz (lT l)]=true then (CP [.fz (.adr x),.fz .(1),.fz a,.fz b,.fz (.str w),z5,.fz (lT l)] _).bind _ else none)=_;rw[if_pos no,b0];show I_ _ _ _ _ _=_;rw[ih];simp
theorem aC (W:Wl) (h:WOk W) (x:Addr):B_ x [.int (W.n:Int),.dk (eM W.ms),.dk (eT W.ts)]=some [fS W.n,fM W.ms,fT W.ts]:=by
 have ndm:(W.ms.map (·.1)).Nodup:=(z0W.mp h.nd).1;have ndt:(W.ts.map (·.1)).Nodup:=(z0W.mp h.nd).2.1;obtain⟨z4,z5,g4,g5,m⟩:=Sv W.n h.n5 x .(26) .(25) (.dk []) .un W.ms [] .un .un (by simpa using ndm) (λ q hq=>⟨h.mw q hq,h.ml q hq⟩) (by simpa using h.m3) (λ d=>by simp) (λ d=>by simp) (λ d=>by simp);obtain⟨z4',z6',t⟩:=Ua W.n h.n5 x .(26) .(25) W.ms z5 g5 W.ts [] z4 .un (by simpa using ndt) (λ q hq=>⟨h.tw q hq,λ z=>(z0W.mp h.nd).2.2 q.1 z q.1 (z0g.mpr ⟨q,hq,rfl⟩) rfl,h.tl q hq⟩) (by simpa using h.t3) g4 (λ d=>by simp);rw[z1G] at m t;change I_ _ _ _ _ [fS W.n,fM [],fT []]=some (_,[fS W.n,fM W.ms,fT []]) at m;have r1:=Su (W.n:Int) 5 (by have:=h.n5;omega);have r2:=Su ((eM W.ms).length:Int) 3 (by have:=h.m3;simp[eM];omega);have r3:=Su ((eT W.ts).length:Int) 3 (by have:=h.t3;simp[eT];omega);have no:noOw [.fz (.adr x),.fz .(32),.fz .(26),.fz .(25),.un,.un,.un]=true:=rfl;have p1:pureE (Er (Am (Bg) (Aa (vF 1) (Aa (kF (.int 5)) (nilA))))) [.fz (.adr x),.fz .(32),.fz .(26),.fz .(25),.un,.un,.un] []=some ([.fz (.adr x),.fz .(32),.fz .(26),.fz .(25),.un,.un,.un],[]):=VD (by simp only[cK,r1]) no;have p2:pureE (Er (Am (Bg) (Aa (uF lenE (vF 2)) (Aa (kF (.int 3)) (nilA))))) [.fz (.adr x),.fz .(32),.fz .(26),.fz .(25),.un,.un,.un] []=some ([.fz (.adr x),.fz .(32),.fz .(26),.fz .(25),.un,.un,.un],[]):=VD (by simp only[dK,r2]) no;have p3:pureE (Er (Am (Bg) (Aa (uF lenE (vF 3)) (Aa (kF (.int 3)) (nilA))))) [.fz (.adr x),.fz .(32),.fz .(26),.fz .(25),.un,.un,.un] []=some ([.fz (.adr x),.fz .(32),.fz .(26),.fz .(25),.un,.un,.un],[]):=VD (by simp only[dK,r3]) no;have s1:Hz "size" (vF 1) [.fz (.adr x),.fz .(32),.fz .(26),.fz .(25),.un,.un,.un] []=some ([.fz (.adr x),.fz .(32),.fz .(26),.fz .(25),.un,.un,.un],[fS W.n]):=rfl;have s2:Qe "marked" (kF (.dk [])) [.fz (.adr x),.fz .(32),.fz .(26),.fz .(25),.un,.un,.un] [fS W.n]=some ([.fz (.adr x),.fz .(32),.fz .(26),.fz .(25),.un,.un,.un],[fS W.n,fM []]):=by
  have l:z0m ("marked":Str) [fS W.n]=none:=by
   rw[z0q,q1];rfl
  unfold Qe;show (if (z0m ("marked":Str) [fS W.n]).isNone=true/\[fS W.n].length<1000 then some (_,[fS W.n]++[(("marked":Str),true,D.dk [])]) else none)=_;rw[l,if_pos ⟨rfl,(by show 1<1000;decide)⟩];rfl
 have s3:Qe "tied" (kF (.dk [])) [.fz (.adr x),.fz .(32),.fz .(26),.fz .(25),.un,.un,.un] [fS W.n,fM []]=some ([.fz (.adr x),.fz .(32),.fz .(26),.fz .(25),.un,.un,.un],[fS W.n,fM [],fT []]):=by
  have l:z0m ("tied":Str) [fS W.n,fM []]=none:=by
   rw[z0q,q2];show z0m ("tied":Str) [fM []]=none;rw[z0q,q3];rfl
  unfold Qe;show (if (z0m ("tied":Str) [fS W.n,fM []]).isNone=true/\[fS W.n,fM []].length<1000 then some (_,[fS W.n,fM []]++[(("tied":Str),true,D.dk [])]) else none)=_;rw[l,if_pos ⟨rfl,(by show 2<1000;decide)⟩];rfl
 have i1:Pk (vF 2) [.fz (.adr x),.fz .(32),.fz .(26),.fz .(25),.un,.un,.un]=some (W.ms.map λ q=>.tup [.str q.1,lM q.2]):=by
  show some ((eM W.ms).map λ p=>D.tup [kDt p.1,p.2])=_;simp only[eM,z0p,z0V,Ry]
 have i2:Pk (vF 3) [.fz (.adr x),.fz .(32),.fz .(26),.fz .(25),z4,z5,.un]=some (W.ts.map λ q=>.tup [.str q.1,lT q.2]):=by
  show some ((eT W.ts).map λ p=>D.tup [kDt p.1,p.2])=_;simp only[eT,z0p,z0V,Ry]
 have st:Rt 7 x [.int (W.n:Int),.dk (eM W.ms),.dk (eT W.ts)]=[.fz (.adr x),.fz .(32),.fz .(26),.fz .(25),.un,.un,.un]:=rfl;unfold B_ runI;rw[if_pos (show [D.int (W.n:Int),.dk (eM W.ms),.dk (eT W.ts)].length+1=4 from rfl),st];unfold Gr;rw[Fy,p1,Dr,Fy,p2,Dr,Fy,p3,Dr,Fy,s1,Dr,Fy,s2,Dr,Fy,s3,Dr,Fy,i_ i1,m,Dr,Fy,i_ i2,t,Dr,iz];rfl
theorem t8 (W:Wl) (h:WOk W) (fs:FA) (ρ:Rho) (hf:fs ρ=some [.int (W.n:Int),.dk (eM W.ms),.dk (eT W.ts)]):mkI "World" B_ fs ρ=some (wob W):=by
 unfold mkI;rw[hf];simp only[z0J,aC W h 0];rw[if_pos (λ x=>aC W h x)];rfl
theorem MN (f:Nat->Bool) (h:Nat->D) (src:FI) (hs:src ρ=some (rngD n)) (hn:n<=1000) (h1:∀ k,k<n->ga (ρ++[.fz (.int k)])=some (f k)) (h2:∀ k,k<n->fe (ρ++[.fz (.int k)])=some (h k)):BW src ga fe ρ=some (.lst (((z0e n).filter f).map h)):=by
 have c:∀ l:List Nat,(∀ k∈l,k<n)->Jb ρ ga fe (l.map λ (k:Nat)=>D.int k)=some ((l.filter f).map h):=by
  intro l
  induction l with
  | nil=>intro _;rfl
  | cons k r ih=>
   intro hl;rw[z0c,Jz,h1 k (hl k (by simp)),h2 k (hl k (by simp)),ih λ d hd=>hl d (by simp[hd]),z9L];cases f k<;>rfl
 exact Q0 hs (by rw[Ky];omega) (c (z0e n) λ k hk=>z0w.mp hk)
theorem cX {l:List Str}(nd:l.Nodup) {i j:Nat}(hi:i<l.length) (hj:j<l.length) (e:l[i]=l[j]):i=j:=by
 have h:=z3Z.mp nd
 rcases z5u i j with z | z | z
 ·exact absurd e (h i j hi hj z)
 ·exact z
 ·exact absurd e.symm (h j i hj hi z)
theorem Iw (n:Nat) (f:Nat->Bool):((z0e n).filter f).Nodup:=z7E z9M z4x
theorem Vk (n:Nat) (hn:n<=100) (ρ:Rho) (i:Nat) (h:ρ[i]?=some (.fz .(1))):rngI (vF i) ρ=some (rngD n):=by
 have rg:=U8 (n:Int) (by omega);simp only[Rp,e_v,h,e_vs,rg,z19]
theorem PJ {k:Nat}(h:k<ws.length):ixE (.lst (ws.map .str)) (.int (k:Int))=some (.str ws[k]):=by
 show atI (ws.map D.str) (k:Int)=_;rw[YD,z0o];simp[h]
theorem Ye {α:Type}(f:α->D) (w:Str):∀ (l:List (Str×α)),getK (.inr w:Key) (l.map λ p=>((.inr p.1:Key),f p.2))=(l.find? (λ p=>p.1=w)).map λ p=>f p.2
 | []=>rfl
 | p::r=>by
  rw[z0c,z3h];show (if (.inr p.1:Key)=.inr w then some (f p.2) else getK (.inr w:Key) (r.map λ p=>((.inr p.1:Key),f p.2)))=_
  by_cases h:p.1=w
  ·simp[h]
  ·have:¬ ((.inr p.1:Key)=.inr w):=λ z=>h (z5Y z);rw[if_neg this,Ye f w r];simp[h]
theorem Ha (W:Wl):fldD "size" (wob W)=some .(32):=by
 show z0m ("size":Str) _=_;rfl
theorem Sw (W:Wl):fldD "marked" (wob W)=some (.dk (oM W.ms)):=by
 show z0m ("marked":Str) [(("size":Str),D.int (W.n:Int)),("marked",.dk (oM W.ms)),("tied",.dk (oT W.ts))]=_;simp only[z0m,q1];rfl
theorem Yg (W:Wl):fldD "tied" (wob W)=some (.dk (oT W.ts)):=by
 show z0m ("tied":Str) [(("size":Str),D.int (W.n:Int)),("marked",.dk (oM W.ms)),("tied",.dk (oT W.ts))]=_;simp only[z0m,q2,q3];rfl
theorem qY (x:Nat) (l:List Nat):inF false (.int (x:Int)) (lM l)=some (.bl (l.any λ t=>decide (t=x))):=by
 have h:∀ ys:List Nat,flVs (ys.map iN)=some (ys.map λ (t:Nat)=>V.int t):=λ ys=>by
  induction ys with
  | nil=>rfl
  | cons y r ih=>simp[flVs,flV,ih]
 show ((flV (.int (x:Int))).bind λ v=>(flVs (l.map iN)).map λ vs=>D.bl (inV v vs))=_;rw[h];show some (D.bl (inV (.int (x:Int)) (l.map λ (t:Nat)=>V.int t)))=_;have e:∀ t:Nat,eqV (.int (t:Int)) (.int (x:Int))=decide (t=x):=λ t=>by
  by_cases z:t=x
  ·subst z;simp[eqV]
  ·have:¬ ((t:Int)=(x:Int)):=by omega
   simp[eqV,z,this]
 simp only[inV,z75,z0V,e]
theorem kj (x y:Nat) (l:List (Nat×Nat)):inF false (.tup [.int (x:Int),.int (y:Int)]) (lT l)=some (.bl (l.any λ q=>decide (q.1=x)&&decide (q.2=y))):=by
 have k:∀ q:Nat×Nat,eqK 62 (pN q) (.tup [.int (x:Int),.int (y:Int)])=some (decide (q.1=x)&&decide (q.2=y)):=λ q=>by
  have e:∀ a b:Nat,eqK 61 (.int (a:Int)) (.int (b:Int))=some (decide (a=b)):=λ a b=>by
   show some (eqV (.int (a:Int)) (.int (b:Int)))=_
   by_cases z:a=b
   ·subst z;simp[eqV]
   ·have:¬ ((a:Int)=(b:Int)):=by omega
    simp[eqV,z,this]
  show (if 2=2 then allO (eqK 61) [.int (q.1:Int),.int (q.2:Int)] [.int (x:Int),.int (y:Int)] else none)=_;rw[if_pos rfl];simp only[allO,e];cases decide (q.1=x)<;>cases decide (q.2=y)<;>rfl
 have h1:(l.map pN).all (knows (.tup [.int (x:Int),.int (y:Int)]))=true:=by
  rw[z1a];intro d hd;obtain⟨q,_,rfl⟩:=z0g.mp hd;unfold knows;rw[k q];rfl
 have h2:(l.map pN).any (eqTo (.tup [.int (x:Int),.int (y:Int)]))=l.any λ q=>decide (q.1=x)&&decide (q.2=y):=by
  rw[z75];congr 1;funext q;show eqTo _ (pN q)=_;unfold eqTo;rw[k q]
 show (if (l.map pN).all (knows (.tup [.int (x:Int),.int (y:Int)]))=true then some (D.bl ((l.map pN).any (eqTo (.tup [.int (x:Int),.int (y:Int)])))) else none)=_;rw[if_pos h1,h2]
theorem yP (x:Nat) (l:List Nat):inF false (.int (x:Int)) (kM l)=some (.bl (l.any λ t=>decide (t=x))):=by
 have h:∀ l:List Nat,(getK (.inl (x:Int):Key) (l.map λ (t:Nat)=>((.inl (t:Int):Key),D.bl true))).isSome=l.any λ t=>decide (t=x):=λ l=>by
  induction l with
  | nil=>rfl
  | cons t r ih=>
   rw[z0c,z3g,<-ih];show (if (.inl (t:Int):Key)=.inl (x:Int) then _ else _:Option D).isSome=_
   by_cases z:t=x
   ·subst z;simp
   ·have:¬ ((.inl (t:Int):Key)=.inl (x:Int)):=λ q=>z (by have:=z46 q;omega);rw[if_neg this];simp[z]
 show inF false (.int (x:Int)) (.dk _)=_;rw[Zk];simp only[z0G,if_false,h]
theorem Dp {α:Type}(l:List α) (e g:α->D) (hs:src ρ=some (l.map e)) (hn:l.length<=1000) (h:∀ x∈l,fe (ρ++[.fz (e x)])=some (g x)):BW src allT fe ρ=some (.lst (l.map g)):=by
 have c:∀ l:List α,(∀ x∈l,fe (ρ++[.fz (e x)])=some (g x))->Jb ρ allT fe (l.map e)=some (l.map g):=by
  intro l
  induction l with
  | nil=>intro _;rfl
  | cons x r ih=>
   intro hl;rw[z0c,Jz,hl x (by simp),ih λ d hd=>hl d (by simp[hd])];rfl
 exact Q0 hs (by rw[z06];omega) (c l h)
theorem Vl (os:List Nat) (t:Nat) (h:t<os.length):ixE (lN os) (.int (t:Int))=some (iN (os.getD t 0)):=by
 show atI (os.map iN) (t:Int)=_;rw[YD,z0o];simp[h]
theorem km {α:Type}(f:α->D) {l:List (Str×α)}(h:(l.map (·.1)).Nodup):((l.map λ p=>((.inr p.1:Key),f p.2)).map (·.1)).Nodup:=by
 unfold z2d at h ⊢;rw[z1B] at h;rw[z0p,z1B];exact h.imp λ hab e=>hab (z5Y e)
theorem at_M (W:Wl) (h:WOk W) {p:Str×List Nat}(hp:p∈W.ms):ixE .(26) (.str p.1)=some (lM p.2):=by
 rw[N6];exact VB (km lM (z0W.mp h.nd).1) (z0g.mpr ⟨p,hp,rfl⟩)
theorem at_T (W:Wl) (h:WOk W) {p:Str×List (Nat×Nat)}(hp:p∈W.ts):ixE .(25) (.str p.1)=some (lT p.2):=by
 rw[N6];exact VB (km lT (z0W.mp h.nd).2.1) (z0g.mpr ⟨p,hp,rfl⟩)
theorem aD (k:List (Key×D)):Ku (.dk k)=some (.lst (k.map λ p=>kDt p.1)):=zE_ _
theorem in_i (t:Nat) (l:List Nat):inF false (iN t) (.lst (l.map iN))=some (.bl (decide (t∈l))):=by
 have:=qY t l;unfold lM at this;rw[this];congr 2;rw[z1V];simp
theorem in_p (t:Nat×Nat) (l:List (Nat×Nat)):inF false (pN t) (.lst (l.map pN))=some (.bl (decide (t∈l))):=by
 have:=kj t.1 t.2 l;unfold lT at this;rw[this];congr 2;rw[z1V];simp
theorem W_:∀ {l m:List Nat},l.Nodup->(∀ x∈l,x∈m)->l.length<=m.length
 | [],_,_,_=>z18 _
 | x::r,m,h,hs=>by
  obtain⟨h1,h2⟩:=z2l.mp h;have hx:x∈m:=hs x z0L;have:=W_ (l:=r) (m:=m.erase x) h2 λ y hy=>(z5v (λ e=>by subst e;exact h1 hy)).mpr (hs y (z0y _ hy));rw[z5w hx] at this;have hp:0<m.length:=z5x hx;simp;omega
theorem Nf {α:Type}{l:List α}(nd:l.Nodup) {i j:Nat}(hi:i<l.length) (hj:j<l.length) (e:l[i]=l[j]):i=j:=by
 have h:=z3Z.mp nd
 rcases z5u i j with z | z | z
 ·exact absurd e (h i j hi hj z)
 ·exact z
 ·exact absurd e.symm (h j i hj hi z)
theorem Vm (nd:l.Nodup) (h:∀ t∈l,t<n):l.length<=n:=by
 have:=W_ nd λ t ht=>z0w.mpr (h t ht);simpa using this
theorem k_ {l:List (Nat×Nat)}(nd:l.Nodup) (h:∀ q∈l,q.1<n/\q.2<n):l.length<=n*n:=by
 have e:(l.map λ q=>q.1*n+q.2).Nodup:=by
  unfold z2d;rw[z1B];refine z2W (λ {a b} ha hb hab e=>hab ?_) nd;have h1:=h a ha;have h2:=h b hb;have d1:(a.1*n+a.2)/n=a.1:=by rw[z5R,z9N (by omega),z9O h1.2];omega
  have d2:(b.1*n+b.2)/n=b.1:=by rw[z5R,z9N (by omega),z9O h2.2];omega
  have m1:(a.1*n+a.2)%n=a.2:=by rw[z5R,z9P,z9Q h1.2]
  have m2:(b.1*n+b.2)%n=b.2:=by rw[z5R,z9P,z9Q h2.2]
  have e':a.1*n+a.2=b.1*n+b.2:=e;rw[e'] at d1 m1;exact z3d (d1.symm.trans d2) (m1.symm.trans m2)
 have:=Vm (n:=n*n) e λ t ht=>by
  obtain⟨q,hq,rfl⟩:=z0g.mp ht;have:=h q hq
  calc q.1*n+q.2<q.1*n+n:=by omega
   _=(q.1+1)*n:=by rw[Nat.add_mul,Nat.one_mul]
   _<=n*n:=Nat.mul_le_mul_right _ (by omega)
 simpa using this
theorem QR (W:Wl) (h:WOk W) (ms:List (Str×List Nat)) (ts:List .(43)) (hm:(ms.map (·.1)).Perm (W.ms.map (·.1))) (ht:(ts.map (·.1)).Perm (W.ts.map (·.1))) (am:∀ p∈ms,p.2.Nodup/\∀ t∈p.2,t<W.n) (at':∀ p∈ts,p.2.Nodup/\∀ q∈p.2,q.1<W.n/\q.2<W.n):WOk ⟨W.n,ms,ts⟩:=by
 refine⟨h.n5,?_,?_,λ p hp=>?_,λ p hp=>?_,?_,λ p hp=>⟨(am p hp).1,?_,(am p hp).2⟩,λ p hp=>⟨(at' p hp).1,?_,(at' p hp).2⟩⟩
 ·have:=hm.length_eq;simp at this;have:=h.m3;show ms.length<=3;omega
 ·have:=ht.length_eq;simp at this;have:=h.t3;show ts.length<=3;omega
 ·obtain⟨q,hq,e⟩:=z0g.mp (hm.mem_iff.mp (z0g.mpr ⟨p,hp,rfl⟩));rw[<-e];exact h.mw q hq
 ·obtain⟨q,hq,e⟩:=z0g.mp (ht.mem_iff.mp (z0g.mpr ⟨p,hp,rfl⟩));rw[<-e];exact h.tw q hq
 ·exact ((hm.append ht).nodup_iff).mpr h.nd
 ·have:=Vm (am p hp).1 (am p hp).2;have:=h.n5;omega
 ·have:=k_ (at' p hp).1 (at' p hp).2;have h5:=h.n5;have:W.n*W.n<=25:=Nat.mul_le_mul h5 h5;omega
theorem Sy {os:List Nat}(h:os.Perm (z0e n)) {s t:Nat}(hs:s<n) (ht:t<n) (e:os.getD s 0=os.getD t 0):s=t:=by
 have hl:os.length=n:=by have:=h.length_eq;simpa using this
 have nd:os.Nodup:=h.nodup_iff.mpr z4x;rw[z3w,z3w,z0C (by omega),z0C (by omega)] at e;exact Nf nd _ _ e
theorem Vn {os:List Nat}(h:os.Perm (z0e n)) {s:Nat}(hs:s<n):os.getD s 0<n:=by
 have hl:os.length=n:=by have:=h.length_eq;simpa using this
 rw[z3w,z0C (by omega)];exact z0w.mp (h.mem_iff.mp (z1b (by omega)))
theorem yQ (x y:Nat) (l:List (Nat×Nat)):inTO (some [.int (x:Int),.int (y:Int)]) (some (kT l))=some (.bl (l.any λ q=>decide (q.1=x)&&decide (q.2=y))):=by
 have h:∀ l:List (Nat×Nat),(getK [(.inl (x:Int):Key),.inl (y:Int)] (l.map λ (q:Nat×Nat)=>([(.inl (q.1:Int):Key),.inl (q.2:Int)],D.bl true))).isSome=l.any λ q=>decide (q.1=x)&&decide (q.2=y):=λ l=>by
  induction l with
  | nil=>rfl
  | cons t r ih=>
   rw[z0c,z3g,<-ih];show (if [(.inl (t.1:Int):Key),.inl (t.2:Int)]=[.inl (x:Int),.inl (y:Int)] then _ else _:Option D).isSome=_
   by_cases z:t.1=x/\t.2=y
   ·obtain⟨z1,z2⟩:=z;subst z1 z2;simp
   ·have:¬ ([(.inl (t.1:Int):Key),.inl (t.2:Int)]=[.inl (x:Int),.inl (y:Int)]):=λ q=>by
     simp only[z4U,Sum.inl.injEq,and_true] at q;exact z ⟨by omega,by omega⟩
    rw[if_neg this];have:(decide (t.1=x)&&decide (t.2=y))=false:=by
     rw[Bool.and_eq_false_iff]
     by_cases z1:t.1=x
     ·right;exact decide_eq_false λ z2=>z ⟨z1,z2⟩
     ·left;exact decide_eq_false z1
    rw[this,z8n]
 have e:inTO (some [.int (x:Int),.int (y:Int)]) (some (kT l))=some (.bl ((getK [(.inl (x:Int):Key),.inl (y:Int)] (l.map λ (q:Nat×Nat)=>([(.inl (q.1:Int):Key),.inl (q.2:Int)],D.bl true))).isSome)):=by
  unfold kT inTO;simp only[z0J];rw[if_pos (Nz (by show 2<=10000000;decide))];rfl
 rw[e,h]
theorem yR (fs:FA) (fb:FE) (ρ:Rho):inTF fs fb ρ=inTO (fs ρ) (fb ρ):=zE_ _
theorem XD (ms:List (Str×List Nat)):(oM ms).map (λ p=>kDt p.1)=(ms.map (·.1)).map .str:=by simp[oM,Ry]
theorem XF (ts:List .(43)):(oT ts).map (λ p=>kDt p.1)=(ts.map (·.1)).map .str:=by simp[oT,Ry]
theorem lA {k:List (Key×D)}{zs:List Str}(h:k.map (λ p=>kDt p.1)=zs.map .str) (nd:zs.Nodup) (hl:zs.length<=60):sdkD (.dk k)=some (.lst ((Ft zs).map .str)):=by
 show sdkL k=_;unfold sdkL;rw[h,cC,z0J,if_pos ⟨nd,hl⟩]
theorem qZ (i:Nat) (l:List Nat):(l.any λ t=>decide (t=i))=decide (i∈l):=by
 rw[z1V];simp
theorem lC (i j:Nat) (l:List (Nat×Nat)):(l.any λ q=>decide (q.1=i)&&decide (q.2=j))=decide ((i,j)∈l):=by
 rw[z1V];simp
theorem aF {α:Type}{w:Str}{l:List (Str×α)}(h:w∈l.map (·.1)):∃ q,q∈l/\l.find? (λ p=>p.1=w)=some q:=by
 obtain⟨p,hp,e⟩:=z0g.mp h;cases q:l.find? (λ p=>p.1=w) with
 | none=>exact absurd (by simpa using e) (by simpa using z7e.mp q p hp)
 | some x=>exact⟨x,z5A q,rfl⟩
theorem t_ (W:Wl) {w:Str}(h:w∈mw W) (i:Nat):∃ d,ixE (.dk (oM W.ms)) (.str w)=some d/\inF false (.int (i:Int)) d=some (.bl (mk W w i)):=by
 obtain⟨q,_,e⟩:=aF h;refine⟨kM q.2,?_,?_⟩
 ·rw[N6];unfold oM;rw[Ye kM w,e];rfl
 ·rw[yP,qZ,mk,e]
theorem uA (W:Wl) {w:Str}(h:w∈tw W) (i j:Nat):∃ d,ixE (.dk (oT W.ts)) (.str w)=some d/\inTO (some [.int (i:Int),.int (j:Int)]) (some d)=some (.bl (tk W w i j)):=by
 obtain⟨q,_,e⟩:=aF h;refine⟨kT q.2,?_,?_⟩
 ·rw[N6];unfold oT;rw[Ye kT w,e];rfl
 ·rw[yQ,lC,tk,e]
theorem S5 {α:Type}{tg:FG}{b:FS}(mr:PV.Slot->Rho) (e:α->D) (P:α->Bool) (r:D) (ht:∀ d z,tg d (mr z)=some (mr (.fz d))):∀ (l:List α) (z:PV.Slot),(∀ x∈l,b (mr (.fz (e x)))=some (if P x=true then .nx (mr (.fz (e x))) else .rt r (mr (.fz (e x))))) ->
  ∃ z',forF (tgB tg b) (l.map e) (mr z)=some (if l.all P=true then .nx (mr z') else .rt r (mr z'))
 | [],z,_=>⟨z,rfl⟩
 | x::l,z,h=>by
  rw[z0c,Fo,e_tg,ht,Kz,h x (by simp),z4m];cases hx:P x with
  | false=>exact⟨_,rfl⟩
  | true=>
   obtain⟨z',ih⟩:=S5 mr e P r ht l (.fz (e x)) λ y hy=>h y (by simp[hy]);exact⟨z',by rw[if_pos rfl,Ed,ih,z41]⟩
theorem lD (a b:Bool):eqD true (.bl a) (.bl b)=some (.bl (!(a==b))):=by cases a<;>cases b<;>rfl
structure Sp (W V:Wl):Prop where
 mm:∀ w∈mw W,w∈mw V
 tt:∀ w∈tw W,w∈tw V
theorem ixp0 (q:Pr):ixE (pN q) (.int 0)=some (.int (q.1:Int)):=rfl
theorem ixp1 (q:Pr):ixE (pN q) (.int 1)=some (.int (q.2:Int)):=rfl
theorem aG (W V:Wl) (h:Sp W V) (q:Pr):Fb [wob W,wob V,pN q]=some (.bl (SN W V q)):=by
 have m1:=Sw W;have m2:=Sw V;have i0:=ixp0 q;have i1:=ixp1 q;have n1:=XD W.ms;obtain⟨z',e⟩:=S5 (tg:=Cr 3) (b:=GQ) (λ z=>[.fz (wob W),.fz (wob V),.fz (pN q),z]) D.str (λ w=>mk W w q.1==mk V w q.2) (.bl false) (λ d z=>rfl) (mw W) .un λ w hw=>by
  obtain⟨d1,a1,a2⟩:=t_ W hw q.1;obtain⟨d2,b1,b2⟩:=t_ V (h.mm w hw) q.2;simp only[cK,GQ,m1,m2,i0,i1,a1,a2,b1,b2,lD];cases (mk W w q.1==mk V w q.2)<;>rfl
 have q1:N7 (some (D.dk (oM W.ms)))=some ((mw W).map .str):=by rw[N8,n1]
 simp only[cK,Fb,HS,DN,m1,q1,e];show _=some (D.bl ((mw W).all λ w=>mk W w q.1==mk V w q.2));cases (mw W).all (λ w=>mk W w q.1==mk V w q.2)<;>rfl
theorem Q_ (W V:Wl) (h:Sp W V) (p q:Pr):CV [wob W,wob V,pN p,pN q]=some (.bl (KJ W V p q)):=by
 have m1:=Yg W;have m2:=Yg V;have i0:=ixp0 p;have i1:=ixp1 p;have j0:=ixp0 q;have j1:=ixp1 q;have n1:=XF W.ts;obtain⟨z',e⟩:=S5 (tg:=Cr 4) (b:=GR) (λ z=>[.fz (wob W),.fz (wob V),.fz (pN p),.fz (pN q),z]) D.str (λ w=>tk W w p.1 q.1==tk V w p.2 q.2) (.bl false) (λ d z=>rfl) (tw W) .un λ w hw=>by
  obtain⟨d1,a1,a2⟩:=uA W hw p.1 q.1;obtain⟨d2,b1,b2⟩:=uA V (h.tt w hw) p.2 q.2;simp only[cK,GR,yR,m1,m2,i0,i1,j0,j1,a1,a2,b1,b2,lD];cases (tk W w p.1 q.1==tk V w p.2 q.2)<;>rfl
 have q1:N7 (some (D.dk (oT W.ts)))=some ((tw W).map .str):=by rw[N8,n1]
 simp only[cK,CV,HW,DN,m1,q1,e];show _=some (D.bl ((tw W).all λ w=>tk W w p.1 q.1==tk V w p.2 q.2));cases (tw W).all (λ w=>tk W w p.1 q.1==tk V w p.2 q.2)<;>rfl
theorem Vo (a b:Nat):decide ((a:Int)=(b:Int))=decide (a=b):=by
 by_cases z:a=b
 ·subst z;simp
 ·rw[decide_eq_false z,decide_eq_false (by omega)]
theorem uB (W V:Wl) (h:Sp W V) (p q:Pr):Gz [wob W,wob V,pN p,pN q]=some (.bl (goB W V p q)):=by
 have i0:=ixp0 p;have i1:=ixp1 p;have j0:=ixp0 q;have j1:=ixp1 q;have l1:=Q_ W V h p q;have l2:=Q_ W V h q p;simp only[ciK,Gz,JX,i0,i1,j0,j1,Vo,lD];unfold goB;cases hx:(decide (p.1=q.1)==decide (p.2=q.2)) with
 | false=>rfl
 | true=>
  simp only[cK,l1,l2];cases KJ W V p q with
  | false=>rfl
  | true=>simp only[cK,l2,z41]
theorem Vp {α:Type}(f:α->Bool) (l:List α):allD (.lst (l.map λ x=>.bl (f x)))=some (.bl (l.all f)):=by
 show (blsD _).map _=_;rw[Z1];simp[z0V]
theorem yS (W V:Wl) (h:Sp W V) (ps:List Pr) (hl:ps.length<=1000) (q:Pr):Dv [wob W,wob V,.lst .(11),pN q]=some (.bl (fwB W V ps q)):=by
 have b1:=aG W V h q;have l1:=Q_ W V h q q;have cm:BW (seqA (vF 2)) allT Eu [.fz (wob W),.fz (wob V),.fz (.lst .(11)),.fz (pN q)]=some (.lst (ps.map λ p=>.bl (goB W V p q))):=
  Dp ps pN (λ p=>.bl (goB W V p q)) (by simp only[cK,DN,Eg]) hl λ p _=>by
   have g:=uB W V h p q;simp only[cK,Eu,g]
 have al:=Vp (λ p=>goB W V p q) ps;unfold fwB;simp only[cK,Dv,JB,b1];cases SN W V q with
 | false=>simp only[cK,z4b]
 | true=>
  simp only[cK,l1];cases KJ W V q q with
  | false=>simp only[cK,z41,z4b]
  | true=>simp only[cK,cm,al,z41]
def mzO (c m:Str) (g:List D->Option D) (o:Option D) (ds:Option (List D)):Option D:=o.bind λ o=>if Dd c m o=true then ds.bind λ ds=>g (o::ds) else none
theorem G8 (c m:Str) (g:List D->Option D) (fo:FE) (fs:FA) (ρ:Rho):Du c m g fo fs ρ=mzO c m g (fo ρ) (fs ρ):=zE_ _
theorem XH {o:D}(h:Dd c m o=true):mzO c m g (some o) (some ds)=g (o::ds):=by
 show (if Dd c m o=true then _ else _)=_;rw[if_pos h];rfl
theorem uC (W:Wl):Dd "World" "mark_words" (wob W)=true:=rfl
theorem uD (W:Wl):Dd "World" "tie_words" (wob W)=true:=rfl
theorem Ub {l m:List Str}(h:l.Perm m):Ft l=Ft m:=YM (Oa l) (Oa m) λ x=>by rw[Lz,Lz,h.mem_iff]
structure Spk (W V:Wl):Prop where
 mm:(mw V).Perm (mw W)
 tt:(tw V).Perm (tw W)
theorem Spk.sp {W V:Wl}(h:Spk W V):Sp W V:=⟨λ w hw=>h.mm.mem_iff.mpr hw,λ w hw=>h.tt.mem_iff.mpr hw⟩
theorem O5 (a b:Nat):eqD false (.int (a:Int)) (.int (b:Int))=some (.bl (decide (a=b))):=by rw[Qd,Vo]
theorem wC (l:List Pr):lenE (.lst (l.map pN))=some (.int (l.length:Int)):=by
 show lenD (.lst (l.map pN))=_;rw[iY,z06]
theorem aH (a:Nat):gtD (.int (a:Int)) (.int 0)=some (.bl (decide (0<a))):=by
 rw[We];congr 2
 by_cases z:0<a
 ·rw[decide_eq_true z,decide_eq_true (by omega)]
 ·rw[decide_eq_false z,decide_eq_false (by omega)]
theorem yU (l:List Pr) (q:Pr) (h:l.length<=1000):appL (.lst (l.map pN)) (pN q)=some (.lst ((l++[q]).map pN)):=by
 rw[aA _ _ (by simpa using h),z0S];rfl
theorem aJ (zs:List Str):eqD true (.lst (zs.map .str)) (.lst (zs.map .str))=some (.bl false):=by
 have h:∀ zs:List Str,allO (eqK 180) (zs.map .str) (zs.map .str)=some true:=λ zs=>by
  induction zs with
  | nil=>rfl
  | cons z r ih=>
   show (match eqK 180 (.str z) (.str z),allO (eqK 180) (r.map .str) (r.map .str) with | some a,some b=>some (a&&b) | _,_=>none)=_;rw[ih];have:eqK 180 (.str z) (.str z)=some true:=by show some (eqV (.str z) (.str z))=_;simp[eqV]
   rw[this];rfl
 unfold eqD;have:eqvD (.lst (zs.map .str)) (.lst (zs.map .str))=some true:=by
  show (if (zs.map D.str).length=(zs.map D.str).length then allO (eqK 180) (zs.map .str) (zs.map .str) else some false)=_;rw[if_pos rfl,h]
 rw[this];rfl
theorem Uc (W:Wl) (h:WOk W):CQ [wob W]=some (.lst ((Ft (mw W)).map .str))/\Cg [wob W]=some (.lst ((Ft (tw W)).map .str)):=by
 have nd:=z0W.mp h.nd;have m3:=h.m3;have t3:=h.t3;have s1:=lA (XD W.ms) nd.1 .(17);have s2:=lA (XF W.ts) nd.2.1 .(17);have f1:=Sw W;have f2:=Yg W;constructor
 ·simp only[cK,CQ,Fi,f1,s1]
 ·simp only[cK,Cg,GP,f2,s2]
theorem cY (W V:Wl) (h:WOk W) (hv:WOk V) (hs:Spk W V):FN [wob W,wob V]=some .non:=by
 obtain⟨a1,a2⟩:=Uc W h;obtain⟨b1,b2⟩:=Uc V hv;rw[Ub hs.mm] at b1;rw[Ub hs.tt] at b2;have o1:=uC W;have o2:=uC V;have o3:=uD W;have o4:=uD V;have e1:=aJ (Ft (mw W));have e2:=aJ (Ft (tw W));simp only[cK,FN,HR,G8,XH o1,XH o2,XH o3,XH o4,a1,a2,b1,b2,e1,e2]
theorem O6 (W V:Wl) (x2:PV.Slot):∀ (rows:List Pr) (z3 z4:PV.Slot),(∀ r∈rows,r.1<W.n/\r.2<V.n)->∃ y3 y4,forF (tgB (tupG 2 (BX 3 (BX 4 nilG))) Bs) .(15) [.fz (wob W),.fz (wob V),x2,z3,z4]=some (.nx [.fz (wob W),.fz (wob V),x2,y3,y4])
 | [],z3,z4,_=>⟨z3,z4,rfl⟩
 | r::rows,z3,z4,h=>by
  have s1:=Ha W;have s2:=Ha V;have t1:=Jq W.n r.1 (h r (by simp)).1;have t2:=Jq V.n r.2 (h r (by simp)).2;obtain⟨y3,y4,e⟩:=O6 W V x2 rows (.fz (.int (r.1:Int))) (.fz (.int (r.2:Int))) λ x hx=>h x (by simp[hx]);refine⟨y3,y4,?_⟩;have st:Bs [.fz (wob W),.fz (wob V),x2,.fz (.int (r.1:Int)),.fz (.int (r.2:Int))]=some (.nx [.fz (wob W),.fz (wob V),x2,.fz (.int (r.1:Int)),.fz (.int (r.2:Int))]):=by
   simp only[cK,Bs,s1,s2,t1,t2]
  rw[z0c,Fo,e_tg,N_,Kz];simp only[z1i,z1j];rw[st,Ed,e]
theorem Nb (W V:Wl) (h:WOk W) (hv:WOk V) (hs:Spk W V) (rows:List Pr) (hr:∀ r∈rows,r.1<W.n/\r.2<V.n):BK [wob W,wob V,.lst .(15)]=some .non:=by
 have u:=cY W V h hv hs;obtain⟨y3,y4,e⟩:=O6 W V (.fz .(10)) rows .un .un hr;simp only[cK,BK,Dh,u,DN,Eg,e]
theorem aK {α β:Type}(f:α->β) (l:List α) (lo hi:Option Int):cutD (l.map f) lo hi=(cutD l lo hi).map f:=by
 unfold cutD;rw[z06,z3t,z5G]
theorem qe {α:Type}(l:List α) (lo hi:Option Int):(cutD l lo hi).length<=l.length:=by
 unfold cutD;rw[z1g,z2P];omega
theorem wD (xs:List Nat):eqD true (.lst (xs.map iN)) (.lst [])=some (.bl (decide (xs≠[]))):=by
 cases xs with
 | nil=>rfl
 | cons x r=>
  show (eqvD (.lst _) (.lst _)).map _=_;have:eqvD (.lst ((x::r).map iN)) (.lst [])=some false:=by
   show (if ((x::r).map iN).length=([]:List D).length then allO (eqK 180) ((x::r).map iN) [] else some false)=some false;exact if_neg (by simp)
  rw[this];rfl
theorem IK {α:Type}(xs:List α) (j:Nat) (h:j<xs.length):(xs[j]::xs.eraseIdx j).Perm xs:=by
 rw[z9R];have e:xs.take j++xs[j]::xs.drop (j+1)=xs:=by rw[<-z4q h,z5z]
 exact (z9i.symm).trans (by rw[e])
theorem wF (n:Nat) (h:n<=100):Wv .(1)=some (lN (z0e n)):=by
 show (if 0<=(n:Int)/\(n:Int)<=1000000 then some (D.lst (rngD (n:Int).toNat)) else none)=_;rw[if_pos ⟨by omega,by omega⟩,z19];rfl
theorem aL (ms:List (Str×List Nat)):(eM ms).map (λ p=>kDt p.1)=(ms.map (·.1)).map .str:=by simp[eM,Ry]
theorem aM (ts:List .(43)):(eT ts).map (λ p=>kDt p.1)=(ts.map (·.1)).map .str:=by simp[eT,Ry]
theorem ixw0 (W:Wl):ixE (wd W) (.int 0)=some .(32):=rfl
theorem ixw1 (W:Wl):ixE (wd W) (.int 1)=some .(26):=rfl
theorem ixw2 (W:Wl):ixE (wd W) (.int 2)=some .(25):=rfl
theorem qg (W V:Wl) (p q:Pr):goB W V p q=goB W V q p:=by
 unfold goB;rw[Bool.and_comm (KJ W V p q),show decide (p.1=q.1)=decide (q.1=p.1) by simp[eq_comm],show decide (p.2=q.2)=decide (q.2=p.2) by simp[eq_comm]]
theorem lE (W V:Wl) (p:Pr):goB W V p p=KJ W V p p:=by simp[goB]
theorem RB (W V:Wl) (ps:List Pr):afS W V ps=true↔∀ p∈ps,(SN W V p=true/\KJ W V p p=true)/\∀ q∈ps,goB W V p q=true:=by
 simp only[afS,z1a,z0U]
theorem qi (W V:Wl) (ps:List Pr) (q:Pr):fwB W V ps q=true↔(SN W V q=true/\KJ W V q q=true)/\∀ p∈ps,goB W V p q=true:=by
 simp only[fwB,z1a,z0U]
theorem aN {W V:Wl}{ps qs:List Pr}(h:∀ x∈qs,x∈ps) (a:afS W V ps=true):afS W V qs=true:=by
 rw[RB] at a ⊢;exact λ p hp=>⟨(a p (h p hp)).1,λ q hq=>(a p (h p hp)).2 q (h q hq)⟩
theorem Vq {W V:Wl}{ps:List Pr}{q:Pr}:afS W V (ps++[q])=true↔afS W V ps=true/\fwB W V ps q=true:=by
 rw[RB,RB,qi];constructor
 ·intro h;refine⟨λ p hp=>⟨(h p (by simp[hp])).1,λ r hr=>(h p (by simp[hp])).2 r (by simp[hr])⟩,(h q (by simp)).1,λ p hp=>(h p (by simp[hp])).2 q (by simp)⟩
 ·rintro⟨h1,h2,h3⟩ p hp
  rcases z0Y.mp hp with hp | hp
  ·refine⟨(h1 p hp).1,λ r hr=>?_⟩
   rcases z0Y.mp hr with hr | hr
   ·exact (h1 p hp).2 r hr
   ·have:r=q:=by simpa using hr
    exact this▸h3 p hp
  ·have:p=q:=by simpa using hp
   subst this;refine⟨h2,λ r hr=>?_⟩
   rcases z0Y.mp hr with hr | hr
   ·rw[qg];exact h3 r hr
   ·have:r=p:=by simpa using hr
    rw[this,lE];exact h2.2
theorem aO (W V:Wl):∀ (ps:List Pr),((z0e ps.length).all λ k=>fwB W V (ps.take k) (ps.getD k (0,0)))=afS W V ps:=by
 intro ps;rw[z1V];have:∀ n,n<=ps.length->(((z0e n).all λ k=>fwB W V (ps.take k) (ps.getD k (0,0)))=true↔afS W V (ps.take n)=true):=by
  intro n
  induction n with
  | zero=>intro _;simp[afS]
  | succ n ih=>
   intro h;rw[z6K,List.all_append,z0U,ih (by omega)];have e:ps.take (n+1)=ps.take n++[ps.getD n (0,0)]:=by
    rw[z7F,z0C (by omega),z3w,z0C (by omega)];rfl
   rw[e,Vq];simp
 have h:=this ps.length (z07 _);rw[z7G] at h;exact h
def InW (W V:Wl) (ps:List Pr):Prop:=∀ p∈ps,p.1<W.n/\p.2<V.n
theorem in5 {W V:Wl}(hw:WOk W) (hv:WOk V) {ps:List Pr}(h:InW W V ps):∀ p∈ps,In5 p:=λ p hp=>by
 have:=h p hp;have:=hw.n5;have:=hv.n5;exact⟨by omega,by omega⟩
theorem Jr {W V:Wl}(hw:WOk W) (hv:WOk V) {ps:List Pr}(h:InW W V ps) (x:Pr):x∈Aq ps↔x∈ps:=(Og (in5 hw hv h)).2 x
theorem S6 {W V:Wl}(hw:WOk W) (hv:WOk V) {ps:List Pr}(h:InW W V ps):InW W V (Aq ps):=λ p hp=>h p ((Jr hw hv h p).mp hp)
theorem Gj {W V:Wl}{ps:List Pr}{q:Pr}(h:InW W V ps) (hq:q.1<W.n/\q.2<V.n):InW W V (ps++[q]):=λ p hp=>by
 rcases z0Y.mp hp with hp | hp
 ·exact h p hp
 ·have:p=q:=by simpa using hp
  exact this▸hq
theorem XJ {W V:Wl}(hw:WOk W) (hv:WOk V) {ps:List Pr}(h:InW W V ps):afS W V (Aq ps)=afS W V ps:=by
 rw[z1V];exact⟨aN λ x hx=>(Jr hw hv h x).mpr hx,aN λ x hx=>(Jr hw hv h x).mp hx⟩
theorem lF:∀ {l:List Pr},SrtP l->l.Nodup:=λ {l} h=>by
 have:(l.map cod).Nodup:=z7H (λ {a b} h e=>absurd h (by rw[e];exact z1l _)) h;rw[z2d,z1B] at this;exact z7H (λ {a b} h (e:a=b)=>h (by rw[e])) this
theorem S7 {W V:Wl}(hw:WOk W) (hv:WOk V) {ps:List Pr}(h:InW W V ps):SrtP (Aq ps):=(Og (in5 hw hv h)).1
theorem XM:∀ {l m:List Pr},l.Nodup->(∀ x∈l,x∈m)->l.length<=m.length
 | [],_,_,_=>z18 _
 | x::l,m,nd,h=>by
  have hx:=h x (by simp);have nd':=z2l.mp nd;have:=XM (m:=m.erase x) nd'.2 λ y hy=>(z5v (λ e=>nd'.1 (by rw[<-e];exact hy))).mpr (h y (by simp[hy]));rw[z5w hx] at this;have:=z5x hx;simp only[z0u];omega
theorem cZ {W V:Wl}(hw:WOk W) (hv:WOk V) {ps:List Pr}(h:InW W V ps):(Aq ps).length<=ps.length:=XM (lF (S7 hw hv h)) λ x hx=>(Jr hw hv h x).mp hx
theorem qj {W V:Wl}{ps:List Pr}(nd:ps.Nodup) (h:InW W V ps) (a:afS W V ps=true):ps.length<=W.n:=by
 rw[RB] at a;have nd1:(ps.map (·.1)).Nodup:=by
  rw[z2d,z1B];refine z2W (λ {x y} hx hy ne e=>?_) nd;have g:=(a x hx).2 y hy;unfold goB at g;rw[z0U] at g;have g1:=g.1;rw[decide_eq_true e] at g1;have:x.2=y.2:=by simpa using g1
  exact ne (z3d e this)
 have:=Vm nd1 λ t ht=>by
  obtain⟨p,hp,rfl⟩:=z0g.mp ht;exact (h p hp).1
 rwa [z06] at this
theorem Gk {t:Nat}{xs:List Nat}:t∈unp n xs↔t<n/\t∉xs:=by simp[unp]
theorem wG {xs ys:List Nat}(h:∀ x∈xs,x∈ys) {t:Nat}(ht:t∈unp n xs) (hy:t∈ys):(unp n ys).length<(unp n xs).length:=by
 have e:unp n ys=(unp n xs).filter λ t=>decide (t∉ys):=by
  unfold unp;rw[List.filter_filter];refine List.filter_congr λ x _=>?_
  by_cases hx:x∈ys
  ·simp[hx]
  ·have:x∉xs:=λ z=>hx (h x z);simp[hx,this]
 rw[e];exact List.length_filter_lt_length_iff_exists.mpr ⟨t,ht,by simp[hy]⟩
theorem Vr (n:Nat) (xs:List Nat):(unp n xs).length<=n:=by
 have:=z7I (λ t=>decide (t∉xs)) (z0e n)
 rwa [z2B] at this
theorem QS {W V:Wl}{R R':List Pr->Nat}{ps:List Pr}(h:∀ f∈unp W.n (ps.map (·.1)),∀ s∈unp V.n (ps.map (·.2)),fwB W V ps (f,s)=true->R (Aq (ps++[(f,s)]))=R' (Aq (ps++[(f,s)]))):stp W V R ps=stp W V R' ps:=by
 have k:∀ f∈unp W.n (ps.map (·.1)),∀ s∈unp V.n (ps.map (·.2)),(if fwB W V ps (f,s)=true then R (Aq (ps++[(f,s)])) else 0)=(if fwB W V ps (f,s)=true then R' (Aq (ps++[(f,s)])) else 0):=λ f hf s hs=>by
  split
  ·rename_i e;exact h f hf s hs e
  ·rfl
 unfold stp;simp only;rw[z3m (g:=λ f=>bst ((unp V.n (ps.map (·.2))).map λ s=>if fwB W V ps (f,s)=true then R' (Aq (ps++[(f,s)])) else 0)) λ f hf=>by rw[z3m λ s hs=>k f hf s hs],
  z3m (l:=unp V.n (ps.map (·.2))) (g:=λ s=>bst ((unp W.n (ps.map (·.1))).map λ f=>if fwB W V ps (f,s)=true then R' (Aq (ps++[(f,s)])) else 0)) λ s hs=>by rw[z3m λ f hf=>k f hf s hs]]
theorem Vs {W V:Wl}(hw:WOk W) (hv:WOk V) {ps:List Pr}(h:InW W V ps) {f s:Nat}(hf:f∈unp W.n (ps.map (·.1))) (hs:s∈unp V.n (ps.map (·.2))):(unp W.n ((Aq (ps++[(f,s)])).map (·.1))).length<(unp W.n (ps.map (·.1))).length:=by
 have k:=Gj h (q:=(f,s)) ⟨(Gk.mp hf).1,(Gk.mp hs).1⟩;refine wG (λ x hx=>?_) hf (z0g.mpr ⟨(f,s),(Jr hw hv k _).mpr (by simp),rfl⟩);obtain⟨p,hp,rfl⟩:=z0g.mp hx;exact z0g.mpr ⟨p,(Jr hw hv k _).mpr (by simp[hp]),rfl⟩
theorem S8 {W V:Wl}(hw:WOk W) (hv:WOk V) {ps:List Pr}(h:InW W V ps) {f s:Nat}(hf:f∈unp W.n (ps.map (·.1))) (hs:s∈unp V.n (ps.map (·.2))):InW W V (Aq (ps++[(f,s)])):=S6 hw hv (Gj h ⟨(Gk.mp hf).1,(Gk.mp hs).1⟩)
theorem ql {W V:Wl}(hw:WOk W) (hv:WOk V):∀ (u k j:Nat) (ps:List Pr),InW W V ps->(unp W.n (ps.map (·.1))).length<=u->u<=k->u<=j->rkN W V (k+1) ps=rkN W V (j+1) ps:=by
 intro u
 induction u with
 | zero=>
  intro k j ps h hu _ _;refine QS λ f hf=>?_;rw[z2C.mp (z7J.mp hu)] at hf;cases hf
 | succ u ih=>
  intro k j ps h hu hk hj;refine QS λ f hf s hs _=>?_;obtain⟨k',rfl⟩:=z9S (show k≠0 by omega);obtain⟨j',rfl⟩:=z9S (show j≠0 by omega);exact ih k' j' _ (S8 hw hv h hf hs) (z4C (z0X (Vs hw hv h hf hs) hu)) (by omega) (by omega)
theorem aP {W V:Wl}(hw:WOk W) (hv:WOk V) {ps:List Pr}(h:InW W V ps) (a:afS W V ps=true):rkF W V ps=stp W V (rkF W V) ps:=by
 have e:rkF W V ps=stp W V (rkN W V 5) ps:=by unfold rkF;rw[if_pos a];rfl
 rw[e];refine QS λ f hf s hs hfw=>?_;have hq:=Gj h (q:=(f,s)) ⟨(Gk.mp hf).1,(Gk.mp hs).1⟩;have a':afS W V (Aq (ps++[(f,s)]))=true:=by rw[XJ hw hv hq];exact Vq.mpr ⟨a,hfw⟩
 unfold rkF;rw[if_pos a'];refine ql hw hv 4 4 5 _ (S8 hw hv h hf hs) ?_ (by omega) (by omega);exact z4C (z0X (Vs hw hv h hf hs) (z0E (Vr W.n (ps.map (·.1))) hw.n5))
theorem Yh {W V:Wl}{ps:List Pr}(a:afS W V ps=false):rkF W V ps=0:=by unfold rkF;rw[a];rfl
theorem lG {x:Nat}(h:x∈l):x<=bst l:=by
 induction l with
 | nil=>cases h
 | cons y l ih=>
  have e:bst (y::l)=max y (bst l):=rfl;rw[e]
  rcases z0j.mp h with rfl | h
  ·omega
  ·have:=ih h;omega
theorem wH {m:Nat}(hm:0<m) (h:∀ x∈l,x<m):bst l<m:=by
 induction l with
 | nil=>exact hm
 | cons y l ih=>
  have e:bst (y::l)=max y (bst l):=rfl;rw[e];have:=ih λ x hx=>h x (by simp[hx]);have:=h y (by simp);omega
theorem qm {e x:Nat}(h:x∈l):l.foldr min e<=x:=by
 induction l with
 | nil=>cases h
 | cons y l ih=>
  rw[z5J]
  rcases z0j.mp h with rfl | h
  ·omega
  ·have:=ih h;omega
theorem wI (l:List Nat) (e:Nat):l.foldr min e<=e:=by
 induction l with
 | nil=>exact z07 _
 | cons y l ih=>rw[z5J];omega
theorem lH (l:List Nat) (e:Nat):l.foldr min e=e∨l.foldr min e∈l:=by
 induction l with
 | nil=>exact .inl rfl
 | cons y l ih=>
  rw[z5J]
  rcases z9T y (l.foldr min e) with h | h
  ·exact .inr (by rw[z8Q h];simp)
  ·rw[z8R h]
   rcases ih with ih | ih
   ·exact .inl ih
   ·exact .inr (by simp[ih])
theorem yV {W V:Wl}(hw:WOk W) (hv:WOk V) {ps:List Pr}(h:InW W V ps):rkF W V ps<=endl W V:=by
 cases a:afS W V ps with
 | false=>rw[Yh a];exact z18 _
 | true=>
  rw[aP hw hv h a];unfold stp;simp only;exact Nat.min_le_left ..
theorem wJ {m:List Nat}(h:kM l=kM m):l=m:=by
 unfold kM at h;have h:=D.dk.inj h;have:=congrArg (List.map λ x:Key×D=>match x.1 with | .inl i=>i.toNat | _=>0) h;simpa [z0p,z0V] using this
theorem wK {l m:List (Nat×Nat)}(h:kT l=kT m):l=m:=by
 unfold kT at h;have h:=D.dt.inj h;have:=congrArg (List.map λ x:List Key×D=>unk1 x.1) h;simpa [z0p,z0V,unk1] using this
theorem S9 {α β:Type}{f:α->β}(hf:∀ x y,f x=f y->x=y):∀ {l m:List α},l.map f=m.map f->l=m
 | [],[],_=>rfl
 | [],_::_,h=>by cases h
 | _::_,[],h=>by cases h
 | x::l,y::m,h=>by
  rw[z0c,z0c] at h;obtain⟨h1,h2⟩:=List.cons.inj h;rw[hf x y h1,S9 hf h2]
theorem aQ {W V:Wl}(h:wob W=wob V):W=V:=by
 obtain⟨n,ms,ts⟩:=W;obtain⟨n',ms',ts'⟩:=V;unfold wob at h;simp only[D.ob.injEq,z4U,z3C,true_and,and_true,D.int.injEq,D.dk.injEq] at h;obtain⟨h1,h2,h3⟩:=h;have e1:n=n':=by omega
 have e2:ms=ms':=S9 (λ x y e=>by
  obtain⟨x1,x2⟩:=x;obtain⟨y1,y2⟩:=y;simp only[z3C,z9U] at e;rw[e.1,wJ e.2]) h2
 have e3:ts=ts':=S9 (λ x y e=>by
  obtain⟨x1,x2⟩:=x;obtain⟨y1,y2⟩:=y;simp only[z3C,z9U] at e;rw[e.1,wK e.2]) h3
 rw[e1,e2,e3]
theorem yW (W V:Wl):FF (wob W) (wob V)=FW W V:=by
 have h:∃ x:Wl×Wl,wob W=wob x.1/\wob V=wob x.2:=⟨(W,V),rfl,rfl⟩;unfold FF;rw[dif_pos h];have:=Classical.choose_spec h;rw[<-aQ this.1,<-aQ this.2]
theorem qp (ps:List Pr):(kks ps).map unk1=ps:=by
 unfold kks;rw[z0p];have:(unk1 ∘ kk)=id:=by funext p;simp[unk1,kk]
 rw[this,List.map_id]
theorem uE (W V:Wl) (ps:List Pr):FW W V (kks ps)=(rkF W V ps:Nat):=by unfold FW;rw[qp]
theorem fw_t (W V:Wl) (h:Sp W V) (ps:List Pr) (hl:ps.length<=1000) (q:Pr):Dv [wob W,wob V,.tup .(11),pN q]=some (.bl (fwB W V ps q)):=by
 have b1:=aG W V h q;have l1:=Q_ W V h q q;have cm:BW (seqA (vF 2)) allT Eu [.fz (wob W),.fz (wob V),.fz (.tup .(11)),.fz (pN q)]=some (.lst (ps.map λ p=>.bl (goB W V p q))):=
  Dp ps pN (λ p=>.bl (goB W V p q)) (by simp only[cK,DN,Q4]) hl λ p _=>by
   have g:=uB W V h p q;simp only[cK,Eu,g]
 have al:=Vp (λ p=>goB W V p q) ps;unfold fwB;simp only[cK,Dv,JB,b1];cases SN W V q with
 | false=>simp only[cK,z4b]
 | true=>
  simp only[cK,l1];cases KJ W V q q with
  | false=>simp only[cK,z41,z4b]
  | true=>simp only[cK,cm,al,z41]
theorem XN {α:Type}(l:List α) (e1 e2 g:α->D) (hs:src ρ=some (l.map λ x=>.tup [e1 x,e2 x])) (hn:l.length<=1000) (h:∀ x∈l,fe (ρ++[.fz (e1 x),.fz (e2 x)])=some (g x)):UL src allT fe ρ=some (.lst (l.map g)):=by
 have c:∀ l:List α,(∀ x∈l,fe (ρ++[.fz (e1 x),.fz (e2 x)])=some (g x))->En bd2 ρ allT fe (l.map λ x=>.tup [e1 x,e2 x])=some (l.map g):=by
  intro l
  induction l with
  | nil=>intro _;rfl
  | cons x r ih=>
   intro hl;rw[z0c];show (fe (ρ++[PV.Slot.fz (e1 x),PV.Slot.fz (e2 x)])).bind (λ y=>(En bd2 ρ allT fe (r.map λ x=>.tup [e1 x,e2 x])).map (y::·))=_;rw[hl x (by simp),ih λ d hd=>hl d (by simp[hd])];rfl
 unfold UL JT;rw[hs];show (if (l.map λ x=>D.tup [e1 x,e2 x]).length<=sizeLine then (En bd2 ρ allT fe (l.map λ x=>D.tup [e1 x,e2 x])).map D.lst else none)=_;rw[if_pos (Nz (by rw[z06];omega)),c l h];rfl
theorem Yi:∀ (ps:List Pr) (i:Nat),enD i .(11)=(z0e ps.length).map λ k=>D.tup [.int ((i+k:Nat):Int),pN (ps.getD k (0,0))]
 | [],i=>rfl
 | p::r,i=>by
  rw[z0c,z0u,z8y,z0c,z0p];show D.tup [.int (i:Int),pN p]::enD (i+1) (r.map pN)=_;rw[Yi r (i+1)];congr 1;refine z3m λ k _=>?_;simp only[z0V,List.getD_cons_succ];rw[show i+1+k=i+(k+1) by omega]
theorem sl_t (ds:List D) (k:Nat) (h:k<ds.length):slD (.tup ds) none (some (k:Int))=some (.tup (ds.take k)):=by
 show (if HT.sIx ds.length 0 none=0/\HT.sIx ds.length ds.length (some (k:Int))=ds.length then none else some (D.tup (cutD ds none (some (k:Int)))))=_;rw[if_neg (by rw[HT.nG];omega),gQ]
theorem sl_l (ds:List D) (k:Nat):slD (.lst ds) none (some (k:Int))=some (.lst (ds.take k)):=by
 show some (D.lst (cutD ds none (some (k:Int))))=_;rw[gQ]
theorem qt (f:FE) (ρ:Rho) (ds:List D) (h:f ρ=some (.lst ds)):enIB f ρ=some (enD 0 ds):=by unfold enIB;rw[h]
theorem qu (f:FE) (ρ:Rho) (ds:List D) (h:f ρ=some (.tup ds)):enIB f ρ=some (enD 0 ds):=by unfold enIB;rw[h]
theorem af_l (W V:Wl) (h:Sp W V) (ps:List Pr) (hl:ps.length<=1000):El [wob W,wob V,.lst .(11)]=some (.bl (afS W V ps)):=by
 have cm:UL (enIB (vF 2)) allT HB [.fz (wob W),.fz (wob V),.fz (.lst .(11))]=some (.lst ((z0e ps.length).map λ k=>.bl (fwB W V (ps.take k) (ps.getD k (0,0))))):=
  XN (z0e ps.length) (λ k=>.int ((0+k:Nat):Int)) (λ k=>pN (ps.getD k (0,0))) _ (by rw[qt _ _ .(11) rfl,Yi]) (by simpa using hl) λ k hk=>by
   have f:=yS W V h (ps.take k) (by rw[z1g];omega) (ps.getD k (0,0));have s:=sl_l .(11) k;rw[z1Q];rw[<-z3t] at s;simp only[cK,HB,s,f]
 have al:=Vp (λ k=>fwB W V (ps.take k) (ps.getD k (0,0))) (z0e ps.length);rw[aO] at al;simp only[cK,El,MF,cm,al]
theorem af_t (W V:Wl) (h:Sp W V) (ps:List Pr) (hl:ps.length<=1000):El [wob W,wob V,.tup .(11)]=some (.bl (afS W V ps)):=by
 have cm:UL (enIB (vF 2)) allT HB [.fz (wob W),.fz (wob V),.fz (.tup .(11))]=some (.lst ((z0e ps.length).map λ k=>.bl (fwB W V (ps.take k) (ps.getD k (0,0))))):=
  XN (z0e ps.length) (λ k=>.int ((0+k:Nat):Int)) (λ k=>pN (ps.getD k (0,0))) _ (by rw[qu _ _ .(11) rfl,Yi]) (by simpa using hl) λ k hk=>by
   have f:=fw_t W V h (ps.take k) (by rw[z1g];omega) (ps.getD k (0,0));have s:=sl_t .(11) k (by rw[z06];exact z0w.mp hk);rw[z1Q];rw[<-z3t] at s;simp only[cK,HB,s,f]
 have al:=Vp (λ k=>fwB W V (ps.take k) (ps.getD k (0,0))) (z0e ps.length);rw[aO] at al;simp only[cK,El,MF,cm,al]
theorem yX (t:Nat) (l:List Nat):inF true (.int (t:Int)) (.lst (l.map iN))=some (.bl (decide (t∉l))):=by
 have h:∀ ys:List Nat,flVs (ys.map iN)=some (ys.map λ (t:Nat)=>V.int t):=λ ys=>by
  induction ys with
  | nil=>rfl
  | cons y r ih=>simp[flVs,flV,ih]
 have i:=in_i t l;change ((flV (.int (t:Int))).bind λ v=>(flVs (l.map iN)).map λ vs=>D.bl (inV v vs))=_ at i;show ((flV (.int (t:Int))).bind λ v=>(flVs (l.map iN)).map λ vs=>D.bl (!inV v vs))=_;rw[h] at i ⊢;have i:some (D.bl (inV (.int (t:Int)) (l.map λ (t:Nat)=>V.int t)))=some (D.bl (decide (t∈l))):=i;show some (D.bl (!inV (.int (t:Int)) (l.map λ (t:Nat)=>V.int t)))=_;injection i with i
 injection i with i
 rw[i];simp
theorem lJ (n:Nat) (hn:n<=100) (xs:List Nat):Ie [.int (n:Int),.lst (xs.map iN)]=some (.lst ((unp n xs).map iN)):=by
 have cm:BW (rngI (vF 0)) J8 J9 [.fz .(1),.fz (.lst (xs.map iN))]=some (.lst ((unp n xs).map iN)):=
  MN (λ t=>decide (t∉xs)) iN (rngI (vF 0)) (Vk n hn _ 0 rfl) (by omega) (λ k hk=>by
   have s:=yX k xs;simp only[cK,J8,s]) (λ k hk=>by simp only[cK,J9])
 simp only[cK,Ie,M9,cm]
theorem S_ (l:List Nat):Fl (l.map iN)=some .(31):=by
 induction l with
 | nil=>rfl
 | cons y r ih=>
  show (Fl (r.map iN)).map (_::·)=_;rw[ih];rfl
theorem lK (f:Nat->Int):∀ k,(∃ i,i<=k/\mxN f k=f i)/\∀ i,i<=k->f i<=mxN f k
 | 0=>⟨⟨0,z07 _,rfl⟩,λ i hi=>by rw[z7J.mp hi];exact z5S _⟩
 | k+1=>by
  obtain⟨⟨i,hi,e⟩,h⟩:=lK f k;have u:mxN f (k+1)=if f (k+1) > mxN f k then f (k+1) else mxN f k:=rfl
  rw[u];split
  ·rename_i c;refine⟨⟨k+1,z07 _,rfl⟩,λ j hj=>?_⟩
   rcases z5T k j with z | z
   ·have:j=k+1:=by omega
    rw[this];exact z5S _
   ·have:=h j z;omega
  ·rename_i c;refine⟨⟨i,by omega,e⟩,λ j hj=>?_⟩
   rcases z5T k j with z | z
   ·have:j=k+1:=by omega
    rw[this];omega
   ·exact h j z
theorem lL (f:Nat->Int):∀ k,(∃ i,i<=k/\mnN f k=f i)/\∀ i,i<=k->mnN f k<=f i
 | 0=>⟨⟨0,z07 _,rfl⟩,λ i hi=>by rw[z7J.mp hi];exact z5S _⟩
 | k+1=>by
  obtain⟨⟨i,hi,e⟩,h⟩:=lL f k;have u:mnN f (k+1)=if f (k+1)<mnN f k then f (k+1) else mnN f k:=rfl
  rw[u];split
  ·rename_i c;refine⟨⟨k+1,z07 _,rfl⟩,λ j hj=>?_⟩
   rcases z5T k j with z | z
   ·have:j=k+1:=by omega
    rw[this];exact z5S _
   ·have:=h j z;omega
  ·rename_i c;refine⟨⟨i,by omega,e⟩,λ j hj=>?_⟩
   rcases z5T k j with z | z
   ·have:j=k+1:=by omega
    rw[this];omega
   ·exact h j z
theorem QT (l:List Nat) (i:Nat) (h:i<l.length):.(31).getD i 0=(l[i]:Int):=by
 rw[z3w,z0o,z0C h];rfl
theorem lO (l:List Nat):WF (.lst (l.map iN)) (.int 0)=some (.int ((bst l:Nat):Int)):=by
 show (Fl (l.map iN)).map _=_;rw[S_];show some (if .(31)=[] then D.int 0 else .int (mxN (λ i=>.(31).getD i 0) (.(31).length-1)))=_;cases l with
 | nil=>rfl
 | cons x r=>
  rw[if_neg (by simp)];congr 2;have ⟨⟨i,hi,e⟩,h⟩:=lK (λ i=>.(30).getD i 0) (.(30).length-1);rw[z06,z0u] at hi e h;have hi':i<(x::r).length:=by rw[z0u];omega
  rw[z06,z0u,e];show .(30).getD i 0=_;rw[QT _ _ hi'];have a1:=lG (z1b hi');have a2:bst (x::r)<=(x::r)[i]:=by
   have:bst (x::r)<(x::r)[i]+1:=wH (by omega) λ y hy=>by
    obtain⟨j,hj,ej⟩:=z3s.mp hy;have hh:=h j (by rw[z0u] at hj;omega);rw[e] at hh;change .(30).getD j 0<=.(30).getD i 0 at hh;rw[QT _ _ hi',QT _ _ hj,ej] at hh;omega
   omega
  omega
theorem wL (l:List Nat) (e:Nat):∃ m:Nat,W2 (.lst (l.map iN)) (.int (e:Int))=some (.int (m:Int))/\min e (1+m)=min e (1+l.foldr min e):=by
 have u:W2 (.lst (l.map iN)) (.int (e:Int))=some (if .(31)=[] then D.int (e:Int) else .int (mnN (λ i=>.(31).getD i 0) (.(31).length-1))):=by
  show (Fl (l.map iN)).map _=_;rw[S_];rfl
 rw[u];cases l with
 | nil=>exact⟨e,rfl,rfl⟩
 | cons x r=>
  rw[if_neg (by simp)];have ⟨⟨i,hi,ee⟩,h⟩:=lL (λ i=>.(30).getD i 0) (.(30).length-1);rw[z06,z0u] at hi ee h;have hi':i<(x::r).length:=by rw[z0u];omega
  refine⟨(x::r)[i],?_,?_⟩
  ·rw[z06,z0u,ee];show some (D.int (.(30).getD i 0))=_;rw[QT _ _ hi']
  ·have a1:=qm (e:=e) (z1b hi');have a2:=wI (x::r) e
   rcases lH (x::r) e with z | z
   ·rw[z] at a1 ⊢;omega
   ·obtain⟨j,hj,ej⟩:=z3s.mp z;have hh:=h j (by rw[z0u] at hj;omega);rw[ee] at hh;change .(30).getD i 0<=.(30).getD j 0 at hh;rw[QT _ _ hi',QT _ _ hj,ej] at hh;omega
def rob (W V:Wl):D:=.ob "Ranks" [("one",wob W),("other",wob V),("reckoned",.mem (FW W V)),("endless",.int (endl W V:Nat))]
theorem u1:(("other":Str)=="one")=false:=by decide +kernel
theorem u2:(("reckoned":Str)=="one")=false:=by decide +kernel
theorem u3:(("reckoned":Str)=="other")=false:=by decide +kernel
theorem u4:(("endless":Str)=="one")=false:=by decide +kernel
theorem u5:(("endless":Str)=="other")=false:=by decide +kernel
theorem u6:(("endless":Str)=="reckoned")=false:=by decide +kernel
theorem aR (W V:Wl):fldD "one" (rob W V)=some (wob W):=by
 show z0m ("one":Str) _=_;rfl
theorem RC (W V:Wl):fldD "other" (rob W V)=some (wob V):=by
 show z0m ("other":Str) [(("one":Str),wob W),("other",wob V),("reckoned",.mem (FW W V)),("endless",.int (endl W V:Nat))]=_;simp only[z0m,u1];rfl
theorem lQ (W V:Wl):fldD "reckoned" (rob W V)=some (.mem (FW W V)):=by
 show z0m ("reckoned":Str) [(("one":Str),wob W),("other",wob V),("reckoned",.mem (FW W V)),("endless",.int (endl W V:Nat))]=_;simp only[z0m,u2,u3];rfl
theorem lR (W V:Wl):fldD "endless" (rob W V)=some (.int (endl W V:Nat)):=by
 show z0m ("endless":Str) [(("one":Str),wob W),("other",wob V),("reckoned",.mem (FW W V)),("endless",.int (endl W V:Nat))]=_;simp only[z0m,u4,u5,u6];rfl
theorem O7 {W V:Wl}(h:Dd "Ranks" m (rob W V)=true):mzO "Ranks" m g (some (rob W V)) (some ds)=g (rob W V::ds):=XH h
theorem ob1 (W V:Wl):Dd "Ranks" "rank_of_fitting" (rob W V)=true:=rfl
theorem ob2 (W V:Wl):Dd "Ranks" "rank_with" (rob W V)=true:=rfl
theorem ob3 (W V:Wl):Dd "Ranks" "best_rank" (rob W V)=true:=rfl
theorem ob4 (W V:Wl):Dd "Ranks" "least_rank" (rob W V)=true:=rfl
theorem ob5 (W V:Wl):Dd "Ranks" "rank_of" (rob W V)=true:=rfl
theorem ob6 (W V:Wl):Dd "Ranks" "told_rank" (rob W V)=true:=rfl
theorem yZ {p:Pr}(h:In5 p):prD (pN p)=some p:=by
 obtain⟨a,b⟩:=p;obtain⟨h1,h2⟩:=h;show (if 0<=(a:Int)/\(a:Int)<5/\0<=(b:Int)/\(b:Int)<5 then some ((a:Int).toNat,(b:Int).toNat) else none)=_;have h1:a<5:=h1;have h2:b<5:=h2;rw[if_pos (by omega),z19,z19]
theorem Yj {ps:List Pr}(h:∀ p∈ps,In5 p):prsD .(11)=some ps:=by
 induction ps with
 | nil=>rfl
 | cons p r ih=>
  show (prD (pN p)).bind (λ p=>(prsD (r.map pN)).map (p::·))=_;rw[yZ (h p (by simp)),ih λ q hq=>h q (by simp[hq])];rfl
theorem lU {ps:List Pr}(h:∀ p∈ps,In5 p) (hl:ps.length<=5):keyP (.tup .(11))=some ps:=by
 show (prsD .(11)).bind (λ ps=>if ps.length<=5 then some ps else none)=_;rw[Yj h];show (if ps.length<=5 then some ps else none)=_;rw[if_pos hl]
theorem wM {ps:List Pr}(h:∀ p∈ps,In5 p) (hl:ps.length<=17):tssD (.lst .(11))=some (.tup ((Aq ps).map pN)):=by
 show (prsD .(11)).bind (λ ps=>if ps.length<=17 then some (D.tup ((Aq ps).map prT)) else none)=_;rw[Yj h];show (if ps.length<=17 then some (D.tup ((Aq ps).map prT)) else none)=_;rw[if_pos hl]
theorem wN {ps:List Pr}(h:∀ p∈ps,In5 p) (hl:ps.length<=17) (nd:ps.Nodup):tslD (.tup .(11))=some (.tup ((Aq ps).map pN)):=by
 show (prsD .(11)).bind (λ ps=>if ps.length<=17/\ps.Nodup then some (D.tup ((Aq ps).map prT)) else none)=_;rw[Yj h];show (if ps.length<=17/\ps.Nodup then some (D.tup ((Aq ps).map prT)) else none)=_;rw[if_pos ⟨hl,nd⟩]
theorem wO (ps:List Pr) (q:Pr) (hl:ps.length<=100):catU (.tup .(11)) (.tup [pN q])=some (.tup ((ps++[q]).map pN)):=by
 show (if [pN q]≠[]/\.(11).length+[pN q].length<=1000 then some (D.tup (ps.map pN++[pN q])) else none)=_;rw[if_pos ⟨by simp,by simp;omega⟩,z0S];rfl
theorem wQ {fv:FE}{ps:List Pr}{v:Int}(h1:uF (fldD f) (vF i) ρ=some (.mem F)) (h2:(vF j ρ).bind keyP=some ps) (h3:fv ρ=some (.int v)) (h4:v=F (kks ps)):memR i f j fv ρ=some (.rt (.int v) ρ):=by
 unfold memR;rw[h1,h2,h3];exact if_pos h4
theorem qw {ps:List Pr}(h1:uF (fldD f) (vF i) ρ=some (.mem F)) (h2:(vF j ρ).bind keyP=some ps) (h3:ft ρ=some true):memB i f j ft c m fr ρ=retF fr ρ:=by
 unfold memB;rw[h1,h2,h3]
theorem qx {ps:List Pr}(h1:uF (fldD f) (vF i) ρ=some (.mem F)) (h2:(vF j ρ).bind keyP=some ps) (h3:ft ρ=some false) (h4:F (kks ps)=0) (h5:(vF i ρ).map (Dd c m)=some true):memB i f j ft c m fr ρ=some (.rt (.int 0) ρ):=by
 unfold memB;rw[h1,h2,h3];exact if_pos ⟨h4,h5⟩
abbrev rwV (W V:Wl) (ps:List Pr) (q:Pr):Nat:=if fwB W V ps q=true then rkF W V (Aq (ps++[q])) else 0
section
theorem qy {W V:Wl}(hw:WOk W) (hv:WOk V) (h:Sp W V) {g:List D->Option D}{ps:List Pr}{q:Pr}(hi:InW W V ps) (nd:ps.Nodup) (hl:ps.length<=5) (hq:q.1<W.n/\q.2<V.n) (nq:q∉ps)
  (hg:fwB W V ps q=true->g [rob W V,.tup ((Aq (ps++[q])).map pN)]=some (.int (rkF W V (Aq (ps++[q])):Nat))):Bj g [rob W V,.tup .(11),pN q]=some (.int (rwV W V ps q:Nat)):=by
 have f:=fw_t W V h ps (by omega) q;have a1:=aR W V;have a2:=RC W V;simp only[cK,Bj,GX,a1,a2,f];cases e:fwB W V ps q with
 | false=>
  simp only[cK,rwV,e];rfl
 | true=>
  have c:=wO ps q (by omega);have t:=wN (in5 hw hv (Gj hi hq)) .(17) (z0W.mpr ⟨nd,by simp,λ x hx y hy e=>nq (by simp at hy;rw[<-hy,<-e];exact hx)⟩);have m:=O7 (g:=g) (ds:=[.tup ((Aq (ps++[q])).map pN)]) (ob1 W V);simp only[cK,c,t,G8,m,hg e,rwV,e,if_true]
theorem aU {W V:Wl}{ps:List Pr}(qs:List Pr) (hl:qs.length<=1000) (hg:∀ q∈qs,Bj g [rob W V,.tup .(11),pN q]=some (.int (rwV W V ps q:Nat))):Av g [rob W V,.tup .(11),.lst (qs.map pN)]=some (.int (bst (qs.map (rwV W V ps)):Nat)):=by
 have cm:BW (seqA (vF 2)) allT (Eo g) [.fz (rob W V),.fz (.tup .(11)),.fz (.lst (qs.map pN))]=some (.lst (qs.map λ q=>iN (rwV W V ps q))):=
  Dp qs pN _ (by simp only[cK,DN,Eg]) hl λ q hq=>by
   have m:=O7 (g:=Bj g) (ds:=[.tup .(11),pN q]) (ob2 W V);simp only[cK,Eo,G8,m,hg q hq]
 have mx:=lO (qs.map (rwV W V ps));rw[z0p] at mx;change WF (.lst (qs.map λ q=>iN (rwV W V ps q))) (.int 0)=_ at mx;simp only[cK,Av,GZ,cm,mx]
theorem uG {W V:Wl}{g:List D->Option D}{ps:List Pr}(fs ss:List Nat) (hs:ss.length<=100) (hg:∀ f∈fs,Av g [rob W V,.tup .(11),.lst ((ss.map λ s=>(f,s)).map pN)]=some (.int (bst .(22):Nat))) (x2 z6:Slot) :
  ∀ (r:List Nat) (l:List Nat) (z:Slot),(∀ f∈r,f∈fs)->l.length+r.length<=900->∃ z',forF (tgB (Cr 5) (Ci g)) (r.map iN) [.fz (rob W V),.fz (.tup .(11)),x2,.fz (.lst (ss.map iN)),.ow (.lst (l.map iN)),z,z6]=some (.nx [.fz (rob W V),.fz (.tup .(11)),x2,.fz (.lst (ss.map iN)),.ow (.lst ((l++r.map λ f=>bst .(22)).map iN)),z',z6])
 | [],l,z,_,_=>⟨z,by rw[z12,z12,z1d];rfl⟩
 | f::r,l,z,hr,hl=>by
  rw[z0u] at hl;have b:=hg f (hr f (by simp));have cm:BW (seqA (vF 3)) allT (D_ g) [.fz (rob W V),.fz (.tup .(11)),x2,.fz (.lst (ss.map iN)),.ow (.lst (l.map iN)),.fz (iN f),z6]=some (.lst ((ss.map λ s=>(f,s)).map pN)):=by
   rw[z0p];exact Dp ss iN _ (by simp only[cK,DN,Eg]) (by omega) λ s _=>by simp only[cK,D_,z0V]
  have m:=O7 (g:=Av g) (ds:=[.tup .(11),.lst ((ss.map λ s=>(f,s)).map pN)]) (ob3 W V);have ap:=aA (l.map iN) (iN (bst .(22))) .(17);have bd:Ci g [.fz (rob W V),.fz (.tup .(11)),x2,.fz (.lst (ss.map iN)),.ow (.lst (l.map iN)),.fz (iN f),z6]=some (.nx [.fz (rob W V),.fz (.tup .(11)),x2,.fz (.lst (ss.map iN)),.ow (.lst ((l++[bst .(22)]).map iN)),.fz (iN f),z6]):=by
   simp only[cK,Ci,G8,cm,m,b,ap,z0S]
  obtain⟨z',ih⟩:=uG fs ss hs hg x2 z6 r (l++[bst .(22)]) (.fz (iN f)) (λ y hy=>hr y (by simp[hy])) .(17);refine⟨z',?_⟩
  w_up
  rw[bd,Ed,ih];simp
theorem uH {W V:Wl}{g:List D->Option D}{ps:List Pr}(fs ss:List Nat) (hs:fs.length<=100) (hg:∀ s∈ss,Av g [rob W V,.tup .(11),.lst ((fs.map λ f=>(f,s)).map pN)]=some (.int (bst .(35):Nat))) (x3 z5:Slot) :
  ∀ (r:List Nat) (l:List Nat) (z:Slot),(∀ f∈r,f∈ss)->l.length+r.length<=900->∃ z',forF (tgB (Cr 6) (Cj g)) (r.map iN) [.fz (rob W V),.fz (.tup .(11)),.fz (.lst (fs.map iN)),x3,.ow (.lst (l.map iN)),z5,z]=some (.nx [.fz (rob W V),.fz (.tup .(11)),.fz (.lst (fs.map iN)),x3,.ow (.lst ((l++r.map λ s=>bst .(35)).map iN)),z5,z'])
 | [],l,z,_,_=>⟨z,by rw[z12,z12,z1d];rfl⟩
 | s::r,l,z,hr,hl=>by
  rw[z0u] at hl;have b:=hg s (hr s (by simp));have cm:BW (seqA (vF 2)) allT (EY g) [.fz (rob W V),.fz (.tup .(11)),.fz (.lst (fs.map iN)),x3,.ow (.lst (l.map iN)),z5,.fz (iN s)]=some (.lst ((fs.map λ f=>(f,s)).map pN)):=by
   rw[z0p];exact Dp fs iN _ (by simp only[cK,DN,Eg]) (by omega) λ f _=>by simp only[cK,EY,z0V]
  have m:=O7 (g:=Av g) (ds:=[.tup .(11),.lst ((fs.map λ f=>(f,s)).map pN)]) (ob3 W V);have ap:=aA (l.map iN) (iN (bst .(35))) .(17);have bd:Cj g [.fz (rob W V),.fz (.tup .(11)),.fz (.lst (fs.map iN)),x3,.ow (.lst (l.map iN)),z5,.fz (iN s)]=some (.nx [.fz (rob W V),.fz (.tup .(11)),.fz (.lst (fs.map iN)),x3,.ow (.lst ((l++[bst .(35)]).map iN)),z5,.fz (iN s)]):=by
   simp only[cK,Cj,G8,cm,m,b,ap,z0S]
  obtain⟨z',ih⟩:=uH fs ss hs hg x3 z5 r (l++[bst .(35)]) (.fz (iN s)) (λ y hy=>hr y (by simp[hy])) .(17);refine⟨z',?_⟩
  w_up
  rw[bd,Ed,ih];simp
end
theorem lV (a b:Nat):minD (.int (a:Int)) (.int (b:Int))=some (.int ((min a b:Nat):Int)):=by
 show some (D.int (if (b:Int)<a then (b:Int) else a))=_;congr 2;split<;>omega
theorem lW (a b:Nat):maxD (.int (a:Int)) (.int (b:Int))=some (.int ((max a b:Nat):Int)):=by
 show some (D.int (if (b:Int) > a then (b:Int) else a))=_;congr 2;split<;>omega
theorem lX {W V:Wl}(hw:WOk W) (hv:WOk V) (h:Sp W V) {g:List D->Option D}{ps:List Pr}(hi:InW W V ps) (nd:ps.Nodup) (hl:ps.length<=5)
  (hg:∀ f∈unp W.n (ps.map (·.1)),∀ s∈unp V.n (ps.map (·.2)),fwB W V ps (f,s)=true->g [rob W V,.tup ((Aq (ps++[(f,s)])).map pN)]=some (.int (rkF W V (Aq (ps++[(f,s)])):Nat))):CT g [rob W V,.tup .(11)]=some (.int (stp W V (rkF W V) ps:Nat)):=by
 have hn:=hw.n5;have hm:=hv.n5;generalize ef:unp W.n (ps.map (·.1))=fs at hg;generalize es:unp V.n (ps.map (·.2))=ss at hg;have lf:fs.length<=5:=by rw[<-ef];exact z0E (Vr _ _) hn
 have ls:ss.length<=5:=by rw[<-es];exact z0E (Vr _ _) hm
 have wth:∀ f∈fs,∀ s∈ss,Bj g [rob W V,.tup .(11),pN (f,s)]=some (.int (rwV W V ps (f,s):Nat)):=λ f hf s hs=>by
  have mf:=hf;have ms:=hs;rw[<-ef] at mf;rw[<-es] at ms;exact qy hw hv h hi nd hl ⟨(Gk.mp mf).1,(Gk.mp ms).1⟩ (λ z=>(Gk.mp mf).2 (z0g.mpr ⟨_,z,rfl⟩)) (hg f hf s hs)
 have b1:∀ f∈fs,Av g [rob W V,.tup .(11),.lst ((ss.map λ s=>(f,s)).map pN)]=some (.int (bst .(22):Nat)):=λ f hf=>
  aU _ .(17) λ q hq=>by
   obtain⟨s,hs,rfl⟩:=z0g.mp hq;exact wth f hf s hs
 have b2:∀ s∈ss,Av g [rob W V,.tup .(11),.lst ((fs.map λ f=>(f,s)).map pN)]=some (.int (bst .(35):Nat)):=λ s hs=>
  aU _ .(17) λ q hq=>by
   obtain⟨f,hf,rfl⟩:=z0g.mp hq;exact wth f hf s hs
 obtain⟨z5,l1⟩:=uG fs ss (by omega) b1 (.fz (.lst (fs.map iN))) .un fs [] .un (λ _ z=>z) .(17);simp only[z1G,z12] at l1;obtain⟨z6,l2⟩:=uH fs ss (by omega) b2 (.fz (.lst (ss.map iN))) z5 ss (fs.map λ f=>bst .(22)) .un (λ _ z=>z) .(17);have a1:=aR W V;have a2:=RC W V;have a3:=lR W V;have s1:=Ha W;have s2:=Ha V;have c1:BW (seqA (vF 1)) allT (Dy g) [.fz (rob W V),.fz (.tup .(11)),.un,.un,.un,.un,.un]=some (.lst ((ps.map (·.1)).map iN)):=by
  rw[z0p];exact Dp ps pN _ (by simp only[cK,DN,Q4]) (by omega) λ p _=>by
   have:=ixp0 p;simp only[cK,Dy,this,z0V]
 have c2:BW (seqA (vF 1)) allT (Dz g) [.fz (rob W V),.fz (.tup .(11)),.fz (.lst (fs.map iN)),.un,.un,.un,.un]=some (.lst ((ps.map (·.2)).map iN)):=by
  rw[z0p];exact Dp ps pN _ (by simp only[cK,DN,Q4]) (by omega) λ p _=>by
   have:=ixp1 p;simp only[cK,Dz,this,z0V]
 have u1:=lJ W.n (by omega) (ps.map (·.1));have u2:=lJ V.n (by omega) (ps.map (·.2));rw[ef] at u1;rw[es] at u2;obtain⟨m,mi,me⟩:=wL ((fs.map λ f=>bst .(22))++(ss.map λ s=>bst .(35))) (endl W V);have ad:addD (.int 1) (.int (m:Int))=some (.int ((1+m:Nat):Int)):=by
  rw[Kv];congr 2
 have mn:=lV (endl W V) (1+m);simp only[cK,CT,Fj,DN,Eg,a1,a2,s1,s2,c1,u1,c2,u2,l1,l2,a3,mi,ad,mn];rw[me];have fin:min (endl W V) (1+((fs.map λ f=>bst .(22))++(ss.map λ s=>bst .(35))).foldr min (endl W V))=stp W V (rkF W V) ps:=by
  unfold stp;simp only[ef,es,z0p,z0V,rwV]
 rw[fin]
theorem aV (d:D):(some d:Option D).bind keyP=keyP d:=rfl
theorem lY {W V:Wl}(hw:WOk W) (hv:WOk V) (h:Sp W V):∀ (n:Nat) (ps:List Pr),InW W V ps->SrtP ps->afS W V ps=true->(unp W.n (ps.map (·.1))).length<n->Ag n [rob W V,.tup .(11)]=some (.int (rkF W V ps:Nat))
 | 0,ps,_,_,_,hu=>by omega
 | n+1,ps,hi,hs,ha,hu=>by
  have nd:=lF hs;have hl:ps.length<=5:=z0E (qj nd hi ha) hw.n5;have lt:=lX (g:=Ag n) hw hv h hi nd hl λ f hf s hs hfw=>by
   have hq:=Gj hi (q:=(f,s)) ⟨(Gk.mp hf).1,(Gk.mp hs).1⟩;exact lY hw hv h n _ (S8 hw hv hi hf hs) (S7 hw hv hq) (by rw[XJ hw hv hq];exact Vq.mpr ⟨ha,hfw⟩) (z0X (Vs hw hv hi hf hs) (z4C hu))
  rw[<-aP hw hv hi ha] at lt;have a:=lQ W V;have m:=O7 (g:=CT (Ag n)) (ds:=[.tup .(11)]) (ob4 W V);have k:=lU (in5 hw hv hi) hl;have r:Bb (Ag n) [.fz (rob W V),.fz (.tup .(11))]=some (.rt (.int (rkF W V ps:Nat)) [.fz (rob W V),.fz (.tup .(11))]):=by
   unfold Bb;refine wQ (F:=FW W V) (ps:=ps) ?_ ?_ ?_ (uE W V ps).symm
   ·simp only[cK,a]
   ·simp only[e_v,e_vs,z23,z1R,aV,k]
   ·simp only[cK,G8,m,lt]
  show runF 2 2 (Bb (Ag n)) [rob W V,.tup .(11)]=_;simp only[cK,r]
theorem of_ok {W V:Wl}(hw:WOk W) (hv:WOk V) (h:Sp W V) (rows:List Pr) (hi:InW W V rows) (hl:rows.length<=5):Bm [rob W V,.lst .(15)]=some (.int (rkF W V (Aq rows):Nat)):=by
 have hi':=S6 hw hv hi;have hl':(Aq rows).length<=5:=z0E (cZ hw hv hi) hl;have t:=wM (in5 hw hv hi) (by omega);have k:=lU (in5 hw hv hi') hl';have a:=lQ W V;have a1:=aR W V;have a2:=RC W V;have af:=af_t W V h (Aq rows) (by omega);have h1:uF (fldD "reckoned") (vF 0) [.fz (rob W V),.fz .(10),.fz (.tup ((Aq rows).map pN))]=some (.mem (FW W V)):=by simp only[cK,a]
 have h2:(vF 2 [.fz (rob W V),.fz .(10),.fz (.tup ((Aq rows).map pN))]).bind keyP=some (Aq rows):=by simp only[e_v,e_vs,z23,z1R,aV,k]
 cases e:afS W V (Aq rows) with
 | true=>
  have ft:=lY hw hv h 8 (Aq rows) hi' (S7 hw hv hi) e (z3k (z0E (Vr _ _) hw.n5) (by decide));have m:=O7 (g:=Ag 8) (ds:=[.tup ((Aq rows).map pN)]) (ob1 W V);have b:=qw (c:="Ranks") (m:="rank_of_fitting") (ft:=trF (Am (El) (Aa (uF (fldD "one") (vF 0)) (Aa (uF (fldD "other") (vF 0)) (Aa (vF 2) (nilA)))))) (fr:=Du "Ranks" "rank_of_fitting" (Ag 8) (vF 0) (Aa (vF 2) (nilA))) h1 h2 (by simp only[cK,a1,a2,af,e]);simp only[cK,Bm,Fe,t];rw[b];simp only[cK,G8,m,ft]
 | false=>
  have b:=qx (c:="Ranks") (m:="rank_of_fitting") (ft:=trF (Am (El) (Aa (uF (fldD "one") (vF 0)) (Aa (uF (fldD "other") (vF 0)) (Aa (vF 2) (nilA)))))) (fr:=Du "Ranks" "rank_of_fitting" (Ag 8) (vF 0) (Aa (vF 2) (nilA))) h1 h2 (by simp only[cK,a1,a2,af,e]) (by rw[uE,Yh e];rfl) (by simp only[e_v,e_vs,z1R];rw[<-ob1 W V];rfl);simp only[cK,Bm,Fe,t];rw[b,Yh e];simp only[cK];rfl
def told (W V:Wl) (r:Nat):D:=if r=endl W V then .non else .int (r:Nat)
theorem qz {W V:Wl}(hw:WOk W) (hv:WOk V) (h:Sp W V) (rows:List Pr) (hi:InW W V rows) (hl:rows.length<=5):Ck [rob W V,.lst .(15)]=some (told W V (rkF W V (Aq rows))):=by
 have o:=of_ok hw hv h rows hi hl;have m:=O7 (g:=Bm) (ds:=[.lst .(15)]) (ob5 W V);have a:=lR W V;simp only[cK,Ck,Gd,G8,m,o,a,O5];unfold told
 by_cases c:rkF W V (Aq rows)=endl W V
 ·rw[decide_eq_true c,if_pos c];simp only[cK]
 ·rw[decide_eq_false c,if_neg c];simp only[cK]
abbrev rO (W:Wl):Str×Bool×D:=("one",false,wob W)
abbrev rV (V:Wl):Str×Bool×D:=("other",false,wob V)
abbrev rR (W V:Wl):Str×Bool×D:=("reckoned",false,.mem (FW W V))
abbrev rE (W V:Wl):Str×Bool×D:=("endless",false,.int (endl W V:Nat))
theorem XQ (W V:Wl) (x:Addr):CG x [wob W,wob V]=some [rO W,rV V,rR W V,rE W V]:=by
 have s1:=Ha W;have s2:=Ha V;have mx:=lW W.n V.n;have ad:addD (.int ((max W.n V.n:Nat):Int)) (.int 1)=some (.int (endl W V:Nat)):=by
  rw[Kv];congr 2
 have e4:bF addD (bF maxD (uF (fldD "size") (vF 1)) (uF (fldD "size") (vF 2))) .(12) [.fz (.adr x),.fz (wob W),.fz (wob V)]=some (.int (endl W V:Nat)):=by simp only[cK,s1,s2,mx,ad]
 have e3:memE Phi [.fz (.adr x),.fz (wob W),.fz (wob V)]=some (.mem (FW W V)):=by
  show some (D.mem (FF (wob W) (wob V)))=_;rw[yW]
 have st:Rt 3 x [wob W,wob V]=[.fz (.adr x),.fz (wob W),.fz (wob V)]:=rfl;unfold CG runI;rw[if_pos (show [wob W,wob V].length+1=3 from rfl),st];unfold Gu;have p1:Hz "one" (vF 1) [.fz (.adr x),.fz (wob W),.fz (wob V)] []=some ([.fz (.adr x),.fz (wob W),.fz (wob V)],[rO W]):=rfl;have p2:Hz "other" (vF 2) [.fz (.adr x),.fz (wob W),.fz (wob V)] [rO W]=some ([.fz (.adr x),.fz (wob W),.fz (wob V)],[rO W,rV V]):=by
  have l:z0m ("other":Str) [rO W]=none:=by rw[z0q,u1];rfl
  unfold Hz;show (if (z0m ("other":Str) [rO W]).isNone=true/\1<1000 then some (_,[rO W]++[rV V]) else none)=_;rw[l,if_pos ⟨rfl,by decide⟩];rfl
 have p3:Hz "reckoned" (memE Phi) [.fz (.adr x),.fz (wob W),.fz (wob V)] [rO W,rV V]=some ([.fz (.adr x),.fz (wob W),.fz (wob V)],[rO W,rV V,rR W V]):=by
  have l:z0m ("reckoned":Str) [rO W,rV V]=none:=by
   rw[z0q,u2];show z0m ("reckoned":Str) [rV V]=none;rw[z0q,u3];rfl
  unfold Hz;rw[e3];show (if (z0m ("reckoned":Str) [rO W,rV V]).isNone=true/\2<1000 then some (_,[rO W,rV V]++[rR W V]) else none)=_;rw[l,if_pos ⟨rfl,by decide⟩];rfl
 have p4:Hz "endless" (bF addD (bF maxD (uF (fldD "size") (vF 1)) (uF (fldD "size") (vF 2))) .(12)) [.fz (.adr x),.fz (wob W),.fz (wob V)] [rO W,rV V,rR W V]=some ([.fz (.adr x),.fz (wob W),.fz (wob V)],[rO W,rV V,rR W V,rE W V]):=by
  have l:z0m ("endless":Str) [rO W,rV V,rR W V]=none:=by
   rw[z0q,u4];show z0m ("endless":Str) [rV V,rR W V]=none;rw[z0q,u5];show z0m ("endless":Str) [rR W V]=none;rw[z0q,u6];rfl
  unfold Hz;rw[e4];show (if (z0m ("endless":Str) [rO W,rV V,rR W V]).isNone=true/\3<1000 then some (_,[rO W,rV V,rR W V]++[rE W V]) else none)=_;rw[l,if_pos ⟨rfl,by decide⟩];rfl
 rw[Fy,p1,Dr,Fy,p2,Dr,Fy,p3,Dr,Fy,p4,Dr,iz];rfl
theorem lZ (W V:Wl) (fs:FA) (ρ:Rho) (hf:fs ρ=some [wob W,wob V]):mkI "Ranks" CG fs ρ=some (rob W V):=by
 unfold mkI;rw[hf];simp only[z0J,XQ W V 0];rw[if_pos (λ x=>XQ W V x)];rfl
theorem q8 {W V:Wl}(hw:WOk W) (hv:WOk V) (h:Spk W V) (rows:List Pr) (hi:InW W V rows) (hl:rows.length<=5):Ve [wob W,wob V,.lst .(15)]=some (told W V (rkF W V (Aq rows))):=by
 have s:=Nb W V hw hv h rows hi;have t:=qz hw hv h.sp rows hi hl;have m:=O7 (g:=Ck) (ds:=[.lst .(15)]) (ob6 W V);have mk:=lZ W V (Aa (vF 0) (Aa (vF 1) nilA)) [.fz (wob W),.fz (wob V),.fz .(10)] (by simp only[cK]);simp only[cK,Ve,YX,s,G8,mk,m,t]
theorem rngN (n:Nat) (hn:n<=100):rngO (some .(1))=some ((z0e n).map iN):=by
 rw[U8 (n:Int) (by omega),z19];rfl
def prS (side t r:Nat):Pr:=if side=0 then (t,r) else (r,t)
def szS (W V:Wl) (side:Nat):Nat:=if side=0 then W.n else V.n
theorem lg (W V:Wl) (side:Nat):DQ [rob W V,.int (side:Int)]=some (.int (szS W V side:Nat)):=by
 have a1:=aR W V;have a2:=RC W V;have s1:=Ha W;have s2:=Ha V;have e:eqD false (.int (side:Int)) (.int 0)=some (.bl (decide (side=0))):=O5 side 0;simp only[cK,DQ,Ig,e];unfold szS
 by_cases c:side=0
 ·rw[decide_eq_true c,if_pos c];simp only[cK,a1,s1]
 ·rw[decide_eq_false c,if_neg c];simp only[cK,a2,s2]
theorem q9 (side t r:Nat):MJ [.int (side:Int),.int (t:Int),.int (r:Int)]=some (pN (prS side t r)):=by
 have e:eqD false (.int (side:Int)) (.int 0)=some (.bl (decide (side=0))):=O5 side 0;simp only[cK,MJ,QF,e];unfold prS
 by_cases c:side=0
 ·rw[decide_eq_true c,if_pos c];simp only[cK]
 ·rw[decide_eq_false c,if_neg c];simp only[cK]
theorem aW {W V:Wl}(hw:WOk W) (hv:WOk V) (side:Nat):szS W V side<=5:=by
 have:=hw.n5;have:=hv.n5;unfold szS;split<;>omega
theorem q_ (n:Nat):((z0e n).filter λ _=>true)=z0e n:=by simp
theorem XR (h:Nat->D) (src:FI) (hs:src ρ=some (rngD n)) (hn:n<=1000) (h2:∀ k,k<n->fe (ρ++[.fz (.int k)])=some (h k)):BW src allT fe ρ=some (.lst ((z0e n).map h)):=by
 have:=MN (ga:=allT) (λ _=>true) h src hs hn (λ _ _=>rfl) h2
 rwa [q_] at this
theorem rA {W V:Wl}(hw:WOk W) (hv:WOk V) (side t:Nat) (h1:side<=1):HD [rob W V,.int (side:Int),.int (t:Int)]=some (.lst (((z0e (szS W V (1-side))).map λ r=>prS side t r).map pN)):=by
 have sb:subD (.int 1) (.int (side:Int))=some (.int ((1-side:Nat):Int)):=by
  rw[Pu];congr 2;omega
 have sz:=lg W V (1-side);have rg:rngI (Am (DQ) (Aa (vF 0) (Aa (bF subD .(12) (vF 1)) (nilA)))) [.fz (rob W V),.fz (.int (side:Int)),.fz (.int (t:Int))]=some (rngD (szS W V (1-side))):=by
  have:=aW hw hv (1-side);have:=rngN (szS W V (1-side)) (by omega);simp only[cK,sb,sz,this];rfl
 have cm:=XR (fe:=JZ) (λ r=>pN (prS side t r)) _ rg (by have:=aW hw hv (1-side);omega) λ k _=>by
  have:=q9 side t k;simp only[cK,JZ,this]
 simp only[cK,HD,K9,cm,z0p,z0V]
theorem lr (l:List Pr) (q:Pr) (h:l.length<=1000):addD (.lst (l.map pN)) (.lst [pN q])=some (.lst ((l++[q]).map pN)):=by
 rw[Ro .(17)];simp
theorem Yk {W V:Wl}{side t r:Nat}(h1:side<=1) (ht:t<szS W V side) (hr:r<szS W V (1-side)):(prS side t r).1<W.n/\(prS side t r).2<V.n:=by
 unfold prS szS at *
 rcases z9V.mp h1 with rfl | rfl
 ·exact⟨ht,hr⟩
 ·exact⟨hr,ht⟩
theorem cg {W V:Wl}(hw:WOk W) (hv:WOk V) (h:Sp W V) (rows:List Pr) (hi:InW W V rows) (hl:rows.length<=4) (side t:Nat) (h1:side<=1) (ht:t<szS W V side) :
  Ga [rob W V,.lst .(15),.int (side:Int),.int (t:Int)]=some (.lst (((z0e (szS W V (1-side))).map λ r=>rkF W V (Aq (rows++[prS side t r]))).map iN)):=by
 have np:=rA hw hv side t h1;have sz:=aW hw hv (1-side);have cm:BW (seqA (Am (HD) (Aa (vF 0) (Aa (vF 2) (Aa (vF 3) (nilA)))))) allT Gs [.fz (rob W V),.fz .(10),.fz (.int (side:Int)),.fz (.int (t:Int))]=some (.lst (((z0e (szS W V (1-side))).map λ r=>prS side t r).map λ q=>iN (rkF W V (Aq (rows++[q]))))):=
  Dp _ pN _ (by simp only[cK,np,DN,Eg]) .(17) λ q hq=>by
   obtain⟨r,hr,rfl⟩:=z0g.mp hq;have o:=of_ok hw hv h (rows++[prS side t r]) (Gj hi (Yk h1 ht (z0w.mp hr))) .(17);have ad:=lr rows (prS side t r) (by omega);have m:=O7 (g:=Bm) (ds:=[.lst ((rows++[prS side t r]).map pN)]) (ob5 W V);simp only[cK,Gs,G8,ad,m,o]
 simp only[cK,Ga,Ih,cm,z0p,z0V]
theorem lw (a b:Nat):ltD (.int (a:Int)) (.int (b:Int))=some (.bl (decide (a<b))):=by
 rw[T4];congr 2;rw[decide_eq_decide];omega
theorem aX:∀ {l:List Nat},l≠[]->bst l∈l
 | [x],_=>by simp[bst]
 | x::y::l,_=>by
  have ih:=aX (l:=y::l) (by simp);show max x (bst (y::l))∈_
  rcases z9T x (bst (y::l)) with h | h
  ·rw[Nat.max_eq_right h];exact z0y _ ih
  ·rw[Nat.max_eq_left h];exact z0L ..
theorem wR (h:l≠[]):Z7 (.lst (l.map iN))=some (.int ((bst l:Nat):Int)):=by
 have m:=lO l;have n:¬ .(31)=[]:=by simpa using h
 change (Fl (l.map iN)).map _=_ at m;rw[S_] at m;change some (if .(31)=[] then D.int 0 else _)=_ at m;rw[if_neg n] at m;show (Fl (l.map iN)).bind _=_;rw[S_];show (if .(31)=[] then none else _)=_;rw[if_neg n];exact m
theorem yc (l:List Nat) (x:Nat) (h:x∈l):∃ j,j<l.length/\l[j]?=some x/\idxD (.lst (l.map iN)) (.int (x:Int))=some (.int (j:Nat)):=by
 have hm:(x:Int)∈l.map λ (t:Nat)=>(t:Int):=z0g.mpr ⟨x,h,rfl⟩;have hj:=z9I.mpr hm;have g:=z9K hj;have hj':=hj;rw[z06] at hj';refine⟨_,hj',?_,?_⟩
 ·rw[z0C hj'];rw[z7K] at g;rw[Int.ofNat.inj g]
 ·show (Fl (l.map iN)).bind _=_;rw[S_];show (if (x:Int)∈.(31) then _ else none)=_;rw[if_pos hm]
theorem wU (l:List Nat):lenE (.lst (l.map iN))=some (.int (l.length:Int)):=by
 show lenD (.lst (l.map iN))=_;rw[iY,z06]
abbrev rkB (W V:Wl) (rows:List Pr) (side t r:Nat):Nat:=rkF W V (Aq (rows++[prS side t r]))
theorem l_ {W V:Wl}(hw:WOk W) (hv:WOk V) (h:Spk W V) (rows:List Pr) (hi:InW W V rows) (hl:rows.length<=4) (side t:Nat) (h1:side<=1) (ht:t<szS W V side) :
  (szS W V (1-side)=0/\J_ [wob W,wob V,.lst .(15),.int (side:Int),.int (t:Int)]=some .non) ∨
  ∃ r,r<szS W V (1-side)/\(∀ r',r'<szS W V (1-side)->rkB W V rows side t r'<=rkB W V rows side t r)/\J_ [wob W,wob V,.lst .(15),.int (side:Int),.int (t:Int)]=some (.int (r:Int)):=by
 have s:=Nb W V hw hv h rows hi;have mk:=lZ W V (Aa (vF 0) (Aa (vF 1) nilA)) [.fz (wob W),.fz (wob V),.fz .(10),.fz (.int (side:Int)),.fz (.int (t:Int))] (by simp only[cK]);have ll:Ku .(10)=some .(10):=zE_ _;have b:=cg hw hv h.sp rows hi hl side t h1 ht;have sz:=lg W V side;have th:=Jq (szS W V side) t ht;have fin2:∀ d,Gb [rob W V,.lst .(15),.int (side:Int),.int (t:Int)]=some d->J_ [wob W,wob V,.lst .(15),.int (side:Int),.int (t:Int)]=some d:=λ d e=>by simp only[cK,J_,Vd,s,mk,ll,e]
 generalize el:((z0e (szS W V (1-side))).map λ r=>rkF W V (Aq (rows++[prS side t r])))=l at b;have ll':l.length=szS W V (1-side):=by rw[<-el];simp
 have ln:=wU l;have gt:=aH l.length
 by_cases c:szS W V (1-side)=0
 ·rw[decide_eq_false (by omega)] at gt;exact .inl ⟨c,fin2 _ (by simp only[cK,Gb,Hq,sz,th,b,ln,gt])⟩
 ·rw[decide_eq_true (by omega)] at gt;have nn:l≠[]:=λ z=>by rw[z] at ll';exact c ll'.symm
  have mx:=wR nn;obtain⟨j,hj,ej,ij⟩:=yc l (bst l) (aX nn);refine .inr ⟨j,by omega,λ r' hr'=>?_,fin2 _ (by simp only[cK,Gb,Hq,sz,th,b,ln,gt,mx,ij])⟩;have e:rkB W V rows side t j=bst l:=by
   rw[<-el,z0o,z4B (by omega)] at ej;have:=z0t ej;rw[el] at this;exact this
  rw[e];exact lG (by rw[<-el];exact z0g.mpr ⟨r',z0w.mpr hr',rfl⟩)
theorem ek_n (k a:Nat):eqK (k+1) (.int (a:Int)) (.int (a:Int))=some true:=by
 show some (eqV (.int (a:Int)) (.int (a:Int)))=_;simp[eqV]
theorem ye (k:Nat) (p:Pr):eqK (k+2) (pN p) (pN p)=some true:=by
 show (if 2=2 then allO (eqK (k+1)) [.int (p.1:Int),.int (p.2:Int)] [.int (p.1:Int),.int (p.2:Int)] else none)=_;rw[if_pos rfl];simp only[allO,ek_n];rfl
theorem mC (l:List Pr):eqD false (.lst (l.map pN)) (.lst (l.map pN))=some (.bl true):=by
 have h:∀ l:List Pr,allO (eqK 180) (l.map pN) (l.map pN)=some true:=λ l=>by
  induction l with
  | nil=>rfl
  | cons p r ih=>
   show (match eqK 180 (pN p) (pN p),allO (eqK 180) (r.map pN) (r.map pN) with | some a,some b=>some (a&&b) | _,_=>none)=_;rw[ih,ye 178 p];rfl
 unfold eqD;have:eqvD (.lst (l.map pN)) (.lst (l.map pN))=some true:=by
  show (if (l.map pN).length=(l.map pN).length then allO (eqK 180) (l.map pN) (l.map pN) else some false)=_;rw[if_pos rfl,h]
 rw[this];rfl
theorem yf (a:Nat):leD (.int 0) (.int (a:Int))=some (.bl true):=by
 rw[ZR,decide_eq_true (by omega)]
theorem mD (t n:Nat):Ff [.int (t:Int),.int (n:Int)]=some (.bl (decide (t<n))):=by
 have i1:isiD "int" (.int (t:Int))=some (.bl true):=rfl;have i2:isiD "bool" (.int (t:Int))=some (.bl false):=rfl;have l0:=yf t;have l1:=lw t n;simp only[cK,Ff,HX,i1,i2,l0,l1]
theorem RD (a b:D) (side:Nat) (h:side<=1):ixE (.lst [a,b]) (.int (side:Int))=some (if side=0 then a else b):=by
 rcases z9V.mp h with rfl | rfl
 ·rfl
 ·rfl
theorem aZ (side t r:Nat):(if side=0 then D.tup [.int (t:Int),.int (r:Int)] else .tup [.int (r:Int),.int (t:Int)])=pN (prS side t r):=by
 unfold prS;split<;>rfl
theorem aa (W V:Wl) (side:Nat):(if side=0 then D.int (W.n:Int) else .int (V.n:Int))=.int ((szS W V side:Nat):Int):=by
 unfold szS;split<;>rfl
theorem yg (i:Int):isND false (.int i)=some (.bl false):=rfl
theorem wV (a b:Nat):gtD (.int (a:Int)) (.int (b:Int))=some (.bl (decide (b<a))):=by
 rw[We];congr 2;rw[decide_eq_decide];omega
def hgt (W V:Wl) (r:Nat):Nat:=if r=endl W V then 99 else r
theorem rB {W V:Wl}(hw:WOk W) (hv:WOk V):endl W V<=6:=by
 have:=hw.n5;have:=hv.n5;unfold endl;omega
theorem wW {W V:Wl}(hw:WOk W) (hv:WOk V) {a b:Nat}(hb:b<=endl W V) (h:a<=b):hgt W V a<=hgt W V b:=by
 have:=rB hw hv;unfold hgt;split<;>split<;>omega
theorem Ud {W V:Wl}(hw:WOk W) (hv:WOk V) (h:Spk W V) (rows:List Pr) (hi:InW W V rows) (hl:rows.length<=4) (q:Pr) (hq:q.1<W.n/\q.2<V.n):Dn [wob W,wob V,.lst .(15),pN q]=some (.int (hgt W V (rkF W V (Aq (rows++[q]))):Nat)):=by
 have ad:=lr rows q (by omega);have rk:=q8 hw hv h (rows++[q]) (Gj hi hq) .(17);unfold hgt
 by_cases c:rkF W V (Aq (rows++[q]))=endl W V
 ·have t:told W V (rkF W V (Aq (rows++[q])))=.non:=by unfold told;rw[if_pos c]
  rw[t] at rk;have n:isND false .non=some (.bl true):=rfl;rw[if_pos c];simp only[cK,Dn,G3,ad,rk,n];rfl
 ·have t:told W V (rkF W V (Aq (rows++[q])))=.int (rkF W V (Aq (rows++[q])):Nat):=by unfold told;rw[if_neg c]
  rw[t] at rk;have n:=yg ((rkF W V (Aq (rows++[q])):Nat):Int);rw[if_neg c];simp only[cK,Dn,G3,ad,rk,n]
theorem Ue {W V:Wl}(hw:WOk W) (hv:WOk V) (h:Spk W V) (rows:List Pr) (hi:InW W V rows) (hl:rows.length<=4) (side t R:Nat) (h1:side<=1) (ht:t<szS W V side) (hb:∀ r,r<szS W V (1-side)->hgt W V (rkB W V rows side t r)<=R) (x5 x6:Slot) :
  ∀ (rs:List Nat) (z8:Slot),(∀ r∈rs,r<szS W V (1-side))->∃ y8,forF (tgB (Cr 8) G4) (rs.map iN) [.fz (wob W),.fz (wob V),.fz .(10),.fz (.int (side:Int)),.fz (.int (t:Int)),x5,x6,.fz (.int (R:Int)),z8]=some (.nx [.fz (wob W),.fz (wob V),.fz .(10),.fz (.int (side:Int)),.fz (.int (t:Int)),x5,x6,.fz (.int (R:Int)),y8])
 | [],z8,_=>⟨z8,rfl⟩
 | r::rs,z8,hr=>by
  have r1:=hr r (by simp);have ix:=RD (.tup [.int (t:Int),.int (r:Int)]) (.tup [.int (r:Int),.int (t:Int)]) side h1;rw[aZ] at ix;have hg:=Ud hw hv h rows hi hl (prS side t r) (Yk h1 ht r1);have lt:=hb r r1;have gt:=wV (hgt W V (rkB W V rows side t r)) R;rw[decide_eq_false (by omega)] at gt;have bd:G4 [.fz (wob W),.fz (wob V),.fz .(10),.fz (.int (side:Int)),.fz (.int (t:Int)),x5,x6,.fz (.int (R:Int)),.fz (iN r)]=some (.nx [.fz (wob W),.fz (wob V),.fz .(10),.fz (.int (side:Int)),.fz (.int (t:Int)),x5,x6,.fz (.int (R:Int)),.fz (iN r)]):=by
   simp only[cK,G4,ix,hg,gt]
  obtain⟨y8,ih⟩:=Ue hw hv h rows hi hl side t R h1 ht hb x5 x6 rs (.fz (iN r)) λ y hy=>hr y (by simp[hy]);refine⟨y8,?_⟩
  w_up
  rw[bd,Ed,ih]
theorem rC {W V:Wl}(hw:WOk W) (hv:WOk V) (h:Spk W V) (rows:List Pr) (hi:InW W V rows) (hl:rows.length<=4) (side t:Nat) (h1:side<=1) (ht:t<szS W V side):HF [wob W,wob V,.lst .(15),.int (side:Int),.int (t:Int)]=some (.bl true):=by
 have s1:=Ha W;have s2:=Ha V;have sb:subD (.int 1) (.int (side:Int))=some (.int ((1-side:Nat):Int)):=by
  rw[Pu];congr 2;omega
 have ix':=RD .(32) (.int (V.n:Int)) (1-side) (by omega);rw[aa] at ix';have e0:eqD false (.int ((szS W V (1-side):Nat):Int)) (.int 0)=some (.bl (decide (szS W V (1-side)=0))):=O5 _ 0
 rcases l_ hw hv h rows hi hl side t h1 ht with ⟨z,rp⟩ | ⟨r,hr,hm,rp⟩
 ·rw[decide_eq_true z] at e0;have n:isND false .non=some (.bl true):=rfl;simp only[cK,HF,JD,rp,s1,s2,sb,ix',e0,n]
 ·rw[decide_eq_false (by omega)] at e0;have th1:=mD r (szS W V (1-side));rw[decide_eq_true hr] at th1;have ix:=RD (.tup [.int (t:Int),.int (r:Int)]) (.tup [.int (r:Int),.int (t:Int)]) side h1;rw[aZ] at ix;have q:=Yk (W:=W) (V:=V) h1 ht hr;have hg:=Ud hw hv h rows hi hl (prS side t r) q;have rg:=rngN (szS W V (1-side)) (by have:=aW hw hv (1-side);omega);obtain⟨y8,lp⟩:=Ue hw hv h rows hi hl side t (hgt W V (rkB W V rows side t r)) h1 ht (λ r' hr'=>wW hw hv (yV hw hv (S6 hw hv (Gj hi q))) (hm r' hr')) (.fz (.int (r:Int))) (.fz (.lst [.int (W.n:Int),.int (V.n:Int)])) (z0e (szS W V (1-side))) .un λ r hr=>z0w.mp hr;have er:eqD false (.int (r:Int)) (.int (r:Int))=some (.bl true):=by rw[O5,decide_eq_true rfl]
  simp only[cK,HF,JD,rp,s1,s2,sb,ix',e0,th1,ix,hg,rg,lp,er]
theorem mF (i j:Int) (h:0<=j):shrD (.int i) (.int j)=some (.int (i/2^j.toNat)):=by
 show (if 0<=j then some (D.int (i/2^j.toNat)) else none)=_;rw[if_pos h]
theorem aj (i j:Int):Y7 (.int i) (.int j)=some (.int (z3K i j)):=zE_ _
structure Mk (n:Nat) (ws:List Str) (k:Nat) (ms:List (Str×List Nat)):Prop where
 nm:ms.map (·.1)=ws.take k
 ok:∀ p∈ms,p.2.Nodup/\p.2.length<=100/\∀ t∈p.2,t<n
structure Tk (n:Nat) (ws:List Str) (k:Nat) (ts:List .(43)):Prop where
 nm:ts.map (·.1)=ws.take k
 ok:∀ p∈ts,p.2.Nodup/\p.2.length<=100/\∀ q∈p.2,q.1<n/\q.2<n
theorem mG {α:Type}{ms:List (Str×α)}{k:Nat}(nm:ms.map (·.1)=ws.take k) (nd:ws.Nodup) (hk:k<ws.length):ws[k]∉ms.map (·.1):=by
 rw[nm];intro q;obtain⟨j,hj,e⟩:=z5n q;rw[z1g] at hj;rw[z8Y] at e;have:=cX nd (by omega) hk e;omega
theorem mH {α:Type}{ms:List (Str×α)}{k:Nat}(nm:ms.map (·.1)=ws.take k):ms.length<=k:=by
 have:=congrArg z0P nm;rw[z06,z1g] at this;omega
theorem cu (n:Nat) (hn:n<=5) (x2:Slot) (bits:Int) (ws:List Str) (hw:ws.length<=3) (nd:ws.Nodup) (k:Nat) (hk:k<ws.length) (ms:List (Str×List Nat)) (hm:Mk n ws k ms) (z6 z7 z8:Slot) :
  ∃ ms',F_ [.fz .(1),.fz (.lst (ws.map .str)),x2,.fz (.int bits),.ow (.dk (eM ms)),.fz (.int (k:Int)),z6,z7,z8]=some (.nx [.fz .(1),.fz (.lst (ws.map .str)),x2,.fz (.int bits),.ow (.dk (eM ms')),.fz (.int (k:Int)),z6,z7,z8])/\Mk n ws (k+1) ms':=by
 obtain⟨f,hf⟩:∃ f:Nat->Bool,∀ t,t<n->Fz ([.fz .(1),.fz (.lst (ws.map .str)),x2,.fz (.int bits),.ow (.dk (eM ms)),.fz (.int (k:Int)),z6,z7,z8]++[.fz (.int (t:Int))])=some (f t):=by
  refine⟨λ t=>decide (z3K (bits/2^(5*(k:Int)+t).toNat) 1=1),λ t ht=>?_⟩;have m1:=U6 5 (k:Int) (by decide);have s1:=mF bits (5*(k:Int)+t) (by omega);simp only[ciK,Fz,m1,s1,aj]
 have cm:BW (rngI (vF 0)) Fz K8 [.fz .(1),.fz (.lst (ws.map .str)),x2,.fz (.int bits),.ow (.dk (eM ms)),.fz (.int (k:Int)),z6,z7,z8]=some (lM ((z0e n).filter f)):=
  MN f iN _ (Vk n (by omega) _ 0 rfl) (by omega) hf λ t ht=>rfl
 have ix:=PJ hk;have nt:=mG hm.nm nd hk;have pk:Dc (.dk (eM ms)) (.str ws[k]) (lM ((z0e n).filter f))=some (.dk (eM (ms++[(ws[k],(z0e n).filter f)]))):=by
  rw[M5 _ _ _ (by have:=mH hm.nm;simp[eM];omega)];have:(.inr ws[k]:Key)∉(eM ms).map (·.1):=Iv lM nt;rw[putL_new this];simp[eM]
 refine⟨ms++[(ws[k],(z0e n).filter f)],?_,?_,?_⟩
 ·simp only[F_,Rw,e_b,e_v,z23,z1R,e_vs,Px,e_bs,ix,cm,M4,pk,Kw,z1i,z1j]
 ·rw[z0S,hm.nm,z7F];simp[hk]
 ·intro p hp
  rcases z0Y.mp hp with q | q
  ·exact hm.ok p q
  ·simp at q;subst q;refine⟨Iw n f,?_,λ t ht=>z0w.mp (z2r.mp ht).1⟩;have:=z7I f (z0e n);rw[z2B] at this;show ((z0e n).filter f).length<=100;omega
structure Fd (n k:Nat) (l:List (Nat×Nat)):Prop where
 nd:l.Nodup
 len:l.length<=5*k
 lt:∀ q∈l,q.1<k/\q.2<n
theorem Yl (n:Nat) (hn:n<=5) (x1 x2 x4 x6:Slot) (bits:Int) (k:Nat) (i:Nat) (hi:i<n) (l:List (Nat×Nat)) (hl:Fd n i l) :
  ∃ l',GD [.fz .(1),x1,x2,.fz (.int bits),x4,.fz (.int (k:Int)),x6,.fz (lT l),.fz (.int (i:Int))]=some (.nx [.fz .(1),x1,x2,.fz (.int bits),x4,.fz (.int (k:Int)),x6,.fz (lT l'),.fz (.int (i:Int))])/\Fd n (i+1) l':=by
 obtain⟨f,hf⟩:∃ f:Nat->Bool,∀ u,u<n->GC ([.fz .(1),x1,x2,.fz (.int bits),x4,.fz (.int (k:Int)),x6,.fz (lT l),.fz (.int (i:Int))]++[.fz (.int (u:Int))])=some (f u):=by
  refine⟨λ u=>decide (z3K (bits/2^(15+25*(k:Int)+5*(i:Int)+u).toNat) 1=1),λ u hu=>?_⟩;have m1:=U6 25 (k:Int) (by decide);have m2:=U6 5 (i:Int) (by decide);have s1:=mF bits (15+25*(k:Int)+5*(i:Int)+u) (by omega);simp only[ciK,GC,m1,m2,s1,aj]
 have cm:BW (rngI (vF 0)) GC IV [.fz .(1),x1,x2,.fz (.int bits),x4,.fz (.int (k:Int)),x6,.fz (lT l),.fz (.int (i:Int))]=some (.lst (((z0e n).filter f).map λ u=>pN (i,u))):=
  MN f (λ u=>pN (i,u)) _ (Vk n (by omega) _ 0 rfl) (by omega) hf λ u hu=>by simp only[cK,IV]
 have fl:=z7I f (z0e n);rw[z2B] at fl;have ad:addD (lT l) (.lst (((z0e n).filter f).map λ u=>pN (i,u)))=some (lT (l++((z0e n).filter f).map λ u=>(i,u))):=by
  show addD (.lst (l.map pN)) _=_;rw[Ro (by rw[z06,z06];have:=hl.len;omega)];simp[lT]
 refine⟨l++((z0e n).filter f).map λ u=>(i,u),?_,?_,?_,?_⟩
 ·simp only[GD,ZV,e_b,e_v,z23,z1R,e_vs,cm,e_bs,ad,U7,z1i,z1j]
 ·rw[z0W];refine⟨hl.nd,?_,λ a ha c hc e=>?_⟩
  ·rw[z2d,z1B];exact z7H (λ hab e=>hab (by simpa using e)) (Iw n f)
  ·subst e;obtain⟨u,_,rfl⟩:=z0g.mp hc;have:=(hl.lt _ ha).1;simp at this
 ·have:=hl.len;rw[z0N,z06];omega
 ·intro q hq
  rcases z0Y.mp hq with z | z
  ·have:=hl.lt q z;exact⟨by omega,this.2⟩
  ·obtain⟨u,hu,rfl⟩:=z0g.mp z;exact⟨by simp,z0w.mp (z2r.mp hu).1⟩
theorem Vt (h:(rngD n)[i]?=some d):i<n/\d=.int (i:Int):=by
 have hi:i<n:=by
  have:=(z1s.mp h).1
  rwa [Ky] at this
 refine⟨hi,?_⟩;unfold rngD at h;rw[z0o,z4B hi] at h;exact (z0t h).symm
theorem mJ (n:Nat) (hn:n<=5) (x1 x4:Slot) (bits:Int) (ws:List Str) (hw:ws.length<=3) (nd:ws.Nodup) (k:Nat) (hk:k<ws.length) (ts:List .(43)) (ht:Tk n ws k ts) (z7 z8:Slot) :
  ∃ ts' y7 y8,GF [.fz .(1),x1,.fz (.lst (ws.map .str)),.fz (.int bits),x4,.fz (.int (k:Int)),.ow (.dk (eT ts)),z7,z8]=some (.nx [.fz .(1),x1,.fz (.lst (ws.map .str)),.fz (.int bits),x4,.fz (.int (k:Int)),.ow (.dk (eT ts')),y7,y8])/\Tk n ws (k+1) ts':=by
 obtain⟨ρ',ef,l,z',rfl,hl⟩:=N5 (b:=tgB (Cr 8) GD) (ds:=rngD n) (ρ:=[.fz .(1),x1,.fz (.lst (ws.map .str)),.fz (.int bits),x4,.fz (.int (k:Int)),.ow (.dk (eT ts)),.fz (lT []),z8])
  (P:=λ i ρ=>∃ l z,ρ=[.fz .(1),x1,.fz (.lst (ws.map .str)),.fz (.int bits),x4,.fz (.int (k:Int)),.ow (.dk (eT ts)),.fz (lT l),z]/\Fd n i l) 0 ⟨[],_,rfl,by simp,by simp,by simp⟩ (by
   rintro i d ρ hd ⟨l,z,rfl,hl⟩;obtain⟨hi,rfl⟩:=Vt hd;obtain⟨l',e',hl'⟩:=Yl n hn x1 (.fz (.lst (ws.map .str))) x4 (.ow (.dk (eT ts))) bits k i hi l (by rw[z1Q] at hl;exact hl);refine⟨_,?_,l',.fz (.int (i:Int)),rfl,by rw[z1Q];exact hl'⟩;rw[e_tg,K1,Kz];simp only[z1i,z1j];exact e')
 rw[Ky,z1Q] at hl;have ix:=PJ hk;have nt:=mG ht.nm nd hk;have pk:Dc (.dk (eT ts)) (.str ws[k]) (lT l)=some (.dk (eT (ts++[(ws[k],l)]))):=by
  rw[M5 _ _ _ (by have:=mH ht.nm;simp[eT];omega)];have:(.inr ws[k]:Key)∉(eT ts).map (·.1):=Iv lT nt;rw[putL_new this];simp[eT]
 have rg:=Vk n (by omega) [.fz .(1),x1,.fz (.lst (ws.map .str)),.fz (.int bits),x4,.fz (.int (k:Int)),.ow (.dk (eT ts)),.fz (lT []),z8] 0 rfl;have l0:(D.lst [])=lT []:=rfl;refine⟨ts++[(ws[k],l)],.fz (lT l),z',?_,?_,?_⟩
 ·unfold GF;rw[Es,ZV,gr,gk,YC,U7,e_nx];simp only[z1i,z1j];rw[l0,Es,Rq,rg,Mz,ef,e_nx];simp only[Rw,e_b,e_v,z23,z1R,e_vs,Px,e_bs,ix,M4,pk,Kw,z1i,z1j]
 ·rw[z0S,ht.nm,z7F];simp[hk]
 ·intro p hp
  rcases z0Y.mp hp with q | q
  ·exact ht.ok p q
  ·simp at q;subst q;refine⟨hl.nd,by have:=hl.len;show l.length<=100;omega,hl.lt⟩
structure Wds (mws tws:List Str):Prop where
 m3:mws.length<=3
 t3:tws.length<=3
 nd:(mws++tws).Nodup
 mw:∀ x∈mws,Wd x
 tw:∀ x∈tws,Wd x
theorem TF (n:Nat) (hn:n<=5) (mws tws:List Str) (h:Wds mws tws) (bits:Int):∃ W:Wl,W.n=n/\mw W=mws/\tw W=tws/\WOk W/\Eh [.int (n:Int),.lst (mws.map .str),.lst (tws.map .str),.int bits]=some (wd W):=by
 have ndm:=(z0W.mp h.nd).1;have ndt:=(z0W.mp h.nd).2.1;have hm3:=h.m3;have ht3:=h.t3;obtain⟨ρ1,e1,ms,z5,rfl,hm⟩:=N5 (b:=tgB (Cr 5) F_) (ds:=rngD mws.length) (ρ:=[.fz .(1),.fz (.lst (mws.map .str)),.fz (.lst (tws.map .str)),.fz (.int bits),.ow (.dk (eM [])),.un,.un,.un,.un])
  (P:=λ i ρ=>∃ ms z,ρ=[.fz .(1),.fz (.lst (mws.map .str)),.fz (.lst (tws.map .str)),.fz (.int bits),.ow (.dk (eM ms)),z,.un,.un,.un]/\Mk n mws i ms) 0 ⟨[],_,rfl,by simp,by simp⟩ (by
   rintro i d ρ hd ⟨ms,z,rfl,hm⟩;obtain⟨hi,rfl⟩:=Vt hd;rw[z1Q] at hm ⊢;obtain⟨ms',e',hm'⟩:=cu n hn (.fz (.lst (tws.map .str))) bits mws hm3 ndm i hi ms hm .un .un .un;refine⟨_,?_,ms',.fz (.int (i:Int)),rfl,hm'⟩;rw[e_tg,K1,Kz];simp only[z1i,z1j];exact e')
 rw[Ky,z1Q] at hm;obtain⟨ρ2,e2,ts,y5,y7,y8,rfl,ht⟩:=N5 (b:=tgB (Cr 5) GF) (ds:=rngD tws.length) (ρ:=[.fz .(1),.fz (.lst (mws.map .str)),.fz (.lst (tws.map .str)),.fz (.int bits),.ow (.dk (eM ms)),z5,.ow (.dk (eT [])),.un,.un])
  (P:=λ i ρ=>∃ ts z y7 y8,ρ=[.fz .(1),.fz (.lst (mws.map .str)),.fz (.lst (tws.map .str)),.fz (.int bits),.ow (.dk (eM ms)),z,.ow (.dk (eT ts)),y7,y8]/\Tk n tws i ts) 0 ⟨[],_,_,_,rfl,by simp,by simp⟩ (by
   rintro i d ρ hd ⟨ts,z,y7,y8,rfl,hm⟩;obtain⟨hi,rfl⟩:=Vt hd;rw[z1Q] at hm ⊢;obtain⟨ts',w7,w8,e',hm'⟩:=mJ n hn (.fz (.lst (mws.map .str))) (.ow (.dk (eM ms))) bits tws ht3 ndt i hi ts hm y7 y8;refine⟨_,?_,ts',.fz (.int (i:Int)),w7,w8,rfl,hm'⟩;rw[e_tg,K1,Kz];simp only[z1i,z1j];exact e')
 rw[Ky,z1Q] at ht;have mn:ms.map (·.1)=mws:=by rw[hm.nm,z7G]
 have tn:ts.map (·.1)=tws:=by rw[ht.nm,z7G]
 refine⟨⟨n,ms,ts⟩,rfl,mn,tn,⟨hn,?_,?_,λ p hp=>h.mw _ (by rw[<-mn];exact z0g.mpr ⟨p,hp,rfl⟩),λ p hp=>h.tw _ (by rw[<-tn];exact z0g.mpr ⟨p,hp,rfl⟩),?_,hm.ok,ht.ok⟩,?_⟩
 ·have:=congrArg z0P mn;rw[z06] at this;show ms.length<=3;omega
 ·have:=congrArg z0P tn;rw[z06] at this;show ts.length<=3;omega
 ·show (ms.map (·.1)++ts.map (·.1)).Nodup;rw[mn,tn];exact h.nd
 ·have lm:lenE (.lst (mws.map .str))=some (.int (mws.length:Int)):=by rw[show lenE (.lst (mws.map .str))=some (.int ((mws.map D.str).length:Int)) from zE_ _,z06]
  have lt:lenE (.lst (tws.map .str))=some (.int (tws.length:Int)):=by rw[show lenE (.lst (tws.map .str))=some (.int ((tws.map D.str).length:Int)) from zE_ _,z06]
  have r1:rngO (some (.int (mws.length:Int)))=some (rngD mws.length):=by rw[U8 _ (by omega),z19]
  have r2:rngO (some (.int (tws.length:Int)))=some (rngD tws.length):=by rw[U8 _ (by omega),z19]
  have e0:(D.dk [])=.dk (eM []):=rfl;have e0':(D.dk [])=.dk (eT []):=rfl;have s1:setW 4 (kF (.dk [])) [.fz .(1),.fz (.lst (mws.map .str)),.fz (.lst (tws.map .str)),.fz (.int bits),.un,.un,.un,.un,.un]=some (.nx [.fz .(1),.fz (.lst (mws.map .str)),.fz (.lst (tws.map .str)),.fz (.int bits),.ow (.dk (eM [])),.un,.un,.un,.un]):=rfl;have s2:setW 6 (kF (.dk [])) [.fz .(1),.fz (.lst (mws.map .str)),.fz (.lst (tws.map .str)),.fz (.int bits),.ow (.dk (eM ms)),z5,.un,.un,.un]=some (.nx [.fz .(1),.fz (.lst (mws.map .str)),.fz (.lst (tws.map .str)),.fz (.int bits),.ow (.dk (eM ms)),z5,.ow (.dk (eT [])),.un,.un]):=rfl;unfold Eh J3;rw[Je,DK];simp only[z0u,z2y,z0c,z12,z3x,z3y,z3z,z3A,z3B,z1G];rw[Es,s1,e_nx,Es,Rq,Rp,e_u,e_v];simp only[z23,z1R];rw[e_vs,e_us,lm,r1,Mz,e1,e_nx,Es,s2,e_nx,Es,Rq,Rp,e_u,e_v];simp only[z23,z1R];rw[e_vs,e_us,lt,r2,Mz,e2,e_nx]
  ·rfl
  ·rfl
theorem yh (xs:List Nat) (j:Nat) (h:j<xs.length):ixD (.lst (xs.map iN)) (.int (j:Int))=some (iN xs[j]):=by
 show atI (xs.map iN) (j:Int)=_;rw[YD,z0o,z0C h];rfl
theorem rD (ds:List D) (k:Nat):slD (.lst ds) (some (k:Int)) none=some (.lst (ds.drop k)):=by
 show some (D.lst (cutD ds (some (k:Int)) none))=_;rw[gR]
theorem XS (n:D):∀ (k:Nat) (xs ys:List Nat) (i:Int) (f:Nat) (z:Slot),xs.length=k->xs.length+ys.length<=100->k<f->∃ i' zs z',zs.Perm xs ∧
  Gn Bf Bt f [.fz (.int i),.fz n,.fz (lN xs),.ow (lN ys),z]=some (.nx [.fz (.int i'),.fz n,.fz (.lst []),.ow (lN (ys++zs)),z'])
 | k,xs,ys,i,0,z,_,_,hf=>by omega
 | 0,xs,ys,i,f+1,z,hl,_,hf=>by
  have e:xs=[]:=z4v hl;subst e;refine⟨i,[],z,.nil,?_⟩;unfold Gn;have t:Bf [.fz (.int i),.fz n,.fz (lN []),.ow (lN ys),z]=some false:=by
   simp only[cK,Bf,lN];rfl
  rw[t,z1d];rfl
 | k+1,xs,ys,i,f+1,z,hl,hs,hf=>by
  have t:Bf [.fz (.int i),.fz n,.fz (lN xs),.ow (lN ys),z]=some true:=by
   have q:=wD xs;have:xs≠[]:=λ z=>by subst z;simp at hl
   simp only[cK,Bf,lN,q,this,ne_eq,not_false_eq_true]
  have j0:0<=i%(xs.length:Int):=z4L _ (by omega);have j1:i%(xs.length:Int)<xs.length:=z4M _ (by omega);obtain⟨j,ej⟩:∃ j:Nat,(j:Int)=i%(xs.length:Int):=⟨(i%(xs.length:Int)).toNat,by omega⟩;have hj:j<xs.length:=by omega
  have le:(xs.eraseIdx j).length=k:=by rw[List.length_eraseIdx_of_lt hj];omega
  have m1:=Fw i (xs.length:Int) (by omega);have m2:=Dq i (xs.length:Int) (by omega) (by omega);have ll:=iY (xs.map iN);rw[z06] at ll;have ix:=yh xs j hj;have ap:appL (.lst (ys.map iN)) (iN xs[j])=some (.lst ((ys++[xs[j]]).map iN)):=by rw[aA _ _ .(17),z0S];rfl
  have s1:=sl_l (xs.map iN) j;have a1:addD (.int (j:Int)) (.int 1)=some (.int ((j+1:Nat):Int)):=by rw[Kv];congr 2
  have s2:=rD (xs.map iN) (j+1);have ad:addD (.lst ((xs.map iN).take j)) (.lst ((xs.map iN).drop (j+1)))=some (lN (xs.eraseIdx j)):=by
   rw[Ro .(17),<-z3t,<-z5G,<-z0S,<-z9R];rfl
  obtain⟨i',zs,z',pz,ih⟩:=XS n k (xs.eraseIdx j) (ys++[xs[j]]) (i/(xs.length:Int)) f (.fz (.int (j:Int))) le (by rw[le,z0N];simp;omega) (by omega);refine⟨i',xs[j]::zs,z',(z5F _ pz).trans (IK xs j hj),?_⟩;have b2:Bt [.fz (.int i),.fz n,.fz (lN xs),.ow (lN ys),z]=some (.nx [.fz (.int (i/(xs.length:Int))),.fz n,.fz (lN (xs.eraseIdx j)),.ow (lN (ys++[xs[j]])),.fz (.int (j:Int))]):=by
   unfold Bt;simp only[cK,lN,ll,m1,m2,<-ej];simp only[cK,ix,ap,s1,a1,s2,ad,lN]
  unfold Gn;rw[t];show (match Bt _ with | some (.nx ρ')=>Gn Bf Bt f ρ' | some (.ct ρ')=>Gn Bf Bt f ρ' | some (.bk ρ')=>some (.nx ρ') | some (.rt e ρ')=>some (.rt e ρ') | none=>none)=_;rw[b2];show Gn Bf Bt f _=_;rw[ih,z6Q];rfl
theorem R9 (i:Int) (n:Nat) (hn:n<=5):∃ os:List Nat,os.Perm (z0e n)/\Hn [.int i,.int (n:Int)]=some (lN os):=by
 obtain⟨i',zs,z',pz,e⟩:=XS .(1) n (z0e n) [] i 60 .un (by simp) .(17) (by omega);rw[z1G] at e;refine⟨zs,pz,?_⟩;have r:=wF n (by omega);have e0:(D.lst [])=lN []:=rfl;simp only[dK,Hn,J4,r,e0,e]
def trn (os:List Nat) (W:Wl):Wl:=⟨W.n,W.ms.map λ p=>.(16),W.ts.map λ p=>.(8)⟩
theorem Ym (os:List Nat) (W:Wl):mw (trn os W)=mw W:=by simp[trn,mw,z0V]
theorem Yn (os:List Nat) (W:Wl):tw (trn os W)=tw W:=by simp[trn,tw,z0V]
theorem mK (W:Wl) (h:WOk W) (os:List Nat) (ho:os.Perm (z0e W.n)):WOk (trn os W):=by
 refine QR W h _ _ (by rw[show ((W.ms.map λ p=>.(16)).map (·.1))=W.ms.map (·.1) from Ym os W]) (by rw[show ((W.ts.map λ p=>.(8)).map (·.1))=W.ts.map (·.1) from Yn os W]) (λ p hp=>?_) (λ p hp=>?_)
 ·obtain⟨q,hq,rfl⟩:=z0g.mp hp;obtain⟨a1,_,a3⟩:=h.ml q hq;refine⟨?_,λ t ht=>?_⟩
  ·unfold z2d;rw[z1B];exact z2W (λ {a b} ha hb hab e=>hab (Sy ho (a3 a ha) (a3 b hb) e)) a1
  ·obtain⟨s,hs,rfl⟩:=z0g.mp ht;exact Vn ho (a3 s hs)
 ·obtain⟨q,hq,rfl⟩:=z0g.mp hp;obtain⟨a1,_,a3⟩:=h.tl q hq;refine⟨?_,λ t ht=>?_⟩
  ·unfold z2d;rw[z1B];refine z2W (λ {a b} ha hb hab e=>hab ?_) a1;have e1:os.getD a.1 0=os.getD b.1 0:=congrArg Prod.fst e;have e2:os.getD a.2 0=os.getD b.2 0:=congrArg Prod.snd e;exact z3d (Sy ho (a3 a ha).1 (a3 b hb).1 e1) (Sy ho (a3 a ha).2 (a3 b hb).2 e2)
  ·obtain⟨s,hs,rfl⟩:=z0g.mp ht;exact⟨Vn ho (a3 s hs).1,Vn ho (a3 s hs).2⟩
theorem yj {W:Wl}(h:WOk W):(mw W).Nodup:=(z0W.mp h.nd).1
theorem yl {W:Wl}(h:WOk W):(tw W).Nodup:=(z0W.mp h.nd).2.1
theorem wX {W:Wl}(ms:List (Str×List Nat)) (w:Str) (l:List Nat) (h:w∉ms.map (·.1)) (hl:ms.length<=100):Dc (.dk (eM ms)) (.str w) (lM l)=some (.dk (eM (ms++[(w,l)]))):=by
 rw[M5 _ _ _ (by simp[eM];omega)];have:(.inr w:Key)∉(eM ms).map (·.1):=Iv lM h;rw[putL_new this];simp[eM]
theorem wZ {W:Wl}(ms:List .(43)) (w:Str) (l:List (Nat×Nat)) (h:w∉ms.map (·.1)) (hl:ms.length<=100):Dc (.dk (eT ms)) (.str w) (lT l)=some (.dk (eT (ms++[(w,l)]))):=by
 rw[M5 _ _ _ (by simp[eT];omega)];have:(.inr w:Key)∉(eT ms).map (·.1):=Iv lT h;rw[putL_new this];simp[eT]
theorem mL (W:Wl) (h:WOk W) (os:List Nat) (ho:os.length=W.n) (x4:Slot):∀ (r p:List (Str×List Nat)) (z:Slot),W.ms=p++r ->
  ∃ z',forF (tgB (Cr 3) Ez) ((r.map (·.1)).map .str) [.fz (wd W),.fz (lN os),.ow (.dk (eM (p.map λ p=>.(16)))),z,x4]=some (.nx [.fz (wd W),.fz (lN os),.ow (.dk (eM ((p++r).map λ p=>.(16)))),z',x4])
 | [],p,z,e=>⟨z,by rw[z1d];rfl⟩
 | q::r,p,z,e=>by
  have hq:q∈W.ms:=by rw[e];simp
  have i1:=ixw1 W;have a:=at_M W h hq;have nd:=yj h;have ml:=h.ml q hq;have nq:q.1∉p.map (·.1):=by
   have:(W.ms.map (·.1)).Nodup:=nd;rw[e,z0S,z0W] at this;exact λ z=>this.2.2 q.1 z q.1 (by simp) rfl
  have cm:BW (seqA (bF ixE (bF ixE (vF 0) .(12)) (vF 3))) allT HN [.fz (wd W),.fz (lN os),.ow (.dk (eM (p.map λ p=>.(16)))),.fz (.str q.1),x4]=some (.lst ((q.2.map λ t=>os.getD t 0).map iN)):=by
   rw[z0p];refine Dp q.2 iN _ ?_ (by omega) λ t ht=>?_
   ·simp only[cK,i1,a,DN];exact Eg _
   ·have:=Vl os t (by have:=ml.2.2 t ht;omega);simp only[cK,HN,this,z0V]
  have pk:=wX (W:=W) (p.map λ p=>.(16)) q.1 (q.2.map λ t=>os.getD t 0) (by rw[z0p];exact nq) (by
   have:=congrArg z0P e;rw[z0N,z0u] at this;have:=h.m3;rw[z06];omega)
  unfold lM at pk;have b:Ez [.fz (wd W),.fz (lN os),.ow (.dk (eM (p.map λ p=>.(16)))),.fz (.str q.1),x4]=some (.nx [.fz (wd W),.fz (lN os),.ow (.dk (eM ((p++[q]).map λ p=>.(16)))),.fz (.str q.1),x4]):=by
   rw[z0S];simp only[Ez,Rw,e_v,z23,z1R,e_vs,Px,cm,M4,pk,Kw,z1i,z1j,z0c,z12]
  obtain⟨z',ih⟩:=mL W h os ho x4 r (p++[q]) (.fz (.str q.1)) (by rw[e];simp);refine⟨z',?_⟩;rw[z0c,z0c,Fo,e_tg,K1,Kz];simp only[z1i,z1j];rw[b,Ed,ih];simp
theorem mQ (W:Wl) (h:WOk W) (os:List Nat) (ho:os.length=W.n) (x2:Slot):∀ (r p:List .(43)) (z:Slot),W.ts=p++r ->
  ∃ z',forF (tgB (Cr 3) E_) ((r.map (·.1)).map .str) [.fz (wd W),.fz (lN os),x2,z,.ow (.dk (eT (p.map λ p=>.(8))))]=some (.nx [.fz (wd W),.fz (lN os),x2,z',.ow (.dk (eT ((p++r).map λ p=>.(8))))])
 | [],p,z,e=>⟨z,by rw[z1d];rfl⟩
 | q::r,p,z,e=>by
  have hq:q∈W.ts:=by rw[e];simp
  have i1:=ixw2 W;have a:=at_T W h hq;have nd:=yl h;have ml:=h.tl q hq;have nq:q.1∉p.map (·.1):=by
   have:(W.ts.map (·.1)).Nodup:=nd;rw[e,z0S,z0W] at this;exact λ z=>this.2.2 q.1 z q.1 (by simp) rfl
  have cm:BW (seqA (bF ixE (bF ixE (vF 0) (kF (.int 2))) (vF 3))) allT HQ [.fz (wd W),.fz (lN os),x2,.fz (.str q.1),.ow (.dk (eT (p.map λ p=>.(8))))]=some (.lst ((q.2.map λ q=>.(33)).map pN)):=by
   rw[z0p];refine Dp q.2 pN _ ?_ (by omega) λ t ht=>?_
   ·simp only[cK,i1,a,DN];exact Eg _
   ·have h1:=Vl os t.1 (by have:=(ml.2.2 t ht).1;omega);have h2:=Vl os t.2 (by have:=(ml.2.2 t ht).2;omega);have j0:=ixp0 t;have j1:=ixp1 t;simp only[cK,HQ,j0,j1,h1,h2,z0V]
  have pk:=wZ (W:=W) (p.map λ p=>.(8)) q.1 (q.2.map λ q=>.(33)) (by rw[z0p];exact nq) (by
   have:=congrArg z0P e;rw[z0N,z0u] at this;have:=h.t3;rw[z06];omega)
  unfold lT at pk;have b:E_ [.fz (wd W),.fz (lN os),x2,.fz (.str q.1),.ow (.dk (eT (p.map λ p=>.(8))))]=some (.nx [.fz (wd W),.fz (lN os),x2,.fz (.str q.1),.ow (.dk (eT ((p++[q]).map λ p=>.(8))))]):=by
   rw[z0S];simp only[E_,Rw,e_v,z23,z1R,e_vs,Px,cm,M4,pk,Kw,z1i,z1j,z0c,z12]
  obtain⟨z',ih⟩:=mQ W h os ho x2 r (p++[q]) (.fz (.str q.1)) (by rw[e];simp);refine⟨z',?_⟩;rw[z0c,z0c,Fo,e_tg,K1,Kz];simp only[z1i,z1j];rw[b,Ed,ih];simp
theorem dB (W:Wl) (h:WOk W) (os:List Nat) (ho:os.Perm (z0e W.n)):Gy [wd W,lN os]=some (wd (trn os W)):=by
 have hl:os.length=W.n:=by rw[ho.length_eq,z2B]
 obtain⟨z1,l1⟩:=mL W h os hl .un W.ms [] .un rfl;obtain⟨z2,l2⟩:=mQ W h os hl (.ow (.dk (eM (W.ms.map λ p=>.(16))))) W.ts [] z1 rfl;rw[z1G] at l1 l2;have i0:=ixw0 W;have i1:=ixw1 W;have i2:=ixw2 W;have q1:N7 (some .(26))=some ((W.ms.map (·.1)).map .str):=by rw[N8,aL]
 have q2:N7 (some .(25))=some ((W.ts.map (·.1)).map .str):=by rw[N8,aM]
 have s1:setW 2 (kF (.dk [])) [.fz (wd W),.fz (lN os),.un,.un,.un]=some (.nx [.fz (wd W),.fz (lN os),.ow (.dk (eM (([]:List (Str×List Nat)).map λ p=>.(16)))),.un,.un]):=rfl;have s2:setW 4 (kF (.dk [])) [.fz (wd W),.fz (lN os),.ow (.dk (eM (W.ms.map λ p=>.(16)))),z1,.un]=some (.nx [.fz (wd W),.fz (lN os),.ow (.dk (eM (W.ms.map λ p=>.(16)))),z1,.ow (.dk (eT (([]:List .(43)).map λ p=>.(8))))]):=rfl;unfold Gy JV;rw[Je (show [wd W,lN os].length=2 from rfl),DK];simp only[z0u,z2y,z0c,z12,z3x,z3y,z3z,z3A,z3B,z1G];rw[Es,s1,e_nx,Es,Rq];simp only[DN,e_b,e_v,z23,z1R,e_vs,e_k,e_bs,i1,q1,Mz];rw[l1,e_nx,Es,s2,e_nx,Es,Rq];simp only[DN,e_b,e_v,z23,z1R,e_vs,e_k,e_bs,i2,q2,Mz];rw[l2,e_nx];simp only[dK,i0];rfl
def oth {α:Type} [DecidableEq α] (t:α) (l:List α):List α:=if t∈l then l.filter (λ x=>!decide (x=t)) else l++[t]
theorem mR {α:Type} [DecidableEq α] {t:α}{l:List α}(h:l.Nodup):(oth t l).Nodup:=by
 unfold oth;split
 ·exact z7E z9M h
 ·rename_i c;rw[z0W];exact⟨h,by simp,λ a ha b hb e=>by simp at hb;subst hb;subst e;exact c ha⟩
theorem ak {α:Type} [DecidableEq α] {t x:α}{l:List α}(h:x∈oth t l):x∈l∨x=t:=by
 unfold oth at h;split at h
 ·exact .inl (z2r.mp h).1
 ·rcases z0Y.mp h with h | h
  ·exact .inl h
  ·exact .inr (by simpa using h)
theorem rF {α:Type}(l:List α) (e:α->D) (f:α->Bool) (hs:src ρ=some (l.map e)) (hn:l.length<=1000) (h1:∀ x∈l,ga (ρ++[.fz (e x)])=some (f x)) (h2:∀ x∈l,fe (ρ++[.fz (e x)])=some (e x)):BW src ga fe ρ=some (.lst ((l.filter f).map e)):=by
 have c:∀ m:List α,(∀ x∈m,x∈l)->Jb ρ ga fe (m.map e)=some ((m.filter f).map e):=by
  intro m
  induction m with
  | nil=>intro _;rfl
  | cons k r ih=>
   intro hl;rw[z0c,Jz,h1 k (hl k (by simp)),h2 k (hl k (by simp)),ih λ d hd=>hl d (by simp[hd]),z9L];cases f k<;>rfl
 exact Q0 hs (by rw[z06];omega) (c l λ _ h=>h)
theorem ao {α:Type} [DecidableEq α] (e:α->D) (t:α) (l:List α) (hl:l.length<=1000) (inE:inF false (e t) (.lst (l.map e))=some (.bl (decide (t∈l)))) (neE:∀ x y,eqD true (e x) (e y)=some (.bl (!decide (x=y)))):Dg [.lst (l.map e),e t]=some (.lst ((oth t l).map e)):=by
 have cm:BW (seqA (vF 0)) IW Ia [.fz (.lst (l.map e)),.fz (e t)]=some (.lst ((l.filter λ x=>!decide (x=t)).map e)):=
  rF l e _ (by simp only[cK,DN,Eg]) hl (λ x _=>by
   have:=neE x t;simp only[cK,IW,this]) λ x _=>by simp only[cK,Ia]
 simp only[cK,Dg,J5,inE];unfold oth
 by_cases c:t∈l
 ·rw[decide_eq_true c,if_pos c];simp only[cK,cm]
 ·rw[decide_eq_false c,if_neg c];have ad:addD (.lst (l.map e)) (.lst [e t])=some (.lst ((l++[t]).map e)):=by rw[Ro .(17)];simp
  simp only[cK,ad]
theorem ym (a b:Nat):eqD true (.int (a:Int)) (.int (b:Int))=some (.bl (!decide (a=b))):=by rw[ZS,Vo]
theorem yo (x y:Pr):eqD true (pN x) (pN y)=some (.bl (!decide (x=y))):=by
 have e:∀ a b:Nat,eqK 180 (.int (a:Int)) (.int (b:Int))=some (decide (a=b)):=λ a b=>by
  show some (eqV (.int (a:Int)) (.int (b:Int)))=_
  by_cases z:a=b
  ·subst z;simp[eqV]
  ·have:¬ ((a:Int)=(b:Int)):=by omega
   simp[eqV,z,this]
 have:eqvD (pN x) (pN y)=some (decide (x=y)):=by
  show (if 2=2 then allO (eqK 180) [.int (x.1:Int),.int (x.2:Int)] [.int (y.1:Int),.int (y.2:Int)] else none)=_;rw[if_pos rfl];simp only[allO,e];obtain⟨a,b⟩:=x;obtain⟨c,d⟩:=y
  by_cases h1:a=c<;>by_cases h2:b=d<;>simp[h1,h2]
 unfold eqD;rw[this];rfl
theorem rG (t:Nat) (l:List Nat) (hl:l.length<=1000):Dg [lM l,.int (t:Int)]=some (lM (oth t l)):=ao iN t l hl (in_i t l) ym
theorem rH (t:Pr) (l:List Pr) (hl:l.length<=1000):Dg [lT l,pN t]=some (lT (oth t l)):=ao pN t l hl (by rw[in_p t l];congr 2;rw[decide_eq_decide]) yo
def chg {α:Type}(w:Str) (l:α) (ms:List (Str×α)):List (Str×α):=ms.map λ p=>(p.1,if p.1=w then l else p.2)
theorem Vu {α:Type}(w:Str) (l:α) (ms:List (Str×α)):(chg w l ms).map (·.1)=ms.map (·.1):=by simp[chg,z0V]
theorem aq {α:Type}(f:α->D) (w:Str) (l:α) (ms:List (Str×α)) (h:w∈ms.map (·.1)) (hl:ms.length<=100):Dc (.dk (ms.map λ p=>((.inr p.1:Key),f p.2))) (.str w) (f l)=some (.dk ((chg w l ms).map λ p=>((.inr p.1:Key),f p.2))):=by
 rw[M5 _ _ _ .(17)];have g:∀ ms:List (Str×α),w∈ms.map (·.1)->(getK (.inr w:Key) (ms.map λ p=>((.inr p.1:Key),f p.2))).isSome=true:=λ ms=>by
  induction ms with
  | nil=>intro h;simp at h
  | cons p r ih=>
   intro h;rw[z0c];show (if (.inr p.1:Key)=.inr w then some (f p.2) else getK (.inr w:Key) (r.map λ p=>((.inr p.1:Key),f p.2))).isSome=true;split
   ·rfl
   ·rename_i c;refine ih ?_
    rcases z0j.mp h with h | h
    ·exact absurd (by rw[h]) c
    ·exact h
 have r:∀ ms:List (Str×α),repK (.inr w:Key) (f l) (ms.map λ p=>((.inr p.1:Key),f p.2))=(chg w l ms).map λ p=>((.inr p.1:Key),f p.2):=λ ms=>by
  induction ms with
  | nil=>rfl
  | cons p r ih=>
   rw[z0c];show ((.inr p.1:Key),if (.inr p.1:Key)=.inr w then f l else f p.2)::repK (.inr w:Key) (f l) (r.map λ p=>((.inr p.1:Key),f p.2))=_;rw[ih];show _=((.inr p.1:Key),f (if p.1=w then l else p.2))::(chg w l r).map λ p=>((.inr p.1:Key),f p.2);congr 2
   by_cases c:p.1=w
   ·rw[if_pos c,if_pos (by rw[c])]
   ·rw[if_neg c,if_neg (λ z=>c (by simpa using z))]
 unfold putL;rw[g ms h,if_pos rfl,r]
theorem au {α:Type}{w:Str}{l:α}{ms:List (Str×α)}{p:Str×α}(h:p∈chg w l ms):p∈ms∨p.2=l:=by
 unfold chg at h;obtain⟨q,hq,rfl⟩:=z0g.mp h
 by_cases c:q.1=w
 ·exact .inr (by show (if q.1=w then l else q.2)=l;rw[if_pos c])
 ·exact .inl (by rw[if_neg c];exact hq)
structure Lk (W V:Wl):Prop where
 ok:WOk V
 n:V.n=W.n
 mm:mw V=mw W
 tt:tw V=tw W
theorem mU (k:List (Key×D)):lenE (.dk k)=some (.int (k.length:Int)):=Zj k
theorem Yo (W:Wl) (h:WOk W) (c:Int):∃ V,Lk W V/\CK [wd W,.int c]=some (wd V):=by
 have n5:=h.n5;have m3:=h.m3;have t3:=h.t3;have mx:=lW W.n 1;have mx:maxD .(32) (.int 1)=some (.int ((max W.n 1:Nat):Int)):=mx;have md1:=Fw c ((max W.n 1:Nat):Int) (by omega);have fd5:=Dq c 5 (by decide) (by decide);have md2:=Fw (c/5) ((max W.n 1:Nat):Int) (by omega);have fd25:=Dq c 25 (by decide) (by decide);have en:eqD false .(32) (.int 0)=some (.bl (decide (W.n=0))):=O5 W.n 0;have lm:lenE .(26)=some (.int (W.ms.length:Int)):=by rw[mU];simp[eM]
 have lt:lenE .(25)=some (.int (W.ts.length:Int)):=by rw[mU];simp[eT]
 have ad:=Kv (W.ms.length:Int) (W.ts.length:Int);have asg:∀ ρ:Rho,tupG 3 (BX 2 (BX 3 (BX 4 nilG))) (wd W) ρ=some (((ρ.set 2 (.fz .(32))).set 3 (.fz .(26))).set 4 (.fz .(25))):=λ ρ=>rfl;have e_asg:∀ (f:FE) (g:FG) (ρ:Rho) (d:D),f ρ=some d->asgF f g ρ=(g d ρ).map .nx:=λ f g ρ d e=>by unfold asgF;rw[e];rfl
 obtain⟨a,ea⟩:∃ a:Nat,(a:Int)=c%((max W.n 1:Nat):Int):=⟨(c%((max W.n 1:Nat):Int)).toNat,by have:=z4L c (show ((max W.n 1:Nat):Int)≠0 by omega);omega⟩;obtain⟨b,eb⟩:∃ b:Nat,(b:Int)=c/5%((max W.n 1:Nat):Int):=⟨(c/5%((max W.n 1:Nat):Int)).toNat,by have:=z4L (c/5) (show ((max W.n 1:Nat):Int)≠0 by omega);omega⟩;have ha:W.n≠0->a<W.n:=λ z=>by have:=z4M c (show 0<((max W.n 1:Nat):Int) by omega);omega
 have hb:W.n≠0->b<W.n:=λ z=>by have:=z4M (c/5) (show 0<((max W.n 1:Nat):Int) by omega);omega
 rw[<-ea] at md1;rw[<-eb] at md2
 by_cases c0:W.n=0
 ·refine⟨W,⟨h,rfl,rfl,rfl⟩,?_⟩;rw[decide_eq_true c0] at en;unfold CK DP;rw[Je (show [wd W,.int c].length=2 from rfl),DK,Es,e_asg _ _ _ (wd W) rfl,asg];simp only[cK,mx,md1,fd5,md2,en]
 ·rw[decide_eq_false c0] at en
  by_cases cz:W.ms.length+W.ts.length=0
  ·refine⟨W,⟨h,rfl,rfl,rfl⟩,?_⟩;have ez:eqD false (.int ((W.ms.length:Int)+(W.ts.length:Int))) (.int 0)=some (.bl true):=by rw[Qd,decide_eq_true (by omega)]
   unfold CK DP;rw[Je (show [wd W,.int c].length=2 from rfl),DK,Es,e_asg _ _ _ (wd W) rfl,asg];simp only[cK,mx,md1,fd5,md2,en,lm,lt,ad,ez]
  ·have ez:eqD false (.int ((W.ms.length:Int)+(W.ts.length:Int))) (.int 0)=some (.bl false):=by rw[Qd,decide_eq_false (by omega)]
   have md3:=Fw (c/25) ((W.ms.length:Int)+(W.ts.length:Int)) (by omega);obtain⟨j,ej⟩:∃ j:Nat,(j:Int)=c/25%((W.ms.length:Int)+(W.ts.length:Int)):=⟨(c/25%((W.ms.length:Int)+(W.ts.length:Int))).toNat,by have:=z4L (c/25) (show (W.ms.length:Int)+(W.ts.length:Int)≠0 by omega);omega⟩;have hj:j<W.ms.length+W.ts.length:=by have:=z4M (c/25) (show 0<(W.ms.length:Int)+(W.ts.length:Int) by omega);omega
   rw[<-ej] at md3;have dm:Tz .(26)=some .(26):=rfl;have dt:Tz .(25)=some .(25):=rfl;have ltj:ltD (.int (j:Int)) (.int (W.ms.length:Int))=some (.bl (decide (j<W.ms.length))):=lw j W.ms.length
   by_cases cj:j<W.ms.length
   ·rw[decide_eq_true cj] at ltj;have hk:j<(W.ms.map (·.1)).length:=by rw[z06];exact cj
    have lf:Ku .(26)=some (.lst ((W.ms.map (·.1)).map .str)):=by rw[aD,aL]
    have ix:=PJ hk;have hp:W.ms[j]∈W.ms:=z1b cj;have ew:(W.ms.map (·.1))[j]=(W.ms[j]).1:=by rw[z7K]
    rw[ew] at ix;have at':=at_M W h hp;have ml:=h.ml _ hp;have ot:=rG a (W.ms[j]).2 (by omega);have pc:Dc .(26) (.str (W.ms[j]).1) (lM (oth a (W.ms[j]).2))=some (.dk (eM (chg (W.ms[j]).1 (oth a (W.ms[j]).2) W.ms))):=aq lM _ _ W.ms (z0g.mpr ⟨_,hp,rfl⟩) (by omega);refine⟨⟨W.n,chg (W.ms[j]).1 (oth a (W.ms[j]).2) W.ms,W.ts⟩,⟨QR W h _ _ (by rw[Vu]) (.refl _) (λ p hp=>?_) (λ p hp=>⟨(h.tl p hp).1,(h.tl p hp).2.2⟩),rfl,Vu _ _ _,rfl⟩,?_⟩
    ·rcases au hp with z | z
     ·exact⟨(h.ml p z).1,(h.ml p z).2.2⟩
     ·rw[z];refine⟨mR ml.1,λ t ht=>?_⟩
      rcases ak ht with y | y
      ·exact ml.2.2 t y
      ·rw[y];exact ha c0
    ·unfold CK DP;rw[Je (show [wd W,.int c].length=2 from rfl),DK,Es,e_asg _ _ _ (wd W) rfl,asg];simp only[cK,mx,md1,fd5,md2,en,lm,lt,ad,ez,fd25,md3,dm,dt,ltj,lf,ix,at',ot,Rw,M4,pc];rfl
   ·rw[decide_eq_false cj] at ltj;have sj:j-W.ms.length<W.ts.length:=by omega
    have sb:subD (.int (j:Int)) (.int (W.ms.length:Int))=some (.int ((j-W.ms.length:Nat):Int)):=by rw[Pu];congr 2;omega
    have hk:j-W.ms.length<(W.ts.map (·.1)).length:=by rw[z06];exact sj
    have lf:Ku .(25)=some (.lst ((W.ts.map (·.1)).map .str)):=by rw[aD,aM]
    have ix:=PJ hk;have hp:W.ts[j-W.ms.length]∈W.ts:=z1b sj;have ew:(W.ts.map (·.1))[j-W.ms.length]=(W.ts[j-W.ms.length]).1:=by rw[z7K]
    rw[ew] at ix;have at':=at_T W h hp;have ml:=h.tl _ hp;have ot:=rH (a,b) (W.ts[j-W.ms.length]).2 (by omega);have pc:Dc .(25) (.str (W.ts[j-W.ms.length]).1) (lT (oth (a,b) (W.ts[j-W.ms.length]).2))=some (.dk (eT (chg (W.ts[j-W.ms.length]).1 (oth (a,b) (W.ts[j-W.ms.length]).2) W.ts))):=aq lT _ _ W.ts (z0g.mpr ⟨_,hp,rfl⟩) (by omega);refine⟨⟨W.n,W.ms,chg (W.ts[j-W.ms.length]).1 (oth (a,b) (W.ts[j-W.ms.length]).2) W.ts⟩,⟨QR W h _ _ (.refl _) (by rw[Vu]) (λ p hp=>⟨(h.ml p hp).1,(h.ml p hp).2.2⟩) (λ p hp=>?_),rfl,rfl,Vu _ _ _⟩,?_⟩
    ·rcases au hp with z | z
     ·exact⟨(h.tl p z).1,(h.tl p z).2.2⟩
     ·rw[z];refine⟨mR ml.1,λ t ht=>?_⟩
      rcases ak ht with y | y
      ·exact ml.2.2 t y
      ·rw[y];exact⟨ha c0,hb c0⟩
    ·unfold CK DP;rw[Je (show [wd W,.int c].length=2 from rfl),DK,Es,e_asg _ _ _ (wd W) rfl,asg];simp only[cK,mx,md1,fd5,md2,en,lm,lt,ad,ez,fd25,md3,dm,dt,ltj,sb,lf,ix,at',ot,Rw,M4,pc];rfl
theorem yp:shlD (.int 1) (.int 90)=some (.int 1237940039285380274899124224):=by
 show (if CShl 1 90 then some (D.int (1*2^(90:Int).toNat)) else none)=_;rw[if_pos (by unfold CShl;decide +kernel)];rfl
theorem rJ (i:Int) (h:z1r i<=1048576):mulD (.int i) (.int 27182818284590452353602874713526624977572470936999595749669)=some (.int (i*27182818284590452353602874713526624977572470936999595749669)):=by
 show (if Mf i _ then some (D.int (i*_)) else none)=_;rw[if_pos (.inr ⟨by omega,by decide +kernel⟩)]
def SZ:List Nat:=[2,3,1,3,4,2,3,0,4,2,3,5]
def MW:List Str:=["red","o","redo"]
def TW:List Str:=["near","n","under"]
theorem mV:∀ x∈MW++TW,Wd x:=by
 have h:∀ x∈MW++TW,(1<=x.length/\x.length<=8)/\(∀ c∈cs x,c∈cs LET)/\x∉KEPT:=by decide +kernel
 exact λ x hx=>⟨(h x hx).1.1,(h x hx).1.2,(h x hx).2.1,(h x hx).2.2⟩
theorem wg:(MW++TW).Nodup:=by decide +kernel
theorem wj (j k:Nat):Wds (MW.take j) (TW.take k):=by
 refine⟨?_,?_,?_,λ x hx=>mV x (by simp[z7c hx]),λ x hx=>mV x (by simp[z7c hx])⟩
 ·rw[z1g];show min j 3<=3;omega
 ·rw[z1g];show min k 3<=3;omega
 ·exact z7E (List.Sublist.append (z6p _ _) (z6p _ _)) wg
theorem Hs (c:Int) (m:Nat) (h:0<m):∃ j:Nat,j<m/\modD (.int c) (.int (m:Int))=some (.int (j:Int))/\c%(m:Int)=(j:Int):=by
 have h0:=z4L c (show (m:Int)≠0 by omega);have h1:=z4M c (show 0<(m:Int) by omega);refine⟨(c%(m:Int)).toNat,by omega,?_,by omega⟩;rw[Fw c m (by omega)];congr 2;omega
theorem yq (j:Nat) (h:j<12):∃ n:Nat,n<=5/\ixE (.lst [.int 2,.int 3,.int 1,.int 3,.int 4,.int 2,.int 3,.int 0,.int 4,.int 2,.int 3,.int 5]) (.int (j:Int))=some .(1):=by
 have e:=Vl SZ j (by show j<12;exact h);refine⟨SZ.getD j 0,?_,e⟩;have:∀ x∈SZ,x<=5:=by decide
 rw[z3w,z0C (by show j<12;exact h)];exact this _ (z1b _)
theorem Ug (l:List Str) (k:Nat):slD (.lst (l.map .str)) none (some (k:Int))=some (.lst ((l.take k).map .str)):=by rw[sl_l,z3t]
theorem Vv (a b c d e f g h i j k l:D):lstO (some [a,b,c,d,e,f,g,h,i,j,k,l])=some (.lst [a,b,c,d,e,f,g,h,i,j,k,l]):=zE_ _
theorem mW (i1 i2 i3 i4:Int) (hb:z1r i2<=1048576):∃ W V,WOk W/\WOk V/\mw V=mw W/\tw V=tw W/\Ce [.lst [.int i1,.int i2,.int i3,.int i4]]=some (.lst [wd W,wd V]):=by
 have asg:∀ ρ:Rho,tupG 4 (BX 1 (BX 2 (BX 3 (BX 4 nilG)))) .(40) ρ=some ((((ρ.set 1 (.fz (.int i1))).set 2 (.fz (.int i2))).set 3 (.fz (.int i3))).set 4 (.fz (.int i4))):=λ ρ=>rfl;have e_asg:∀ (f:FE) (g:FG) (ρ:Rho) (d:D),f ρ=some d->asgF f g ρ=(g d ρ).map .nx:=λ f g ρ d e=>by unfold asgF;rw[e];rfl
 have big:=rJ i2 hb;have sh:=yp;have mb:=Fw (i2*27182818284590452353602874713526624977572470936999595749669) 1237940039285380274899124224 (by decide);have mb2:=Fw i2 1237940039285380274899124224 (by decide);have mb4:=Fw i4 1237940039285380274899124224 (by decide);have m3:=Fw i1 3 (by decide);have e3:=Qd (i1%3) 2;have d3:=Dq i1 3 (by decide) (by decide);have ml:=pB (i1/3) 1000000007 (by decide);have mn:=Fw (i1/3*1000000007) 2147483647 (by decide);generalize (i1/3*1000000007)%2147483647=num at mn;obtain⟨j0,hj0,q0,_⟩:=Hs num 12 (by decide);obtain⟨n,hn,ixn⟩:=yq j0 hj0;have d12:=Dq num 12 (by decide) (by decide);have d36:=Dq num 36 (by decide) (by decide);obtain⟨j1,hj1,q1,_⟩:=Hs (num/12) 3 (by decide);obtain⟨j2,hj2,q2,_⟩:=Hs (num/36) 3 (by decide);have t1:=Ug MW j1;have t2:=Ug TW j2;have c12:((12:Nat):Int)=12:=rfl;have c3:((3:Nat):Int)=3:=rfl;rw[c12] at q0;rw[c3] at q1 q2;change slD (.lst [.str "red",.str "o",.str "redo"]) none (some (j1:Int))=_ at t1;change slD (.lst [.str "near",.str "n",.str "under"]) none (some (j2:Int))=_ at t2;have hW:=wj j1 j2;obtain⟨bits,eb⟩:∃ bits:Int,bits=if i1%3=2 then i2%1237940039285380274899124224 else (i2*27182818284590452353602874713526624977572470936999595749669)%1237940039285380274899124224:=⟨_,rfl⟩
 obtain⟨W,wn,wm,wt,wo,we⟩:=TF n hn _ _ hW bits;obtain⟨k,hk,qk,ek⟩:=Hs i3 5 (by decide);have d5:=Dq i3 5 (by decide) (by decide);obtain⟨n2,hn2,q5,_⟩:=Hs (i3/5) 5 (by decide);have c5:((5:Nat):Int)=5:=rfl;rw[c5] at qk q5;have ek0:eqD false (.int (k:Int)) (.int 0)=some (.bl (decide (k=0))):=O5 k 0;have ek1:eqD false (.int (k:Int)) (.int 1)=some (.bl (decide (k=1))):=O5 k 1;have ek2:eqD false (.int (k:Int)) (.int 2)=some (.bl (decide (k=2))):=O5 k 2;obtain⟨V0,v0n,v0m,v0t,v0o,v0e⟩:=TF n2 (by omega) _ _ hW (i4%1237940039285380274899124224);obtain⟨V1,v1n,v1m,v1t,v1o,v1e⟩:=TF (min (n+1) 4) (by omega) _ _ hW bits;have an:addD .(1) (.int 1)=some (.int ((n+1:Nat):Int)):=by rw[Kv];congr 2
 have mi:minD (.int ((n+1:Nat):Int)) (.int 4)=some (.int ((min (n+1) 4:Nat):Int)):=lV (n+1) 4;obtain⟨os,po,oe⟩:=R9 (i3/5) n hn;rw[<-wn] at po;have te:=dB W wo os po;have d43:=Dq i4 3 (by decide) (by decide);obtain⟨V3,v3,v3e⟩:=Yo (trn os W) (mK W wo os po) (i4/3);have st:∀ R,seqF (setF 5 (bF modD (bF mulD (vF 2) (kF (.int 27182818284590452353602874713526624977572470936999595749669))) (bF shlD .(12) (kF (.int 90))))) (seqF (ifS (blF (bF (eqD false) (bF modD (vF 1) (kF (.int 3))) (kF (.int 2)))) (setF 5 (bF modD (vF 2) (bF shlD .(12) (kF (.int 90))))) (nxF)) R) [.fz .(40),.fz (.int i1),.fz (.int i2),.fz (.int i3),.fz (.int i4),.un,.un,.un,.un,.un,.un,.un,.un]=R [.fz .(40),.fz (.int i1),.fz (.int i2),.fz (.int i3),.fz (.int i4),.fz (.int bits),.un,.un,.un,.un,.un,.un,.un]:=λ R=>by
  by_cases c:i1%3=2
  ·rw[if_pos c] at eb;rw[decide_eq_true c] at e3;simp only[cK,big,sh,mb,m3,e3,mb2];rw[eb]
  ·rw[if_neg c] at eb;rw[decide_eq_false c] at e3;simp only[cK,big,sh,mb,m3,e3];rw[eb]
 by_cases k0:k=0
 ·refine⟨W,V0,wo,v0o,by rw[v0m,wm],by rw[v0t,wt],?_⟩;rw[decide_eq_true k0] at ek0;unfold Ce Ei;rw[Je (show [D.lst [.int i1,.int i2,.int i3,.int i4]].length=1 from rfl),DK,Es,e_asg _ _ _ .(40) rfl,asg,Kw,e_nx];simp only[z0u,z2y,z0c,z12,z3x,z3y,z3z,z3A,z3B,z1G,z1i,z1j];rw[st];simp only[cK,Vv,d3,ml,mn,q0,ixn,d12,q1,t1,d36,q2,t2,we,qk,ek0,d5,q5,sh,mb4,v0e]
 ·rw[decide_eq_false k0] at ek0
  by_cases k1:k=1
  ·refine⟨W,V1,wo,v1o,by rw[v1m,wm],by rw[v1t,wt],?_⟩;rw[decide_eq_true k1] at ek1;unfold Ce Ei;rw[Je (show [D.lst [.int i1,.int i2,.int i3,.int i4]].length=1 from rfl),DK,Es,e_asg _ _ _ .(40) rfl,asg,Kw,e_nx];simp only[z0u,z2y,z0c,z12,z3x,z3y,z3z,z3A,z3B,z1G,z1i,z1j];rw[st];simp only[cK,Vv,d3,ml,mn,q0,ixn,d12,q1,t1,d36,q2,t2,we,qk,ek0,ek1,an,mi,v1e]
  ·rw[decide_eq_false k1] at ek1
   by_cases k2:k=2
   ·refine⟨W,trn os W,wo,mK W wo os po,Ym os W,Yn os W,?_⟩;rw[decide_eq_true k2] at ek2;unfold Ce Ei;rw[Je (show [D.lst [.int i1,.int i2,.int i3,.int i4]].length=1 from rfl),DK,Es,e_asg _ _ _ .(40) rfl,asg,Kw,e_nx];simp only[z0u,z2y,z0c,z12,z3x,z3y,z3z,z3A,z3B,z1G,z1i,z1j];rw[st];simp only[cK,Vv,d3,ml,mn,q0,ixn,d12,q1,t1,d36,q2,t2,we,qk,ek0,ek1,ek2,d5,oe,te]
   ·rw[decide_eq_false k2] at ek2;refine⟨W,V3,wo,v3.ok,by rw[v3.mm,Ym],by rw[v3.tt,Yn],?_⟩;unfold Ce Ei;rw[Je (show [D.lst [.int i1,.int i2,.int i3,.int i4]].length=1 from rfl),DK,Es,e_asg _ _ _ .(40) rfl,asg,Kw,e_nx];simp only[z0u,z2y,z0c,z12,z3x,z3y,z3z,z3A,z3B,z1G,z1i,z1j];rw[st];simp only[cK,Vv,d3,ml,mn,q0,ixn,d12,q1,t1,d36,q2,t2,we,qk,ek0,ek1,ek2,d5,oe,te,d43,v3e]
theorem rK {W V:Wl}(hw:WOk W) (hv:WOk V) (h:Spk W V) (rows:List Pr) (hi:InW W V rows) (hl:rows.length<=1000):Vc [wob W,wob V,.lst .(15)]=some (.bl (afS W V rows)):=by
 have s:=Nb W V hw hv h rows hi;have a:=af_l W V h.sp rows hl;simp only[cK,Vc,YW,s,a]
theorem Yp {W V:Wl}(hw:WOk W) (hv:WOk V) (h:Spk W V) (x2 z5:Slot) (c:Int) (rows:List Pr) (hi:InW W V rows) (hl:rows.length<=4):∃ rows' y5,InW W V rows'/\rows'.length<=4/\Bh [.fz (wob W),.fz (wob V),x2,.ow .(10),.fz (.int c),z5]=some (.nx [.fz (wob W),.fz (wob V),x2,.ow (.lst (rows'.map pN)),.fz (.int c),y5]):=by
 have ln:=wC rows;have lt:ltD (.int (rows.length:Int)) (.int 4)=some (.bl (decide (rows.length<4))):=lw rows.length 4;have s1:=Ha W;have s2:=Ha V;have g1:=aH W.n;have g2:=aH V.n
 by_cases c1:rows.length<4/\0<W.n/\0<V.n
 ·obtain⟨c1,c2,c3⟩:=c1;rw[decide_eq_true c1] at lt;rw[decide_eq_true c2] at g1;rw[decide_eq_true c3] at g2;have d4:=Dq c 4 (by decide) (by decide);have d20:=Dq c 20 (by decide) (by decide);obtain⟨a,ha,qa,_⟩:=Hs (c/4) W.n c2;obtain⟨b,hb,qb,_⟩:=Hs (c/20) V.n c3;have m4:=Fw c 4 (by decide);have e4:=Qd (c%4) 0;have hq:(a,b).1<W.n/\(a,b).2<V.n:=⟨ha,hb⟩;have ad:=lr rows (a,b) (by omega);have f:=rK hw hv h (rows++[(a,b)]) (Gj hi hq) .(17);have ap:=yU rows (a,b) (by omega)
  by_cases e0:c%4=0
  ·rw[decide_eq_true e0] at e4;refine⟨rows++[(a,b)],.fz (pN (a,b)),Gj hi hq,by simp;omega,?_⟩;simp only[cK,Bh,ln,lt,s1,s2,g1,g2,d4,d20,qa,qb,m4,e4,ap]
  ·rw[decide_eq_false e0] at e4;cases ef:afS W V (rows++[(a,b)]) with
   | true=>
    rw[ef] at f;refine⟨rows++[(a,b)],.fz (pN (a,b)),Gj hi hq,by simp;omega,?_⟩;simp only[cK,Bh,ln,lt,s1,s2,g1,g2,d4,d20,qa,qb,m4,e4,ad,f,ap]
   | false=>
    rw[ef] at f;refine⟨rows,.fz (pN (a,b)),hi,hl,?_⟩;simp only[cK,Bh,ln,lt,s1,s2,g1,g2,d4,d20,qa,qb,m4,e4,ad,f]
 ·refine⟨rows,z5,hi,hl,?_⟩
  by_cases h1:rows.length<4
  ·rw[decide_eq_true h1] at lt
   by_cases h2:0<W.n
   ·have h3:¬ 0<V.n:=λ z=>c1 ⟨h1,h2,z⟩;rw[decide_eq_true h2] at g1;rw[decide_eq_false h3] at g2;simp only[cK,Bh,ln,lt,s1,s2,g1,g2]
   ·rw[decide_eq_false h2] at g1;simp only[cK,Bh,ln,lt,s1,s2,g1]
  ·rw[decide_eq_false h1] at lt;simp only[cK,Bh,ln,lt]
theorem mX {W V:Wl}(hw:WOk W) (hv:WOk V) (h:Spk W V) (ns:List Int):∃ rows,InW W V rows/\rows.length<=4/\Ho [wob W,wob V,.lst (ns.map .int)]=some .(10):=by
 have lp:∀ (r:List Int) (rows:List Pr) (z4 z5:Slot),InW W V rows->rows.length<=4->∃ rows' y4 y5,InW W V rows'/\rows'.length<=4/\forF (tgB (Cr 4) Bh) (r.map .int) [.fz (wob W),.fz (wob V),.fz (.lst (ns.map .int)),.ow .(10),z4,z5]=some (.nx [.fz (wob W),.fz (wob V),.fz (.lst (ns.map .int)),.ow (.lst (rows'.map pN)),y4,y5]):=by
  intro r
  induction r with
  | nil=>exact λ rows z4 z5 a b=>⟨rows,z4,z5,a,b,rfl⟩
  | cons c r ih=>
   intro rows z4 z5 a b;obtain⟨rows1,y5,a1,b1,e1⟩:=Yp hw hv h (.fz (.lst (ns.map .int))) z5 c rows a b;obtain⟨rows2,w4,w5,a2,b2,e2⟩:=ih rows1 (.fz (.int c)) y5 a1 b1;refine⟨rows2,w4,w5,a2,b2,?_⟩
   w_up
   rw[e1,Ed,e2]
 obtain⟨rows,y4,y5,a,b,e⟩:=lp ns [] .un .un (λ p hp=>by cases hp) (by simp);refine⟨rows,a,b,?_⟩;simp only[z12] at e;simp only[dK,Ho,J7,DN,Eg,e]
theorem XX {W V:Wl}(hw:WOk W) (hv:WOk V) (h:Spk W V) (rows:List Pr) (hi:InW W V rows) (hl:rows.length<=4) (x0 x1 x2 x6:Slot) :
  ∀ (r:List Int) (z8 z9 z10:Slot),∃ y8 y9 y10,forF (tgB (Cr 8) Oh) (r.map .int) [x0,x1,x2,.fz (wob W),.fz (wob V),.fz .(10),x6,.fz (.lst [.int (W.n:Int),.int (V.n:Int)]),z8,z9,z10]=some (.nx [x0,x1,x2,.fz (wob W),.fz (wob V),.fz .(10),x6,.fz (.lst [.int (W.n:Int),.int (V.n:Int)]),y8,y9,y10])
 | [],z8,z9,z10=>⟨z8,z9,z10,rfl⟩
 | c::r,z8,z9,z10=>by
  obtain⟨side,hs,ms,_⟩:=Hs c 2 (by decide);have ms:modD (.int c) (.int 2)=some (.int (side:Int)):=ms;have ix:=RD .(32) (.int (V.n:Int)) side (by omega);rw[aa] at ix;have gt:=aH (szS W V side);have bd:∃ y10,Oh [x0,x1,x2,.fz (wob W),.fz (wob V),.fz .(10),x6,.fz (.lst [.int (W.n:Int),.int (V.n:Int)]),.fz (.int c),z9,z10]=some (.nx [x0,x1,x2,.fz (wob W),.fz (wob V),.fz .(10),x6,.fz (.lst [.int (W.n:Int),.int (V.n:Int)]),.fz (.int c),.fz (.int (side:Int)),y10]):=by
   by_cases c0:0<szS W V side
   ·rw[decide_eq_true c0] at gt;have d2:=Dq c 2 (by decide) (by decide);obtain⟨t,ht,mt,_⟩:=Hs (c/2) (szS W V side) c0;have g:=rC hw hv h rows hi hl side t (by omega) ht;exact⟨_,by simp only[cK,Oh,ms,ix,gt,d2,mt,g];rfl⟩
   ·rw[decide_eq_false c0] at gt;exact⟨z10,by simp only[cK,Oh,ms,ix,gt]⟩
  obtain⟨y10,bd⟩:=bd;obtain⟨w8,w9,w10,ih⟩:=XX hw hv h rows hi hl x0 x1 x2 x6 r (.fz (.int c)) (.fz (.int (side:Int))) y10;refine⟨w8,w9,w10,?_⟩
  w_up
  rw[bd,Ed,ih]
theorem mY:∀ ns:List Int,ns.length<=63->(∀ i∈ns,z1r i<=1048576)->W6 [.lst (ns.map .int)]=some (.bl true):=by
 intro ns hl hbt;have cm:BW (rngI (kF (.int 4))) allT Q9 [.fz (.lst (ns.map .int)),.un,.un,.un,.un,.un,.un,.un,.un,.un,.un]=some (.lst [.int (ns.getD 0 0),.int (ns.getD 1 0),.int (ns.getD 2 0),.int (ns.getD 3 0)]):=
  XR (n:=4) (λ k=>.int (ns.getD k 0)) _ rfl (by decide) λ k _=>by
   have:=Z_ ns k;simp only[cK,Q9,this]
 have hb:z1r (ns.getD 1 0)<=1048576:=by
  rw[z3w];cases e:ns[1]? with
  | none=>decide
  | some i=>exact hbt i (z3c e)
 obtain⟨W,V,hw,hv,mm,tt,te⟩:=mW (ns.getD 0 0) (ns.getD 1 0) (ns.getD 2 0) (ns.getD 3 0) hb;have h:Spk W V:=⟨by rw[mm],by rw[tt]⟩;have asg:∀ ρ:Rho,tupG 2 (BX 1 (BX 2 nilG)) (.lst [wd W,wd V]) ρ=some ((ρ.set 1 (.fz (wd W))).set 2 (.fz (wd V))):=λ ρ=>rfl;have e_asg:∀ (f:FE) (g:FG) (ρ:Rho) (d:D),f ρ=some d->asgF f g ρ=(g d ρ).map .nx:=λ f g ρ d e=>by unfold asgF;rw[e];rfl
 have t1:Am (Ce) (Aa (BW (rngI (kF (.int 4))) (allT) (Q9)) (nilA)) [.fz (.lst (ns.map .int)),.un,.un,.un,.un,.un,.un,.un,.un,.un,.un]=some (.lst [wd W,wd V]):=by simp only[cK,cm,te]
 have i0:=ixw0 W;have i1:=ixw1 W;have i2:=ixw2 W;have j0:=ixw0 V;have j1:=ixw1 V;have j2:=ixw2 V;have k1:=t8 W hw (Aa (bF ixE (vF 1) .(28)) (Aa (bF ixE (vF 1) .(12)) (Aa (bF ixE (vF 1) (kF (.int 2))) (nilA)))) [.fz (.lst (ns.map .int)),.fz (wd W),.fz (wd V),.un,.un,.un,.un,.un,.un,.un,.un] (by simp only[cK,i0,i1,i2]);have k2:=t8 V hv (Aa (bF ixE (vF 2) .(28)) (Aa (bF ixE (vF 2) .(12)) (Aa (bF ixE (vF 2) (kF (.int 2))) (nilA)))) [.fz (.lst (ns.map .int)),.fz (wd W),.fz (wd V),.fz (wob W),.un,.un,.un,.un,.un,.un,.un] (by simp only[cK,j0,j1,j2]);have sc:slD (.lst (ns.map .int)) (some 5) (some 10)=some (.lst ((cutD ns (some 5) (some 10)).map .int)):=by
  show some (D.lst (cutD (ns.map D.int) (some 5) (some 10)))=_;rw[aK]
 obtain⟨rows,hi,h4,pe⟩:=mX hw hv h (cutD ns (some 5) (some 10));have ll:Ku .(10)=some .(10):=zE_ _;have c4:=Z_ ns 4;have sl2:slD (.lst (ns.map .int)) (some 10) (some 16)=some (.lst ((cutD ns (some 10) (some 16)).map .int)):=by
  show some (D.lst (cutD (ns.map D.int) (some 10) (some 16)))=_;rw[aK]
 have ad:addD (.lst [.int (ns.getD 4 0)]) (.lst ((cutD ns (some 10) (some 16)).map .int))=some (.lst ((ns.getD 4 0::cutD ns (some 10) (some 16)).map .int)):=by
  rw[Ro (by have:=qe ns (some 10) (some 16);simp;omega)];rfl
 obtain⟨y8,y9,y10,lp⟩:=XX hw hv h rows hi h4 (.fz (.lst (ns.map .int))) (.fz (wd W)) (.fz (wd V)) (.fz .(10)) (ns.getD 4 0::cutD ns (some 10) (some 16)) .un .un .un;have ep:=mC rows;generalize (ns.getD 4 0::cutD ns (some 10) (some 16))=cs at ad lp;unfold W6 j8;rw[Je (show [D.lst (ns.map .int)].length=1 from rfl),DK];simp only[z0u,z2y,z0c,z12,z3x,z3y,z3z,z3A,z3B,z1G];rw[Es,e_asg _ _ _ _ t1,asg,Kw,e_nx];have c4':Dw [.lst (ns.map .int),.int 4]=some (.int (ns.getD 4 0)):=c4;simp only[cK,k1,k2,sc,pe,ll,i0,j0,c4',sl2,ad,DN,Eg,lp,ep]
end K62
end
open PySem PySem.W PyProof.Rows
theorem L2.head_at {r:OpenRow}{q:z0s}{d:DefRec}{kwd:List (Str×Expr)}{N:Nat}(H:Hook)
  (l1:LeftO r.prog q loose (λ s=>xlAt q [] s&&recOk r.records s) H.obs H.val N)
  (e1:defOf q r.name=some (d,kwd)) (e2:r.prog.theDef r.name=some (d.params,d.body,d.scope)) (e3:kwWritten? d.params.kwonlyargs d.params.kw_defaults=some kwd)
  (e4:(!r.writes||r.records.isEmpty)=true) (e5:r.wellSaid=true) (e6:(chainsOk q&&opensWell r.prog&&(frees r.toRowW&&r.within.isEmpty))=true) (e7:r.prog.bare) (e8:r.toRowW.promised)
  (e9:WalkO q loose (XL q []) H.says r.toRowW d kwd λ f vs=>z78 f vs):r.Holds:=
 holds_open (XP:=XL q []) l1 H.of H.keeps (λ s e=>xl_of s (z9W.mp e).1) XL.keeps e1 e2 e3 (λ _ e=>recFacts_of (z9W.mp e).2) e4 e5 e6 e7 e8 e9
set_option maxHeartbeats 0 in
theorem PySem.Challenge.cw_twinrounds_k62_reply_holds : PySem.Challenge.rw_twinrounds_k62_reply.Holds := by
 w_on;o_law;refine L2.head_at (q:=K62.vw) (loose:=[]) (N:=6000) K62.hook K62.look (by rfl) (by rfl) (by rfl) (by rfl) (by assumption) .(34) ⟨rfl,rfl,rfl,rfl,rfl,by decide +kernel⟩ ?_ ?_
 ·w_witness2
 unfold K62.hook
 k_fill
 refine PV.iw (l:=z9Y) (n:=63) (k:=41) (x:="_law_script") (CX:=λ _=>L2.CX0) (sp:=λ w=>K62.t6 _) rfl (by decide) rfl ⟨rfl,by decide,by decide⟩ (λ w h Y=>PySem.W.kIn_of Y) ?F (λ _ _ a ns hl hbt _ hS=>⟨a,ns,rfl,hS,hl,hbt,λ _=>rfl⟩) λ _ _ _ _ _ z=>z
 case F=>
  intro w mg fa h KX G hmg;have TT:∃ C_World:Addr,∃ C_Ranks:Addr,∃ T:K62.Tx (K62.gx (L2.KOf KX) C_World C_Ranks) mg,∀ (s:z03) (u:z00),z4f s T.x_law.fd ⟨[u],[]⟩ [("_law_script",u)]:=by
   dsimp only [L2.KOf];refine' ⟨_,_,{ C_World:=_,gc_World:=PV.jw,cl_World:=(PV.cls KX ?pg_World ?hd_World ?po_World ?sa_World :),mC_World:=z2_ KX G ?aC_World,C_Ranks:=_,gc_Ranks:=(PV.v6 (by decide) PV.jw),cl_Ranks:=(PV.cls KX ?pg_Ranks ?hd_Ranks ?po_Ranks ?sa_Ranks :),mC_Ranks:=z2_ KX G ?aC_Ranks,x__law_world:=(PV.dx KX G ?a0 ?l0 ?c0 ?k0 ?b0 :),x__law_turned:=(PV.dx KX G ?a1 ?l1 ?c1 ?k1 ?b1 :),x__law_order:=(PV.dx KX G ?a2 ?l2 ?c2 ?k2 ?b2 :),x__law_other:=(PV.dx KX G ?a3 ?l3 ?c3 ?k3 ?b3 :),x__law_changed:=(PV.dx KX G ?a4 ?l4 ?c4 ?k4 ?b4 :),x__law_twins:=(PV.dx KX G ?a5 ?l5 ?c5 ?k5 ?b5 :),x_refuse_above:=(PV.dx KX G ?a6 ?l6 ?c6 ?k6 ?b6 :),x_refuse_no_thing:=(PV.dx KX G ?a7 ?l7 ?c7 ?k7 ?b7 :),x_kept_things:=(PV.dx KX G ?a8 ?l8 ?c8 ?k8 ?b8 :),x_kept_pairs:=(PV.dx KX G ?a9 ?l9 ?c9 ?k9 ?b9 :),x_is_word:=(PV.dx KX G ?a10 ?l10 ?c10 ?k10 ?b10 :),x_World___init__:=(PV.ix KX ?mk_World ?kc_World ?a11 ?i11 ?l11 ?c11 ?k11 ?b11 :),x_World_mark_words:=(PV.mx KX ?a12 ?i12 ?l12 ?c12 ?k12 ?b12 :),x_World_tie_words:=(PV.mx KX ?a13 ?i13 ?l13 ?c13 ?k13 ?b13 :),x_refuse_unlike:=(PV.dx KX G ?a14 ?l14 ?c14 ?k14 ?b14 :),x_refuse_strange_pairs:=(PV.dx KX G ?a15 ?l15 ?c15 ?k15 ?b15 :),x_bear_the_same:=(PV.dx KX G ?a16 ?l16 ?c16 ?k16 ?b16 :),x_lead_the_same:=(PV.dx KX G ?a17 ?l17 ?c17 ?k17 ?b17 :),x_go_together:=(PV.dx KX G ?a18 ?l18 ?c18 ?k18 ?b18 :),x_fits_with:=(PV.dx KX G ?a19 ?l19 ?c19 ?k19 ?b19 :),x_all_fit:=(PV.dx KX G ?a20 ?l20 ?c20 ?k20 ?b20 :),x_fits:=(PV.dx KX G ?a21 ?l21 ?c21 ?k21 ?b21 :),x__law_pairs:=(PV.dx KX G ?a22 ?l22 ?c22 ?k22 ?b22 :),x__law_cell:=(PV.dx KX G ?a23 ?l23 ?c23 ?k23 ?b23 :),x_unpaired:=(PV.dx KX G ?a24 ?l24 ?c24 ?k24 ?b24 :),x_Ranks_rank_with:=(PV.mx KX ?a25 ?i25 ?l25 ?c25 ?k25 ?b25 :),x_Ranks_best_rank:=(PV.mx KX ?a26 ?i26 ?l26 ?c26 ?k26 ?b26 :),x_Ranks_least_rank:=(PV.mx KX ?a27 ?i27 ?l27 ?c27 ?k27 ?b27 :),x_Ranks_rank_of_fitting:=(PV.mx KX ?a28 ?i28 ?l28 ?c28 ?k28 ?b28 :),x_Ranks_rank_of:=(PV.mx KX ?a29 ?i29 ?l29 ?c29 ?k29 ?b29 :),x_pair_of:=(PV.dx KX G ?a30 ?l30 ?c30 ?k30 ?b30 :),x_size_of_side:=(PV.dx KX G ?a31 ?l31 ?c31 ?k31 ?b31 :),x_new_pairs:=(PV.dx KX G ?a32 ?l32 ?c32 ?k32 ?b32 :),x_ranks_behind:=(PV.dx KX G ?a33 ?l33 ?c33 ?k33 ?b33 :),x_best_reply:=(PV.dx KX G ?a34 ?l34 ?c34 ?k34 ?b34 :),x_Ranks___init__:=(PV.ix KX ?mk_Ranks ?kc_Ranks ?a35 ?i35 ?l35 ?c35 ?k35 ?b35 :),x_reply:=(PV.dx KX G ?a36 ?l36 ?c36 ?k36 ?b36 :),x_Ranks_told_rank:=(PV.mx KX ?a37 ?i37 ?l37 ?c37 ?k37 ?b37 :),x_rank:=(PV.dx KX G ?a38 ?l38 ?c38 ?k38 ?b38 :),x__law_height:=(PV.dx KX G ?a39 ?l39 ?c39 ?k39 ?b39 :),x__law_is_thing:=(PV.dx KX G ?a40 ?l40 ?c40 ?k40 ?b40 :),x__law_good:=(PV.dx KX G ?a41 ?l41 ?c41 ?k41 ?b41 :),x_law:=(PV.dx KX G ?a42 ?l42 ?c42 ?k42 ?b42 :),fl_size:=(PV.M8 KX (PV.fl_c .(18) ?n_World_size (PV.fl_c .(19) ?n_Ranks_size (PV.fl_n))) :),fl_marked:=(PV.M8 KX (PV.fl_c .(18) ?n_World_marked (PV.fl_c .(19) ?n_Ranks_marked (PV.fl_n))) :),fl_tied:=(PV.M8 KX (PV.fl_c .(18) ?n_World_tied (PV.fl_c .(19) ?n_Ranks_tied (PV.fl_n))) :),fl_other:=(PV.M8 KX (PV.fl_c .(18) ?n_World_other (PV.fl_c .(19) ?n_Ranks_other (PV.fl_n))) :),fl_one:=(PV.M8 KX (PV.fl_c .(18) ?n_World_one (PV.fl_c .(19) ?n_Ranks_one (PV.fl_n))) :),fl_endless:=(PV.M8 KX (PV.fl_c .(18) ?n_World_endless (PV.fl_c .(19) ?n_Ranks_endless (PV.fl_n))) :),fl_reckoned:=(PV.M8 KX (PV.fl_c .(18) ?n_World_reckoned (PV.fl_c .(19) ?n_Ranks_reckoned (PV.fl_n))) :),z_all:=z1H KX G ?z_all,z_bool:=z1H KX G ?z_bool,z_dict:=z1H KX G ?z_dict,z_enumerate:=z1H KX G ?z_enumerate,z_int:=z1H KX G ?z_int,z_isinstance:=z1H KX G ?z_isinstance,z_len:=z1H KX G ?z_len,z_list:=z1H KX G ?z_list,z_max:=z1H KX G ?z_max,z_min:=z1H KX G ?z_min,z_range:=z1H KX G ?z_range,z_set:=z1H KX G ?z_set,z_sorted:=z1H KX G ?z_sorted,z_tuple:=z1H KX G ?z_tuple,s_MOST_LETTERS:=(PV.sx (f:=(.int 8)) KX G ?a_MOST_LETTERS :),s_LETTERS:=(PV.sx (f:=(.str "abcdefghijklmnopqrstuvwxyz")) KX G ?a_LETTERS :),s_MOST_THINGS:=(PV.sx (f:=(.int 5)) KX G ?a_MOST_THINGS :),s_MOST_WORDS:=(PV.sx (f:=(.int 3)) KX G ?a_MOST_WORDS :),c_KEPT_TEXTS:=(PV.kxL (xs:=["not","and","or","some","all"]) KX G ?a_KEPT_TEXTS ?l_KEPT_TEXTS ?h_KEPT_TEXTS ?v_KEPT_TEXTS :) },?bt⟩
   case aC_World | pg_World | hd_World | po_World | sa_World | mk_World | kc_World | n_World_size | n_World_marked | n_World_tied | n_World_other | n_World_one | n_World_endless | n_World_reckoned | aC_Ranks | pg_Ranks | hd_Ranks | po_Ranks | sa_Ranks | mk_Ranks | kc_Ranks | n_Ranks_size | n_Ranks_marked | n_Ranks_tied | n_Ranks_other | n_Ranks_one | n_Ranks_endless | n_Ranks_reckoned | a0 | l0 | c0 | k0 | a1 | l1 | c1 | k1 | a2 | l2 | c2 | k2 | a3 | l3 | c3 | k3 | a4 | l4 | c4 | k4 | a5 | l5 | c5 | k5 | a6 | l6 | c6 | k6 | a7 | l7 | c7 | k7 | a8 | l8 | c8 | k8 | a9 | l9 | c9 | k9 | a10 | l10 | c10 | k10 | a11 | i11 | l11 | c11 | k11 | a12 | i12 | l12 | c12 | k12 | a13 | i13 | l13 | c13 | k13 | a14 | l14 | c14 | k14 | a15 | l15 | c15 | k15 | a16 | l16 | c16 | k16 | a17 | l17 | c17 | k17 | a18 | l18 | c18 | k18 | a19 | l19 | c19 | k19 | a20 | l20 | c20 | k20 | a21 | l21 | c21 | k21 | a22 | l22 | c22 | k22 | a23 | l23 | c23 | k23 | a24 | l24 | c24 | k24 | a25 | i25 | l25 | c25 | k25 | a26 | i26 | l26 | c26 | k26 | a27 | i27 | l27 | c27 | k27 | a28 | i28 | l28 | c28 | k28 | a29 | i29 | l29 | c29 | k29 | a30 | l30 | c30 | k30 | a31 | l31 | c31 | k31 | a32 | l32 | c32 | k32 | a33 | l33 | c33 | k33 | a34 | l34 | c34 | k34 | a35 | i35 | l35 | c35 | k35 | a36 | l36 | c36 | k36 | a37 | i37 | l37 | c37 | k37 | a38 | l38 | c38 | k38 | a39 | l39 | c39 | k39 | a40 | l40 | c40 | k40 | a41 | l41 | c41 | k41 | a42 | l42 | c42 | k42 | z_all | z_bool | z_dict | z_enumerate | z_int | z_isinstance | z_len | z_list | z_max | z_min | z_range | z_set | z_sorted | z_tuple | a_MOST_LETTERS | a_LETTERS | a_MOST_THINGS | a_MOST_WORDS | a_KEPT_TEXTS | l_KEPT_TEXTS=>k_is
   case b5 | b10 | b12 | b13 | b42=>exact λ _ _ _ _ _ _ us hl=>by (obtain⟨_,rfl⟩:=PV.tU hl;rfl)
   case b1 | b2 | b3 | b4 | b6 | b7 | b8 | b9 | b14 | b23 | b24 | b27 | b28 | b29 | b31 | b37 | b40=>exact λ _ _ _ _ _ _ us hl=>by (obtain⟨_,_,rfl⟩:=PV.tV hl;rfl)
   case b15 | b16 | b20 | b21 | b22 | b25 | b26 | b30 | b32 | b35 | b38=>exact λ _ _ _ _ _ _ us hl=>by (obtain⟨_,_,_,rfl⟩:=PV.tW hl;rfl)
   case b0 | b11 | b17 | b18 | b19 | b33 | b34 | b39=>exact λ _ _ _ _ _ _ us hl=>by (obtain⟨_,_,_,_,rfl⟩:=PV.tX hl;rfl)
   case b36 | b41=>exact λ _ _ _ _ _ _ us hl=>by (obtain⟨_,_,_,_,_,rfl⟩:=PV.yM hl;rfl)
   case h_KEPT_TEXTS=>decide
   case v_KEPT_TEXTS=>exact .cons ⟨_,rfl⟩ (.cons ⟨_,rfl⟩ (.cons ⟨_,rfl⟩ (.cons ⟨_,rfl⟩ (.cons ⟨_,rfl⟩ (.nil)))))
   case bt=>exact λ s u=>.of_eq rfl
  obtain⟨C_World,C_Ranks,T,e1⟩:=TT;have e0:fa=T.x_law.f:=by
   have q:=hmg.symm.trans T.x_law.m;cases q;rfl
  subst e0;exact⟨T.x_law.fd,e1,λ base kb nb=>(K62.v7 (w:=w) (base:=base) T).imp (K62.v8 K62.mY)⟩
